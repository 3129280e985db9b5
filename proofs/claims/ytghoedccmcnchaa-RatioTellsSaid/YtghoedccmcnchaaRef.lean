/-
  The contracts of the given package's calls: the document's own answers, by definition.
-/
import Derived.Test.YtghoedccmcnchaaMore
import Derived.Deep.QuietTactic
import Derived.BigQuiet
namespace Go.Proofs.Ytghoedccmcnchaa
open Go.ChangeShapes Go.WideShapes Go.ChangeAt Go.RowKit

theorem Grown_drewN {W w' : World} (h : Grown W w') (n : Nat) : Grown W (w'.drewN n) := by
  induction n generalizing w' with
  | zero => exact h
  | succ n ih => exact ih (Grown.drew h)

def dg0 (p : Int) : Int := p / 79228162514264337593543950336
def dg1 (p : Int) : Int := p / 18446744073709551616 % 4294967296
def dg2 (p : Int) : Int := p / 4294967296 % 4294967296
def dg3 (p : Int) : Int := p % 4294967296

theorem half_le {x y : Int} (x0 : 0 ≤ x) (x1 : x ≤ 4294967295) (y0 : 0 ≤ y) (y1 : y ≤ 4294967295) : 0 ≤ x * y ∧ x * y ≤ 18446744065119617025 := by
  refine ⟨Int.mul_nonneg x0 y0, ?_⟩
  have h : x * y ≤ 4294967295 * 4294967295 := Int.mul_le_mul x1 y1 y0 (by omega)
  omega

/-- The product out of the four products of halves. -/
theorem halves (a b : Int) : a * b = a / 4294967296 * (b / 4294967296) * 18446744073709551616 + (a / 4294967296 * (b % 4294967296) + a % 4294967296 * (b / 4294967296)) * 4294967296 + a % 4294967296 * (b % 4294967296) := by
  have ea : a = a / 4294967296 * 4294967296 + a % 4294967296 := by omega
  have eb : b = b / 4294967296 * 4294967296 + b % 4294967296 := by omega
  generalize a / 4294967296 = x1 at *
  generalize a % 4294967296 = x0 at *
  generalize b / 4294967296 = y1 at *
  generalize b % 4294967296 = y0 at *
  rw [ea, eb]
  simp only [Int.add_mul, Int.mul_add]
  have e1 : x1 * 4294967296 * (y1 * 4294967296) = x1 * y1 * 18446744073709551616 := by
    rw [Int.mul_assoc, Int.mul_left_comm 4294967296 y1 4294967296, ← Int.mul_assoc]; rfl
  have e2 : x1 * 4294967296 * y0 = x1 * y0 * 4294967296 := Int.mul_right_comm x1 4294967296 y0
  have e3 : x0 * (y1 * 4294967296) = x0 * y1 * 4294967296 := (Int.mul_assoc x0 y1 4294967296).symm
  rw [e1, e2, e3]
  omega

theorem wide_arith (a b : Int) :
    (a / 4294967296 * (b / 4294967296) + (a / 4294967296 * (b % 4294967296) + a % 4294967296 * (b % 4294967296) / 4294967296) / 4294967296 + (a % 4294967296 * (b / 4294967296) + (a / 4294967296 * (b % 4294967296) + a % 4294967296 * (b % 4294967296) / 4294967296) % 4294967296) / 4294967296) / 4294967296 = dg0 (a * b) ∧ (a / 4294967296 * (b / 4294967296) + (a / 4294967296 * (b % 4294967296) + a % 4294967296 * (b % 4294967296) / 4294967296) / 4294967296 + (a % 4294967296 * (b / 4294967296) + (a / 4294967296 * (b % 4294967296) + a % 4294967296 * (b % 4294967296) / 4294967296) % 4294967296) / 4294967296) % 4294967296 = dg1 (a * b) ∧ (a % 4294967296 * (b / 4294967296) + (a / 4294967296 * (b % 4294967296) + a % 4294967296 * (b % 4294967296) / 4294967296)) % 4294967296 = dg2 (a * b) ∧ a % 4294967296 * (b % 4294967296) % 4294967296 = dg3 (a * b) := by
  have e := halves a b
  unfold dg0 dg1 dg2 dg3
  rw [e]
  clear e
  generalize a % 4294967296 * (b % 4294967296) = d at *
  generalize a % 4294967296 * (b / 4294967296) = c at *
  generalize a / 4294967296 * (b % 4294967296) = x at *
  generalize a / 4294967296 * (b / 4294967296) = y at *
  refine ⟨?_, ?_, ?_, ?_⟩ <;> omega

set_option maxHeartbeats 1000000 in
theorem wide_any (a b : Int) (ha : 0 ≤ a) (ha' : a ≤ 4611686018427387904) (hb : 0 ≤ b) (hb' : b ≤ 4611686018427387904) (w : World) :
    Calls Try.prog 21 #[.int .i64 a, .int .i64 b] w fun e w' => e = .returned (.agg #[.int .i64 (dg0 (a * b)), .int .i64 (dg1 (a * b)), .int .i64 (dg2 (a * b)), .int .i64 (dg3 (a * b))]) ∧ Grown w w' := by
  obtain ⟨l1, l2⟩ := half_le (x := a % 4294967296) (y := b % 4294967296) (by omega) (by omega) (by omega) (by omega)
  obtain ⟨l3, l4⟩ := half_le (x := a % 4294967296) (y := b / 4294967296) (by omega) (by omega) (by omega) (by omega)
  obtain ⟨l5, l6⟩ := half_le (x := a / 4294967296) (y := b % 4294967296) (by omega) (by omega) (by omega) (by omega)
  obtain ⟨l7, l8⟩ := half_le (x := a / 4294967296) (y := b / 4294967296) (by omega) (by omega) (by omega) (by omega)
  obtain ⟨e0, e1, e2, e3⟩ := wide_arith a b
  have E0 := Lib.hid e0; have E1 := Lib.hid e1; have E2 := Lib.hid e2; have E3 := Lib.hid e3
  clear e0 e1 e2 e3
  go_enter Try.func21, Try.ntmps21
  go_wp2_with fail
  go_quiet (fail)
  go_wp2_with fail
  go_quiet (fail)
  go_wp2_with fail
  go_quiet (fail)
  go_wp2_with fail
  go_quiet (fail)
  go_wp2_with fail
  rw [E0.out, E1.out, E2.out, E3.out]
  refine bodyPost_ret (v := .agg #[.int .i64 (dg0 (a * b)), .int .i64 (dg1 (a * b)), .int .i64 (dg2 (a * b)), .int .i64 (dg3 (a * b))]) (by simp [results, Try.results21, go_sem]) rfl ⟨rfl, ?_⟩
  repeat (first | exact Grown.refl _ | (refine Grown.setCell ?_ (Nat.le_refl _) _) | apply Grown_drewN | apply Grown.alloc)

/-! ### The given May -/
set_option maxHeartbeats 400000 in
theorem refMay_any (n : Int) (w : World) : Calls Try.prog 15 #[.int .i64 n] w fun e w' => e = .returned (.bool (mayB n)) ∧ w = w' := by
  by_cases h0 : 0 ≤ n
  · by_cases h1 : n ≤ 4611686018427387904
    · have H := Lib.hid (mayB_mk ⟨h0, h1⟩)
      go_enter Try.func15, Try.ntmps15
      go_wp2
      go_ret
      exact ⟨by rw [H.out]; rfl, rfl⟩
    · have H := Lib.hid (mayB_not (n := n) (by omega))
      go_enter Try.func15, Try.ntmps15
      go_wp2
      go_ret
      exact ⟨by rw [H.out]; rfl, rfl⟩
  · have H := Lib.hid (mayB_not (n := n) (by omega))
    go_enter Try.func15, Try.ntmps15
    go_wp2
    go_ret
    exact ⟨by rw [H.out]; rfl, rfl⟩

/-! ### The given Add -/
set_option maxHeartbeats 400000 in
theorem refAdd_any (a b : Int) (w : World) :
    Calls Try.prog 12 #[.int .i64 a, .int .i64 b] w fun e w' => e = .returned (.tuple #[.int .i64 (addN a b), .bool (addB a b)]) ∧ w = w' := by
  cases hA : mayB a
  · have hs : addB a b = false := by simp [addB, hA]
    rw [hs, addN_no hs]
    clear hs
    go_enter Try.func12, Try.ntmps12
    go_wp2_with (go_at_call 15; refine (refMay_any _ _).mono ?_; rintro e w' ⟨rfl, rfl⟩)
    go_ret2
    exact ⟨rfl, rfl⟩
  · cases hB : mayB b
    · have hs : addB a b = false := by simp [addB, hA, hB]
      rw [hs, addN_no hs]
      clear hs
      go_enter Try.func12, Try.ntmps12
      go_wp2_with (go_at_call 15; refine (refMay_any _ _).mono ?_; rintro e w' ⟨rfl, rfl⟩)
      go_ret2
      exact ⟨rfl, rfl⟩
    · obtain ⟨a0, a1⟩ := mayB_yes hA
      obtain ⟨b0, b1⟩ := mayB_yes hB
      by_cases hc : a + b ≤ 4611686018427387904
      · have hs : addB a b = true := addB_mk a0 b0 hc
        rw [hs, addN_yes hs]
        clear hs
        have d1 : a ≤ 4611686018427387904 - b := by omega
        go_enter Try.func12, Try.ntmps12
        go_wp2_with (go_at_call 15; refine (refMay_any _ _).mono ?_; rintro e w' ⟨rfl, rfl⟩)
        go_ret2
        exact ⟨rfl, rfl⟩
      · have hs : addB a b = false := by simp [addB, hA, hB, hc]
        rw [hs, addN_no hs]
        clear hs
        have d1 : 4611686018427387904 - b < a := by omega
        go_enter Try.func12, Try.ntmps12
        go_wp2_with (go_at_call 15; refine (refMay_any _ _).mono ?_; rintro e w' ⟨rfl, rfl⟩)
        go_ret2
        exact ⟨rfl, rfl⟩

/-! ### The given Mul -/
set_option maxHeartbeats 400000 in
theorem refMul_any (a b : Int) (w : World) :
    Calls Try.prog 14 #[.int .i64 a, .int .i64 b] w fun e w' => e = .returned (.tuple #[.int .i64 (mulN a b), .bool (mulB a b)]) ∧ w = w' := by
  cases hA : mayB a
  · have hs : mulB a b = false := by simp [mulB, hA]
    rw [hs, mulN_no hs]
    clear hs
    go_enter Try.func14, Try.ntmps14
    go_wp2_with (go_at_call 15; refine (refMay_any _ _).mono ?_; rintro e w' ⟨rfl, rfl⟩)
    go_ret2
    exact ⟨rfl, rfl⟩
  cases hB : mayB b
  · have hs : mulB a b = false := by simp [mulB, hB]
    rw [hs, mulN_no hs]
    clear hs
    go_enter Try.func14, Try.ntmps14
    go_wp2_with (go_at_call 15; refine (refMay_any _ _).mono ?_; rintro e w' ⟨rfl, rfl⟩)
    go_ret2
    exact ⟨rfl, rfl⟩
  obtain ⟨a0, a1⟩ := mayB_yes hA
  obtain ⟨b0, b1⟩ := mayB_yes hB
  have p0 : 0 ≤ a * b := Int.mul_nonneg a0 b0
  by_cases hb : 0 < b
  · by_cases hc : a * b ≤ 4611686018427387904
    · have hs : mulB a b = true := by simp [mulB, hA, hB, hc]
      rw [hs, mulN_yes hs]
      clear hs
      have d1 : decide (4611686018427387904 / b < a) = false := decide_eq_false (by rw [Int.ediv_lt_iff_lt_mul hb]; omega)
      go_enter Try.func14, Try.ntmps14
      go_wp2_with (go_at_call 15; refine (refMay_any _ _).mono ?_; rintro e w' ⟨rfl, rfl⟩)
      go_ret2
      exact ⟨rfl, rfl⟩
    · have hs : mulB a b = false := by simp [mulB, hc]
      rw [hs, mulN_no hs]
      clear hs
      have d1 : 4611686018427387904 / b < a := by rw [Int.ediv_lt_iff_lt_mul hb]; omega
      go_enter Try.func14, Try.ntmps14
      go_wp2_with (go_at_call 15; refine (refMay_any _ _).mono ?_; rintro e w' ⟨rfl, rfl⟩)
      go_ret2
      exact ⟨rfl, rfl⟩
  · have hc : a * b ≤ 4611686018427387904 := by rw [show b = 0 by omega, Int.mul_zero]; omega
    have hs : mulB a b = true := by simp [mulB, hA, hB, hc]
    rw [hs, mulN_yes hs]
    clear hs
    have d1 : decide (0 < b) = false := decide_eq_false hb
    go_enter Try.func14, Try.ntmps14
    go_wp2_with (go_at_call 15; refine (refMay_any _ _).mono ?_; rintro e w' ⟨rfl, rfl⟩)
    go_ret2
    exact ⟨rfl, rfl⟩

end Go.Proofs.Ytghoedccmcnchaa
