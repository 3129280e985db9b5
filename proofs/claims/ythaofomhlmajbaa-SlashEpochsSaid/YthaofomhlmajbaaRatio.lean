/-
  The contract of ratio.More: whether one product is more than another one.
-/
import Derived.Shelf.Bits.Mul64
import Derived.Test.YthaofomhlmajbaaGround
namespace Go.Proofs.Ythaofomhlmajbaa
set_option maxRecDepth 100000
set_option linter.unusedVariables false
set_option linter.unusedSimpArgs false
set_option linter.unusedSimpArgs false
set_option linter.unusedVariables false
open Go.ChangeShapes Go.WideShapes Go.ChangeAt Go.RowKit Go.Shelf

def renMul : Go.Shelf.Ren := ⟨fun _ => 99, fun t => if t = 46 then 101 else 22, fun g => g⟩
theorem layMul : Lays.n264 Try.prog renMul := { mixed := by kernel_rfl, f264 := by kernel_rfl, t46 := by kernel_rfl, a46 := fun _ => by kernel_rfl, z46 := fun _ => by kernel_rfl, v46 := fun _ => by kernel_rfl, t53 := by kernel_rfl, a53 := fun _ => by kernel_rfl, z53 := fun _ => by kernel_rfl, v53 := fun _ => by kernel_rfl }
theorem mul64_nat (x y : Nat) (hx : x < 18446744073709551616) (hy : y < 18446744073709551616) (w : World) :
    Calls Try.prog 99 #[.int .u64 x, .int .u64 y] w fun e w' => e = .returned (.tuple #[.int .u64 ((x * y / 18446744073709551616 : Nat) : Int), .int .u64 ((x * y % 18446744073709551616 : Nat) : Int)]) ∧ w' = w :=
  Any.bits_Mul64 layMul x y hx hy w

/-! ### Numbers -/
def mayR (n : Int) : Bool := decide (0 ≤ n ∧ n ≤ 4611686018427387904)
theorem mayR_yes {n : Int} (h : mayR n = true) : 0 ≤ n ∧ n ≤ 4611686018427387904 := of_decide_eq_true h
theorem mayR_mk {n : Int} (h : 0 ≤ n ∧ n ≤ 4611686018427387904) : mayR n = true := decide_eq_true h
theorem mayR_not {n : Int} (h : n < 0 ∨ 4611686018427387904 < n) : mayR n = false := decide_eq_false (by omega)
set_option maxHeartbeats 400000 in
theorem rMay_any (n : Int) (w : World) : Calls Try.prog 78 #[.int .i64 n] w fun e w' => e = .returned (.bool (mayR n)) ∧ w = w' := by
  by_cases h0 : 0 ≤ n
  · by_cases h1 : n ≤ 4611686018427387904
    · have H := Lib.hid (mayR_mk ⟨h0, h1⟩)
      go_enter Try.func78, Try.ntmps78
      go_wp2
      go_ret
      exact ⟨by rw [H.out]; rfl, rfl⟩
    · have H := Lib.hid (mayR_not (n := n) (by omega))
      go_enter Try.func78, Try.ntmps78
      go_wp2
      go_ret
      exact ⟨by rw [H.out]; rfl, rfl⟩
  · have H := Lib.hid (mayR_not (n := n) (by omega))
    go_enter Try.func78, Try.ntmps78
    go_wp2
    go_ret
    exact ⟨by rw [H.out]; rfl, rfl⟩

/-! ### Mul64, times -/
def hiI (p : Int) : Int := p / 18446744073709551616
def loI (p : Int) : Int := p % 18446744073709551616
theorem mul64_int (x y : Int) (hx0 : 0 ≤ x) (hx : x < 18446744073709551616) (hy0 : 0 ≤ y) (hy : y < 18446744073709551616) (w : World) :
    Calls Try.prog 99 #[.int .u64 x, .int .u64 y] w fun e w' => e = .returned (.tuple #[.int .u64 (hiI (x * y)), .int .u64 (loI (x * y))]) ∧ w = w' := by
  obtain ⟨a, rfl⟩ := Int.eq_ofNat_of_zero_le hx0
  obtain ⟨b, rfl⟩ := Int.eq_ofNat_of_zero_le hy0
  have h := mul64_nat a b (by omega) (by omega) w
  have e1 : hiI ((a : Int) * b) = ((a * b / 18446744073709551616 : Nat) : Int) := by unfold hiI; rw [← Int.natCast_mul]; omega
  have e2 : loI ((a : Int) * b) = ((a * b % 18446744073709551616 : Nat) : Int) := by unfold loI; rw [← Int.natCast_mul]; omega
  rw [e1, e2]; exact h.mono fun _ _ ⟨he, hw⟩ => ⟨he, hw.symm⟩
set_option maxHeartbeats 400000 in
theorem times_any (a b : Int) (ha : 0 ≤ a) (ha' : a ≤ 4611686018427387904) (hb : 0 ≤ b) (hb' : b ≤ 4611686018427387904) (w : World) :
    Calls Try.prog 80 #[.int .i64 a, .int .i64 b] w fun e w' => e = .returned (.agg #[.int .u64 (hiI (a * b)), .int .u64 (loI (a * b))]) ∧ Kept w w' := by
  go_enter Try.func80, Try.ntmps80
  go_wp2_with fail
  refine (mul64_int _ _ (by omega) (by omega) (by omega) (by omega) _).mono ?_
  rintro e w' ⟨rfl, rfl⟩
  go_wp2_with fail
  exact bodyPost_ret (v := .agg #[.int .u64 (hiI (a * b)), .int .u64 (loI (a * b))]) (by simp [results, Try.results80, go_sem]) rfl ⟨rfl, (Kept.refl _).alloc _⟩

/-! ### above -/
theorem Try.cellsU64 : Try.prog.cellsOf 22 = 1 := by kernel_rfl
theorem eqProduct (h1 l1 h2 l2 : Int) (w : World) :
    Sem.run Try.prog (Op.equalIn 10000 134 (.agg #[.int .u64 h1, .int .u64 l1]) (.agg #[.int .u64 h2, .int .u64 l2])) w = .ok ((h1 == h2) && (l1 == l2)) w := by
  obtain ⟨i, hi⟩ := info_of_underlying Try.underlying22
  rw [show (10000 : Nat) = 9998 + 1 + 1 from rfl, run_equalIn_array w (9998 + 1) _ _ Try.underlying134 hi, Try.cellsU64]
  have e2 : List.range 2 = [0, 1] := rfl
  rw [e2]
  simp only [Op.eqItems, Sem.run_bind]
  go_simp
  by_cases h : h1 = h2 <;> by_cases k : l1 = l2 <;> simp [h, k]
def aboveB (h1 l1 h2 l2 : Int) : Bool := decide (h2 < h1 ∨ (h1 = h2 ∧ l2 < l1))
theorem aboveB_yes {h1 l1 h2 l2 : Int} (h : h2 < h1 ∨ (h1 = h2 ∧ l2 < l1)) : aboveB h1 l1 h2 l2 = true := decide_eq_true h
theorem aboveB_no {h1 l1 h2 l2 : Int} (h : ¬ (h2 < h1 ∨ (h1 = h2 ∧ l2 < l1))) : aboveB h1 l1 h2 l2 = false := decide_eq_false h
attribute [local go_sem high] eqProduct in
set_option maxHeartbeats 400000 in
theorem above_any (h1 l1 h2 l2 : Int) (w : World) :
    Calls Try.prog 79 #[.agg #[.int .u64 h1, .int .u64 l1], .agg #[.int .u64 h2, .int .u64 l2]] w fun e w' => e = .returned (.bool (aboveB h1 l1 h2 l2)) ∧ Kept w w' := by
  by_cases hh : h1 = h2
  · subst hh
    by_cases hl : l2 < l1
    · have H := Lib.hid (aboveB_yes (h1 := h1) (h2 := h1) (Or.inr ⟨rfl, hl⟩))
      have b1 : (l1 == l2) = false := beq_eq_false_iff_ne.2 (by omega)
      go_enter Try.func79, Try.ntmps79
      go_wp2
      go_ret
      exact ⟨by rw [H.out]; rfl, by repeat (first | exact Kept.refl _ | apply Kept.drew | apply Kept.alloc)⟩
    · have H := Lib.hid (aboveB_no (h1 := h1) (l1 := l1) (h2 := h1) (l2 := l2) (by omega))
      by_cases he : l1 = l2
      · subst he
        go_enter Try.func79, Try.ntmps79
        go_wp2
        go_ret
        exact ⟨by rw [H.out]; rfl, by repeat (first | exact Kept.refl _ | apply Kept.drew | apply Kept.alloc)⟩
      · have b1 : (l1 == l2) = false := beq_eq_false_iff_ne.2 he
        go_enter Try.func79, Try.ntmps79
        go_wp2
        go_ret
        exact ⟨by rw [H.out]; rfl, by repeat (first | exact Kept.refl _ | apply Kept.drew | apply Kept.alloc)⟩
  · have b1 : (h1 == h2) = false := beq_eq_false_iff_ne.2 hh
    have b2 : (h1 != h2) = true := by rw [bne_iff_ne]; exact hh
    by_cases hl : h2 < h1
    · have H := Lib.hid (aboveB_yes (h1 := h1) (l1 := l1) (h2 := h2) (l2 := l2) (Or.inl hl))
      go_enter Try.func79, Try.ntmps79
      go_wp2
      go_ret
      exact ⟨by rw [H.out]; rfl, by repeat (first | exact Kept.refl _ | apply Kept.drew | apply Kept.alloc)⟩
    · have H := Lib.hid (aboveB_no (h1 := h1) (l1 := l1) (h2 := h2) (l2 := l2) (by omega))
      go_enter Try.func79, Try.ntmps79
      go_wp2
      go_ret
      exact ⟨by rw [H.out]; rfl, by repeat (first | exact Kept.refl _ | apply Kept.drew | apply Kept.alloc)⟩
theorem above_div (p q : Int) : aboveB (hiI p) (loI p) (hiI q) (loI q) = decide (q < p) := by
  unfold aboveB hiI loI
  rw [decide_eq_decide]
  omega

/-! ### More -/
set_option maxHeartbeats 800000 in
theorem rMore_any (a b c d : Int) (ha : mayR a = true) (hb : mayR b = true) (hc : mayR c = true) (hd : mayR d = true) (w : World) :
    Calls Try.prog 60 #[.int .i64 a, .int .i64 b, .int .i64 c, .int .i64 d] w fun e w' => e = .returned (.bool (decide (c * d < a * b))) ∧ Kept w w' := by
  obtain ⟨a0, a1⟩ := mayR_yes ha
  obtain ⟨b0, b1⟩ := mayR_yes hb
  obtain ⟨c0, c1⟩ := mayR_yes hc
  obtain ⟨d0, d1⟩ := mayR_yes hd
  have hs := Lib.hid (show decide (c * d < a * b) = aboveB (hiI (a * b)) (loI (a * b)) (hiI (c * d)) (loI (c * d)) by rw [above_div])
  go_enter Try.func60, Try.ntmps60
  go_wp2_with (go_at_call 78; refine (rMay_any _ _).mono ?_; rintro e w' ⟨rfl, rfl⟩)
  go_wp2_with fail
  refine (times_any _ _ (by omega) (by omega) (by omega) (by omega) _).mono ?_
  rintro e w1 ⟨rfl, g1⟩
  go_wp2_with fail
  refine (times_any _ _ (by omega) (by omega) (by omega) (by omega) _).mono ?_
  rintro e w2 ⟨rfl, g2⟩
  go_wp2_with fail
  refine (above_any _ _ _ _ _).mono ?_
  rintro e w3 ⟨rfl, g3⟩
  go_wp2_with fail
  go_ret
  exact ⟨by rw [hs.out]; rfl, g1.trans (g2.trans g3)⟩

end Go.Proofs.Ythaofomhlmajbaa
