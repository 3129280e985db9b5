/-
  The contract of the given package marigoldref01's call More: whether one product is more than another one, whatever the numbers.
  The contracts of the given package marigoldref15.
-/
import Derived.Deep.QuietTactic
import Derived.BigQuiet
import Derived.Test.YtpojiijgahcidaaGreatPlainG
import Derived.Test.YtpojiijgahcidaaGreatHeadG
import Derived.Test.YtpojiijgahcidaaGreatHeadRefG
import Derived.Test.YtpojiijgahcidaaGreatDutyRefG
import Derived.Test.YtpojiijgahcidaaGreatTreeRefG
import Derived.Test.YtpojiijgahcidaaGreatWeighG
import Derived.Test.YtpojiijgahcidaaGreatGround
namespace Go.Proofs.YtpojiijgahcidaaGreat
set_option maxRecDepth 100000
set_option linter.unusedVariables false
set_option linter.unusedSimpArgs false
section
set_option linter.unusedSimpArgs false
set_option linter.unusedVariables false
open Go.ChangeShapes Go.WideShapes Go.ChangeAt Go.RowKit

theorem mayQ_mk {n : Int} (h : 0 ≤ n ∧ n ≤ 4611686018427387904) : mayQ n = true := decide_eq_true h
theorem mayQ_yes {n : Int} (h : mayQ n = true) : 0 ≤ n ∧ n ≤ 4611686018427387904 := of_decide_eq_true h
theorem mayQ_not {n : Int} (h : n < 0 ∨ 4611686018427387904 < n) : mayQ n = false := decide_eq_false (by omega)
def dg0 (p : Int) : Int := p / 79228162514264337593543950336
def dg1 (p : Int) : Int := p / 18446744073709551616 % 4294967296
def dg2 (p : Int) : Int := p / 4294967296 % 4294967296
def dg3 (p : Int) : Int := p % 4294967296
theorem half_le {x y : Int} (x0 : 0 ≤ x) (x1 : x ≤ 4294967295) (y0 : 0 ≤ y) (y1 : y ≤ 4294967295) : 0 ≤ x * y ∧ x * y ≤ 18446744065119617025 := by
  refine ⟨Int.mul_nonneg x0 y0, ?_⟩
  have h : x * y ≤ 4294967295 * 4294967295 := Int.mul_le_mul x1 y1 y0 (by omega)
  omega

/-- The product out of the four products of halves. -/
theorem halves (a b : Int) : a * b = a / 4294967296 * (b / 4294967296) * 18446744073709551616 + (a / 4294967296 * (b % 4294967296) + a % 4294967296 * (b / 4294967296)) * 4294967296 + a % 4294967296 * (b % 4294967296) := by
  have ea : a = a / 4294967296 * 4294967296 + a % 4294967296 := by omega
  have eb : b = b / 4294967296 * 4294967296 + b % 4294967296 := by omega
  generalize a / 4294967296 = x1 at *
  generalize a % 4294967296 = x0 at *
  generalize b / 4294967296 = y1 at *
  generalize b % 4294967296 = y0 at *
  rw [ea, eb]
  simp only [Int.add_mul, Int.mul_add]
  have e1 : x1 * 4294967296 * (y1 * 4294967296) = x1 * y1 * 18446744073709551616 := by
    rw [Int.mul_assoc, Int.mul_left_comm 4294967296 y1 4294967296, ← Int.mul_assoc]; rfl
  have e2 : x1 * 4294967296 * y0 = x1 * y0 * 4294967296 := Int.mul_right_comm x1 4294967296 y0
  have e3 : x0 * (y1 * 4294967296) = x0 * y1 * 4294967296 := (Int.mul_assoc x0 y1 4294967296).symm
  rw [e1, e2, e3]
  omega

theorem wide_arith (a b : Int) :
    (a / 4294967296 * (b / 4294967296) + (a / 4294967296 * (b % 4294967296) + a % 4294967296 * (b % 4294967296) / 4294967296) / 4294967296 + (a % 4294967296 * (b / 4294967296) + (a / 4294967296 * (b % 4294967296) + a % 4294967296 * (b % 4294967296) / 4294967296) % 4294967296) / 4294967296) / 4294967296 = dg0 (a * b) ∧ (a / 4294967296 * (b / 4294967296) + (a / 4294967296 * (b % 4294967296) + a % 4294967296 * (b % 4294967296) / 4294967296) / 4294967296 + (a % 4294967296 * (b / 4294967296) + (a / 4294967296 * (b % 4294967296) + a % 4294967296 * (b % 4294967296) / 4294967296) % 4294967296) / 4294967296) % 4294967296 = dg1 (a * b) ∧ (a % 4294967296 * (b / 4294967296) + (a / 4294967296 * (b % 4294967296) + a % 4294967296 * (b % 4294967296) / 4294967296)) % 4294967296 = dg2 (a * b) ∧ a % 4294967296 * (b % 4294967296) % 4294967296 = dg3 (a * b) := by
  have e := halves a b
  unfold dg0 dg1 dg2 dg3
  rw [e]
  clear e
  generalize a % 4294967296 * (b % 4294967296) = d at *
  generalize a % 4294967296 * (b / 4294967296) = c at *
  generalize a / 4294967296 * (b % 4294967296) = x at *
  generalize a / 4294967296 * (b / 4294967296) = y at *
  refine ⟨?_, ?_, ?_, ?_⟩ <;> omega

set_option maxHeartbeats 1000000 in
theorem wide_any (a b : Int) (ha : 0 ≤ a) (ha' : a ≤ 4611686018427387904) (hb : 0 ≤ b) (hb' : b ≤ 4611686018427387904) (w : World) :
    Calls Tryz.prog 54 #[.int .i64 a, .int .i64 b] w fun e w' => e = .returned (.agg #[.int .i64 (dg0 (a * b)), .int .i64 (dg1 (a * b)), .int .i64 (dg2 (a * b)), .int .i64 (dg3 (a * b))]) ∧ Kept w w' := by
  obtain ⟨l1, l2⟩ := half_le (x := a % 4294967296) (y := b % 4294967296) (by omega) (by omega) (by omega) (by omega)
  obtain ⟨l3, l4⟩ := half_le (x := a % 4294967296) (y := b / 4294967296) (by omega) (by omega) (by omega) (by omega)
  obtain ⟨l5, l6⟩ := half_le (x := a / 4294967296) (y := b % 4294967296) (by omega) (by omega) (by omega) (by omega)
  obtain ⟨l7, l8⟩ := half_le (x := a / 4294967296) (y := b / 4294967296) (by omega) (by omega) (by omega) (by omega)
  obtain ⟨e0, e1, e2, e3⟩ := wide_arith a b
  have E0 := Lib.hid e0; have E1 := Lib.hid e1; have E2 := Lib.hid e2; have E3 := Lib.hid e3
  clear e0 e1 e2 e3
  go_enter Tryz.func54, Tryz.ntmps54
  go_wp2_with fail
  go_quiet (fail)
  go_wp2_with fail
  go_quiet (fail)
  go_wp2_with fail
  go_quiet (fail)
  go_wp2_with fail
  go_quiet (fail)
  go_wp2_with fail
  rw [E0.out, E1.out, E2.out, E3.out]
  refine bodyPost_ret (v := .agg #[.int .i64 (dg0 (a * b)), .int .i64 (dg1 (a * b)), .int .i64 (dg2 (a * b)), .int .i64 (dg3 (a * b))]) (by simp [results, Tryz.results54, go_sem]) rfl ⟨rfl, ?_⟩
  repeat (first | exact Kept.refl _ | (refine Kept.setCell ?_ (Nat.le_refl _) _) | refine Kept.drewN ?_ _ | refine Kept.alloc ?_ _)

/-! ### The given May -/
set_option maxHeartbeats 400000 in
theorem refMay01_any (n : Int) (w : World) : Calls Tryz.prog 53 #[.int .i64 n] w fun e w' => e = .returned (.bool (mayQ n)) ∧ w = w' := by
  by_cases h0 : 0 ≤ n
  · by_cases h1 : n ≤ 4611686018427387904
    · have H := Lib.hid (mayQ_mk ⟨h0, h1⟩)
      go_enter Tryz.func53, Tryz.ntmps53
      go_wp2
      go_ret
      exact ⟨by rw [H.out]; rfl, rfl⟩
    · have H := Lib.hid (mayQ_not (n := n) (by omega))
      go_enter Tryz.func53, Tryz.ntmps53
      go_wp2
      go_ret
      exact ⟨by rw [H.out]; rfl, rfl⟩
  · have H := Lib.hid (mayQ_not (n := n) (by omega))
    go_enter Tryz.func53, Tryz.ntmps53
    go_wp2
    go_ret
    exact ⟨by rw [H.out]; rfl, rfl⟩

theorem digit0 {p q : Int} (h : dg0 p ≠ dg0 q) : decide (q < p) = decide (dg0 q < dg0 p) := by
  unfold dg0 at *; rw [decide_eq_decide]; omega
theorem digit1 {p q : Int} (h0 : dg0 p = dg0 q) (h : dg1 p ≠ dg1 q) : decide (q < p) = decide (dg1 q < dg1 p) := by
  unfold dg0 dg1 at *; rw [decide_eq_decide]; omega
theorem digit2 {p q : Int} (h0 : dg0 p = dg0 q) (h1 : dg1 p = dg1 q) (h : dg2 p ≠ dg2 q) : decide (q < p) = decide (dg2 q < dg2 p) := by
  unfold dg0 dg1 dg2 at *; rw [decide_eq_decide]; omega
theorem digit3 {p q : Int} (h0 : dg0 p = dg0 q) (h1 : dg1 p = dg1 q) (h2 : dg2 p = dg2 q) : decide (q < p) = decide (dg3 q < dg3 p) := by
  unfold dg0 dg1 dg2 dg3 at *; rw [decide_eq_decide]; omega

/-- Two rows of digits are the same up to a place. -/
def eqTo (p0 p1 p2 p3 q0 q1 q2 q3 : Int) (k : Nat) : Prop := (1 ≤ k → p0 = q0) ∧ (2 ≤ k → p1 = q1) ∧ (3 ≤ k → p2 = q2) ∧ (4 ≤ k → p3 = q3)

set_option maxHeartbeats 1000000 in
theorem refMore_any (a b c d : Int) (w : World) :
    Calls Tryz.prog 29 #[.int .i64 a, .int .i64 b, .int .i64 c, .int .i64 d] w fun e w' => e = .returned (.bool (moreQ a b c d)) ∧ Kept w w' := by
  cases hA : mayQ a
  · have hs : moreQ a b c d = false := by simp [moreQ, hA]
    rw [hs]
    clear hs
    go_enter Tryz.func29, Tryz.ntmps29
    go_wp2_with (go_at_call 53; refine (refMay01_any _ _).mono ?_; rintro e w' ⟨rfl, rfl⟩)
    go_ret
    exact ⟨rfl, Kept.refl _⟩
  cases hB : mayQ b
  · have hs : moreQ a b c d = false := by simp [moreQ, hB]
    rw [hs]
    clear hs
    go_enter Tryz.func29, Tryz.ntmps29
    go_wp2_with (go_at_call 53; refine (refMay01_any _ _).mono ?_; rintro e w' ⟨rfl, rfl⟩)
    go_ret
    exact ⟨rfl, Kept.refl _⟩
  cases hC : mayQ c
  · have hs : moreQ a b c d = false := by simp [moreQ, hC]
    rw [hs]
    clear hs
    go_enter Tryz.func29, Tryz.ntmps29
    go_wp2_with (go_at_call 53; refine (refMay01_any _ _).mono ?_; rintro e w' ⟨rfl, rfl⟩)
    go_ret
    exact ⟨rfl, Kept.refl _⟩
  cases hD : mayQ d
  · have hs : moreQ a b c d = false := by simp [moreQ, hD]
    rw [hs]
    clear hs
    go_enter Tryz.func29, Tryz.ntmps29
    go_wp2_with (go_at_call 53; refine (refMay01_any _ _).mono ?_; rintro e w' ⟨rfl, rfl⟩)
    go_ret
    exact ⟨rfl, Kept.refl _⟩
  obtain ⟨a0, a1⟩ := mayQ_yes hA
  obtain ⟨b0, b1⟩ := mayQ_yes hB
  obtain ⟨c0, c1⟩ := mayQ_yes hC
  obtain ⟨d0, d1⟩ := mayQ_yes hD
  have hs := Lib.hid (show moreQ a b c d = decide (c * d < a * b) by simp [moreQ, hA, hB, hC, hD])
  have HA := Lib.hid hA; have HB := Lib.hid hB; have HC := Lib.hid hC; have HD := Lib.hid hD
  clear hA hB hC hD
  go_enter Tryz.func29, Tryz.ntmps29
  go_wp2_with fail
  refine (refMay01_any _ _).mono ?_
  rintro e w' ⟨rfl, rfl⟩
  rw [HA.out]
  go_wp2_with fail
  refine (refMay01_any _ _).mono ?_
  rintro e w' ⟨rfl, rfl⟩
  rw [HB.out]
  go_wp2_with fail
  refine (refMay01_any _ _).mono ?_
  rintro e w' ⟨rfl, rfl⟩
  rw [HC.out]
  go_wp2_with fail
  refine (refMay01_any _ _).mono ?_
  rintro e w' ⟨rfl, rfl⟩
  rw [HD.out]
  go_wp2_with fail
  refine (wide_any _ _ (by omega) (by omega) (by omega) (by omega) _).mono ?_
  rintro e w1 ⟨rfl, g1⟩
  go_wp2_with fail
  refine (wide_any _ _ (by omega) (by omega) (by omega) (by omega) _).mono ?_
  rintro e w2 ⟨rfl, g2⟩
  have hz : w1.heap.size < w2.heap.size := by have := g2.size_le; simp at this; omega
  have k0 : w2.cell? ⟨w1.heap.size, 0, none⟩ = some (.int .i64 (dg0 (a * b))) := by rw [g2.cell (by simp)]; simp [go_sem]
  have k1 : w2.cell? ⟨w1.heap.size, 1, none⟩ = some (.int .i64 (dg1 (a * b))) := by rw [g2.cell (by simp)]; simp [go_sem]
  have k2 : w2.cell? ⟨w1.heap.size, 2, none⟩ = some (.int .i64 (dg2 (a * b))) := by rw [g2.cell (by simp)]; simp [go_sem]
  have k3 : w2.cell? ⟨w1.heap.size, 3, none⟩ = some (.int .i64 (dg3 (a * b))) := by rw [g2.cell (by simp)]; simp [go_sem]
  go_wp2_with fail
  have gW : Kept w (w2.alloc (.cells #[.int .i64 (dg0 (c * d)), .int .i64 (dg1 (c * d)), .int .i64 (dg2 (c * d)), .int .i64 (dg3 (c * d))] 93)) := (Kept.trans (g1.alloc _) g2).alloc _
  have u0 : (w2.alloc (.cells #[.int .i64 (dg0 (c * d)), .int .i64 (dg1 (c * d)), .int .i64 (dg2 (c * d)), .int .i64 (dg3 (c * d))] 93)).cell? ⟨w1.heap.size, 0, none⟩ = some (.int .i64 (dg0 (a * b))) := by rw [((Kept.refl w2).alloc _).cell (p := ⟨w1.heap.size, _, none⟩) hz]; exact k0
  have v0 : (w2.alloc (.cells #[.int .i64 (dg0 (c * d)), .int .i64 (dg1 (c * d)), .int .i64 (dg2 (c * d)), .int .i64 (dg3 (c * d))] 93)).cell? ⟨w2.heap.size, 0, none⟩ = some (.int .i64 (dg0 (c * d))) := by simp [go_sem]
  have u1 : (w2.alloc (.cells #[.int .i64 (dg0 (c * d)), .int .i64 (dg1 (c * d)), .int .i64 (dg2 (c * d)), .int .i64 (dg3 (c * d))] 93)).cell? ⟨w1.heap.size, 1, none⟩ = some (.int .i64 (dg1 (a * b))) := by rw [((Kept.refl w2).alloc _).cell (p := ⟨w1.heap.size, _, none⟩) hz]; exact k1
  have v1 : (w2.alloc (.cells #[.int .i64 (dg0 (c * d)), .int .i64 (dg1 (c * d)), .int .i64 (dg2 (c * d)), .int .i64 (dg3 (c * d))] 93)).cell? ⟨w2.heap.size, 1, none⟩ = some (.int .i64 (dg1 (c * d))) := by simp [go_sem]
  have u2 : (w2.alloc (.cells #[.int .i64 (dg0 (c * d)), .int .i64 (dg1 (c * d)), .int .i64 (dg2 (c * d)), .int .i64 (dg3 (c * d))] 93)).cell? ⟨w1.heap.size, 2, none⟩ = some (.int .i64 (dg2 (a * b))) := by rw [((Kept.refl w2).alloc _).cell (p := ⟨w1.heap.size, _, none⟩) hz]; exact k2
  have v2 : (w2.alloc (.cells #[.int .i64 (dg0 (c * d)), .int .i64 (dg1 (c * d)), .int .i64 (dg2 (c * d)), .int .i64 (dg3 (c * d))] 93)).cell? ⟨w2.heap.size, 2, none⟩ = some (.int .i64 (dg2 (c * d))) := by simp [go_sem]
  have u3 : (w2.alloc (.cells #[.int .i64 (dg0 (c * d)), .int .i64 (dg1 (c * d)), .int .i64 (dg2 (c * d)), .int .i64 (dg3 (c * d))] 93)).cell? ⟨w1.heap.size, 3, none⟩ = some (.int .i64 (dg3 (a * b))) := by rw [((Kept.refl w2).alloc _).cell (p := ⟨w1.heap.size, _, none⟩) hz]; exact k3
  have v3 : (w2.alloc (.cells #[.int .i64 (dg0 (c * d)), .int .i64 (dg1 (c * d)), .int .i64 (dg2 (c * d)), .int .i64 (dg3 (c * d))] 93)).cell? ⟨w2.heap.size, 3, none⟩ = some (.int .i64 (dg3 (c * d))) := by simp [go_sem]
  clear k0 k1 k2 k3
  have D0 := Lib.hid (show dg0 (a * b) ≠ dg0 (c * d) → moreQ a b c d = decide (dg0 (c * d) < dg0 (a * b)) from fun h => hs.out.trans (digit0 h))
  have D1 := Lib.hid (show dg0 (a * b) = dg0 (c * d) → dg1 (a * b) ≠ dg1 (c * d) → moreQ a b c d = decide (dg1 (c * d) < dg1 (a * b)) from fun h0 h => hs.out.trans (digit1 h0 h))
  have D2 := Lib.hid (show dg0 (a * b) = dg0 (c * d) → dg1 (a * b) = dg1 (c * d) → dg2 (a * b) ≠ dg2 (c * d) → moreQ a b c d = decide (dg2 (c * d) < dg2 (a * b)) from fun h0 h1 h => hs.out.trans (digit2 h0 h1 h))
  have D3 := Lib.hid (show dg0 (a * b) = dg0 (c * d) → dg1 (a * b) = dg1 (c * d) → dg2 (a * b) = dg2 (c * d) → moreQ a b c d = decide (dg3 (c * d) < dg3 (a * b)) from fun h0 h1 h2 => hs.out.trans (digit3 h0 h1 h2))
  clear hs g1 g2 hz a0 a1 b0 b1 c0 c1 d0 d1 HA HB HC HD
  generalize (w2.alloc (.cells #[.int .i64 (dg0 (c * d)), .int .i64 (dg1 (c * d)), .int .i64 (dg2 (c * d)), .int .i64 (dg3 (c * d))] 93)) = W at *
  generalize w1.heap.size = B1 at *
  generalize w2.heap.size = B2 at *
  generalize dg0 (a * b) = p0 at *
  generalize dg1 (a * b) = p1 at *
  generalize dg2 (a * b) = p2 at *
  generalize dg3 (a * b) = p3 at *
  generalize dg0 (c * d) = q0 at *
  generalize dg1 (c * d) = q1 at *
  generalize dg2 (c * d) = q2 at *
  generalize dg3 (c * d) = q3 at *
  clear w1 w2
  go_loopw [15] (fun i wr => ∃ (k n : Nat), k ≤ 4 ∧ i = .int .i64 k ∧ eqTo p0 p1 p2 p3 q0 q1 q2 q3 k ∧ wr = W.drewN n) (fun i _ => 4 - (intOf i).toNat)
  case atStart => exact ⟨0, 0, by omega, rfl, ⟨fun h => absurd h (by omega), fun h => absurd h (by omega), fun h => absurd h (by omega), fun h => absurd h (by omega)⟩, rfl⟩
  case round =>
    obtain ⟨k, n, hk, rfl, ⟨he0, he1, he2, he3⟩, rfl⟩ := hrel
    have E0 := Lib.hid he0; have E1 := Lib.hid he1; have E2 := Lib.hid he2; have E3 := Lib.hid he3
    clear he0 he1 he2 he3
    rcases (show k = 0 ∨ k = 1 ∨ k = 2 ∨ k = 3 ∨ k = 4 from by omega) with rfl | rfl | rfl | rfl | rfl
    · by_cases h : p0 = q0
      · have b1 : (p0 != q0) = false := by simp [h]
        have hh := Lib.hid h
        clear h
        go_wp2_with fail
        go_quiet (fail)
        go_wp2_with fail
        go_roundw
        case rel => exact ⟨1, _, by omega, by first | rfl | simp, ⟨fun _ => hh.out, fun h => absurd h (by omega), fun h => absurd h (by omega), fun h => absurd h (by omega)⟩, rfl⟩
        case measure => simp [intOf]
      · have b1 : (p0 != q0) = true := by rw [bne_iff_ne]; exact h
        have hh := Lib.hid h
        clear h
        go_wp2_with fail
        go_quiet (fail)
        go_wp2_with fail
        go_quiet (fail)
        go_wp2_with fail
        go_ret
        exact ⟨by rw [D0.out hh.out]; rfl, (by first | exact ((gW.drewN _).drewN _).drewN _ | exact gW.drewN _)⟩
    · by_cases h : p1 = q1
      · have b1 : (p1 != q1) = false := by simp [h]
        have hh := Lib.hid h
        clear h
        go_wp2_with fail
        go_quiet (fail)
        go_wp2_with fail
        go_roundw
        case rel => exact ⟨2, _, by omega, by first | rfl | simp, ⟨fun _ => E0.out (by omega), fun _ => hh.out, fun h => absurd h (by omega), fun h => absurd h (by omega)⟩, rfl⟩
        case measure => simp [intOf]
      · have b1 : (p1 != q1) = true := by rw [bne_iff_ne]; exact h
        have hh := Lib.hid h
        clear h
        go_wp2_with fail
        go_quiet (fail)
        go_wp2_with fail
        go_quiet (fail)
        go_wp2_with fail
        go_ret
        exact ⟨by rw [D1.out (E0.out (by omega)) hh.out]; rfl, (by first | exact ((gW.drewN _).drewN _).drewN _ | exact gW.drewN _)⟩
    · by_cases h : p2 = q2
      · have b1 : (p2 != q2) = false := by simp [h]
        have hh := Lib.hid h
        clear h
        go_wp2_with fail
        go_quiet (fail)
        go_wp2_with fail
        go_roundw
        case rel => exact ⟨3, _, by omega, by first | rfl | simp, ⟨fun _ => E0.out (by omega), fun _ => E1.out (by omega), fun _ => hh.out, fun h => absurd h (by omega)⟩, rfl⟩
        case measure => simp [intOf]
      · have b1 : (p2 != q2) = true := by rw [bne_iff_ne]; exact h
        have hh := Lib.hid h
        clear h
        go_wp2_with fail
        go_quiet (fail)
        go_wp2_with fail
        go_quiet (fail)
        go_wp2_with fail
        go_ret
        exact ⟨by rw [D2.out (E0.out (by omega)) (E1.out (by omega)) hh.out]; rfl, (by first | exact ((gW.drewN _).drewN _).drewN _ | exact gW.drewN _)⟩
    · by_cases h : p3 = q3
      · have b1 : (p3 != q3) = false := by simp [h]
        have hh := Lib.hid h
        clear h
        go_wp2_with fail
        go_quiet (fail)
        go_wp2_with fail
        go_roundw
        case rel => exact ⟨4, _, by omega, by first | rfl | simp, ⟨fun _ => E0.out (by omega), fun _ => E1.out (by omega), fun _ => E2.out (by omega), fun _ => hh.out⟩, rfl⟩
        case measure => simp [intOf]
      · have b1 : (p3 != q3) = true := by rw [bne_iff_ne]; exact h
        have hh := Lib.hid h
        clear h
        go_wp2_with fail
        go_quiet (fail)
        go_wp2_with fail
        go_quiet (fail)
        go_wp2_with fail
        go_ret
        exact ⟨by rw [D3.out (E0.out (by omega)) (E1.out (by omega)) (E2.out (by omega))]; rfl, (by first | exact ((gW.drewN _).drewN _).drewN _ | exact gW.drewN _)⟩
    · go_wp2_with fail
      go_ret
      exact ⟨by rw [D3.out (E0.out (by omega)) (E1.out (by omega)) (E2.out (by omega)), E3.out (by omega)]; simp, (by first | exact ((gW.drewN _).drewN _).drewN _ | exact gW.drewN _)⟩
end

section
set_option linter.unusedSimpArgs false
set_option linter.unusedVariables false
open Go.ChangeShapes Go.WideShapes Go.ChangeAt Go.RowKit

set_option maxRecDepth 100000 in
set_option maxHeartbeats 6400000 in
theorem refFor_any (kA : Option Addr) (kc : Nat) (k : Cf) (lA : Option Addr) (lc : Nat) (l : List Bk) (vA : Option Addr) (vc : Nat) (v : List Vt) (slot : Int) (x : Id2) (w : World)
    (hk : k.ws.length ≤ 1000) (hsd : k.seed < 18446744073709551616) (hl : l.length ≤ 10000) (hv : v.length ≤ 10000) (hwl : WfL l) (hA : CellsAt w w.heap.size kA (intCells k.ws)) (hL : CellsAt w w.heap.size lA (blockCells l)) (hV : CellsAt w w.heap.size vA (votesCells v)) :
    Calls Tryz.prog 16 #[.agg #[.slice kA k.ws.length kc, .int .u64 k.seed, .int .i64 k.ep, .int .i64 k.nu, .int .i64 k.de], .agg #[.slice lA l.length lc, .slice vA v.length vc], .int .i64 slot, .agg #[.int .u64 x.1, .int .u64 x.2]] w fun e w' => ∃ R, Golds k slot v R ∧ e = .returned (.int .i64 (onC k l R x)) ∧ Kept w w' := by
  go_enter Tryz.func16, Tryz.ntmps16
  go_wp2_with fail
  have K0 := Lib.hid ((((Kept.refl w).alloc (.cells #[.slice kA k.ws.length kc, .int .u64 k.seed, .int .i64 k.ep, .int .i64 k.nu, .int .i64 k.de] 25)).alloc (.cells #[.slice lA l.length lc, .slice vA v.length vc] 29)).alloc (.cells #[.int .u64 x.1, .int .u64 x.2] 31))
  have HA := Lib.hid (hA.kept K0.out)
  clear hA
  have HL := Lib.hid (hL.kept K0.out)
  clear hL
  have HV := Lib.hid (hV.kept K0.out)
  clear hV
  have HB0 := Lib.hid (((HasCells.new w #[.slice kA k.ws.length kc, .int .u64 k.seed, .int .i64 k.ep, .int .i64 k.nu, .int .i64 k.de] 25 (w.heap.size) (by simp)).alloc (.cells #[.slice lA l.length lc, .slice vA v.length vc] 29)).alloc (.cells #[.int .u64 x.1, .int .u64 x.2] 31))
  have HB1 := Lib.hid ((HasCells.new (w.alloc (.cells #[.slice kA k.ws.length kc, .int .u64 k.seed, .int .i64 k.ep, .int .i64 k.nu, .int .i64 k.de] 25)) #[.slice lA l.length lc, .slice vA v.length vc] 29 (w.heap.size + 1) (by simp)).alloc (.cells #[.int .u64 x.1, .int .u64 x.2] 31))
  have HB2 := Lib.hid (HasCells.new ((w.alloc (.cells #[.slice kA k.ws.length kc, .int .u64 k.seed, .int .i64 k.ep, .int .i64 k.nu, .int .i64 k.de] 25)).alloc (.cells #[.slice lA l.length lc, .slice vA v.length vc] 29)) #[.int .u64 x.1, .int .u64 x.2] 31 (w.heap.size + 1 + 1) (by simp))
  generalize (((w.alloc (.cells #[.slice kA k.ws.length kc, .int .u64 k.seed, .int .i64 k.ep, .int .i64 k.nu, .int .i64 k.de] 25)).alloc (.cells #[.slice lA l.length lc, .slice vA v.length vc] 29)).alloc (.cells #[.int .u64 x.1, .int .u64 x.2] 31)) = W0 at *
  generalize w.heap.size + 1 + 1 = z2 at *
  generalize w.heap.size + 1 = z1 at *
  generalize w.heap.size = z0 at *
  have KB0 := Lib.hid (Kept.refl W0)
  obtain ⟨b00, b01, b02, b03, b04⟩ := (HB0.out.kept KB0.out).five
  have bz0 := (HB0.out.kept KB0.out).1
  obtain ⟨b10, b11⟩ := (HB1.out.kept KB0.out).two
  have bz1 := (HB1.out.kept KB0.out).1
  obtain ⟨b20, b21⟩ := (HB2.out.kept KB0.out).two
  have bz2 := (HB2.out.kept KB0.out).1
  go_wp2_with fail
  refine wp_region_noPanic ?_
  refine wp_region_held_drew (S := (fun w' => w'.cell? ⟨z0, 0, none⟩ = some (.slice kA k.ws.length kc) ∧ w'.cell? ⟨z0, 1, none⟩ = some (.int .u64 k.seed) ∧ w'.cell? ⟨z0, 2, none⟩ = some (.int .i64 k.ep) ∧ w'.cell? ⟨z0, 3, none⟩ = some (.int .i64 k.nu) ∧ w'.cell? ⟨z0, 4, none⟩ = some (.int .i64 k.de) ∧ w'.cell? ⟨z1, 0, none⟩ = some (.slice lA l.length lc) ∧ w'.cell? ⟨z1, 1, none⟩ = some (.slice vA v.length vc) ∧ w'.cell? ⟨z2, 0, none⟩ = some (.int .u64 x.1) ∧ w'.cell? ⟨z2, 1, none⟩ = some (.int .u64 x.2) ∧ Kept W0 w')) (by kernel_rfl) ?_ (fun hHeld => ?_)
  · exact ⟨b00, b01, b02, b03, b04, b10, b11, b20, b21, (Kept.refl _).drew⟩
  refine wpAnyH_take (i := 0) (v := ?_) (by simp only [List.getElem?_toArray, List.getElem?_cons_succ, List.getElem?_cons_zero]; rfl) (by kernel_rfl) (by kernel_rfl) (by kernel_rfl) (fun _ _ _ h => h) (Or.inl ⟨by rfl, ?_⟩) (by assumption) ?_
  rotate_left
  · intro w hSw
    (try dsimp only at hSw)
    go_simp
    (try with_reducible rfl)
  simp only [Act.put, List.setIfInBounds_toArray, List.set_cons_zero, List.set_cons_succ]
  refine wpAnyH_take (i := 1) (v := ?_) (by simp only [List.getElem?_toArray, List.getElem?_cons_succ, List.getElem?_cons_zero]; rfl) (by kernel_rfl) (by kernel_rfl) (by kernel_rfl) (fun _ _ _ h => h) (Or.inl ⟨by rfl, ?_⟩) (by assumption) ?_
  rotate_left
  · intro w hSw
    (try dsimp only at hSw)
    go_simp
    (try with_reducible rfl)
  simp only [Act.put, List.setIfInBounds_toArray, List.set_cons_zero, List.set_cons_succ]
  refine wpAnyH_take (i := 2) (v := ?_) (by simp only [List.getElem?_toArray, List.getElem?_cons_succ, List.getElem?_cons_zero]; rfl) (by kernel_rfl) (by kernel_rfl) (by kernel_rfl) (fun _ _ _ h => h) (Or.inl ⟨by rfl, ?_⟩) (by assumption) ?_
  rotate_left
  · intro w hSw
    (try dsimp only at hSw)
    go_simp
    (try with_reducible rfl)
  simp only [Act.put, List.setIfInBounds_toArray, List.set_cons_zero, List.set_cons_succ]
  refine wpAnyH_take (i := 3) (v := ?_) (by simp only [List.getElem?_toArray, List.getElem?_cons_succ, List.getElem?_cons_zero]; rfl) (by kernel_rfl) (by kernel_rfl) (by kernel_rfl) (fun _ _ _ h => h) (Or.inl ⟨by rfl, ?_⟩) (by assumption) ?_
  rotate_left
  · intro w hSw
    (try dsimp only at hSw)
    go_simp
    (try with_reducible rfl)
  simp only [Act.put, List.setIfInBounds_toArray, List.set_cons_zero, List.set_cons_succ]
  refine wpAnyH_take (i := 4) (v := ?_) (by simp only [List.getElem?_toArray, List.getElem?_cons_succ, List.getElem?_cons_zero]; rfl) (by kernel_rfl) (by kernel_rfl) (by kernel_rfl) (fun _ _ _ h => h) (Or.inl ⟨by rfl, ?_⟩) (by assumption) ?_
  rotate_left
  · intro w hSw
    (try dsimp only at hSw)
    go_simp
    (try with_reducible rfl)
  simp only [Act.put, List.setIfInBounds_toArray, List.set_cons_zero, List.set_cons_succ]
  refine wpAnyH_take (i := 5) (v := ?_) (by simp only [List.getElem?_toArray, List.getElem?_cons_succ, List.getElem?_cons_zero]; rfl) (by kernel_rfl) (by kernel_rfl) (by kernel_rfl) (fun _ _ _ h => h) (Or.inl ⟨by rfl, ?_⟩) (by assumption) ?_
  rotate_left
  · intro w hSw
    (try dsimp only at hSw)
    go_simp
    (try with_reducible rfl)
  simp only [Act.put, List.setIfInBounds_toArray, List.set_cons_zero, List.set_cons_succ]
  refine wpAnyH_take (i := 6) (v := ?_) (by simp only [List.getElem?_toArray, List.getElem?_cons_succ, List.getElem?_cons_zero]; rfl) (by kernel_rfl) (by kernel_rfl) (by kernel_rfl) (fun _ _ _ h => h) (Or.inl ⟨by rfl, ?_⟩) (by assumption) ?_
  rotate_left
  · intro w hSw
    (try dsimp only at hSw)
    go_simp
    (try with_reducible rfl)
  simp only [Act.put, List.setIfInBounds_toArray, List.set_cons_zero, List.set_cons_succ]
  refine wpAnyH_take (i := 8) (v := ?_) (by simp only [List.getElem?_toArray, List.getElem?_cons_succ, List.getElem?_cons_zero]; rfl) (by kernel_rfl) (by kernel_rfl) (by kernel_rfl) (fun _ _ _ h => h) (Or.inl ⟨by rfl, ?_⟩) (by assumption) ?_
  rotate_left
  · intro w hSw
    (try dsimp only at hSw)
    go_simp
    (try with_reducible rfl)
  simp only [Act.put, List.setIfInBounds_toArray, List.set_cons_zero, List.set_cons_succ]
  refine wpAnyH_ready (rs := [7]) (by kernel_rfl) (by simp) ?_
  refine AllReadyH.cons (by simp only [List.getElem?_toArray, List.getElem?_cons_succ, List.getElem?_cons_zero]; rfl) (fun K hK => ?_) AllReadyH.nil
  go_simp
  go_at_call 35; with_reducible refine (refGoldOf_any kA kc k vA vc v slot _ hk hsd hv (HA.out.kept (hHeld.2.2.2.2.2.2.2.2.2)) (HV.out.kept (hHeld.2.2.2.2.2.2.2.2.2))).mono ?_
  rintro e w' ⟨R, A1, c1, hR, hRl, rfl, hC1, kk⟩
  try go_wp2_with fail
  refine hK.out _ _ ?_ (fun hHeld2 => ?_)
  · exact keepP9 bz0 bz0 bz0 bz0 bz0 bz1 bz1 bz2 bz2 hHeld kk
  clear hK K hHeld
  have hHeld := hHeld2
  clear hHeld2
  try simp only [Act.put, List.setIfInBounds_toArray, List.set_cons_zero, List.set_cons_succ]
  refine wpAnyH_ready (rs := [9]) (by kernel_rfl) (by simp) ?_
  refine AllReadyH.cons (by simp only [List.getElem?_toArray, List.getElem?_cons_succ, List.getElem?_cons_zero]; rfl) (fun K hK => ?_) AllReadyH.nil
  go_simp
  go_at_call 34; with_reducible refine (refOn_any kA kc k lA lc l A1 c1 R x _ hk (by omega) (by omega) hwl (HA.out.kept (hHeld.2.2.2.2.2.2.2.2.2)) (HL.out.kept (hHeld.2.2.2.2.2.2.2.2.2)) hC1).mono ?_
  rintro e w' ⟨rfl, kk⟩
  try go_wp2_with fail
  refine hK.out _ _ ?_ (fun hHeld2 => ?_)
  · exact keepP9 bz0 bz0 bz0 bz0 bz0 bz1 bz1 bz2 bz2 hHeld kk
  clear hK K hHeld
  have hHeld := hHeld2
  clear hHeld2
  try simp only [Act.put, List.setIfInBounds_toArray, List.set_cons_zero, List.set_cons_succ]
  refine wpAnyH_take (i := 10) (v := ?_) (by simp only [List.getElem?_toArray, List.getElem?_cons_succ, List.getElem?_cons_zero]; rfl) (by kernel_rfl) (by kernel_rfl) (by kernel_rfl) (fun _ _ _ h => h) (Or.inl ⟨by rfl, ?_⟩) (by assumption) ?_
  rotate_left
  · intro w hSw
    (try dsimp only at hSw)
    go_simp
    (try with_reducible rfl)
  simp only [Act.put, List.setIfInBounds_toArray, List.set_cons_zero, List.set_cons_succ]
  refine wpAnyH_done (by kernel_rfl) ?_ _
  refine NoPanic.normal ?_
  have k := hHeld.2.2.2.2.2.2.2.2.2
  clear hHeld
  clear b00 b01 b02 b03 b04 bz0 b10 b11 bz1 b20 b21 bz2
  have KB1 := Lib.hid (KB0.out.trans k)
  clear k
  generalize w' = W1 at *
  go_wp2_with fail
  go_ret
  exact ⟨R, hR, by first | rfl | (simp; done), K0.out.trans KB1.out⟩
set_option maxRecDepth 100000 in
set_option maxHeartbeats 6400000 in
theorem refSure_any (kA : Option Addr) (kc : Nat) (k : Cf) (lA : Option Addr) (lc : Nat) (l : List Bk) (vA : Option Addr) (vc : Nat) (v : List Vt) (slot : Int) (x : Id2) (w : World)
    (hk : k.ws.length ≤ 1000) (hsd : k.seed < 18446744073709551616) (hl : l.length ≤ 10000) (hv : v.length ≤ 10000) (hwl : WfL l) (hnu : -1099511627776 ≤ k.nu ∧ k.nu ≤ 1099511627776) (hde : -1099511627776 ≤ k.de ∧ k.de ≤ 1099511627776) (hA : CellsAt w w.heap.size kA (intCells k.ws)) (hL : CellsAt w w.heap.size lA (blockCells l)) (hV : CellsAt w w.heap.size vA (votesCells v)) :
    Calls Tryz.prog 12 #[.agg #[.slice kA k.ws.length kc, .int .u64 k.seed, .int .i64 k.ep, .int .i64 k.nu, .int .i64 k.de], .agg #[.slice lA l.length lc, .slice vA v.length vc], .int .i64 slot, .agg #[.int .u64 x.1, .int .u64 x.2]] w fun e w' => ∃ R, Golds k slot v R ∧ e = .returned (.bool (sureC k l slot R x)) ∧ Kept w w' := by
  go_enter Tryz.func12, Tryz.ntmps12
  go_wp2_with fail
  have K0 := Lib.hid ((((Kept.refl w).alloc (.cells #[.slice kA k.ws.length kc, .int .u64 k.seed, .int .i64 k.ep, .int .i64 k.nu, .int .i64 k.de] 25)).alloc (.cells #[.slice lA l.length lc, .slice vA v.length vc] 29)).alloc (.cells #[.int .u64 x.1, .int .u64 x.2] 31))
  have HA := Lib.hid (hA.kept K0.out)
  clear hA
  have HL := Lib.hid (hL.kept K0.out)
  clear hL
  have HV := Lib.hid (hV.kept K0.out)
  clear hV
  have HB0 := Lib.hid (((HasCells.new w #[.slice kA k.ws.length kc, .int .u64 k.seed, .int .i64 k.ep, .int .i64 k.nu, .int .i64 k.de] 25 (w.heap.size) (by simp)).alloc (.cells #[.slice lA l.length lc, .slice vA v.length vc] 29)).alloc (.cells #[.int .u64 x.1, .int .u64 x.2] 31))
  have HB1 := Lib.hid ((HasCells.new (w.alloc (.cells #[.slice kA k.ws.length kc, .int .u64 k.seed, .int .i64 k.ep, .int .i64 k.nu, .int .i64 k.de] 25)) #[.slice lA l.length lc, .slice vA v.length vc] 29 (w.heap.size + 1) (by simp)).alloc (.cells #[.int .u64 x.1, .int .u64 x.2] 31))
  have HB2 := Lib.hid (HasCells.new ((w.alloc (.cells #[.slice kA k.ws.length kc, .int .u64 k.seed, .int .i64 k.ep, .int .i64 k.nu, .int .i64 k.de] 25)).alloc (.cells #[.slice lA l.length lc, .slice vA v.length vc] 29)) #[.int .u64 x.1, .int .u64 x.2] 31 (w.heap.size + 1 + 1) (by simp))
  generalize (((w.alloc (.cells #[.slice kA k.ws.length kc, .int .u64 k.seed, .int .i64 k.ep, .int .i64 k.nu, .int .i64 k.de] 25)).alloc (.cells #[.slice lA l.length lc, .slice vA v.length vc] 29)).alloc (.cells #[.int .u64 x.1, .int .u64 x.2] 31)) = W0 at *
  generalize w.heap.size + 1 + 1 = z2 at *
  generalize w.heap.size + 1 = z1 at *
  generalize w.heap.size = z0 at *
  have KB0 := Lib.hid (Kept.refl W0)
  obtain ⟨b00, b01, b02, b03, b04⟩ := (HB0.out.kept KB0.out).five
  have bz0 := (HB0.out.kept KB0.out).1
  obtain ⟨b10, b11⟩ := (HB1.out.kept KB0.out).two
  have bz1 := (HB1.out.kept KB0.out).1
  obtain ⟨b20, b21⟩ := (HB2.out.kept KB0.out).two
  have bz2 := (HB2.out.kept KB0.out).1
  go_wp2_with fail
  refine wp_region_noPanic ?_
  refine wp_region_held_drew (S := (fun w' => w'.cell? ⟨z0, 0, none⟩ = some (.slice kA k.ws.length kc) ∧ w'.cell? ⟨z0, 1, none⟩ = some (.int .u64 k.seed) ∧ w'.cell? ⟨z0, 2, none⟩ = some (.int .i64 k.ep) ∧ w'.cell? ⟨z0, 3, none⟩ = some (.int .i64 k.nu) ∧ w'.cell? ⟨z0, 4, none⟩ = some (.int .i64 k.de) ∧ Kept W0 w')) (by kernel_rfl) ?_ (fun hHeld => ?_)
  · exact ⟨b00, b01, b02, b03, b04, (Kept.refl _).drew⟩
  refine wpAnyH_take (i := 0) (v := ?_) (by simp only [List.getElem?_toArray, List.getElem?_cons_succ, List.getElem?_cons_zero]; rfl) (by kernel_rfl) (by kernel_rfl) (by kernel_rfl) (fun _ _ _ h => h) (Or.inl ⟨by rfl, ?_⟩) (by assumption) ?_
  rotate_left
  · intro w hSw
    (try dsimp only at hSw)
    go_simp
    (try with_reducible rfl)
  simp only [Act.put, List.setIfInBounds_toArray, List.set_cons_zero, List.set_cons_succ]
  refine wpAnyH_take (i := 1) (v := ?_) (by simp only [List.getElem?_toArray, List.getElem?_cons_succ, List.getElem?_cons_zero]; rfl) (by kernel_rfl) (by kernel_rfl) (by kernel_rfl) (fun _ _ _ h => h) (Or.inl ⟨by rfl, ?_⟩) (by assumption) ?_
  rotate_left
  · intro w hSw
    (try dsimp only at hSw)
    go_simp
    (try with_reducible rfl)
  simp only [Act.put, List.setIfInBounds_toArray, List.set_cons_zero, List.set_cons_succ]
  refine wpAnyH_take (i := 2) (v := ?_) (by simp only [List.getElem?_toArray, List.getElem?_cons_succ, List.getElem?_cons_zero]; rfl) (by kernel_rfl) (by kernel_rfl) (by kernel_rfl) (fun _ _ _ h => h) (Or.inl ⟨by rfl, ?_⟩) (by assumption) ?_
  rotate_left
  · intro w hSw
    (try dsimp only at hSw)
    go_simp
    (try with_reducible rfl)
  simp only [Act.put, List.setIfInBounds_toArray, List.set_cons_zero, List.set_cons_succ]
  refine wpAnyH_ready (rs := [3]) (by kernel_rfl) (by simp) ?_
  refine AllReadyH.cons (by simp only [List.getElem?_toArray, List.getElem?_cons_succ, List.getElem?_cons_zero]; rfl) (fun K hK => ?_) AllReadyH.nil
  go_simp
  go_at_call 28; with_reducible refine (refComm_any kA kc k slot _ hk (HA.out.kept (hHeld.2.2.2.2.2)) hsd).mono ?_
  rintro e w' ⟨A2, c2, rfl, hC2, kk⟩
  try go_wp2_with fail
  refine hK.out _ _ ?_ (fun hHeld2 => ?_)
  · exact keepP5 bz0 bz0 bz0 bz0 bz0 hHeld kk
  clear hK K hHeld
  have hHeld := hHeld2
  clear hHeld2
  try simp only [Act.put, List.setIfInBounds_toArray, List.set_cons_zero, List.set_cons_succ]
  refine wpAnyH_ready (rs := [4]) (by kernel_rfl) (by simp) ?_
  refine AllReadyH.cons (by simp only [List.getElem?_toArray, List.getElem?_cons_succ, List.getElem?_cons_zero]; rfl) (fun K hK => ?_) AllReadyH.nil
  go_simp
  go_at_call 27; with_reducible refine (refWeight_any kA kc k A2 (commC k slot) c2 _ hk (by have := comm_len k slot; omega) (HA.out.kept (hHeld.2.2.2.2.2)) hC2).mono ?_
  rintro e w' ⟨rfl, kk⟩
  rw [show weightC k (commC k slot) = wcC k slot from rfl]
  try go_wp2_with fail
  refine hK.out _ _ ?_ (fun hHeld2 => ?_)
  · exact keepP5 bz0 bz0 bz0 bz0 bz0 hHeld kk
  clear hK K hHeld
  have hHeld := hHeld2
  clear hHeld2
  try simp only [Act.put, List.setIfInBounds_toArray, List.set_cons_zero, List.set_cons_succ]
  refine wpAnyH_take (i := 5) (v := ?_) (by simp only [List.getElem?_toArray, List.getElem?_cons_succ, List.getElem?_cons_zero]; rfl) (by kernel_rfl) (by kernel_rfl) (by kernel_rfl) (fun _ _ _ h => h) (Or.inl ⟨by rfl, ?_⟩) (by assumption) ?_
  rotate_left
  · intro w hSw
    (try dsimp only at hSw)
    go_simp
    (try with_reducible rfl)
  simp only [Act.put, List.setIfInBounds_toArray, List.set_cons_zero, List.set_cons_succ]
  refine wpAnyH_done (by kernel_rfl) ?_ _
  refine NoPanic.normal ?_
  have k := hHeld.2.2.2.2.2
  clear hHeld hC2
  clear b00 b01 b02 b03 b04 bz0 b10 b11 bz1 b20 b21 bz2
  have KB1 := Lib.hid (KB0.out.trans k)
  clear k
  generalize w' = W1 at *
  have hw2 : IntKind.i64.wrap (2 * k.nu) = 2 * k.nu := by rw [IntKind.wrap_i64]; omega
  have hw3 : IntKind.i64.wrap (k.de + 2 * k.nu) = k.de + 2 * k.nu := by rw [IntKind.wrap_i64]; omega
  obtain ⟨b00, b01, b02, b03, b04⟩ := (HB0.out.kept KB1.out).five
  have bz0 := (HB0.out.kept KB1.out).1
  obtain ⟨b10, b11⟩ := (HB1.out.kept KB1.out).two
  have bz1 := (HB1.out.kept KB1.out).1
  obtain ⟨b20, b21⟩ := (HB2.out.kept KB1.out).two
  have bz2 := (HB2.out.kept KB1.out).1
  go_wp2_with fail
  refine wp_region_noPanic ?_
  refine wp_region_held_drew (S := (fun w' => w'.cell? ⟨z0, 0, none⟩ = some (.slice kA k.ws.length kc) ∧ w'.cell? ⟨z0, 1, none⟩ = some (.int .u64 k.seed) ∧ w'.cell? ⟨z0, 2, none⟩ = some (.int .i64 k.ep) ∧ w'.cell? ⟨z0, 3, none⟩ = some (.int .i64 k.nu) ∧ w'.cell? ⟨z0, 4, none⟩ = some (.int .i64 k.de) ∧ w'.cell? ⟨z1, 0, none⟩ = some (.slice lA l.length lc) ∧ w'.cell? ⟨z1, 1, none⟩ = some (.slice vA v.length vc) ∧ w'.cell? ⟨z2, 0, none⟩ = some (.int .u64 x.1) ∧ w'.cell? ⟨z2, 1, none⟩ = some (.int .u64 x.2) ∧ Kept W1 w')) (by kernel_rfl) ?_ (fun hHeld => ?_)
  · exact ⟨b00, b01, b02, b03, b04, b10, b11, b20, b21, (Kept.refl _).drew⟩
  refine wpAnyH_take (i := 0) (v := ?_) (by simp only [List.getElem?_toArray, List.getElem?_cons_succ, List.getElem?_cons_zero]; rfl) (by kernel_rfl) (by kernel_rfl) (by kernel_rfl) (fun _ _ _ h => h) (Or.inl ⟨by rfl, ?_⟩) (by assumption) ?_
  rotate_left
  · intro w hSw
    (try dsimp only at hSw)
    go_simp
    (try with_reducible rfl)
  simp only [Act.put, List.setIfInBounds_toArray, List.set_cons_zero, List.set_cons_succ]
  refine wpAnyH_take (i := 1) (v := ?_) (by simp only [List.getElem?_toArray, List.getElem?_cons_succ, List.getElem?_cons_zero]; rfl) (by kernel_rfl) (by kernel_rfl) (by kernel_rfl) (fun _ _ _ h => h) (Or.inl ⟨by rfl, ?_⟩) (by assumption) ?_
  rotate_left
  · intro w hSw
    (try dsimp only at hSw)
    go_simp
    (try with_reducible rfl)
  simp only [Act.put, List.setIfInBounds_toArray, List.set_cons_zero, List.set_cons_succ]
  refine wpAnyH_take (i := 2) (v := ?_) (by simp only [List.getElem?_toArray, List.getElem?_cons_succ, List.getElem?_cons_zero]; rfl) (by kernel_rfl) (by kernel_rfl) (by kernel_rfl) (fun _ _ _ h => h) (Or.inl ⟨by rfl, ?_⟩) (by assumption) ?_
  rotate_left
  · intro w hSw
    (try dsimp only at hSw)
    go_simp
    (try with_reducible rfl)
  simp only [Act.put, List.setIfInBounds_toArray, List.set_cons_zero, List.set_cons_succ]
  refine wpAnyH_take (i := 3) (v := ?_) (by simp only [List.getElem?_toArray, List.getElem?_cons_succ, List.getElem?_cons_zero]; rfl) (by kernel_rfl) (by kernel_rfl) (by kernel_rfl) (fun _ _ _ h => h) (Or.inl ⟨by rfl, ?_⟩) (by assumption) ?_
  rotate_left
  · intro w hSw
    (try dsimp only at hSw)
    go_simp
    (try with_reducible rfl)
  simp only [Act.put, List.setIfInBounds_toArray, List.set_cons_zero, List.set_cons_succ]
  refine wpAnyH_take (i := 6) (v := ?_) (by simp only [List.getElem?_toArray, List.getElem?_cons_succ, List.getElem?_cons_zero]; rfl) (by kernel_rfl) (by kernel_rfl) (by kernel_rfl) (fun _ _ _ h => h) (Or.inl ⟨by rfl, ?_⟩) (by assumption) ?_
  rotate_left
  · intro w hSw
    (try dsimp only at hSw)
    go_simp
    (try with_reducible rfl)
  simp only [Act.put, List.setIfInBounds_toArray, List.set_cons_zero, List.set_cons_succ]
  refine wpAnyH_take (i := 7) (v := ?_) (by simp only [List.getElem?_toArray, List.getElem?_cons_succ, List.getElem?_cons_zero]; rfl) (by kernel_rfl) (by kernel_rfl) (by kernel_rfl) (fun _ _ _ h => h) (Or.inl ⟨by rfl, ?_⟩) (by assumption) ?_
  rotate_left
  · intro w hSw
    (try dsimp only at hSw)
    go_simp
    (try with_reducible rfl)
  simp only [Act.put, List.setIfInBounds_toArray, List.set_cons_zero, List.set_cons_succ]
  refine wpAnyH_take (i := 8) (v := ?_) (by simp only [List.getElem?_toArray, List.getElem?_cons_succ, List.getElem?_cons_zero]; rfl) (by kernel_rfl) (by kernel_rfl) (by kernel_rfl) (fun _ _ _ h => h) (Or.inl ⟨by rfl, ?_⟩) (by assumption) ?_
  rotate_left
  · intro w hSw
    (try dsimp only at hSw)
    go_simp
    (try with_reducible rfl)
  simp only [Act.put, List.setIfInBounds_toArray, List.set_cons_zero, List.set_cons_succ]
  refine wpAnyH_take (i := 9) (v := ?_) (by simp only [List.getElem?_toArray, List.getElem?_cons_succ, List.getElem?_cons_zero]; rfl) (by kernel_rfl) (by kernel_rfl) (by kernel_rfl) (fun _ _ _ h => h) (Or.inl ⟨by rfl, ?_⟩) (by assumption) ?_
  rotate_left
  · intro w hSw
    (try dsimp only at hSw)
    go_simp
    (try with_reducible rfl)
  simp only [Act.put, List.setIfInBounds_toArray, List.set_cons_zero, List.set_cons_succ]
  refine wpAnyH_take (i := 10) (v := ?_) (by simp only [List.getElem?_toArray, List.getElem?_cons_succ, List.getElem?_cons_zero]; rfl) (by kernel_rfl) (by kernel_rfl) (by kernel_rfl) (fun _ _ _ h => h) (Or.inl ⟨by rfl, ?_⟩) (by assumption) ?_
  rotate_left
  · intro w hSw
    (try dsimp only at hSw)
    go_simp
    (try with_reducible rfl)
  simp only [Act.put, List.setIfInBounds_toArray, List.set_cons_zero, List.set_cons_succ]
  refine wpAnyH_take (i := 11) (v := ?_) (by simp only [List.getElem?_toArray, List.getElem?_cons_succ, List.getElem?_cons_zero]; rfl) (by kernel_rfl) (by kernel_rfl) (by kernel_rfl) (fun _ _ _ h => h) (Or.inl ⟨by rfl, ?_⟩) (by assumption) ?_
  rotate_left
  · intro w hSw
    (try dsimp only at hSw)
    go_simp
    (try with_reducible rfl)
  simp only [Act.put, List.setIfInBounds_toArray, List.set_cons_zero, List.set_cons_succ]
  refine wpAnyH_take (i := 12) (v := ?_) (by simp only [List.getElem?_toArray, List.getElem?_cons_succ, List.getElem?_cons_zero]; rfl) (by kernel_rfl) (by kernel_rfl) (by kernel_rfl) (fun _ _ _ h => h) (Or.inl ⟨by rfl, ?_⟩) (by assumption) ?_
  rotate_left
  · intro w hSw
    (try dsimp only at hSw)
    go_simp
    (try with_reducible rfl)
  simp only [Act.put, List.setIfInBounds_toArray, List.set_cons_zero, List.set_cons_succ]
  refine wpAnyH_take (i := 13) (v := ?_) (by simp only [List.getElem?_toArray, List.getElem?_cons_succ, List.getElem?_cons_zero]; rfl) (by kernel_rfl) (by kernel_rfl) (by kernel_rfl) (fun _ _ _ h => h) (Or.inl ⟨by rfl, ?_⟩) (by assumption) ?_
  rotate_left
  · intro w hSw
    (try dsimp only at hSw)
    go_simp
    (try with_reducible rfl)
  simp only [Act.put, List.setIfInBounds_toArray, List.set_cons_zero, List.set_cons_succ]
  try simp only [hw2]
  refine wpAnyH_take (i := 14) (v := ?_) (by simp only [List.getElem?_toArray, List.getElem?_cons_succ, List.getElem?_cons_zero]; rfl) (by kernel_rfl) (by kernel_rfl) (by kernel_rfl) (fun _ _ _ h => h) (Or.inl ⟨by rfl, ?_⟩) (by assumption) ?_
  rotate_left
  · intro w hSw
    (try dsimp only at hSw)
    go_simp
    (try with_reducible rfl)
  simp only [Act.put, List.setIfInBounds_toArray, List.set_cons_zero, List.set_cons_succ]
  try simp only [hw3]
  refine wpAnyH_ready (rs := [4]) (by kernel_rfl) (by simp) ?_
  refine AllReadyH.cons (by simp only [List.getElem?_toArray, List.getElem?_cons_succ, List.getElem?_cons_zero]; rfl) (fun K hK => ?_) AllReadyH.nil
  go_simp
  go_at_call 16; with_reducible refine (refFor_any kA kc k lA lc l vA vc v slot x _ hk hsd hl hv hwl (HA.out.kept (KB1.out.trans hHeld.2.2.2.2.2.2.2.2.2)) (HL.out.kept (KB1.out.trans hHeld.2.2.2.2.2.2.2.2.2)) (HV.out.kept (KB1.out.trans hHeld.2.2.2.2.2.2.2.2.2))).mono ?_
  rintro e w' ⟨R, hR, rfl, kk⟩
  have hw1 : IntKind.i64.wrap (2 * onC k l R x) = 2 * onC k l R x := by have := on_bounds k l R x; rw [IntKind.wrap_i64]; omega
  try go_wp2_with fail
  refine hK.out _ _ ?_ (fun hHeld2 => ?_)
  · exact keepP9 bz0 bz0 bz0 bz0 bz0 bz1 bz1 bz2 bz2 hHeld kk
  clear hK K hHeld
  have hHeld := hHeld2
  clear hHeld2
  try simp only [Act.put, List.setIfInBounds_toArray, List.set_cons_zero, List.set_cons_succ]
  refine wpAnyH_take (i := 5) (v := ?_) (by simp only [List.getElem?_toArray, List.getElem?_cons_succ, List.getElem?_cons_zero]; rfl) (by kernel_rfl) (by kernel_rfl) (by kernel_rfl) (fun _ _ _ h => h) (Or.inl ⟨by rfl, ?_⟩) (by assumption) ?_
  rotate_left
  · intro w hSw
    (try dsimp only at hSw)
    go_simp
    (try with_reducible rfl)
  simp only [Act.put, List.setIfInBounds_toArray, List.set_cons_zero, List.set_cons_succ]
  try simp only [hw1]
  refine wpAnyH_ready (rs := [15]) (by kernel_rfl) (by simp) ?_
  refine AllReadyH.cons (by simp only [List.getElem?_toArray, List.getElem?_cons_succ, List.getElem?_cons_zero]; rfl) (fun K hK => ?_) AllReadyH.nil
  go_simp
  go_at_call 29; with_reducible refine (refMore_any (2 * onC k l R x) k.de (wcC k slot) (k.de + 2 * k.nu) _).mono ?_
  rintro e w' ⟨rfl, kk⟩
  rw [show moreQ (2 * onC k l R x) k.de (wcC k slot) (k.de + 2 * k.nu) = sureC k l slot R x from rfl]
  try go_wp2_with fail
  refine hK.out _ _ ?_ (fun hHeld2 => ?_)
  · exact keepP9 bz0 bz0 bz0 bz0 bz0 bz1 bz1 bz2 bz2 hHeld kk
  clear hK K hHeld
  have hHeld := hHeld2
  clear hHeld2
  try simp only [Act.put, List.setIfInBounds_toArray, List.set_cons_zero, List.set_cons_succ]
  refine wpAnyH_take (i := 16) (v := ?_) (by simp only [List.getElem?_toArray, List.getElem?_cons_succ, List.getElem?_cons_zero]; rfl) (by kernel_rfl) (by kernel_rfl) (by kernel_rfl) (fun _ _ _ h => h) (Or.inl ⟨by rfl, ?_⟩) (by assumption) ?_
  rotate_left
  · intro w hSw
    (try dsimp only at hSw)
    go_simp
    (try with_reducible rfl)
  simp only [Act.put, List.setIfInBounds_toArray, List.set_cons_zero, List.set_cons_succ]
  refine wpAnyH_done (by kernel_rfl) ?_ _
  refine NoPanic.normal ?_
  have k := hHeld.2.2.2.2.2.2.2.2.2
  clear hHeld
  clear b00 b01 b02 b03 b04 bz0 b10 b11 bz1 b20 b21 bz2
  have KB2 := Lib.hid (KB1.out.trans k)
  clear k
  generalize w' = W2 at *
  go_wp2_with fail
  go_ret
  exact ⟨R, hR, by first | rfl | (simp; done), K0.out.trans KB2.out⟩
set_option maxRecDepth 100000 in
set_option maxHeartbeats 6400000 in
theorem refTop_any (kA : Option Addr) (kc : Nat) (k : Cf) (lA : Option Addr) (lc : Nat) (l : List Bk) (vA : Option Addr) (vc : Nat) (v : List Vt) (slot : Int) (x : Id2) (w : World)
    (hk : k.ws.length ≤ 1000) (hsd : k.seed < 18446744073709551616) (hl : l.length ≤ 10000) (hv : v.length ≤ 10000) (hwl : WfL l) (hnu : -1099511627776 ≤ k.nu ∧ k.nu ≤ 1099511627776) (hde : -1099511627776 ≤ k.de ∧ k.de ≤ 1099511627776) (hA : CellsAt w w.heap.size kA (intCells k.ws)) (hL : CellsAt w w.heap.size lA (blockCells l)) (hV : CellsAt w w.heap.size vA (votesCells v)) :
    Calls Tryz.prog 14 #[.agg #[.slice kA k.ws.length kc, .int .u64 k.seed, .int .i64 k.ep, .int .i64 k.nu, .int .i64 k.de], .agg #[.slice lA l.length lc, .slice vA v.length vc], .int .i64 slot, .agg #[.int .u64 x.1, .int .u64 x.2]] w fun e w' => ∃ R, Golds k slot v R ∧ e = .returned (.tuple #[.agg #[.int .u64 ((topC k l slot R x).getD zid).1, .int .u64 ((topC k l slot R x).getD zid).2], .bool (topC k l slot R x).isSome]) ∧ Kept w w' := by
  go_enter Tryz.func14, Tryz.ntmps14
  go_wp2_with fail
  have K0 := Lib.hid (((((Kept.refl w).alloc (.cells #[.slice kA k.ws.length kc, .int .u64 k.seed, .int .i64 k.ep, .int .i64 k.nu, .int .i64 k.de] 25)).alloc (.cells #[.slice lA l.length lc, .slice vA v.length vc] 29)).alloc (.cells #[.int .u64 x.1, .int .u64 x.2] 31)).alloc (.cells #[.int .u64 0, .int .u64 0] 31))
  have HA := Lib.hid (hA.kept K0.out)
  clear hA
  have HL := Lib.hid (hL.kept K0.out)
  clear hL
  have HV := Lib.hid (hV.kept K0.out)
  clear hV
  have HB0 := Lib.hid ((((HasCells.new w #[.slice kA k.ws.length kc, .int .u64 k.seed, .int .i64 k.ep, .int .i64 k.nu, .int .i64 k.de] 25 (w.heap.size) (by simp)).alloc (.cells #[.slice lA l.length lc, .slice vA v.length vc] 29)).alloc (.cells #[.int .u64 x.1, .int .u64 x.2] 31)).alloc (.cells #[.int .u64 0, .int .u64 0] 31))
  have HB1 := Lib.hid (((HasCells.new (w.alloc (.cells #[.slice kA k.ws.length kc, .int .u64 k.seed, .int .i64 k.ep, .int .i64 k.nu, .int .i64 k.de] 25)) #[.slice lA l.length lc, .slice vA v.length vc] 29 (w.heap.size + 1) (by simp)).alloc (.cells #[.int .u64 x.1, .int .u64 x.2] 31)).alloc (.cells #[.int .u64 0, .int .u64 0] 31))
  have HB2 := Lib.hid ((HasCells.new ((w.alloc (.cells #[.slice kA k.ws.length kc, .int .u64 k.seed, .int .i64 k.ep, .int .i64 k.nu, .int .i64 k.de] 25)).alloc (.cells #[.slice lA l.length lc, .slice vA v.length vc] 29)) #[.int .u64 x.1, .int .u64 x.2] 31 (w.heap.size + 1 + 1) (by simp)).alloc (.cells #[.int .u64 0, .int .u64 0] 31))
  have HB3 := Lib.hid (HasCells.new (((w.alloc (.cells #[.slice kA k.ws.length kc, .int .u64 k.seed, .int .i64 k.ep, .int .i64 k.nu, .int .i64 k.de] 25)).alloc (.cells #[.slice lA l.length lc, .slice vA v.length vc] 29)).alloc (.cells #[.int .u64 x.1, .int .u64 x.2] 31)) #[.int .u64 0, .int .u64 0] 31 (w.heap.size + 1 + 1 + 1) (by simp))
  have HRb := Lib.hid (show AtI ((((w.alloc (.cells #[.slice kA k.ws.length kc, .int .u64 k.seed, .int .i64 k.ep, .int .i64 k.nu, .int .i64 k.de] 25)).alloc (.cells #[.slice lA l.length lc, .slice vA v.length vc] 29)).alloc (.cells #[.int .u64 x.1, .int .u64 x.2] 31)).alloc (.cells #[.int .u64 0, .int .u64 0] 31)) (w.heap.size + 1 + 1 + 1) zid from AtI.new _ zid _ (by simp))
  have HZ3 := Lib.hid (show w.heap.size ≤ w.heap.size + 1 + 1 + 1 by omega)
  generalize ((((w.alloc (.cells #[.slice kA k.ws.length kc, .int .u64 k.seed, .int .i64 k.ep, .int .i64 k.nu, .int .i64 k.de] 25)).alloc (.cells #[.slice lA l.length lc, .slice vA v.length vc] 29)).alloc (.cells #[.int .u64 x.1, .int .u64 x.2] 31)).alloc (.cells #[.int .u64 0, .int .u64 0] 31)) = W0 at *
  generalize w.heap.size + 1 + 1 + 1 = z3 at *
  generalize w.heap.size + 1 + 1 = z2 at *
  generalize w.heap.size + 1 = z1 at *
  generalize hz0 : w.heap.size = z0 at *
  have HZ0 := Lib.hid hz0
  clear hz0
  have KB0 := Lib.hid (Kept.refl W0)
  refine (refChain_any lA lc l (by omega) hwl x W0 (HL.out.kept KB0.out)).mono ?_
  rintro e W1 ⟨A1, c1, rfl, hC1, _, k⟩
  replace HRb := Lib.hid (HRb.out.kept k)
  have KB1 := Lib.hid (KB0.out.trans k)
  clear k
  replace HA := Lib.hid (HA.out.kept KB1.out)
  replace HL := Lib.hid (HL.out.kept KB1.out)
  replace HV := Lib.hid (HV.out.kept KB1.out)
  replace HB0 := Lib.hid (HB0.out.kept KB1.out)
  replace HB1 := Lib.hid (HB1.out.kept KB1.out)
  replace HB2 := Lib.hid (HB2.out.kept KB1.out)
  replace HB3 := Lib.hid (HB3.out.kept KB1.out)
  replace K0 := Lib.hid (K0.out.trans KB1.out)
  have KB2 := Lib.hid (Kept.refl W1)
  have HCh := Lib.hid hC1
  clear hC1
  obtain ⟨R, hR⟩ := golds_exist k slot v
  have HR := Lib.hid hR
  clear hR
  have HLn := Lib.hid (chainC_length l x)
  have HTop := Lib.hid (fun j hj h1 h2 h => (show topC k l slot R x = some (chainC l x)[j] from top_hit (p := sureC k l slot R) (c := chainC l x) (j := j) hj h1 h2 h))
  have HNone := Lib.hid (fun h => (show topC k l slot R x = none from top_none (p := sureC k l slot R) (c := chainC l x) h))
  obtain ⟨t, ht⟩ : ∃ t, t = topC k l slot R x := ⟨_, rfl⟩
  rw [← ht] at HTop HNone
  have HT := Lib.hid ht
  clear ht
  generalize chainC l x = c at *
  go_wp2_with fail
  go_loopw [11] (fun i w' => ∃ j : Nat, j ≤ c.length ∧ i = .int .i64 (j : Nat) ∧ (∀ m (hm : m < c.length), m < j → sureC k l slot R c[m] = false) ∧ Kept W1 w') (fun i _ => c.length - (intOf i).toNat)
  case atStart => exact ⟨0, by omega, rfl, fun m _ h => absurd h (by omega), Kept.refl _⟩
  case round =>
    obtain ⟨j, hj, rfl, hF, hKr⟩ := hrel
    have HF := Lib.hid hF
    have HKr := Lib.hid hKr
    clear hF hKr
    have KB3 := Lib.hid (KB2.out.trans HKr.out)
    have hj1 : IntKind.i64.wrap ((j : Int) + 1) = (j : Int) + 1 := by have := HLn.out; rw [IntKind.wrap_i64]; omega
    by_cases hlt : j + 1 < c.length
    · have hlb : decide ((j : Int) + 1 < (c.length : Int)) = true := decide_eq_true (by omega)
      have hjl : j < c.length := by omega
      obtain ⟨zq, oq, rfl, hbq, x0, x1⟩ := id_at (HCh.out.kept KB3.out) hjl
      have HT1 := Lib.hid (fun h => HTop.out j hjl hlt (fun m hm => HF.out m (by omega) hm) h)
      have HFn := Lib.hid (fun (h : sureC k l slot R c[j] = false) => (fun m hm (hmj : m < j + 1) => by
        by_cases e : m = j
        · subst e; exact h
        · exact HF.out m hm (by omega) : ∀ m (hm : m < c.length), m < j + 1 → sureC k l slot R c[m] = false))
      generalize c[j] = y at *
      obtain ⟨b00, b01, b02, b03, b04⟩ := (HB0.out.kept KB3.out).five
      have bz0 := (HB0.out.kept KB3.out).1
      obtain ⟨b10, b11⟩ := (HB1.out.kept KB3.out).two
      have bz1 := (HB1.out.kept KB3.out).1
      go_wp2_with fail
      refine wp_region_noPanic ?_
      refine wp_region_held_drew (S := (fun w' => w'.cell? ⟨z0, 0, none⟩ = some (.slice kA k.ws.length kc) ∧ w'.cell? ⟨z0, 1, none⟩ = some (.int .u64 k.seed) ∧ w'.cell? ⟨z0, 2, none⟩ = some (.int .i64 k.ep) ∧ w'.cell? ⟨z0, 3, none⟩ = some (.int .i64 k.nu) ∧ w'.cell? ⟨z0, 4, none⟩ = some (.int .i64 k.de) ∧ w'.cell? ⟨z1, 0, none⟩ = some (.slice lA l.length lc) ∧ w'.cell? ⟨z1, 1, none⟩ = some (.slice vA v.length vc) ∧ w'.cell? ⟨zq, oq + j * 2, none⟩ = some (.int .u64 y.1) ∧ w'.cell? ⟨zq, oq + j * 2 + 1, none⟩ = some (.int .u64 y.2) ∧ Kept wr w')) (by kernel_rfl) ?_ (fun hHeld => ?_)
      · exact ⟨b00, b01, b02, b03, b04, b10, b11, x0, x1, (Kept.refl _).drew⟩
      refine wpAnyH_take (i := 0) (v := ?_) (by simp only [List.getElem?_toArray, List.getElem?_cons_succ, List.getElem?_cons_zero]; rfl) (by kernel_rfl) (by kernel_rfl) (by kernel_rfl) (fun _ _ _ h => h) (Or.inl ⟨by rfl, ?_⟩) (by assumption) ?_
      rotate_left
      · intro w hSw
        (try dsimp only at hSw)
        go_simp
        (try with_reducible rfl)
      simp only [Act.put, List.setIfInBounds_toArray, List.set_cons_zero, List.set_cons_succ]
      refine wpAnyH_take (i := 1) (v := ?_) (by simp only [List.getElem?_toArray, List.getElem?_cons_succ, List.getElem?_cons_zero]; rfl) (by kernel_rfl) (by kernel_rfl) (by kernel_rfl) (fun _ _ _ h => h) (Or.inl ⟨by rfl, ?_⟩) (by assumption) ?_
      rotate_left
      · intro w hSw
        (try dsimp only at hSw)
        go_simp
        (try with_reducible rfl)
      simp only [Act.put, List.setIfInBounds_toArray, List.set_cons_zero, List.set_cons_succ]
      refine wpAnyH_take (i := 2) (v := ?_) (by simp only [List.getElem?_toArray, List.getElem?_cons_succ, List.getElem?_cons_zero]; rfl) (by kernel_rfl) (by kernel_rfl) (by kernel_rfl) (fun _ _ _ h => h) (Or.inl ⟨by rfl, ?_⟩) (by assumption) ?_
      rotate_left
      · intro w hSw
        (try dsimp only at hSw)
        go_simp
        (try with_reducible rfl)
      simp only [Act.put, List.setIfInBounds_toArray, List.set_cons_zero, List.set_cons_succ]
      refine wpAnyH_take (i := 3) (v := ?_) (by simp only [List.getElem?_toArray, List.getElem?_cons_succ, List.getElem?_cons_zero]; rfl) (by kernel_rfl) (by kernel_rfl) (by kernel_rfl) (fun _ _ _ h => h) (Or.inl ⟨by rfl, ?_⟩) (by assumption) ?_
      rotate_left
      · intro w hSw
        (try dsimp only at hSw)
        go_simp
        (try with_reducible rfl)
      simp only [Act.put, List.setIfInBounds_toArray, List.set_cons_zero, List.set_cons_succ]
      refine wpAnyH_take (i := 4) (v := ?_) (by simp only [List.getElem?_toArray, List.getElem?_cons_succ, List.getElem?_cons_zero]; rfl) (by kernel_rfl) (by kernel_rfl) (by kernel_rfl) (fun _ _ _ h => h) (Or.inl ⟨by rfl, ?_⟩) (by assumption) ?_
      rotate_left
      · intro w hSw
        (try dsimp only at hSw)
        go_simp
        (try with_reducible rfl)
      simp only [Act.put, List.setIfInBounds_toArray, List.set_cons_zero, List.set_cons_succ]
      refine wpAnyH_take (i := 5) (v := ?_) (by simp only [List.getElem?_toArray, List.getElem?_cons_succ, List.getElem?_cons_zero]; rfl) (by kernel_rfl) (by kernel_rfl) (by kernel_rfl) (fun _ _ _ h => h) (Or.inl ⟨by rfl, ?_⟩) (by assumption) ?_
      rotate_left
      · intro w hSw
        (try dsimp only at hSw)
        go_simp
        (try with_reducible rfl)
      simp only [Act.put, List.setIfInBounds_toArray, List.set_cons_zero, List.set_cons_succ]
      refine wpAnyH_take (i := 6) (v := ?_) (by simp only [List.getElem?_toArray, List.getElem?_cons_succ, List.getElem?_cons_zero]; rfl) (by kernel_rfl) (by kernel_rfl) (by kernel_rfl) (fun _ _ _ h => h) (Or.inl ⟨by rfl, ?_⟩) (by assumption) ?_
      rotate_left
      · intro w hSw
        (try dsimp only at hSw)
        go_simp
        (try with_reducible rfl)
      simp only [Act.put, List.setIfInBounds_toArray, List.set_cons_zero, List.set_cons_succ]
      refine wpAnyH_ready (rs := [7]) (by kernel_rfl) (by simp) ?_
      refine AllReadyH.cons (by simp only [List.getElem?_toArray, List.getElem?_cons_succ, List.getElem?_cons_zero]; rfl) (fun K hK => ?_) AllReadyH.nil
      go_simp
      go_at_call 12; with_reducible refine (refSure_any kA kc k lA lc l vA vc v slot y _ hk hsd hl hv hwl hnu hde (HA.out.kept (KB3.out.trans hHeld.2.2.2.2.2.2.2.2.2)) (HL.out.kept (KB3.out.trans hHeld.2.2.2.2.2.2.2.2.2)) (HV.out.kept (KB3.out.trans hHeld.2.2.2.2.2.2.2.2.2))).mono ?_
      rintro e w' ⟨R2, hR2, rfl, kk⟩
      have eR := HR.out.unique hR2
      subst eR
      clear hR2
      try go_wp2_with fail
      refine hK.out _ _ ?_ (fun hHeld2 => ?_)
      · exact keepP9 bz0 bz0 bz0 bz0 bz0 bz1 bz1 hbq hbq hHeld kk
      clear hK K hHeld
      have hHeld := hHeld2
      clear hHeld2
      try simp only [Act.put, List.setIfInBounds_toArray, List.set_cons_zero, List.set_cons_succ]
      refine wpAnyH_take (i := 8) (v := ?_) (by simp only [List.getElem?_toArray, List.getElem?_cons_succ, List.getElem?_cons_zero]; rfl) (by kernel_rfl) (by kernel_rfl) (by kernel_rfl) (fun _ _ _ h => h) (Or.inl ⟨by rfl, ?_⟩) (by assumption) ?_
      rotate_left
      · intro w hSw
        (try dsimp only at hSw)
        go_simp
        (try with_reducible rfl)
      simp only [Act.put, List.setIfInBounds_toArray, List.set_cons_zero, List.set_cons_succ]
      refine wpAnyH_done (by kernel_rfl) ?_ _
      refine NoPanic.normal ?_
      have k := hHeld.2.2.2.2.2.2.2.2.2
      clear hHeld
      have x0 := (k.cell (p := ⟨zq, oq + j * 2, none⟩) hbq).trans x0
      have x1 := (k.cell (p := ⟨zq, oq + j * 2 + 1, none⟩) hbq).trans x1
      have hbq := Nat.lt_of_lt_of_le hbq k.size_le
      clear b00 b01 b02 b03 b04 bz0 b10 b11 bz1
      have KB4 := Lib.hid (KB3.out.trans k)
      clear k
      generalize w' = W4 at *
      cases hs : sureC k l slot R y with
      | true =>
        have HTy := Lib.hid (HT1.out hs)
        have HRn := Lib.hid (HRb.out.kept KB4.out)
        have r0 := HRn.out.c0
        have r1 := HRn.out.c1
        have hbr := HRn.out.lt
        have f0 := HRn.out.fr 0
        have f1 := HRn.out.fr 1
        clear hs
        go_wp2_with fail
        refine bodyPost_ret (v := .tuple #[.agg #[.int .u64 y.1, .int .u64 y.2], .bool true]) (by simp [results, Tryz.results14, go_sem, r0, r1]) rfl ⟨R, HR.out, by rw [← HT.out, HTy.out]; rfl, ?_⟩
        exact ((K0.out.trans KB4.out).setCell (p := ⟨z3, 0, none⟩) (Nat.le_trans (Nat.le_of_eq HZ0.out) HZ3.out) _).setCell (p := ⟨z3, 1, none⟩) (Nat.le_trans (Nat.le_of_eq HZ0.out) HZ3.out) _
      | false =>
        have HN := Lib.hid (HFn.out hs)
        clear hs
        go_wp2_with fail
        go_roundw
        case rel => exact ⟨j + 1, by omega, by go_num, HN.out, KB4.out⟩
        case measure => simp [intOf]; omega
    · have hlb : decide ((j : Int) + 1 < (c.length : Int)) = false := decide_eq_false (by omega)
      have HTn := Lib.hid (HNone.out fun m hm => HF.out m (by omega) (by omega))
      have HRn := Lib.hid (HRb.out.kept HKr.out)
      have r0 := HRn.out.c0
      have r1 := HRn.out.c1
      have hbr := HRn.out.lt
      have f0 := HRn.out.fr 0
      have f1 := HRn.out.fr 1
      go_wp2_with fail
      refine bodyPost_ret (v := .tuple #[.agg #[.int .u64 0, .int .u64 0], .bool false]) (by simp [results, Tryz.results14, go_sem, r0, r1]) rfl ⟨R, HR.out, by rw [← HT.out, HTn.out]; rfl, ?_⟩
      exact ((K0.out.trans KB3.out).setCell (p := ⟨z3, 0, none⟩) (Nat.le_trans (Nat.le_of_eq HZ0.out) HZ3.out) _).setCell (p := ⟨z3, 1, none⟩) (Nat.le_trans (Nat.le_of_eq HZ0.out) HZ3.out) _
end

end Go.Proofs.YtpojiijgahcidaaGreat
