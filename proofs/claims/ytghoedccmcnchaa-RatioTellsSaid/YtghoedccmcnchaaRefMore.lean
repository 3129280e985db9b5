/-
  The contract of the given package's More: the document's own answer, digit by digit.
-/
import Derived.Test.YtghoedccmcnchaaRef
namespace Go.Proofs.Ytghoedccmcnchaa
open Go.ChangeShapes Go.WideShapes Go.ChangeAt Go.RowKit

theorem digit0 {p q : Int} (h : dg0 p ≠ dg0 q) : decide (q < p) = decide (dg0 q < dg0 p) := by
  unfold dg0 at *; rw [decide_eq_decide]; omega
theorem digit1 {p q : Int} (h0 : dg0 p = dg0 q) (h : dg1 p ≠ dg1 q) : decide (q < p) = decide (dg1 q < dg1 p) := by
  unfold dg0 dg1 at *; rw [decide_eq_decide]; omega
theorem digit2 {p q : Int} (h0 : dg0 p = dg0 q) (h1 : dg1 p = dg1 q) (h : dg2 p ≠ dg2 q) : decide (q < p) = decide (dg2 q < dg2 p) := by
  unfold dg0 dg1 dg2 at *; rw [decide_eq_decide]; omega
theorem digit3 {p q : Int} (h0 : dg0 p = dg0 q) (h1 : dg1 p = dg1 q) (h2 : dg2 p = dg2 q) : decide (q < p) = decide (dg3 q < dg3 p) := by
  unfold dg0 dg1 dg2 dg3 at *; rw [decide_eq_decide]; omega

/-- Two rows of digits are the same up to a place. -/
def eqTo (p0 p1 p2 p3 q0 q1 q2 q3 : Int) (k : Nat) : Prop := (1 ≤ k → p0 = q0) ∧ (2 ≤ k → p1 = q1) ∧ (3 ≤ k → p2 = q2) ∧ (4 ≤ k → p3 = q3)

set_option maxHeartbeats 1000000 in
theorem refMore_any (a b c d : Int) (w : World) :
    Calls Try.prog 16 #[.int .i64 a, .int .i64 b, .int .i64 c, .int .i64 d] w fun e w' => e = .returned (.bool (moreB a b c d)) ∧ Grown w w' := by
  cases hA : mayB a
  · have hs : moreB a b c d = false := by simp [moreB, hA]
    rw [hs]
    clear hs
    go_enter Try.func16, Try.ntmps16
    go_wp2_with (go_at_call 15; refine (refMay_any _ _).mono ?_; rintro e w' ⟨rfl, rfl⟩)
    go_ret
    exact ⟨rfl, Grown.refl _⟩
  cases hB : mayB b
  · have hs : moreB a b c d = false := by simp [moreB, hB]
    rw [hs]
    clear hs
    go_enter Try.func16, Try.ntmps16
    go_wp2_with (go_at_call 15; refine (refMay_any _ _).mono ?_; rintro e w' ⟨rfl, rfl⟩)
    go_ret
    exact ⟨rfl, Grown.refl _⟩
  cases hC : mayB c
  · have hs : moreB a b c d = false := by simp [moreB, hC]
    rw [hs]
    clear hs
    go_enter Try.func16, Try.ntmps16
    go_wp2_with (go_at_call 15; refine (refMay_any _ _).mono ?_; rintro e w' ⟨rfl, rfl⟩)
    go_ret
    exact ⟨rfl, Grown.refl _⟩
  cases hD : mayB d
  · have hs : moreB a b c d = false := by simp [moreB, hD]
    rw [hs]
    clear hs
    go_enter Try.func16, Try.ntmps16
    go_wp2_with (go_at_call 15; refine (refMay_any _ _).mono ?_; rintro e w' ⟨rfl, rfl⟩)
    go_ret
    exact ⟨rfl, Grown.refl _⟩
  obtain ⟨a0, a1⟩ := mayB_yes hA
  obtain ⟨b0, b1⟩ := mayB_yes hB
  obtain ⟨c0, c1⟩ := mayB_yes hC
  obtain ⟨d0, d1⟩ := mayB_yes hD
  have hs := Lib.hid (show moreB a b c d = decide (c * d < a * b) by simp [moreB, hA, hB, hC, hD])
  have HA := Lib.hid hA; have HB := Lib.hid hB; have HC := Lib.hid hC; have HD := Lib.hid hD
  clear hA hB hC hD
  go_enter Try.func16, Try.ntmps16
  go_wp2_with fail
  refine (refMay_any _ _).mono ?_
  rintro e w' ⟨rfl, rfl⟩
  rw [HA.out]
  go_wp2_with fail
  refine (refMay_any _ _).mono ?_
  rintro e w' ⟨rfl, rfl⟩
  rw [HB.out]
  go_wp2_with fail
  refine (refMay_any _ _).mono ?_
  rintro e w' ⟨rfl, rfl⟩
  rw [HC.out]
  go_wp2_with fail
  refine (refMay_any _ _).mono ?_
  rintro e w' ⟨rfl, rfl⟩
  rw [HD.out]
  go_wp2_with fail
  refine (wide_any _ _ (by omega) (by omega) (by omega) (by omega) _).mono ?_
  rintro e w1 ⟨rfl, g1⟩
  go_wp2_with fail
  refine (wide_any _ _ (by omega) (by omega) (by omega) (by omega) _).mono ?_
  rintro e w2 ⟨rfl, g2⟩
  have hz : w1.heap.size < w2.heap.size := by have := g2.2.2; simp at this; omega
  have k0 : w2.cell? ⟨w1.heap.size, 0, none⟩ = some (.int .i64 (dg0 (a * b))) := by rw [Grown_cell g2 (by simp)]; simp [go_sem]
  have k1 : w2.cell? ⟨w1.heap.size, 1, none⟩ = some (.int .i64 (dg1 (a * b))) := by rw [Grown_cell g2 (by simp)]; simp [go_sem]
  have k2 : w2.cell? ⟨w1.heap.size, 2, none⟩ = some (.int .i64 (dg2 (a * b))) := by rw [Grown_cell g2 (by simp)]; simp [go_sem]
  have k3 : w2.cell? ⟨w1.heap.size, 3, none⟩ = some (.int .i64 (dg3 (a * b))) := by rw [Grown_cell g2 (by simp)]; simp [go_sem]
  go_wp2_with fail
  have gW : Grown w (w2.alloc (.cells #[.int .i64 (dg0 (c * d)), .int .i64 (dg1 (c * d)), .int .i64 (dg2 (c * d)), .int .i64 (dg3 (c * d))] 36)) := (Grown_trans (g1.alloc _ _) g2).alloc _ _
  have u0 : (w2.alloc (.cells #[.int .i64 (dg0 (c * d)), .int .i64 (dg1 (c * d)), .int .i64 (dg2 (c * d)), .int .i64 (dg3 (c * d))] 36)).cell? ⟨w1.heap.size, 0, none⟩ = some (.int .i64 (dg0 (a * b))) := by rw [Grown_cell ((Grown.refl w2).alloc _ _) hz]; exact k0
  have v0 : (w2.alloc (.cells #[.int .i64 (dg0 (c * d)), .int .i64 (dg1 (c * d)), .int .i64 (dg2 (c * d)), .int .i64 (dg3 (c * d))] 36)).cell? ⟨w2.heap.size, 0, none⟩ = some (.int .i64 (dg0 (c * d))) := by simp [go_sem]
  have u1 : (w2.alloc (.cells #[.int .i64 (dg0 (c * d)), .int .i64 (dg1 (c * d)), .int .i64 (dg2 (c * d)), .int .i64 (dg3 (c * d))] 36)).cell? ⟨w1.heap.size, 1, none⟩ = some (.int .i64 (dg1 (a * b))) := by rw [Grown_cell ((Grown.refl w2).alloc _ _) hz]; exact k1
  have v1 : (w2.alloc (.cells #[.int .i64 (dg0 (c * d)), .int .i64 (dg1 (c * d)), .int .i64 (dg2 (c * d)), .int .i64 (dg3 (c * d))] 36)).cell? ⟨w2.heap.size, 1, none⟩ = some (.int .i64 (dg1 (c * d))) := by simp [go_sem]
  have u2 : (w2.alloc (.cells #[.int .i64 (dg0 (c * d)), .int .i64 (dg1 (c * d)), .int .i64 (dg2 (c * d)), .int .i64 (dg3 (c * d))] 36)).cell? ⟨w1.heap.size, 2, none⟩ = some (.int .i64 (dg2 (a * b))) := by rw [Grown_cell ((Grown.refl w2).alloc _ _) hz]; exact k2
  have v2 : (w2.alloc (.cells #[.int .i64 (dg0 (c * d)), .int .i64 (dg1 (c * d)), .int .i64 (dg2 (c * d)), .int .i64 (dg3 (c * d))] 36)).cell? ⟨w2.heap.size, 2, none⟩ = some (.int .i64 (dg2 (c * d))) := by simp [go_sem]
  have u3 : (w2.alloc (.cells #[.int .i64 (dg0 (c * d)), .int .i64 (dg1 (c * d)), .int .i64 (dg2 (c * d)), .int .i64 (dg3 (c * d))] 36)).cell? ⟨w1.heap.size, 3, none⟩ = some (.int .i64 (dg3 (a * b))) := by rw [Grown_cell ((Grown.refl w2).alloc _ _) hz]; exact k3
  have v3 : (w2.alloc (.cells #[.int .i64 (dg0 (c * d)), .int .i64 (dg1 (c * d)), .int .i64 (dg2 (c * d)), .int .i64 (dg3 (c * d))] 36)).cell? ⟨w2.heap.size, 3, none⟩ = some (.int .i64 (dg3 (c * d))) := by simp [go_sem]
  clear k0 k1 k2 k3
  have D0 := Lib.hid (show dg0 (a * b) ≠ dg0 (c * d) → moreB a b c d = decide (dg0 (c * d) < dg0 (a * b)) from fun h => hs.out.trans (digit0 h))
  have D1 := Lib.hid (show dg0 (a * b) = dg0 (c * d) → dg1 (a * b) ≠ dg1 (c * d) → moreB a b c d = decide (dg1 (c * d) < dg1 (a * b)) from fun h0 h => hs.out.trans (digit1 h0 h))
  have D2 := Lib.hid (show dg0 (a * b) = dg0 (c * d) → dg1 (a * b) = dg1 (c * d) → dg2 (a * b) ≠ dg2 (c * d) → moreB a b c d = decide (dg2 (c * d) < dg2 (a * b)) from fun h0 h1 h => hs.out.trans (digit2 h0 h1 h))
  have D3 := Lib.hid (show dg0 (a * b) = dg0 (c * d) → dg1 (a * b) = dg1 (c * d) → dg2 (a * b) = dg2 (c * d) → moreB a b c d = decide (dg3 (c * d) < dg3 (a * b)) from fun h0 h1 h2 => hs.out.trans (digit3 h0 h1 h2))
  clear hs g1 g2 hz a0 a1 b0 b1 c0 c1 d0 d1 HA HB HC HD
  generalize (w2.alloc (.cells #[.int .i64 (dg0 (c * d)), .int .i64 (dg1 (c * d)), .int .i64 (dg2 (c * d)), .int .i64 (dg3 (c * d))] 36)) = W at *
  generalize w1.heap.size = B1 at *
  generalize w2.heap.size = B2 at *
  generalize dg0 (a * b) = p0 at *
  generalize dg1 (a * b) = p1 at *
  generalize dg2 (a * b) = p2 at *
  generalize dg3 (a * b) = p3 at *
  generalize dg0 (c * d) = q0 at *
  generalize dg1 (c * d) = q1 at *
  generalize dg2 (c * d) = q2 at *
  generalize dg3 (c * d) = q3 at *
  clear w1 w2
  go_loopw [15] (fun i wr => ∃ (k n : Nat), k ≤ 4 ∧ i = .int .i64 k ∧ eqTo p0 p1 p2 p3 q0 q1 q2 q3 k ∧ wr = W.drewN n) (fun i _ => 4 - (intOf i).toNat)
  case atStart => exact ⟨0, 0, by omega, rfl, ⟨fun h => absurd h (by omega), fun h => absurd h (by omega), fun h => absurd h (by omega), fun h => absurd h (by omega)⟩, rfl⟩
  case round =>
    obtain ⟨k, n, hk, rfl, ⟨he0, he1, he2, he3⟩, rfl⟩ := hrel
    have E0 := Lib.hid he0; have E1 := Lib.hid he1; have E2 := Lib.hid he2; have E3 := Lib.hid he3
    clear he0 he1 he2 he3
    rcases (show k = 0 ∨ k = 1 ∨ k = 2 ∨ k = 3 ∨ k = 4 from by omega) with rfl | rfl | rfl | rfl | rfl
    · by_cases h : p0 = q0
      · have b1 : (p0 != q0) = false := by simp [h]
        have hh := Lib.hid h
        clear h
        go_wp2_with fail
        go_quiet (fail)
        go_wp2_with fail
        go_roundw
        case rel => exact ⟨1, _, by omega, by first | rfl | simp, ⟨fun _ => hh.out, fun h => absurd h (by omega), fun h => absurd h (by omega), fun h => absurd h (by omega)⟩, rfl⟩
        case measure => simp [intOf]
      · have b1 : (p0 != q0) = true := by rw [bne_iff_ne]; exact h
        have hh := Lib.hid h
        clear h
        go_wp2_with fail
        go_quiet (fail)
        go_wp2_with fail
        go_quiet (fail)
        go_wp2_with fail
        go_ret
        exact ⟨by rw [D0.out hh.out]; rfl, gW⟩
    · by_cases h : p1 = q1
      · have b1 : (p1 != q1) = false := by simp [h]
        have hh := Lib.hid h
        clear h
        go_wp2_with fail
        go_quiet (fail)
        go_wp2_with fail
        go_roundw
        case rel => exact ⟨2, _, by omega, by first | rfl | simp, ⟨fun _ => E0.out (by omega), fun _ => hh.out, fun h => absurd h (by omega), fun h => absurd h (by omega)⟩, rfl⟩
        case measure => simp [intOf]
      · have b1 : (p1 != q1) = true := by rw [bne_iff_ne]; exact h
        have hh := Lib.hid h
        clear h
        go_wp2_with fail
        go_quiet (fail)
        go_wp2_with fail
        go_quiet (fail)
        go_wp2_with fail
        go_ret
        exact ⟨by rw [D1.out (E0.out (by omega)) hh.out]; rfl, gW⟩
    · by_cases h : p2 = q2
      · have b1 : (p2 != q2) = false := by simp [h]
        have hh := Lib.hid h
        clear h
        go_wp2_with fail
        go_quiet (fail)
        go_wp2_with fail
        go_roundw
        case rel => exact ⟨3, _, by omega, by first | rfl | simp, ⟨fun _ => E0.out (by omega), fun _ => E1.out (by omega), fun _ => hh.out, fun h => absurd h (by omega)⟩, rfl⟩
        case measure => simp [intOf]
      · have b1 : (p2 != q2) = true := by rw [bne_iff_ne]; exact h
        have hh := Lib.hid h
        clear h
        go_wp2_with fail
        go_quiet (fail)
        go_wp2_with fail
        go_quiet (fail)
        go_wp2_with fail
        go_ret
        exact ⟨by rw [D2.out (E0.out (by omega)) (E1.out (by omega)) hh.out]; rfl, gW⟩
    · by_cases h : p3 = q3
      · have b1 : (p3 != q3) = false := by simp [h]
        have hh := Lib.hid h
        clear h
        go_wp2_with fail
        go_quiet (fail)
        go_wp2_with fail
        go_roundw
        case rel => exact ⟨4, _, by omega, by first | rfl | simp, ⟨fun _ => E0.out (by omega), fun _ => E1.out (by omega), fun _ => E2.out (by omega), fun _ => hh.out⟩, rfl⟩
        case measure => simp [intOf]
      · have b1 : (p3 != q3) = true := by rw [bne_iff_ne]; exact h
        have hh := Lib.hid h
        clear h
        go_wp2_with fail
        go_quiet (fail)
        go_wp2_with fail
        go_quiet (fail)
        go_wp2_with fail
        go_ret
        exact ⟨by rw [D3.out (E0.out (by omega)) (E1.out (by omega)) (E2.out (by omega))]; rfl, gW⟩
    · go_wp2_with fail
      go_ret
      exact ⟨by rw [D3.out (E0.out (by omega)) (E1.out (by omega)) (E2.out (by omega)), E3.out (by omega)]; simp, gW⟩

end Go.Proofs.Ytghoedccmcnchaa
