/-
  The contracts of the two products' calls: that one of them is more, and what two numbers make.
-/
import Derived.Test.YtghoedccmcnchaaWalks
namespace Go.Proofs.Ytghoedccmcnchaa
open Go.ChangeShapes Go.WideShapes Go.ChangeAt Go.RowKit

theorem above_div (p q : Int) : aboveB (hiI p) (loI p) (hiI q) (loI q) = decide (q < p) := by
  unfold aboveB hiI loI
  rw [decide_eq_decide]
  omega
theorem above_max (p : Int) (h : 0 ≤ p) : aboveB (hiI p) (loI p) 0 4611686018427387904 = decide (4611686018427387904 < p) := by
  unfold aboveB hiI loI
  rw [decide_eq_decide]
  omega

/-! ### More -/
def moreB (a b c d : Int) : Bool := mayB a && mayB b && mayB c && mayB d && decide (c * d < a * b)

set_option maxHeartbeats 400000 in
theorem more_any (a b c d : Int) (w : World) :
    Calls Try.prog 18 #[.int .i64 a, .int .i64 b, .int .i64 c, .int .i64 d] w fun e w' => e = .returned (.bool (moreB a b c d)) ∧ Grown w w' := by
  cases hA : mayB a
  · have hs : moreB a b c d = false := by simp [moreB, hA]
    rw [hs]
    clear hs
    go_enter Try.func18, Try.ntmps18
    go_wp2_with (go_at_call 17; refine (may_any _ _).mono ?_; rintro e w' ⟨rfl, rfl⟩)
    go_ret
    exact ⟨rfl, Grown.refl _⟩
  cases hB : mayB b
  · have hs : moreB a b c d = false := by simp [moreB, hB]
    rw [hs]
    clear hs
    go_enter Try.func18, Try.ntmps18
    go_wp2_with (go_at_call 17; refine (may_any _ _).mono ?_; rintro e w' ⟨rfl, rfl⟩)
    go_ret
    exact ⟨rfl, Grown.refl _⟩
  cases hC : mayB c
  · have hs : moreB a b c d = false := by simp [moreB, hC]
    rw [hs]
    clear hs
    go_enter Try.func18, Try.ntmps18
    go_wp2_with (go_at_call 17; refine (may_any _ _).mono ?_; rintro e w' ⟨rfl, rfl⟩)
    go_ret
    exact ⟨rfl, Grown.refl _⟩
  cases hD : mayB d
  · have hs : moreB a b c d = false := by simp [moreB, hD]
    rw [hs]
    clear hs
    go_enter Try.func18, Try.ntmps18
    go_wp2_with (go_at_call 17; refine (may_any _ _).mono ?_; rintro e w' ⟨rfl, rfl⟩)
    go_ret
    exact ⟨rfl, Grown.refl _⟩
  obtain ⟨a0, a1⟩ := mayB_yes hA
  obtain ⟨b0, b1⟩ := mayB_yes hB
  obtain ⟨c0, c1⟩ := mayB_yes hC
  obtain ⟨d0, d1⟩ := mayB_yes hD
  have hs := Lib.hid (show moreB a b c d = aboveB (hiI (a * b)) (loI (a * b)) (hiI (c * d)) (loI (c * d)) by rw [above_div]; simp [moreB, hA, hB, hC, hD])
  go_enter Try.func18, Try.ntmps18
  go_wp2_with (go_at_call 17; refine (may_any _ _).mono ?_; rintro e w' ⟨rfl, rfl⟩)
  go_wp2_with fail
  refine (times_any _ _ (by omega) (by omega) (by omega) (by omega) _).mono ?_
  rintro e w1 ⟨rfl, g1⟩
  go_wp2_with fail
  refine (times_any _ _ (by omega) (by omega) (by omega) (by omega) _).mono ?_
  rintro e w2 ⟨rfl, g2⟩
  go_wp2_with fail
  refine (above_any _ _ _ _ _).mono ?_
  rintro e w3 ⟨rfl, g3⟩
  go_wp2_with fail
  go_ret
  exact ⟨by rw [hs.out]; rfl, Grown_trans g1 (Grown_trans g2 g3)⟩

/-! ### Mul -/
def mulB (a b : Int) : Bool := mayB a && mayB b && decide (a * b ≤ 4611686018427387904)
def mulN (a b : Int) : Int := if mulB a b then a * b else 0
theorem mulN_yes {a b : Int} (h : mulB a b = true) : mulN a b = a * b := by rw [mulN, if_pos h]
theorem mulN_no {a b : Int} (h : mulB a b = false) : mulN a b = 0 := by rw [mulN, if_neg (by simp [h])]

set_option maxHeartbeats 400000 in
theorem mul_any (a b : Int) (w : World) :
    Calls Try.prog 13 #[.int .i64 a, .int .i64 b] w fun e w' => e = .returned (.tuple #[.int .i64 (mulN a b), .bool (mulB a b)]) ∧ Grown w w' := by
  cases hA : mayB a
  · have hs : mulB a b = false := by simp [mulB, hA]
    rw [hs, mulN_no hs]
    clear hs
    go_enter Try.func13, Try.ntmps13
    go_wp2_with (go_at_call 17; refine (may_any _ _).mono ?_; rintro e w' ⟨rfl, rfl⟩)
    go_ret2
    exact ⟨rfl, Grown.refl _⟩
  cases hB : mayB b
  · have hs : mulB a b = false := by simp [mulB, hB]
    rw [hs, mulN_no hs]
    clear hs
    go_enter Try.func13, Try.ntmps13
    go_wp2_with (go_at_call 17; refine (may_any _ _).mono ?_; rintro e w' ⟨rfl, rfl⟩)
    go_ret2
    exact ⟨rfl, Grown.refl _⟩
  obtain ⟨a0, a1⟩ := mayB_yes hA
  obtain ⟨b0, b1⟩ := mayB_yes hB
  have p0 : 0 ≤ a * b := Int.mul_nonneg a0 b0
  have hm := above_max (a * b) p0
  by_cases hc : a * b ≤ 4611686018427387904
  · have hs : mulB a b = true := by simp [mulB, hA, hB, hc]
    have hab : aboveB (hiI (a * b)) (loI (a * b)) 0 4611686018427387904 = false := by rw [hm]; simp; omega
    have hlo : loI (a * b) = a * b := by unfold loI; omega
    rw [hs, mulN_yes hs]
    clear hs hm
    rw [hlo] at hab
    have Hab := Lib.hid hab
    have Hlo := Lib.hid hlo
    clear hab hlo
    go_enter Try.func13, Try.ntmps13
    go_wp2_with (go_at_call 17; refine (may_any _ _).mono ?_; rintro e w' ⟨rfl, rfl⟩)
    go_wp2_with fail
    refine (times_any _ _ (by omega) (by omega) (by omega) (by omega) _).mono ?_
    rintro e w1 ⟨rfl, g1⟩
    rw [Hlo.out]
    go_wp2_with fail
    refine (above_any _ _ _ _ _).mono ?_
    rintro e w2 ⟨rfl, g2⟩
    rw [Hab.out]
    have hcell : w2.cell? ⟨w1.heap.size, 1, none⟩ = some (.int .u64 (a * b)) := by
      rw [Grown_cell g2 (by simp)]; simp [go_sem]
    go_wp2_with fail
    go_ret2
    exact ⟨rfl, Grown_trans (g1.alloc _ _) g2⟩
  · have hs : mulB a b = false := by simp [mulB, hc]
    have hab : aboveB (hiI (a * b)) (loI (a * b)) 0 4611686018427387904 = true := by rw [hm]; simp; omega
    rw [hs, mulN_no hs]
    clear hs hm
    have Hab := Lib.hid hab
    clear hab
    go_enter Try.func13, Try.ntmps13
    go_wp2_with (go_at_call 17; refine (may_any _ _).mono ?_; rintro e w' ⟨rfl, rfl⟩)
    go_wp2_with fail
    refine (times_any _ _ (by omega) (by omega) (by omega) (by omega) _).mono ?_
    rintro e w1 ⟨rfl, g1⟩
    go_wp2_with fail
    refine (above_any _ _ _ _ _).mono ?_
    rintro e w2 ⟨rfl, g2⟩
    rw [Hab.out]
    go_wp2_with fail
    go_ret2
    exact ⟨rfl, Grown_trans (g1.alloc _ _) g2⟩

/-! ### awake -/
set_option maxHeartbeats 400000 in
theorem awake_any (w : World) : Calls Try.prog 10 #[] w fun e w' => e = .returned (.bool true) ∧ Grown w w' := by
  have f1 : addB 2305843009213693952 2305843009213693952 = true := by decide
  have f2 : addN 2305843009213693952 2305843009213693952 = 4611686018427387904 := by decide
  have f3 : addB 2305843009213693952 4611686018427387904 = false := by decide
  have f4 : addN 2305843009213693952 4611686018427387904 = 0 := by decide
  have f5 : moreB 4611686018427387904 4611686018427387904 4611686018427387904 4611686018427387903 = true := by decide
  have f6 : mayB 0 = true := by decide
  have f7 : mayB (-1) = false := by decide
  have F1 := Lib.hid f1; have F2 := Lib.hid f2; have F3 := Lib.hid f3; have F4 := Lib.hid f4; have F5 := Lib.hid f5; have F6 := Lib.hid f6; have F7 := Lib.hid f7
  clear f1 f2 f3 f4 f5 f6 f7
  go_enter Try.func10, Try.ntmps10
  go_wp2_with fail
  refine (add_any _ _ _).mono ?_
  rintro e w' ⟨rfl, rfl⟩
  rw [F1.out, F2.out]
  go_wp2_with fail
  refine (add_any _ _ _).mono ?_
  rintro e w' ⟨rfl, rfl⟩
  rw [F3.out, F4.out]
  go_wp2_with fail
  refine (more_any _ _ _ _ _).mono ?_
  rintro e w1 ⟨rfl, g1⟩
  rw [F5.out]
  go_wp2_with fail
  refine (may_any _ _).mono ?_
  rintro e w' ⟨rfl, rfl⟩
  rw [F6.out]
  go_wp2_with fail
  refine (may_any _ _).mono ?_
  rintro e w' ⟨rfl, rfl⟩
  rw [F7.out]
  go_wp2_with fail
  go_ret
  exact ⟨rfl, g1⟩

end Go.Proofs.Ytghoedccmcnchaa
