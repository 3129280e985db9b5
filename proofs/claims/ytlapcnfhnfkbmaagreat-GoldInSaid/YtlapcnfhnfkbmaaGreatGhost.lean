/-
  The contracts of package ghost's calls isBetter, bestOf and Best.
-/
import Derived.Test.YtlapcnfhnfkbmaaGreatGhostFacts
import Derived.Test.YtlapcnfhnfkbmaaGreatWeighOn
import Derived.Test.YtlapcnfhnfkbmaaGreatMixLess
import Derived.Test.YtlapcnfhnfkbmaaGreatGround
namespace Go.Proofs.YtlapcnfhnfkbmaaGreat
set_option maxRecDepth 100000
set_option linter.unusedVariables false
set_option linter.unusedSimpArgs false
set_option linter.unusedSimpArgs false
set_option linter.unusedVariables false
open Go.ChangeShapes Go.WideShapes Go.ChangeAt Go.RowKit

theorem better_more {n m : Int} {x y : Id2} (h : m < n) : betterB n m x y = true := by unfold betterB; rw [decide_eq_true h]; rfl
theorem better_same {n m : Int} {x y : Id2} (h : n = m) : betterB n m x y = lessN y x := by unfold betterB; rw [decide_eq_false (show ¬ m < n by omega), decide_eq_true h]; simp
theorem better_less {n m : Int} {x y : Id2} (h : ¬ m < n) (h2 : ¬ n = m) : betterB n m x y = false := by unfold betterB; rw [decide_eq_false h, decide_eq_false h2]; rfl

set_option maxHeartbeats 800000 in
theorem isBetter_any (n m : Int) (x y : Id2) (w : World) :
    Calls Tryz.prog 71 #[.agg #[.int .i64 n, .int .u64 x.1, .int .u64 x.2], .agg #[.int .i64 m, .int .u64 y.1, .int .u64 y.2]] w fun e w' => e = .returned (.bool (betterB n m x y)) ∧ Kept w w' := by
  by_cases h1 : m < n
  · have H := Lib.hid (better_more (x := x) (y := y) h1)
    go_enter Tryz.func71, Tryz.ntmps71
    go_wp2_with fail
    go_ret
    exact ⟨by rw [H.out]; rfl, ((Kept.refl _).alloc _).alloc _⟩
  · by_cases h2 : n = m
    · have H := Lib.hid (better_same (x := x) (y := y) h2)
      have hb : (n == m) = true := by rw [beq_iff_eq]; exact h2
      have K := Lib.hid (((Kept.refl w).alloc (.cells #[.int .i64 n, .int .u64 x.1, .int .u64 x.2] 82)).alloc (.cells #[.int .i64 m, .int .u64 y.1, .int .u64 y.2] 82))
      clear h2
      go_enter Tryz.func71, Tryz.ntmps71
      go_wp2_with fail
      refine (less_any y x _).mono ?_
      rintro e W1 ⟨rfl, k1⟩
      have K1 := Lib.hid (K.out.trans k1)
      clear k1
      go_wp2_with fail
      go_ret
      exact ⟨by rw [H.out]; first | rfl | simp, K1.out⟩
    · have H := Lib.hid (better_less (x := x) (y := y) h1 h2)
      have hb : (n == m) = false := by rw [beq_eq_false_iff_ne]; exact h2
      go_enter Tryz.func71, Tryz.ntmps71
      go_wp2_with fail
      go_ret
      exact ⟨by rw [H.out]; rfl, ((Kept.refl _).alloc _).alloc _⟩

/-- The three cells of a candidate, in a block of its own. -/
structure Cand (W : World) (z : Nat) (c : Int × Id2) (w' : World) : Prop where
  cells : HasCells w' z [.int .i64 c.1, .int .u64 c.2.1, .int .u64 c.2.2]
  f0 : w'.frozen? ⟨z, 0, none⟩ = false
  f1 : w'.frozen? ⟨z, 1, none⟩ = false
  f2 : w'.frozen? ⟨z, 2, none⟩ = false
  kept : Kept W w'
theorem Cand.keep {W : World} {z : Nat} {c : Int × Id2} {w' w2 : World} (h : Cand W z c w') (k : Kept w' w2) : Cand W z c w2 :=
  ⟨h.cells.kept k, (k.frozen h.cells.1).trans h.f0, (k.frozen h.cells.1).trans h.f1, (k.frozen h.cells.1).trans h.f2, h.kept.trans k⟩
theorem Cand.new (W : World) : Cand W W.heap.size (0, zid) (W.alloc (.cells #[.int .i64 0, .int .u64 0, .int .u64 0] 82)) :=
  ⟨HasCells.new W #[.int .i64 0, .int .u64 0, .int .u64 0] 82 W.heap.size rfl, by simp [go_sem], by simp [go_sem], by simp [go_sem], (Kept.refl W).alloc _⟩
theorem Cand.set {W : World} {z : Nat} {c : Int × Id2} {w' : World} (hz : W.heap.size ≤ z) (h : Cand W z c w') (n : Int) (x : Id2) : Cand W z (n, x) (((w'.setCell ⟨z, 0, none⟩ (.int .i64 n)).setCell ⟨z, 1, none⟩ (.int .u64 x.1)).setCell ⟨z, 2, none⟩ (.int .u64 x.2)) where
  cells := by
    refine ⟨by simpa using h.cells.1, fun j u hu => ?_⟩
    have c0 := h.cells.at0
    have c1 := h.cells.at1
    have c2 := h.cells.at2
    match j, hu with
    | 0, hu =>
      cases hu
      rw [World.cell?_setCell_other _ _ _ _ (by simp), World.cell?_setCell_other _ _ _ _ (by simp), World.cell?_setCell_same' _ _ _ (by simp [c0])]
    | 1, hu =>
      cases hu
      rw [World.cell?_setCell_other _ _ _ _ (by simp), World.cell?_setCell_same' _ _ _ (by rw [World.cell?_setCell_other _ _ _ _ (by simp)]; simp [c1])]
    | 2, hu =>
      cases hu
      rw [World.cell?_setCell_same' _ _ _ (by rw [World.cell?_setCell_other _ _ _ _ (by simp), World.cell?_setCell_other _ _ _ _ (by simp)]; simp [c2])]
    | j + 3, hu => simp at hu
  f0 := by simpa using h.f0
  f1 := by simpa using h.f1
  f2 := by simpa using h.f2
  kept := ((h.kept.setCell (p := ⟨z, 0, none⟩) hz _).setCell (p := ⟨z, 1, none⟩) hz _).setCell (p := ⟨z, 2, none⟩) hz _

/-- On, wherever its lists lie. -/
def OnAt (A : Option Addr) (c : Nat) (k : Cf) (L : Option Addr) (cl : Nat) (l : List Bk) (V : Option Addr) (cv : Nat) (v : List Vt) (x : Id2) (W : World) : Prop :=
  ∀ w', Kept W w' → Calls Tryz.prog 17 #[.agg #[.slice A k.ws.length c, .int .u64 k.seed, .int .i64 k.ep, .int .i64 k.nu, .int .i64 k.de], .slice L l.length cl, .slice V v.length cv, .agg #[.int .u64 x.1, .int .u64 x.2]] w' fun e w'' => e = .returned (.int .i64 (onC k l v x)) ∧ Kept w' w''

end Go.Proofs.YtlapcnfhnfkbmaaGreat
