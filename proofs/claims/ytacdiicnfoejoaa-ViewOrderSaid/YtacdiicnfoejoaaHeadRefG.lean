/-
  The contracts of UnderIn of the given package marigoldref06, and of OnIn, On and All of marigoldref08.
  The contract of BestIn of the given package marigoldref09.
  The contracts of Best and Head of the given package marigoldref09.
-/
import Derived.WalkMore
import Derived.Test.YtacdiicnfoejoaaWeighG
import Derived.Test.YtacdiicnfoejoaaTreeRefG
import Derived.Test.YtacdiicnfoejoaaDutyRefG
import Derived.Test.YtacdiicnfoejoaaMixG
import Derived.Test.YtacdiicnfoejoaaGround
namespace Go.Proofs.Ytacdiicnfoejoaa
set_option maxRecDepth 100000
set_option linter.unusedVariables false
set_option linter.unusedSimpArgs false
section
open Go.ChangeShapes Go.WideShapes Go.ChangeAt Go.RowKit

/-- What stays along a way down: the id's two cells in a block of its own, all that lay in W. -/
structure Down (W : World) (z : Nat) (cur : Id2) (w' : World) : Prop where
  cells : HasCells w' z [.int .u64 cur.1, .int .u64 cur.2]
  f0 : w'.frozen? ⟨z, 0, none⟩ = false
  f1 : w'.frozen? ⟨z, 1, none⟩ = false
  kept : Kept W w'
theorem Down.keep {W : World} {z : Nat} {cur : Id2} {w' w2 : World} (h : Down W z cur w') (k : Kept w' w2) : Down W z cur w2 :=
  ⟨h.cells.kept k, (k.frozen h.cells.1).trans h.f0, (k.frozen h.cells.1).trans h.f1, h.kept.trans k⟩
theorem Down.set {W : World} {z : Nat} {cur : Id2} {w' : World} (hz : W.heap.size ≤ z) (h : Down W z cur w') (p : Id2) : Down W z p ((w'.setCell ⟨z, 0, none⟩ (.int .u64 p.1)).setCell ⟨z, 1, none⟩ (.int .u64 p.2)) where
  cells := by
    refine ⟨by simpa using h.cells.1, fun j u hu => ?_⟩
    have c0 := h.cells.at0
    have c1 := h.cells.at1
    match j, hu with
    | 0, hu =>
      cases hu
      rw [World.cell?_setCell_other _ _ _ _ (by simp), World.cell?_setCell_same' _ _ _ (by simp [c0])]
    | 1, hu =>
      cases hu
      rw [World.cell?_setCell_same' _ _ _ (by rw [World.cell?_setCell_other _ _ _ _ (by simp)]; simp [c1])]
    | j + 2, hu => simp at hu
  f0 := by simpa using h.f0
  f1 := by simpa using h.f1
  kept := (h.kept.setCell (p := ⟨z, 0, none⟩) hz _).setCell (p := ⟨z, 1, none⟩) hz _
theorem down_other {z : Nat} {w' : World} {y : Nat} (hy : y ≠ z) {xs : List Value} (h : HasCells w' y xs) (p : Id2) : HasCells ((w'.setCell ⟨z, 0, none⟩ (.int .u64 p.1)).setCell ⟨z, 1, none⟩ (.int .u64 p.2)) y xs :=
  ⟨by simpa using h.1, fun j u hu => by
    rw [World.cell?_setCell_other _ _ _ _ (fun q => hy (congrArg Addr.block q).symm), World.cell?_setCell_other _ _ _ _ (fun q => hy (congrArg Addr.block q).symm)]
    exact h.2 j u hu⟩

theorem posV_none' {l : List Bk} {x : Id2} (q : posB l x = none) : posV (namesB l) x = -1 := by
  unfold posV
  have q' : posN (namesB l) x = none := q
  rw [q']
theorem posV_some' {l : List Bk} {x : Id2} {i : Nat} (q : posB l x = some i) : posV (namesB l) x = (i : Int) := by
  unfold posV
  have q' : posN (namesB l) x = some i := q
  rw [q']
theorem under_end {l : List Bk} (h : mayB l = true) {x : Id2} (hs : standsB l x = true) (q : posB l x = none) (low : Id2) : underC l low x = sameI x low := by
  rcases standsB_iff.1 hs with ⟨i, e⟩ | e
  · rw [q] at e; cases e
  · subst e; rw [under_zid h]; rfl
theorem under_down {l : List Bk} (h : mayB l = true) {x : Id2} {i : Nat} (q : posB l x = some i) {low : Id2} (e : ¬ x = low) : underC l low x = underC l low (l[i]'(posB_lt q)).p := by
  have hi := posB_lt q
  have := under_step h hi low
  rw [posB_name q, decide_eq_false (fun r => e r.symm), Bool.false_or] at this
  exact this

/-! ### MayIn -/
/-! ### OnIn, On, All -/
theorem keepQ {W w w' : World} {a b i0 i1 j0 j1 : Nat} {x0 x1 y0 y1 : Value} (ha : a < W.heap.size) (hb : b < W.heap.size)
    (h : (w.cell? ⟨a, i0, none⟩ = some x0 ∧ w.cell? ⟨a, i1, none⟩ = some x1) ∧ (w.cell? ⟨b, j0, none⟩ = some y0 ∧ w.cell? ⟨b, j1, none⟩ = some y1) ∧ Kept W w) (k : Kept w w') :
    (w'.cell? ⟨a, i0, none⟩ = some x0 ∧ w'.cell? ⟨a, i1, none⟩ = some x1) ∧ (w'.cell? ⟨b, j0, none⟩ = some y0 ∧ w'.cell? ⟨b, j1, none⟩ = some y1) ∧ Kept W w' := by
  obtain ⟨⟨h0, h1⟩, ⟨g0, g1⟩, hk⟩ := h
  have ha' : a < w.heap.size := Nat.lt_of_lt_of_le ha hk.size_le
  have hb' : b < w.heap.size := Nat.lt_of_lt_of_le hb hk.size_le
  exact ⟨⟨(k.cell (p := ⟨a, i0, none⟩) ha').trans h0, (k.cell (p := ⟨a, i1, none⟩) ha').trans h1⟩, ⟨(k.cell (p := ⟨b, j0, none⟩) hb').trans g0, (k.cell (p := ⟨b, j1, none⟩) hb').trans g1⟩, hk.trans k⟩
end

section
set_option linter.unusedSimpArgs false
set_option linter.unusedVariables false
open Go.ChangeShapes Go.WideShapes Go.ChangeAt Go.RowKit

theorem Down.new (W : World) : Down W W.heap.size zid (W.alloc (.cells #[.int .u64 0, .int .u64 0] 39)) :=
  ⟨HasCells.new W #[.int .u64 0, .int .u64 0] 39 W.heap.size rfl, by simp [go_sem], by simp [go_sem], (Kept.refl W).alloc _⟩
theorem better_yes {n m : Int} {x y : Id2} (h : n = m) (b : lessN y x = true) : betterB n m x y = true := by unfold betterB; rw [decide_eq_true h, b]; simp
theorem better_no {n m : Int} {x y : Id2} (h : ¬ m < n) (b : lessN y x = false) : betterB n m x y = false := by unfold betterB; rw [decide_eq_false h, b]; simp
end

section
set_option linter.unusedSimpArgs false
set_option linter.unusedVariables false
open Go.ChangeShapes Go.WideShapes Go.ChangeAt Go.RowKit

/-! ### Head -/
theorem CellsAt.setOther {w : World} {B : Nat} {A : Option Addr} {xs : List Value} (h : CellsAt w B A xs) {b : Nat} (hne : ∀ ad, A = some ad → b < ad.block) (i : Nat) (u : Value) : CellsAt (w.setCell ⟨b, i, none⟩ u) B A xs := fun j v hv => by
  obtain ⟨ad, e, hb, hc⟩ := h j v hv
  refine ⟨ad, e, hb, ?_⟩
  have h1 := hne ad e
  have h2 : (ad.add j).block = ad.block := block_add ad j
  rw [World.cell?_setCell_other _ _ _ _ (by intro e2; rw [← e2] at h2; simp at h2; omega)]
  exact hc
theorem next_names {k : Cf} {l : List Bk} {v : List Vt} {x : Id2} (h0 : 0 < (kidsC l x).length) : headX k l v (candOf (onC k l v) (bestTo (onC k l v) (kidsC l x))).2 = headX k l v x ∧ rank l x < rank l (candOf (onC k l v) (bestTo (onC k l v) (kidsC l x))).2 ∧ rank l (candOf (onC k l v) (bestTo (onC k l v) (kidsC l x))).2 ≤ l.length := by
  have hne : kidsC l x ≠ [] := fun e => by rw [e] at h0; simp at h0
  refine ⟨(best_step rfl hne).symm, ?_⟩
  cases e : bestTo (onC k l v) (kidsC l x) with
  | none => exact absurd (bestTo_none e) hne
  | some y => exact kid_rank (bestTo_mem e)
theorem leaf_names {k : Cf} {l : List Bk} {v : List Vt} {x : Id2} (h0 : ¬ 0 < (kidsC l x).length) : headX k l v x = x := best_leaf (List.eq_nil_of_length_eq_zero (by omega))
end

end Go.Proofs.Ytacdiicnfoejoaa
