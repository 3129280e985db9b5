/-
  Cells that lie in a block of their own, from its beginning on.
-/
import Derived.Test.YtjcjglhoknbhpaaBase
namespace Go.Proofs.Ytjcjglhoknbhpaa
open Go.ChangeShapes Go.WideShapes Go.ChangeAt Go.RowKit

/-- Block b begins by the cells xs. -/
def HasCells (w : World) (b : Nat) (xs : List Value) : Prop := b < w.heap.size ∧ ∀ j u, xs[j]? = some u → w.cell? ⟨b, j, none⟩ = some u
theorem HasCells.kept {w w' : World} {b : Nat} {xs : List Value} (h : HasCells w b xs) (k : Kept w w') : HasCells w' b xs :=
  ⟨Nat.lt_of_lt_of_le h.1 k.size_le, fun j u hu => (k.cell (p := ⟨b, j, none⟩) h.1).trans (h.2 j u hu)⟩
theorem HasCells.alloc {w : World} {b : Nat} {xs : List Value} (h : HasCells w b xs) (o : Obj) : HasCells (w.alloc o) b xs := h.kept ((Kept.refl _).alloc _)
theorem HasCells.new (w : World) (xs : Array Value) (t : TypeId) (b : Nat) (hb : b = w.heap.size) : HasCells (w.alloc (.cells xs t)) b xs.toList := by
  subst hb
  refine ⟨by simp, fun j u hu => ?_⟩
  rw [World.cell?_alloc_new]
  simpa using hu
theorem HasCells.at0 {w : World} {b : Nat} {c : Value} {xs : List Value} (h : HasCells w b (c :: xs)) : w.cell? ⟨b, 0, none⟩ = some c := h.2 0 c rfl
theorem HasCells.at1 {w : World} {b : Nat} {c0 c : Value} {xs : List Value} (h : HasCells w b (c0 :: c :: xs)) : w.cell? ⟨b, 1, none⟩ = some c := h.2 1 c rfl
theorem HasCells.at2 {w : World} {b : Nat} {c0 c1 c : Value} {xs : List Value} (h : HasCells w b (c0 :: c1 :: c :: xs)) : w.cell? ⟨b, 2, none⟩ = some c := h.2 2 c rfl
theorem HasCells.at3 {w : World} {b : Nat} {c0 c1 c2 c : Value} {xs : List Value} (h : HasCells w b (c0 :: c1 :: c2 :: c :: xs)) : w.cell? ⟨b, 3, none⟩ = some c := h.2 3 c rfl
theorem HasCells.at4 {w : World} {b : Nat} {c0 c1 c2 c3 c : Value} {xs : List Value} (h : HasCells w b (c0 :: c1 :: c2 :: c3 :: c :: xs)) : w.cell? ⟨b, 4, none⟩ = some c := h.2 4 c rfl
theorem HasCells.two {w : World} {b : Nat} {c0 c1 : Value} (h : HasCells w b [c0, c1]) : w.cell? ⟨b, 0, none⟩ = some c0 ∧ w.cell? ⟨b, 1, none⟩ = some c1 := ⟨h.at0, h.at1⟩
theorem HasCells.four {w : World} {b : Nat} {c0 c1 c2 c3 : Value} (h : HasCells w b [c0, c1, c2, c3]) :
    w.cell? ⟨b, 0, none⟩ = some c0 ∧ w.cell? ⟨b, 1, none⟩ = some c1 ∧ w.cell? ⟨b, 2, none⟩ = some c2 ∧ w.cell? ⟨b, 3, none⟩ = some c3 := ⟨h.at0, h.at1, h.at2, h.at3⟩
theorem HasCells.five {w : World} {b : Nat} {c0 c1 c2 c3 c4 : Value} (h : HasCells w b [c0, c1, c2, c3, c4]) :
    w.cell? ⟨b, 0, none⟩ = some c0 ∧ w.cell? ⟨b, 1, none⟩ = some c1 ∧ w.cell? ⟨b, 2, none⟩ = some c2 ∧ w.cell? ⟨b, 3, none⟩ = some c3 ∧ w.cell? ⟨b, 4, none⟩ = some c4 := ⟨h.at0, h.at1, h.at2, h.at3, h.at4⟩

end Go.Proofs.Ytjcjglhoknbhpaa
