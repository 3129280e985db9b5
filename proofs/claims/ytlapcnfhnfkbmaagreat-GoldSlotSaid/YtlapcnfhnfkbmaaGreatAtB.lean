/-
  Blocks of one's own that hold given cells.
-/
import Derived.Test.YtlapcnfhnfkbmaaGreatTreeG
namespace Go.Proofs.YtlapcnfhnfkbmaaGreat
set_option maxRecDepth 100000
set_option linter.unusedVariables false
set_option linter.unusedSimpArgs false
set_option linter.unusedSimpArgs false
set_option linter.unusedVariables false
open Go.ChangeShapes Go.WideShapes Go.ChangeAt Go.RowKit

/-- A block of its own that holds the cells xs. -/
def AtB (w : World) (z : Nat) (xs : Array Value) (t : TypeId) : Prop := w.heap[z]? = some (.cells xs t (0, 0))
theorem AtB.lt {w : World} {z : Nat} {xs : Array Value} {t : TypeId} (h : AtB w z xs t) : z < w.heap.size := (Array.getElem?_eq_some_iff.1 h).1
theorem AtB.cell {w : World} {z j : Nat} {xs : Array Value} {t : TypeId} (h : AtB w z xs t) : w.cell? ⟨z, j, none⟩ = xs[j]? := by rw [cell_of_row w z j _ _ _ h]
theorem AtB.fr {w : World} {z : Nat} {xs : Array Value} {t : TypeId} (h : AtB w z xs t) (j : Nat) : w.frozen? ⟨z, j, none⟩ = false := frozen_of_row w z j _ _ h
theorem AtB.new (w : World) (xs : Array Value) (t : TypeId) : AtB (w.alloc (.cells xs t)) w.heap.size xs t := heap_alloc_new w _
theorem AtB.kept {w w' : World} {z : Nat} {xs : Array Value} {t : TypeId} (h : AtB w z xs t) (k : Kept w w') : AtB w' z xs t := (k.heap h.lt).trans h
theorem AtB.other {w : World} {z : Nat} {xs : Array Value} {t : TypeId} (h : AtB w z xs t) {p : Addr} (hp : p.block ≠ z) (u : Value) : AtB (w.setCell p u) z xs t := by
  unfold AtB
  rw [heap_setCell_other w p z u (fun e => hp e.symm)]
  exact h
theorem AtB.set {w : World} {z : Nat} {xs : Array Value} {t : TypeId} (h : AtB w z xs t) (j : Nat) (y : Value) : AtB (w.setCell ⟨z, j, none⟩ y) z (xs.setIfInBounds j y) t := heap_setCell_same w z j _ _ y h
theorem AtB.set2 {w : World} {z : Nat} {a b : Value} {t : TypeId} (h : AtB w z #[a, b] t) (c d : Value) : AtB ((w.setCell ⟨z, 0, none⟩ c).setCell ⟨z, 1, none⟩ d) z #[c, d] t := (h.set 0 c).set 1 d
theorem AtB.has {w : World} {z : Nat} {xs : Array Value} {t : TypeId} (h : AtB w z xs t) : HasCells w z xs.toList := ⟨h.lt, fun j u hu => by rw [h.cell]; simpa using hu⟩
theorem AtB.set1 {w : World} {z : Nat} {x : Value} {t : TypeId} (h : AtB w z #[x] t) (y : Value) : AtB (w.setCell ⟨z, 0, none⟩ y) z #[y] t := heap_setCell_same w z 0 _ _ y h
/-- A row of others than what lies in the cell that is written stays as it is. -/
theorem CellsAt.past {w : World} {A : Option Addr} {xs : List Value} (h : CellsAt w w.heap.size A xs) {p : Addr} {u : Value} (hp : w.cell? p = some u) (hu : u ∉ xs) (v : Value) : CellsAt (w.setCell p v) (w.setCell p v).heap.size A xs := fun j y hy => by
  obtain ⟨ad, e, hb, hc⟩ := h j y hy
  refine ⟨ad, e, by simpa using hb, ?_⟩
  rw [World.cell?_setCell_other _ _ _ _ (fun q => ?_)]
  · exact hc
  · rw [← q, hp] at hc
    injection hc with hc
    exact hu (by rw [hc]; exact List.mem_of_getElem? hy)

end Go.Proofs.YtlapcnfhnfkbmaaGreat
