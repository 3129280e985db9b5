/-
  Boxes of ids of one's own, that are written.
-/
import Derived.Test.YtlapcnfhnfkbmaaGreatTreeG
import Derived.Test.YtlapcnfhnfkbmaaGreatLmdMath
namespace Go.Proofs.YtlapcnfhnfkbmaaGreat
set_option maxRecDepth 100000
set_option linter.unusedVariables false
set_option linter.unusedSimpArgs false
set_option linter.unusedSimpArgs false
set_option linter.unusedVariables false
open Go.ChangeShapes Go.WideShapes Go.ChangeAt Go.RowKit

/-- Block z is a box that holds id x. -/
def AtI (w : World) (z : Nat) (x : Id2) : Prop := w.heap[z]? = some (.cells #[.int .u64 x.1, .int .u64 x.2] 35 (0, 0))
theorem AtI.lt {w : World} {z : Nat} {x : Id2} (h : AtI w z x) : z < w.heap.size := (Array.getElem?_eq_some_iff.1 h).1
theorem AtI.c0 {w : World} {z : Nat} {x : Id2} (h : AtI w z x) : w.cell? ⟨z, 0, none⟩ = some (.int .u64 x.1) := by rw [cell_of_row w z 0 _ _ _ h]; rfl
theorem AtI.c1 {w : World} {z : Nat} {x : Id2} (h : AtI w z x) : w.cell? ⟨z, 1, none⟩ = some (.int .u64 x.2) := by rw [cell_of_row w z 1 _ _ _ h]; rfl
theorem AtI.fr {w : World} {z : Nat} {x : Id2} (h : AtI w z x) (j : Nat) : w.frozen? ⟨z, j, none⟩ = false := frozen_of_row w z j _ _ h
theorem AtI.new (w : World) (x : Id2) (z : Nat) (hz : z = w.heap.size) : AtI (w.alloc (.cells #[.int .u64 x.1, .int .u64 x.2] 35)) z x := by subst hz; exact heap_alloc_new w _
theorem AtI.alloc {w : World} {z : Nat} {x : Id2} (h : AtI w z x) (o : Obj) : AtI (w.alloc o) z x := by
  have := h.lt
  unfold AtI
  rw [← h]
  exact ((Kept.refl w).alloc o).heap this
theorem AtI.kept {w w' : World} {z : Nat} {x : Id2} (h : AtI w z x) (k : Kept w w') : AtI w' z x := (k.heap h.lt).trans h
theorem AtI.other {w : World} {z : Nat} {x : Id2} (h : AtI w z x) {p : Addr} (hp : p.block ≠ z) (u : Value) : AtI (w.setCell p u) z x := by
  unfold AtI
  rw [heap_setCell_other w p z u (fun e => hp e.symm)]
  exact h
theorem AtI.set2 {w : World} {z : Nat} {x y : Id2} (h : AtI w z x) : AtI ((w.setCell ⟨z, 0, none⟩ (.int .u64 y.1)).setCell ⟨z, 1, none⟩ (.int .u64 y.2)) z y := by
  have h1 := heap_setCell_same w z 0 _ _ (.int .u64 y.1) h
  have h2 := heap_setCell_same _ z 1 _ _ (.int .u64 y.2) h1
  exact h2
theorem kids_len (l : List Bk) (x : Id2) : (kidsC l x).length ≤ l.length := by
  unfold kidsC
  cases mayB l with
  | false => exact Nat.zero_le _
  | true => exact kidsB_le l x
theorem bestI_one {g : Id2 → Int} {q : List Id2} (h : 0 < q.length) : bestTo g (q.take 1) = some q[0] := by
  rcases q with _ | ⟨x, r⟩
  · simp at h
  · rfl
theorem bestI_hit {g : Id2 → Int} {q : List Id2} {m : Nat} (hm : m < q.length) {y : Id2} (h : bestTo g (q.take m) = some y) (b : beats g y q[m] = true) : bestTo g (q.take (m + 1)) = some q[m] := by
  rw [List.take_succ_eq_append_getElem hm]; exact bestTo_hit h b
theorem bestI_miss {g : Id2 → Int} {q : List Id2} {m : Nat} (hm : m < q.length) {y : Id2} (h : bestTo g (q.take m) = some y) (b : beats g y q[m] = false) : bestTo g (q.take (m + 1)) = some y := by
  rw [List.take_succ_eq_append_getElem hm]; exact bestTo_miss h b
theorem beats_more {g : Id2 → Int} {x y : Id2} (h : g x < g y) : beats g x y = true := beats_iff.2 (Or.inl h)
theorem beats_even {g : Id2 → Int} {x y : Id2} {b : Bool} (h : g y = g x) (hl : lessN x y = b) : beats g x y = b := by
  unfold beats
  rw [decide_eq_false (by omega), decide_eq_true h.symm, hl]
  simp
theorem beats_never {g : Id2 → Int} {x y : Id2} (h1 : ¬ g x < g y) (h2 : ¬ g y = g x) : beats g x y = false := beats_no.2 (by omega)

end Go.Proofs.YtlapcnfhnfkbmaaGreat
