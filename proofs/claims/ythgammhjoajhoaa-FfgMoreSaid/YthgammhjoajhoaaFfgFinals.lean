/-
  The contract of Final of the given package marigoldref11.
-/
import Derived.Test.YthgammhjoajhoaaFfgFinal
namespace Go.Proofs.Ythgammhjoajhoaa
set_option maxRecDepth 100000
set_option linter.unusedVariables false
set_option linter.unusedSimpArgs false
set_option linter.unusedSimpArgs false
set_option linter.unusedVariables false
open Go.ChangeShapes Go.WideShapes Go.ChangeAt Go.RowKit

def FinalNew (k : Cf) (l : List Bk) (v : List Lk) (w : World) (e : Ending) (w' : World) : Prop := ∃ F A' c', Finals k l v F ∧ F.length ≤ v.length + 1 ∧ e = .returned (.slice A' F.length c') ∧ CellsAt w' w'.heap.size A' (cksCells F) ∧ F.length ≤ c' ∧ Kept w w'
theorem filter_hit {p : Ck → Bool} {R : List Ck} {j : Nat} (hj : j < R.length) (h : p R[j] = true) : (R.take (j + 1)).filter p = (R.take j).filter p ++ [R[j]] := by
  rw [List.take_succ_eq_append_getElem hj, List.filter_append]; simp [h]
theorem filter_miss {p : Ck → Bool} {R : List Ck} {j : Nat} (hj : j < R.length) (h : p R[j] = false) : (R.take (j + 1)).filter p = (R.take j).filter p := by
  rw [List.take_succ_eq_append_getElem hj, List.filter_append, List.filter_cons_of_neg (by simp [h])]; simp
theorem filter_le (p : Ck → Bool) (R : List Ck) (j : Nat) : ((R.take j).filter p).length ≤ j := Nat.le_trans (List.length_filter_le _ _) (by rw [List.length_take]; omega)

end Go.Proofs.Ythgammhjoajhoaa
