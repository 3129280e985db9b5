/-
  The contracts of strong and Strong of the given package marigoldref11.
-/
import Derived.Test.YthgammhjoajhoaaFfgRef
namespace Go.Proofs.Ythgammhjoajhoaa
set_option maxRecDepth 100000
set_option linter.unusedVariables false
set_option linter.unusedSimpArgs false
set_option linter.unusedSimpArgs false
set_option linter.unusedVariables false
open Go.ChangeShapes Go.WideShapes Go.ChangeAt Go.RowKit

theorem who_hit {v : List Lk} {s t : Ck} {j : Nat} (hj : j < v.length) (h1 : sameK v[j].s s = true) (h2 : sameK v[j].t t = true) : whoK (v.take (j + 1)) s t = whoK (v.take j) s t ++ [v[j].f] := by
  rw [List.take_succ_eq_append_getElem hj, whoK_hit _ (by unfold hitK; rw [h1, h2]; rfl)]
theorem who_miss {v : List Lk} {s t : Ck} {j : Nat} (hj : j < v.length) (h : sameK v[j].s s = false ∨ sameK v[j].t t = false) : whoK (v.take (j + 1)) s t = whoK (v.take j) s t := by
  rw [List.take_succ_eq_append_getElem hj, whoK_miss _ (by unfold hitK; rcases h with h | h <;> simp [h])]
theorem who_le (v : List Lk) (s t : Ck) (j : Nat) : (whoK (v.take j) s t).length ≤ j := Nat.le_trans (whoK_length _ _ _) (by rw [List.length_take]; omega)
theorem Ints.sliceW {W w : World} {l : List Int} {v : Value} (h : Ints W l v w) : ∃ A c, v = .slice A l.length c := by
  rcases h.1.2 with ⟨hv, h0⟩ | ⟨g, cap, cur, hv, _⟩
  · rw [h0]; exact ⟨_, _, hv⟩
  · exact ⟨_, _, hv⟩

end Go.Proofs.Ythgammhjoajhoaa
