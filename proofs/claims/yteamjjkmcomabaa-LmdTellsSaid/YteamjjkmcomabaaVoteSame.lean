/-
  Lists that are the same, held against one another; is a vote there; votes of all but one.
-/
import Derived.Test.YteamjjkmcomabaaVoteDoubles
namespace Go.Proofs.Yteamjjkmcomabaa
set_option maxRecDepth 100000
set_option linter.unusedVariables false
set_option linter.unusedSimpArgs false
open Go.ChangeShapes Go.WideShapes Go.ChangeAt Go.RowKit

theorem num_at {w : World} {B : Nat} {A : Option Addr} {l : List Int} (h : CellsAt w B A (intCells l)) {i : Nat} (hi : i < l.length) : ∃ z o, A = some ⟨z, o, none⟩ ∧ z < B ∧ w.cell? ⟨z, o + i, none⟩ = some (.int .i64 l[i]) := by
  obtain ⟨z, o, e, hb, hc⟩ := h.plain (by rw [intCells_length]; omega)
  exact ⟨z, o, e, hb, hc i _ (by simp [intCells, hi])⟩

theorem sameV_self (v : Vt) : sameV v v = true := sameV_iff.2 rfl

end Go.Proofs.Yteamjjkmcomabaa
