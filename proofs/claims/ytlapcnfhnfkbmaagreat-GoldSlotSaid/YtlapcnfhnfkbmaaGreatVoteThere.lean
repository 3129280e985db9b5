/-
  Is a vote there; votes of all but one (the helpers of layer 7's laws).
-/
import Derived.Test.YtlapcnfhnfkbmaaGreatVoteSame
namespace Go.Proofs.YtlapcnfhnfkbmaaGreat
set_option maxRecDepth 100000
set_option linter.unusedVariables false
set_option linter.unusedSimpArgs false
open Go.ChangeShapes Go.WideShapes Go.ChangeAt Go.RowKit

/-- Votes of all but one. -/
def wo (f : Int) (L : List Vt) : List Vt := L.filter fun v => decide (v.f ≠ f)
theorem wo_snoc_yes {f : Int} {L : List Vt} {v : Vt} (h : v.f ≠ f) : wo f (L ++ [v]) = wo f L ++ [v] := by simp [wo, h]
theorem wo_snoc_no {f : Int} {L : List Vt} {v : Vt} (h : v.f = f) : wo f (L ++ [v]) = wo f L := by simp [wo, h]
theorem wo_le (f : Int) (L : List Vt) : (wo f L).length ≤ L.length := List.length_filter_le _ _

end Go.Proofs.YtlapcnfhnfkbmaaGreat
