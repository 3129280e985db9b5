/-
  The beginning's id, told.
-/
import Derived.Test.YteamjjkmcomabaaTreeG
namespace Go.Proofs.Yteamjjkmcomabaa
set_option maxRecDepth 100000
set_option linter.unusedVariables false
set_option linter.unusedSimpArgs false
open Go.ChangeShapes Go.WideShapes Go.ChangeAt Go.RowKit

theorem isZ_eq {x : Id2} (h : isZ x = true) : x = zid := of_decide_eq_true h
theorem isZ_ne {x : Id2} (h : isZ x = false) : x ≠ zid := of_decide_eq_false h

end Go.Proofs.Yteamjjkmcomabaa
