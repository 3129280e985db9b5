/-
  The contracts of MayIn and KidsIn of the given package marigoldref06.
-/
import Derived.Test.YteamjjkmcomabaaTreeRefG
namespace Go.Proofs.Yteamjjkmcomabaa
set_option maxRecDepth 100000
set_option linter.unusedVariables false
set_option linter.unusedSimpArgs false
set_option linter.unusedSimpArgs false
set_option linter.unusedVariables false
open Go.ChangeShapes Go.WideShapes Go.ChangeAt Go.RowKit

set_option maxHeartbeats 800000 in
theorem refMayIn6_any (A : Option Addr) (c : Nat) (l : List Bk) (hl : l.length ≤ 1000000) (N : Option Addr) (cn : Nat) (ns : List Id2) (hns : ns = namesB l) (hcn : ns.length ≤ cn) (w : World) (hA : CellsAt w w.heap.size A (blockCells l)) (hN : CellsAt w w.heap.size N (idsCells ns)) :
    Calls Try.prog 76 #[.slice A l.length c, .slice N ns.length cn] w fun e w' => e = .returned (.bool (mayB l)) ∧ Kept w w' := by
  have HM := Lib.hid (refMayIn_any A c l hl N cn ns hns hcn w hA hN)
  clear hA hN hns hcn
  generalize ns.length = n at *
  go_enter Try.func76, Try.ntmps76
  go_wp2_with fail
  refine HM.out.mono ?_
  rintro e W ⟨rfl, k1⟩
  have K1 := Lib.hid k1
  clear k1
  go_wp2_with fail
  go_ret
  exact ⟨rfl, K1.out⟩

end Go.Proofs.Yteamjjkmcomabaa
