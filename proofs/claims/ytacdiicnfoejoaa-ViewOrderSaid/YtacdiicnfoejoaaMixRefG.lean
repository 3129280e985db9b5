/-
  The contract of the call Of of the given package marigoldref02.
-/
import Derived.Test.YtacdiicnfoejoaaMixG
namespace Go.Proofs.Ytacdiicnfoejoaa
set_option maxRecDepth 100000
set_option linter.unusedVariables false
set_option linter.unusedSimpArgs false
open Go.ChangeShapes Go.WideShapes Go.ChangeAt Go.RowKit

/-! ### Of -/
theorem idOf_fold (l : List Nat) : idFold (l ++ [l.length]) = idOf l := by rw [idFold_snoc]; rfl
theorem take_next (L : List Nat) (k x : Nat) (h : L[k]? = some x) : idFold (L.take (k + 1)) = idStep (idFold (L.take k)) x := by
  obtain ⟨hk, rfl⟩ := List.getElem?_eq_some_iff.1 h
  rw [List.take_succ_eq_append_getElem hk, idFold_snoc]
theorem sub_int (x : Nat) (hx : x < 18446744073709551616) : 18446744073709551615 - (x : Int) = ((notN x : Nat) : Int) := by unfold notN; omega
theorem sub_wrap (x : Nat) (hx : x < 18446744073709551616) : IntKind.u64.wrap (18446744073709551615 - (x : Int)) = ((notN x : Nat) : Int) := by rw [IntKind.wrap_u64]; unfold notN; omega
theorem step_fst (p : Nat × Nat) (x : Nat) : (stepN p.1 x, stepN p.2 (notN x)) = idStep p x := by unfold idStep; rfl

end Go.Proofs.Ytacdiicnfoejoaa
