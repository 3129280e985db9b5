/-
  The contracts of the calls fold, Word and Step of the given package marigoldref02.
-/
import Derived.Test.YtepgbnojbomicaaMixStep
namespace Go.Proofs.Ytepgbnojbomicaa
open Go.ChangeShapes Go.WideShapes Go.ChangeAt Go.RowKit

/-! ### fold, Word, Step -/
set_option maxHeartbeats 400000 in
theorem refFold_any (x n : Nat) (hx : x < 18446744073709551616) (hn : n ≤ 63) (w : World) :
    Calls Try.prog 44 #[.int .u64 x, .int .u64 n] w fun e w' => e = .returned (.int .u64 (foldN x n)) ∧ w = w' := by
  go_enter Try.func44, Try.ntmps44
  go_wp2
  go_ret
  exact ⟨ret_int (fold_int x n hx), rfl⟩

set_option maxHeartbeats 400000 in
theorem refWord_any (x : Nat) (hx : x < 18446744073709551616) (w : World) :
    Calls Try.prog 42 #[.int .u64 x] w fun e w' => e = .returned (.int .u64 (wordN x)) ∧ w = w' := by
  go_enter Try.func42, Try.ntmps42
  go_wp2_with fail
  refine (refFold_any _ 30 hx (by omega) _).mono ?_
  rintro e w' ⟨rfl, rfl⟩
  go_wp2_with fail
  rw [mul1_int]
  refine (refFold_any _ 27 (mulM_lt _ _) (by omega) _).mono ?_
  rintro e w' ⟨rfl, rfl⟩
  go_wp2_with fail
  rw [mul2_int]
  refine (refFold_any _ 31 (mulM_lt _ _) (by omega) _).mono ?_
  rintro e w' ⟨rfl, rfl⟩
  go_wp2_with fail
  go_ret
  exact ⟨rfl, rfl⟩
set_option maxHeartbeats 400000 in
theorem refStep_any (h x : Nat) (hh : h < 18446744073709551616) (hx : x < 18446744073709551616) (w : World) :
    Calls Try.prog 39 #[.int .u64 h, .int .u64 x] w fun e w' => e = .returned (.int .u64 (stepN h x)) ∧ w = w' := by
  go_enter Try.func39, Try.ntmps39
  go_wp2_with fail
  rw [add_int _ _ hh hx]
  refine (refWord_any _ (Nat.mod_lt _ (by decide)) _).mono ?_
  rintro e w' ⟨rfl, rfl⟩
  go_wp2_with fail
  go_ret
  exact ⟨rfl, rfl⟩

end Go.Proofs.Ytepgbnojbomicaa
