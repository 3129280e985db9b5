/-
  The contracts of package mix's calls fold, Word and Step.
-/
import Derived.Test.YtepgbnojbomicaaMixMath
import Derived.Test.YtepgbnojbomicaaRow
import Derived.Lib.Zigzag
import Derived.Deep.QuietTactic
import Derived.BigQuiet
import Derived.Deep.RegionHeld3
import Derived.StillTailTactics
namespace Go.Proofs.Ytepgbnojbomicaa
open Go.ChangeShapes Go.WideShapes Go.ChangeAt Go.RowKit

/-! ### fold, Word, Step -/
theorem ret_int {k : IntKind} {a b : Int} (h : a = b) : Ending.returned (.int k a) = .returned (.int k b) := by rw [h]
theorem fold_int (x n : Nat) (hx : x < 18446744073709551616) : bits .xor .u64 (x : Int) ((x : Int) / 2 ^ n) = ((foldN x n : Nat) : Int) := by
  have h := xorShift_u64 x (2 ^ n) hx
  rw [Int.natCast_pow] at h
  exact h
set_option maxHeartbeats 400000 in
theorem fold_any (x n : Nat) (hx : x < 18446744073709551616) (hn : n ≤ 63) (w : World) :
    Calls Try.prog 43 #[.int .u64 x, .int .u64 n] w fun e w' => e = .returned (.int .u64 (foldN x n)) ∧ w = w' := by
  go_enter Try.func43, Try.ntmps43
  go_wp2
  go_ret
  exact ⟨ret_int (fold_int x n hx), rfl⟩

theorem mul1_int (a : Nat) : IntKind.u64.wrap ((a : Int) * 13787848793156543929) = ((mulM a 13787848793156543929 : Nat) : Int) := by
  rw [IntKind.wrap_u64]; unfold mulM; omega
theorem mul2_int (a : Nat) : IntKind.u64.wrap ((a : Int) * 10723151780598845931) = ((mulM a 10723151780598845931 : Nat) : Int) := by
  rw [IntKind.wrap_u64]; unfold mulM; omega
theorem add_int (h x : Nat) (hh : h < 18446744073709551616) (hx : x < 18446744073709551616) :
    IntKind.u64.wrap (bits .xor .u64 (h : Int) (x : Int) + 11400714819323198485) = ((((h ^^^ x) + 11400714819323198485) % 18446744073709551616 : Nat) : Int) := by
  rw [bits_xor_u64_nat h x hh hx, IntKind.wrap_u64]; omega
theorem u64_signed : IntKind.u64.signed = false := rfl
theorem not_int (x : Nat) (hx : x < 18446744073709551616) : bits .xor .u64 IntKind.u64.max (x : Int) = ((notN x : Nat) : Int) := by
  have h := bits_xor_u64_nat 18446744073709551615 x (by decide) hx
  have k := Lib.xor_ones64 x hx
  rw [show IntKind.u64.max = ((18446744073709551615 : Nat) : Int) from rfl, h]
  exact congrArg Int.ofNat k

set_option maxHeartbeats 400000 in
theorem word_any (x : Nat) (hx : x < 18446744073709551616) (w : World) :
    Calls Try.prog 41 #[.int .u64 x] w fun e w' => e = .returned (.int .u64 (wordN x)) ∧ w = w' := by
  go_enter Try.func41, Try.ntmps41
  go_wp2_with fail
  refine (fold_any _ 30 hx (by omega) _).mono ?_
  rintro e w' ⟨rfl, rfl⟩
  go_wp2_with fail
  rw [mul1_int]
  refine (fold_any _ 27 (mulM_lt _ _) (by omega) _).mono ?_
  rintro e w' ⟨rfl, rfl⟩
  go_wp2_with fail
  rw [mul2_int]
  refine (fold_any _ 31 (mulM_lt _ _) (by omega) _).mono ?_
  rintro e w' ⟨rfl, rfl⟩
  go_wp2_with fail
  go_ret
  exact ⟨rfl, rfl⟩
set_option maxHeartbeats 400000 in
theorem step_any (h x : Nat) (hh : h < 18446744073709551616) (hx : x < 18446744073709551616) (w : World) :
    Calls Try.prog 38 #[.int .u64 h, .int .u64 x] w fun e w' => e = .returned (.int .u64 (stepN h x)) ∧ w = w' := by
  go_enter Try.func38, Try.ntmps38
  go_wp2_with fail
  rw [add_int _ _ hh hx]
  refine (word_any _ (Nat.mod_lt _ (by decide)) _).mono ?_
  rintro e w' ⟨rfl, rfl⟩
  go_wp2_with fail
  go_ret
  exact ⟨rfl, rfl⟩
theorem still_of {P : Program} {f : FuncId} {args : Array Value} {w : World} {v : Value} (h : Calls P f args w fun e w' => e = .returned v ∧ w = w') : Calls P f args w fun e w' => e = .returned v ∧ w' = w :=
  h.mono fun _ _ ⟨he, hw⟩ => ⟨he, hw.symm⟩

end Go.Proofs.Ytepgbnojbomicaa
