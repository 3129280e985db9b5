/-
  The contract of package shuffle's call At.
-/
import Derived.Test.YtdidmgmfjfnliaaShufFresh
namespace Go.Proofs.Ytdidmgmfjfnliaa
open Go.ChangeShapes Go.WideShapes Go.ChangeAt Go.RowKit

set_option maxRecDepth 100000 in
set_option maxHeartbeats 1600000 in
theorem at_yes (seed n i : Nat) (w : World) (hs : seed < 18446744073709551616) (hn0 : 1 ≤ n) (hn : n ≤ 1000) (hi : i < n) :
    Calls Try.prog 36 #[.int .u64 seed, .int .i64 n, .int .i64 i] w fun e w' => e = .returned (.int .i64 (atN seed n i)) ∧ Kept w w' := by
  have HD := Lib.hid (show mayN n i = true from decide_eq_true (by omega))
  go_enter Try.func36, Try.ntmps36
  go_wp2_with fail
  refine (isPlace_any _ _ _).mono ?_
  rintro e w' ⟨rfl, rfl⟩
  rw [HD.out]
  go_wp2_with (first
    | refine wpList_build_eq rfl _ _ rfl (freshC seed n) (freshC_built seed n) ?_
    | refine wpList_store_new rfl _ _ _ rfl _ (freshC seed n) rfl rfl freshC_info rfl (freshC_one seed n) ?_)
  have HR := Lib.hid (fresh_rnds seed n w 70)
  have HK : Kept w (w.alloc (.cells (freshC seed n) 70)) := (Kept.refl w).alloc _
  generalize w.alloc (.cells (freshC seed n) 70) = W1 at *
  refine (forth_any w.heap.size seed n 0 i W1 hs hn0 hn hi HR.out).mono ?_
  rintro e W2 ⟨rfl, hR, hB⟩
  have HB := Lib.hid (hB.kept HK (Nat.le_refl _))
  clear hR hB HR HK
  go_wp2_with fail
  go_ret
  exact ⟨rfl, HB.out⟩

set_option maxHeartbeats 800000 in
theorem at_no (seed : Nat) (n i : Int) (w : World) (h : mayN n i = false) :
    Calls Try.prog 36 #[.int .u64 seed, .int .i64 n, .int .i64 i] w fun e w' => e = .returned (.int .i64 (-1)) ∧ Kept w w' := by
  have HD := Lib.hid h
  clear h
  go_enter Try.func36, Try.ntmps36
  go_wp2_with fail
  refine (isPlace_any _ _ _).mono ?_
  rintro e w' ⟨rfl, rfl⟩
  rw [HD.out]
  go_wp2_with fail
  go_ret
  exact ⟨rfl, Kept.refl _⟩

/-! ### Whatever is asked -/
def atI (seed : Nat) (n i : Int) : Int := if mayN n i = true then ((atN seed n.toNat i.toNat : Nat) : Int) else -1
theorem mayN_yes {n i : Int} (h : mayN n i = true) : ∃ m j : Nat, n = m ∧ i = j ∧ 1 ≤ m ∧ m ≤ 1000 ∧ j < m := by
  have h' := of_decide_eq_true h
  exact ⟨n.toNat, i.toNat, by omega, by omega, by omega, by omega, by omega⟩
theorem mayN_nat {n i : Nat} (hn0 : 1 ≤ n) (hn : n ≤ 1000) (hi : i < n) : mayN n i = true := decide_eq_true (by omega)
theorem mayN_no {n i : Int} (h : ¬ ((1 ≤ n ∧ n ≤ 1000) ∧ 0 ≤ i ∧ i < n)) : mayN n i = false := decide_eq_false h
theorem atI_yes {seed n i : Nat} (hn0 : 1 ≤ n) (hn : n ≤ 1000) (hi : i < n) : atI seed n i = ((atN seed n i : Nat) : Int) := by unfold atI; rw [if_pos (mayN_nat hn0 hn hi)]; rfl
theorem atI_no {seed : Nat} {n i : Int} (h : mayN n i = false) : atI seed n i = -1 := by unfold atI; rw [if_neg (by rw [h]; decide)]
theorem at_any (seed : Nat) (n i : Int) (w : World) (hs : seed < 18446744073709551616) :
    Calls Try.prog 36 #[.int .u64 seed, .int .i64 n, .int .i64 i] w fun e w' => e = .returned (.int .i64 (atI seed n i)) ∧ Kept w w' := by
  cases h : mayN n i with
  | true =>
    obtain ⟨m, j, rfl, rfl, h1, h2, h3⟩ := mayN_yes h
    rw [atI_yes h1 h2 h3]
    exact at_yes seed m j w hs h1 h2 h3
  | false => rw [atI_no h]; exact at_no seed n i w h
end Go.Proofs.Ytdidmgmfjfnliaa
