/-
  The contract of Perm of the given package marigoldref04.
-/
import Derived.Test.YtigngppmiaejjaaShufRef
namespace Go.Proofs.Ytigngppmiaejjaa
open Go.ChangeShapes Go.WideShapes Go.ChangeAt Go.RowKit

def atL (seed n k : Nat) : List Int := (List.range k).map fun j => ((atN seed n j : Nat) : Int)
theorem atL_length (seed n k : Nat) : (atL seed n k).length = k := by simp [atL]
theorem atL_next (seed n k : Nat) : atL seed n k ++ [((atN seed n k : Nat) : Int)] = atL seed n (k + 1) := by simp [atL, List.range_succ]
theorem atL_get (seed n k j : Nat) (hj : j < (atL seed n k).length) : (atL seed n k)[j] = ((atN seed n j : Nat) : Int) := by simp [atL]

set_option maxHeartbeats 1600000 in
theorem refPerm_yes (seed n : Nat) (w : World) (hs : seed < 18446744073709551616) (hn0 : 1 ≤ n) (hn : n ≤ 1000) :
    Calls Try.prog 14 #[.int .u64 seed, .int .i64 n] w fun e w' => ∃ g c, e = .returned (.slice (some ⟨g, 0, none⟩) n c) ∧ g < w'.heap.size ∧ (∀ j, j < n → w'.cell? ⟨g, j, none⟩ = some (atV seed n j)) ∧ Kept w w' := by
  go_enter Try.func14, Try.ntmps14
  go_wp2_with fail
  go_loopw [5, 6] (fun v c w' => ∃ j : Nat, j ≤ n ∧ c = .int .i64 j ∧ Ints w (atL seed n j) v w') (fun _ c _ => n - (intOf c).toNat)
  case atStart => exact ⟨0, by omega, rfl, Ints.nil w⟩
  case round =>
    obtain ⟨j, hj, rfl, hI⟩ := hrel
    have HI := Lib.hid hI
    clear hI
    by_cases hlt : j < n
    · have HN := Lib.hid (atL_next seed n j)
      have HL := Lib.hid (atL_length seed n j)
      go_wp2_with fail
      refine (refAt_yes seed n j _ hs hn0 hn hlt).mono ?_
      rintro e w' ⟨rfl, rfl⟩
      generalize atN seed n j = x at *
      go_wp2_with (refine wpList_ints _ rfl _ _ rfl w (atL seed n j) _ rfl (HI.out.alloc _) _ _ 1 1 [(x : Int)] rfl rfl (CellsAt.one _ _ _ _ rfl) (by rw [HL.out]; omega) ?_; intro v' w' HI'; rw [HN.out] at HI')
      go_roundw
      case rel => exact ⟨j + 1, by omega, by go_num, by assumption⟩
      case measure => simp [intOf]; omega
    · have hjn : j = n := by omega
      subst hjn
      obtain ⟨g, c, rfl, hg, hc⟩ := HI.out.open (by rw [atL_length]; omega)
      have HC := Lib.hid hc
      have HG := Lib.hid hg
      have HL := Lib.hid (atL_length seed j j)
      clear hc hg
      rw [HL.out]
      go_wp2_with fail
      go_ret
      refine ⟨g, c, rfl, HG.out, fun i hi => ?_, HI.out.2⟩
      rw [HC.out i (by rw [atL_length]; exact hi), atL_get]
      rfl

set_option maxHeartbeats 800000 in
theorem refPerm_no (seed : Nat) (n : Int) (w : World) (h : sizeN n = false) :
    Calls Try.prog 14 #[.int .u64 seed, .int .i64 n] w fun e w' => e = .returned (.slice none 0 0) ∧ w = w' := by
  have h' := of_decide_eq_false h
  clear h
  have h2 : n ≤ 0 ∨ 1000 < n := by omega
  clear h'
  go_enter Try.func14, Try.ntmps14
  go_wp2_with fail
  go_loop [5, 6] (fun v c => v = .slice none 0 0 ∧ c = .int .i64 0) (fun _ _ => 0)
  case atStart => exact ⟨rfl, rfl⟩
  case round =>
    obtain ⟨rfl, rfl⟩ := hrel
    rcases h2 with h2 | h2
    · have h3 : decide (0 < n) = false := decide_eq_false (by omega)
      go_wp2_with fail
      go_ret
      exact ⟨rfl, rfl⟩
    · have h3 : 0 < n := by omega
      have h4 : decide (n ≤ 1000) = false := decide_eq_false (by omega)
      go_wp2_with fail
      go_ret
      exact ⟨rfl, rfl⟩

end Go.Proofs.Ytigngppmiaejjaa
