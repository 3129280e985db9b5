/-
  The contracts of package shuffle's calls, from the loops over the rounds on.
-/
import Derived.Test.YtdidmgmfjfnliaaShuf
namespace Go.Proofs.Ytdidmgmfjfnliaa
open Go.ChangeShapes Go.WideShapes Go.ChangeAt Go.RowKit

set_option maxHeartbeats 800000 in
theorem forth_any (b seed n k i : Nat) (w : World) (hs : seed < 18446744073709551616) (hn0 : 1 ≤ n) (hn : n ≤ 1000) (hi : i < n) (H : Rnds b seed n k w) :
    Calls Try.prog 42 #[.pointer (some ⟨b, 0, none⟩), .int .i64 i] w fun e w' => e = .returned (.int .i64 (atN seed n i)) ∧ Rnds b seed n k w' ∧ But b w w' := by
  have HR := Lib.hid H
  clear H
  go_enter Try.func42, Try.ntmps42
  go_wp2_with fail
  go_loopw [1, 6] (fun x c w' => ∃ j : Nat, j ≤ 10 ∧ c = .int .i64 j ∧ x = .int .i64 (forthN seed n j i) ∧ Rnds b seed n k w' ∧ But b w w') (fun _ c _ => 10 - (intOf c).toNat)
  case atStart => exact ⟨0, by omega, rfl, rfl, HR.out, But.refl _ _⟩
  case round =>
    obtain ⟨j, hj, rfl, rfl, hR, hB⟩ := hrel
    have HN := Lib.hid hR
    have HB := Lib.hid hB
    clear hR hB
    by_cases hlt : j < 10
    · have HS := Lib.hid (show roundN seed n j (forthN seed n j i) = forthN seed n (j + 1) i from rfl)
      have hx := forthN_lt (seed := seed) hi j
      generalize forthN seed n j i = x at *
      go_wp2_with fail
      refine (take_any b seed n k j x _ hs hn0 hn hlt hx HN.out).mono ?_
      rintro e W1 ⟨rfl, hR, hB⟩
      rw [HS.out]
      have HN1 := Lib.hid hR
      have HB1 := Lib.hid (HB.out.trans hB)
      clear hR hB
      go_wp2_with fail
      go_roundw
      case rel => exact ⟨j + 1, by omega, by go_num, rfl, HN1.out, HB1.out⟩
      case measure => simp [intOf]; omega
    · have hj10 : j = 10 := by omega
      subst hj10
      have HE := Lib.hid (show forthN seed n 10 i = atN seed n i from rfl)
      go_wp2_with fail
      go_ret
      exact ⟨by rw [← HE.out]; rfl, HN.out, HB.out⟩

/-! ### Which places there are -/
def sizeN (n : Int) : Bool := decide (1 ≤ n ∧ n ≤ 1000)
theorem isSize_any (n : Int) (w : World) :
    Calls Try.prog 45 #[.int .i64 n] w fun e w' => e = .returned (.bool (sizeN n)) ∧ w = w' := by
  by_cases h1 : 1 ≤ n
  · by_cases h2 : n ≤ 1000
    · have HD := Lib.hid (show sizeN n = true from decide_eq_true ⟨h1, h2⟩)
      go_enter Try.func45, Try.ntmps45
      go_wp2
      go_ret
      exact ⟨by rw [HD.out]; first | rfl | (show Ending.returned (.bool (decide (n ≤ 1000))) = _; rw [decide_eq_false (by omega)]) | (show Ending.returned (.bool (decide (i < n))) = _; rw [decide_eq_false (by omega)]), rfl⟩
    · have HD := Lib.hid (show sizeN n = false from decide_eq_false (by omega))
      go_enter Try.func45, Try.ntmps45
      go_wp2
      go_ret
      exact ⟨by rw [HD.out]; first | rfl | (show Ending.returned (.bool (decide (n ≤ 1000))) = _; rw [decide_eq_false (by omega)]) | (show Ending.returned (.bool (decide (i < n))) = _; rw [decide_eq_false (by omega)]), rfl⟩
  · have HD := Lib.hid (show sizeN n = false from decide_eq_false (by omega))
    go_enter Try.func45, Try.ntmps45
    go_wp2
    go_ret
    exact ⟨by rw [HD.out]; first | rfl | (show Ending.returned (.bool (decide (n ≤ 1000))) = _; rw [decide_eq_false (by omega)]) | (show Ending.returned (.bool (decide (i < n))) = _; rw [decide_eq_false (by omega)]), rfl⟩

def mayN (n i : Int) : Bool := decide ((1 ≤ n ∧ n ≤ 1000) ∧ 0 ≤ i ∧ i < n)
set_option maxHeartbeats 800000 in
theorem isPlace_any (n i : Int) (w : World) :
    Calls Try.prog 41 #[.int .i64 n, .int .i64 i] w fun e w' => e = .returned (.bool (mayN n i)) ∧ w = w' := by
  by_cases h1 : 1 ≤ n ∧ n ≤ 1000
  · have H1 := Lib.hid (show sizeN n = true from decide_eq_true h1)
    by_cases h2 : 0 ≤ i
    · by_cases h3 : i < n
      · have HD := Lib.hid (show mayN n i = true from decide_eq_true ⟨h1, h2, h3⟩)
        go_enter Try.func41, Try.ntmps41
        go_wp2_with fail
        refine (isSize_any _ _).mono ?_
        rintro e w' ⟨rfl, rfl⟩
        rw [H1.out]
        go_wp2_with fail
        go_ret
        exact ⟨by rw [HD.out]; first | rfl | (show Ending.returned (.bool (decide (n ≤ 1000))) = _; rw [decide_eq_false (by omega)]) | (show Ending.returned (.bool (decide (i < n))) = _; rw [decide_eq_false (by omega)]), rfl⟩
      · have HD := Lib.hid (show mayN n i = false from decide_eq_false (by omega))
        go_enter Try.func41, Try.ntmps41
        go_wp2_with fail
        refine (isSize_any _ _).mono ?_
        rintro e w' ⟨rfl, rfl⟩
        rw [H1.out]
        go_wp2_with fail
        go_ret
        exact ⟨by rw [HD.out]; first | rfl | (show Ending.returned (.bool (decide (n ≤ 1000))) = _; rw [decide_eq_false (by omega)]) | (show Ending.returned (.bool (decide (i < n))) = _; rw [decide_eq_false (by omega)]), rfl⟩
    · have HD := Lib.hid (show mayN n i = false from decide_eq_false (by omega))
      go_enter Try.func41, Try.ntmps41
      go_wp2_with fail
      refine (isSize_any _ _).mono ?_
      rintro e w' ⟨rfl, rfl⟩
      rw [H1.out]
      go_wp2_with fail
      go_ret
      exact ⟨by rw [HD.out]; first | rfl | (show Ending.returned (.bool (decide (n ≤ 1000))) = _; rw [decide_eq_false (by omega)]) | (show Ending.returned (.bool (decide (i < n))) = _; rw [decide_eq_false (by omega)]), rfl⟩
  · have H1 := Lib.hid (show sizeN n = false from decide_eq_false h1)
    have HD := Lib.hid (show mayN n i = false from decide_eq_false (by omega))
    clear h1
    go_enter Try.func41, Try.ntmps41
    go_wp2_with fail
    refine (isSize_any _ _).mono ?_
    rintro e w' ⟨rfl, rfl⟩
    rw [H1.out]
    go_wp2_with fail
    go_ret
    exact ⟨by rw [HD.out]; first | rfl | (show Ending.returned (.bool (decide (n ≤ 1000))) = _; rw [decide_eq_false (by omega)]) | (show Ending.returned (.bool (decide (i < n))) = _; rw [decide_eq_false (by omega)]), rfl⟩

end Go.Proofs.Ytdidmgmfjfnliaa
