/-
  The contracts of the calls of the given package marigoldref04.
-/
import Derived.Test.YtpojiijgahcidaaGreatShufG
import Derived.Test.YtpojiijgahcidaaGreatMixRefG
namespace Go.Proofs.YtpojiijgahcidaaGreat
set_option maxRecDepth 100000
set_option linter.unusedVariables false
set_option linter.unusedSimpArgs false
open Go.ChangeShapes Go.WideShapes Go.ChangeAt Go.RowKit

set_option maxHeartbeats 1600000 in
theorem refRound_any (seed n r i : Nat) (w : World) (hs : seed < 18446744073709551616) (hn0 : 1 ≤ n) (hn : n ≤ 1000) (hr : r < 10) (hi : i < n) :
    Calls Tryz.prog 80 #[.int .u64 seed, .int .i64 n, .int .i64 r, .int .i64 i] w fun e w' => e = .returned (.int .i64 (roundN seed n r i)) ∧ w = w' := by
  have hnz : ¬ n = 0 := by omega
  have hwr : IntKind.u64.wrap (r : Int) = ((r : Nat) : Int) := by rw [IntKind.wrap_u64]; omega
  have hwn : IntKind.u64.wrap (n : Int) = ((n : Nat) : Int) := by rw [IntKind.wrap_u64]; omega
  have HT := Lib.hid (show (1000 : Int) + (r : Int) = ((1000 + r : Nat) : Int) by omega)
  have HTS := Lib.hid (show stepN seed (1000 + r) = turnN seed r from rfl)
  have htm : ((stepN seed r : Nat) : Int).tmod (n : Int) = ((pivotN seed n r : Nat) : Int) := by unfold pivotN; rw [Int.ofNat_tmod]
  have hpl : pivotN seed n r < n := pivotN_lt (by omega)
  have htl := turnN_lt seed r
  have HQ := Lib.hid (show roundN seed n r i = pickN (turnN seed r) i (mateN (pivotN seed n r) n i) from rfl)
  go_enter Tryz.func80, Tryz.ntmps80
  go_wp2_with fail
  refine (refStep_any seed r hs (by omega) _).mono ?_
  rintro e w' ⟨rfl, rfl⟩
  generalize pivotN seed n r = p at *
  generalize turnN seed r = t at *
  have hm := mate_int (p := p) hi
  have hml : mateN p n i < n := mateN_lt (by omega)
  generalize mateN p n i = m at *
  by_cases hlt : i < m
  · have HX := Lib.hid (show max i m = m by omega)
    have HS := Lib.hid (show pickN t i m = if stepN t m % 2 = 0 then i else m by unfold pickN; rw [HX.out])
    go_wp2_with fail
    rw [HT.out]
    refine (refStep_any seed (1000 + r) hs (by omega) _).mono ?_
    rintro e w' ⟨rfl, rfl⟩
    rw [HTS.out]
    go_wp2_with fail
    refine (refStep_any t m htl (by omega) _).mono ?_
    rintro e w' ⟨rfl, rfl⟩
    generalize stepN t m = s at *
    by_cases c : s % 2 = 0
    · have c1 : (s : Int).tmod 2 = 0 := by rw [show (2 : Int) = ((2 : Nat) : Int) from rfl, ← Int.ofNat_tmod, c]; rfl
      have HC := Lib.hid c
      clear c
      go_wp2_with fail
      go_ret
      exact ⟨by rw [HQ.out, HS.out, if_pos HC.out]; rfl, rfl⟩
    · have c1 : (s : Int).tmod 2 = 1 := by rw [show (2 : Int) = ((2 : Nat) : Int) from rfl, ← Int.ofNat_tmod, show s % 2 = 1 by omega]; rfl
      have HC := Lib.hid c
      clear c
      go_wp2_with fail
      go_ret
      exact ⟨by rw [HQ.out, HS.out, if_neg HC.out]; rfl, rfl⟩
  · have HX := Lib.hid (show max i m = i by omega)
    have HS := Lib.hid (show pickN t i m = if stepN t i % 2 = 0 then i else m by unfold pickN; rw [HX.out])
    go_wp2_with fail
    rw [HT.out]
    refine (refStep_any seed (1000 + r) hs (by omega) _).mono ?_
    rintro e w' ⟨rfl, rfl⟩
    rw [HTS.out]
    go_wp2_with fail
    refine (refStep_any t i htl (by omega) _).mono ?_
    rintro e w' ⟨rfl, rfl⟩
    generalize stepN t i = s at *
    by_cases c : s % 2 = 0
    · have c1 : (s : Int).tmod 2 = 0 := by rw [show (2 : Int) = ((2 : Nat) : Int) from rfl, ← Int.ofNat_tmod, c]; rfl
      have HC := Lib.hid c
      clear c
      go_wp2_with fail
      go_ret
      exact ⟨by rw [HQ.out, HS.out, if_pos HC.out]; rfl, rfl⟩
    · have c1 : (s : Int).tmod 2 = 1 := by rw [show (2 : Int) = ((2 : Nat) : Int) from rfl, ← Int.ofNat_tmod, show s % 2 = 1 by omega]; rfl
      have HC := Lib.hid c
      clear c
      go_wp2_with fail
      go_ret
      exact ⟨by rw [HQ.out, HS.out, if_neg HC.out]; rfl, rfl⟩

/-! ### may, At, Back -/
set_option maxHeartbeats 800000 in
theorem refMay_any (n i : Int) (w : World) :
    Calls Tryz.prog 79 #[.int .i64 n, .int .i64 i] w fun e w' => e = .returned (.bool (mayN n i)) ∧ w = w' := by
  by_cases h : (1 ≤ n ∧ n ≤ 1000) ∧ 0 ≤ i ∧ i < n
  · have HD := Lib.hid (show mayN n i = true from decide_eq_true h)
    obtain ⟨⟨h1, h2⟩, h3, h4⟩ := h
    go_enter Tryz.func79, Tryz.ntmps79
    go_wp2
    go_ret
    exact ⟨by rw [HD.out]; rfl, rfl⟩
  · have HD := Lib.hid (show mayN n i = false from decide_eq_false h)
    have HH := Lib.hid h
    clear h
    by_cases h1 : 1 ≤ n
    · by_cases h2 : n ≤ 1000
      · by_cases h3 : 0 ≤ i
        · have h4 : decide (i < n) = false := decide_eq_false (fun h => HH.out ⟨⟨h1, h2⟩, h3, h⟩)
          go_enter Tryz.func79, Tryz.ntmps79
          go_wp2
          go_ret
          exact ⟨by rw [HD.out]; first | rfl | (show Ending.returned (.bool (decide (i < n))) = _; rw [decide_eq_false (fun h => HH.out ⟨⟨h1, h2⟩, h3, h⟩)]), rfl⟩
        · go_enter Tryz.func79, Tryz.ntmps79
          go_wp2
          go_ret
          exact ⟨by rw [HD.out]; rfl, rfl⟩
      · go_enter Tryz.func79, Tryz.ntmps79
        go_wp2
        go_ret
        exact ⟨by rw [HD.out]; rfl, rfl⟩
    · go_enter Tryz.func79, Tryz.ntmps79
      go_wp2
      go_ret
      exact ⟨by rw [HD.out]; rfl, rfl⟩

set_option maxHeartbeats 800000 in
theorem refAt_yes (seed n i : Nat) (w : World) (hs : seed < 18446744073709551616) (hn0 : 1 ≤ n) (hn : n ≤ 1000) (hi : i < n) :
    Calls Tryz.prog 52 #[.int .u64 seed, .int .i64 n, .int .i64 i] w fun e w' => e = .returned (.int .i64 (atN seed n i)) ∧ w = w' := by
  have HD := Lib.hid (mayN_nat hn0 hn hi)
  go_enter Tryz.func52, Tryz.ntmps52
  go_wp2_with fail
  refine (refMay_any _ _ _).mono ?_
  rintro e w' ⟨rfl, rfl⟩
  rw [HD.out]
  go_wp2_with fail
  go_loop [2, 8] (fun x c => ∃ j : Nat, j ≤ 10 ∧ c = .int .i64 j ∧ x = .int .i64 (forthN seed n j i)) (fun _ c => 10 - (intOf c).toNat)
  case atStart => exact ⟨0, by omega, rfl, rfl⟩
  case round =>
    obtain ⟨j, hj, rfl, rfl⟩ := hrel
    by_cases hlt : j < 10
    · have HS := Lib.hid (show roundN seed n j (forthN seed n j i) = forthN seed n (j + 1) i from rfl)
      have hx := forthN_lt (seed := seed) hi j
      generalize forthN seed n j i = x at *
      go_wp2_with fail
      refine (refRound_any seed n j x _ hs hn0 hn hlt hx).mono ?_
      rintro e w' ⟨rfl, rfl⟩
      rw [HS.out]
      go_wp2_with fail
      go_round
      case rel => exact ⟨j + 1, by omega, by go_num, rfl⟩
      case measure => simp [intOf]; omega
    · have hj10 : j = 10 := by omega
      subst hj10
      have HE := Lib.hid (show forthN seed n 10 i = atN seed n i from rfl)
      go_wp2_with fail
      go_ret
      exact ⟨by rw [← HE.out]; rfl, rfl⟩

set_option maxHeartbeats 800000 in
theorem refAt_no (seed : Nat) (n i : Int) (w : World) (h : mayN n i = false) :
    Calls Tryz.prog 52 #[.int .u64 seed, .int .i64 n, .int .i64 i] w fun e w' => e = .returned (.int .i64 (-1)) ∧ w = w' := by
  have HD := Lib.hid h
  clear h
  go_enter Tryz.func52, Tryz.ntmps52
  go_wp2_with fail
  refine (refMay_any _ _ _).mono ?_
  rintro e w' ⟨rfl, rfl⟩
  rw [HD.out]
  go_wp2_with fail
  go_ret
  exact ⟨rfl, rfl⟩

theorem refAt_any (seed : Nat) (n i : Int) (w : World) (hs : seed < 18446744073709551616) :
    Calls Tryz.prog 52 #[.int .u64 seed, .int .i64 n, .int .i64 i] w fun e w' => e = .returned (.int .i64 (atI seed n i)) ∧ w = w' := by
  cases h : mayN n i with
  | true =>
    obtain ⟨m, j, rfl, rfl, h1, h2, h3⟩ := mayN_yes h
    rw [atI_yes h1 h2 h3]
    exact refAt_yes seed m j w hs h1 h2 h3
  | false => rw [atI_no h]; exact refAt_no seed n i w h

end Go.Proofs.YtpojiijgahcidaaGreat
