/-
  For every conf, every slot and every number marigoldlaw05.DutyAll returns true and leaves its arguments as they were: no further condition.
-/
import Derived.Test.YtdidmgmfjfnliaaDutyAllNeg
namespace Go.Proofs.Ytdidmgmfjfnliaa.dutyAll
open Go.ChangeShapes Go.WideShapes Go.ChangeAt Go.RowKit
set_option linter.unusedVariables false

/-! ### The walk: the call returns true, and of what was there nothing has changed. -/
set_option maxRecDepth 100000 in
set_option maxHeartbeats 3200000 in
theorem walk (w : World) (kA : Option Addr) (kc : Nat) (k : Cf) (khm : k.ws.length ≤ maxLen) (khs : k.seed < 18446744073709551616) (khl : CellsAt w w.heap.size kA (intCells k.ws)) (slot : Int) (hslot1 : -9223372036854775808 ≤ slot) (hslot2 : slot ≤ 9223372036854775807) (who : Int) (hwho1 : -9223372036854775808 ≤ who) (hwho2 : who ≤ 9223372036854775807) :
    Calls Try.prog 7 #[.agg #[.slice kA k.ws.length kc, .int .u64 k.seed, .int .i64 k.ep, .int .i64 k.nu, .int .i64 k.de], .int .i64 slot, .int .i64 who] w fun e w' => e = .returned (.bool true) ∧ Kept w w' := by
  by_cases hn : k.ws.length > 40
  · obtain ⟨hC, hA, hK⟩ := conf_box (c := kc) khl
    have HC0 := Lib.hid hC
    have HA0 := Lib.hid hA
    have HK0 := Lib.hid hK
    clear hC hA hK khl
    go_enter Try.func7, Try.ntmps7
    go_wp2_with fail
    generalize w.alloc (.cells #[.slice kA k.ws.length kc, .int .u64 k.seed, .int .i64 k.ep, .int .i64 k.nu, .int .i64 k.de] 25) = W0 at *
    generalize w.heap.size = z at *
    refine (dutyAwake _).mono ?_
    rintro e W1 ⟨rfl, k1⟩
    have HC1 := Lib.hid (HC0.out.kept k1)
    have HA1 := Lib.hid (HA0.out.kept k1)
    have HK1 := Lib.hid (HK0.out.trans k1)
    clear k1 HC0 HA0 HK0
    obtain ⟨c0, c1, c2, c3, c4⟩ := HC1.out.five
    have hz := HC1.out.1
    go_wp2_with fail
    clear c0 c1 c2 c3 c4 hz
    go_ret
    exact ⟨rfl, HK1.out⟩
  · cases hm : mayC k with
    | false =>
      have hd := dutyC_may (slot := slot) hm
      have HCo := Lib.hid (commC_no hd)
      have HT := Lib.hid (totalC_no hm)
      have HI := Lib.hid (inC_no (who := who) hd)
      have HWt := Lib.hid (weightC_no [0, 1] hm)
      have HMM := Lib.hid hm
      clear hd
      obtain ⟨hC, hA, hK⟩ := conf_box (c := kc) khl
      have HC0 := Lib.hid hC
      have HA0 := Lib.hid hA
      have HK0 := Lib.hid hK
      clear hC hA hK khl
      go_enter Try.func7, Try.ntmps7
      go_wp2_with fail
      generalize w.alloc (.cells #[.slice kA k.ws.length kc, .int .u64 k.seed, .int .i64 k.ep, .int .i64 k.nu, .int .i64 k.de] 25) = W0 at *
      generalize w.heap.size = z at *
      have HM := HMM
      refine (dutyAwake _).mono ?_
      rintro e W1 ⟨rfl, k1⟩
      have HC1 := Lib.hid (HC0.out.kept k1)
      have HA1 := Lib.hid (HA0.out.kept k1)
      have HK1 := Lib.hid (HK0.out.trans k1)
      clear k1 HC0 HA0 HK0
      obtain ⟨c0, c1, c2, c3, c4⟩ := HC1.out.five
      have hz := HC1.out.1
      go_wp2_with fail
      clear c0 c1 c2 c3 c4 hz
      refine (may_any kA kc k _ HA1.out).mono ?_
      rintro e W2 ⟨rfl, k1⟩
      rw [HM.out]
      have HC2 := Lib.hid (HC1.out.kept k1)
      have HA2 := Lib.hid (HA1.out.kept k1)
      have HK2 := Lib.hid (HK1.out.trans k1)
      clear k1 HC1 HA1 HK1
      obtain ⟨c0, c1, c2, c3, c4⟩ := HC2.out.five
      have hz := HC2.out.1
      go_wp2_with fail
      clear c0 c1 c2 c3 c4 hz
      refine (comm_any kA kc k slot _ HA2.out khs).mono ?_
      rintro e W3 ⟨A', c', rfl, _, k1⟩
      rw [HCo.out]
      have HC3 := Lib.hid (HC2.out.kept k1)
      have HA3 := Lib.hid (HA2.out.kept k1)
      have HK3 := Lib.hid (HK2.out.trans k1)
      clear k1 HC2 HA2 HK2
      obtain ⟨c0, c1, c2, c3, c4⟩ := HC3.out.five
      have hz := HC3.out.1
      go_wp2_with fail
      clear c0 c1 c2 c3 c4 hz
      refine (total_any kA kc k _ HA3.out).mono ?_
      rintro e W4 ⟨rfl, k1⟩
      rw [HT.out]
      have HC4 := Lib.hid (HC3.out.kept k1)
      have HA4 := Lib.hid (HA3.out.kept k1)
      have HK4 := Lib.hid (HK3.out.trans k1)
      clear k1 HC3 HA3 HK3
      obtain ⟨c0, c1, c2, c3, c4⟩ := HC4.out.five
      have hz := HC4.out.1
      go_wp2_with fail
      clear c0 c1 c2 c3 c4 hz
      refine (weight_no kA kc k _ [0, 1] _ _ (HA4.out.kept ((Kept.refl _).alloc _)) HMM.out).mono ?_
      rintro e W5 ⟨rfl, k0⟩
      have k1 := ((Kept.refl _).alloc _).trans k0
      clear k0
      rw [HWt.out]
      have HC5 := Lib.hid (HC4.out.kept k1)
      have HA5 := Lib.hid (HA4.out.kept k1)
      have HK5 := Lib.hid (HK4.out.trans k1)
      clear k1 HC4 HA4 HK4
      obtain ⟨c0, c1, c2, c3, c4⟩ := HC5.out.five
      have hz := HC5.out.1
      go_wp2_with fail
      clear c0 c1 c2 c3 c4 hz
      refine (in_any kA kc k slot who _ HA5.out khs).mono ?_
      rintro e W6 ⟨rfl, k1⟩
      rw [HI.out]
      have HC6 := Lib.hid (HC5.out.kept k1)
      have HA6 := Lib.hid (HA5.out.kept k1)
      have HK6 := Lib.hid (HK5.out.trans k1)
      clear k1 HC5 HA5 HK5
      obtain ⟨c0, c1, c2, c3, c4⟩ := HC6.out.five
      have hz := HC6.out.1
      go_wp2_with fail
      clear c0 c1 c2 c3 c4 hz
      go_ret
      exact ⟨rfl, HK6.out⟩
    | true =>
      have HM := Lib.hid hm
      by_cases h1 : slot < 1
      · clear hm
        obtain ⟨hC, hA, hK⟩ := conf_box (c := kc) khl
        have HC0 := Lib.hid hC
        have HA0 := Lib.hid hA
        have HK0 := Lib.hid hK
        clear hC hA hK khl
        go_enter Try.func7, Try.ntmps7
        go_wp2_with fail
        generalize w.alloc (.cells #[.slice kA k.ws.length kc, .int .u64 k.seed, .int .i64 k.ep, .int .i64 k.nu, .int .i64 k.de] 25) = W0 at *
        generalize w.heap.size = z at *
        refine (dutyAwake _).mono ?_
        rintro e W1 ⟨rfl, k1⟩
        have HC1 := Lib.hid (HC0.out.kept k1)
        have HA1 := Lib.hid (HA0.out.kept k1)
        have HK1 := Lib.hid (HK0.out.trans k1)
        clear k1 HC0 HA0 HK0
        obtain ⟨c0, c1, c2, c3, c4⟩ := HC1.out.five
        have hz := HC1.out.1
        go_wp2_with fail
        clear c0 c1 c2 c3 c4 hz
        refine (may_any kA kc k _ HA1.out).mono ?_
        rintro e W2 ⟨rfl, k1⟩
        rw [HM.out]
        have HC2 := Lib.hid (HC1.out.kept k1)
        have HA2 := Lib.hid (HA1.out.kept k1)
        have HK2 := Lib.hid (HK1.out.trans k1)
        clear k1 HC1 HA1 HK1
        obtain ⟨c0, c1, c2, c3, c4⟩ := HC2.out.five
        have hz := HC2.out.1
        go_wp2_with fail
        clear c0 c1 c2 c3 c4 hz
        go_ret
        exact ⟨rfl, HK2.out⟩
      · by_cases h2 : slot > 1048576
        · clear hm
          obtain ⟨hC, hA, hK⟩ := conf_box (c := kc) khl
          have HC0 := Lib.hid hC
          have HA0 := Lib.hid hA
          have HK0 := Lib.hid hK
          clear hC hA hK khl
          go_enter Try.func7, Try.ntmps7
          go_wp2_with fail
          generalize w.alloc (.cells #[.slice kA k.ws.length kc, .int .u64 k.seed, .int .i64 k.ep, .int .i64 k.nu, .int .i64 k.de] 25) = W0 at *
          generalize w.heap.size = z at *
          refine (dutyAwake _).mono ?_
          rintro e W1 ⟨rfl, k1⟩
          have HC1 := Lib.hid (HC0.out.kept k1)
          have HA1 := Lib.hid (HA0.out.kept k1)
          have HK1 := Lib.hid (HK0.out.trans k1)
          clear k1 HC0 HA0 HK0
          obtain ⟨c0, c1, c2, c3, c4⟩ := HC1.out.five
          have hz := HC1.out.1
          go_wp2_with fail
          clear c0 c1 c2 c3 c4 hz
          refine (may_any kA kc k _ HA1.out).mono ?_
          rintro e W2 ⟨rfl, k1⟩
          rw [HM.out]
          have HC2 := Lib.hid (HC1.out.kept k1)
          have HA2 := Lib.hid (HA1.out.kept k1)
          have HK2 := Lib.hid (HK1.out.trans k1)
          clear k1 HC1 HA1 HK1
          obtain ⟨c0, c1, c2, c3, c4⟩ := HC2.out.five
          have hz := HC2.out.1
          go_wp2_with fail
          clear c0 c1 c2 c3 c4 hz
          go_ret
          exact ⟨rfl, HK2.out⟩
        · by_cases h3 : k.ep = 1
          · by_cases h4 : 0 ≤ who
            · by_cases h5 : who < (k.ws.length : Int)
              · have hd : dutyC k slot = true := by rw [dutyC_slot hm]; exact decide_eq_true (by omega)
                have HCL := Lib.hid (all_comm hd h3)
                have HIN := Lib.hid (all_in hd h3 who)
                have h3b : (k.ep != 1) = false := by rw [h3]; rfl
                clear hm hd h3
                have HIV := Lib.hid (HIN.out.trans (show validC k who = true from decide_eq_true ⟨h4, h5⟩))
                obtain ⟨hC, hA, hK⟩ := conf_box (c := kc) khl
                have HC0 := Lib.hid hC
                have HA0 := Lib.hid hA
                have HK0 := Lib.hid hK
                clear hC hA hK khl
                go_enter Try.func7, Try.ntmps7
                go_wp2_with fail
                generalize w.alloc (.cells #[.slice kA k.ws.length kc, .int .u64 k.seed, .int .i64 k.ep, .int .i64 k.nu, .int .i64 k.de] 25) = W0 at *
                generalize w.heap.size = z at *
                refine (dutyAwake _).mono ?_
                rintro e W1 ⟨rfl, k1⟩
                have HC1 := Lib.hid (HC0.out.kept k1)
                have HA1 := Lib.hid (HA0.out.kept k1)
                have HK1 := Lib.hid (HK0.out.trans k1)
                clear k1 HC0 HA0 HK0
                obtain ⟨c0, c1, c2, c3, c4⟩ := HC1.out.five
                have hz := HC1.out.1
                go_wp2_with fail
                clear c0 c1 c2 c3 c4 hz
                refine (may_any kA kc k _ HA1.out).mono ?_
                rintro e W2 ⟨rfl, k1⟩
                rw [HM.out]
                have HC2 := Lib.hid (HC1.out.kept k1)
                have HA2 := Lib.hid (HA1.out.kept k1)
                have HK2 := Lib.hid (HK1.out.trans k1)
                clear k1 HC1 HA1 HK1
                obtain ⟨c0, c1, c2, c3, c4⟩ := HC2.out.five
                have hz := HC2.out.1
                go_wp2_with fail
                clear c0 c1 c2 c3 c4 hz
                obtain ⟨c0, c1, c2, c3, c4⟩ := HC2.out.five
                have hz := HC2.out.1
                have HCM := Lib.hid (fun w' (hk : w'.cell? ⟨z, 0, none⟩ = some (.slice kA k.ws.length kc) ∧ w'.cell? ⟨z, 1, none⟩ = some (.int .u64 k.seed) ∧ w'.cell? ⟨z, 2, none⟩ = some (.int .i64 k.ep) ∧ w'.cell? ⟨z, 3, none⟩ = some (.int .i64 k.nu) ∧ w'.cell? ⟨z, 4, none⟩ = some (.int .i64 k.de) ∧ Kept W2 w') => (comm_any kA kc k slot w' (HA2.out.kept hk.2.2.2.2.2) khs).mono (R' := fun e w'' => ∃ A' c', e = .returned (.slice A' k.ws.length c') ∧ Kept w' w'') (fun e w'' ⟨A', c', he, _, hk'⟩ => ⟨A', c', by rw [he, HCL.out], hk'⟩))
                have HIM := Lib.hid (fun w' (hk : w'.cell? ⟨z, 0, none⟩ = some (.slice kA k.ws.length kc) ∧ w'.cell? ⟨z, 1, none⟩ = some (.int .u64 k.seed) ∧ w'.cell? ⟨z, 2, none⟩ = some (.int .i64 k.ep) ∧ w'.cell? ⟨z, 3, none⟩ = some (.int .i64 k.nu) ∧ w'.cell? ⟨z, 4, none⟩ = some (.int .i64 k.de) ∧ Kept W2 w') => in_any kA kc k slot who w' (HA2.out.kept hk.2.2.2.2.2) khs)
                go_region_held3 (fun w' => w'.cell? ⟨z, 0, none⟩ = some (.slice kA k.ws.length kc) ∧ w'.cell? ⟨z, 1, none⟩ = some (.int .u64 k.seed) ∧ w'.cell? ⟨z, 2, none⟩ = some (.int .i64 k.ep) ∧ w'.cell? ⟨z, 3, none⟩ = some (.int .i64 k.nu) ∧ w'.cell? ⟨z, 4, none⟩ = some (.int .i64 k.de) ∧ Kept W2 w')
                  (first | exact ⟨c0, c1, c2, c3, c4, Kept.refl _⟩ | exact ⟨c0, c1, c2, c3, c4, (Kept.refl _).drew⟩ | assumption | exact five_keep hz (by assumption) (by assumption))
                  (first
                    | (go_at_call 14; ((with_reducible refine (HCM.out _ (by assumption)).mono ?_); rintro e w' ⟨A', c', rfl, kk⟩))
                    | (go_at_call 21; ((with_reducible refine (HIM.out _ (by assumption)).mono ?_); rintro e w' ⟨rfl, kk⟩; rw [HIV.out])))
                all_goals
                  rename_i hh
                  have hk := Lib.hid (HK2.out.trans hh.2.2.2.2.2)
                  clear hh
                  go_wp2_with fail
                  go_ret
                  exact ⟨by first | rfl | (simp; done) | (simp; omega), hk.out⟩
              · have hd : dutyC k slot = true := by rw [dutyC_slot hm]; exact decide_eq_true (by omega)
                have HCL := Lib.hid (all_comm hd h3)
                have HIN := Lib.hid (all_in hd h3 who)
                have h3b : (k.ep != 1) = false := by rw [h3]; rfl
                clear hm hd h3
                have HIV := Lib.hid (HIN.out.trans (show validC k who = false from decide_eq_false (by omega)))
                obtain ⟨hC, hA, hK⟩ := conf_box (c := kc) khl
                have HC0 := Lib.hid hC
                have HA0 := Lib.hid hA
                have HK0 := Lib.hid hK
                clear hC hA hK khl
                go_enter Try.func7, Try.ntmps7
                go_wp2_with fail
                generalize w.alloc (.cells #[.slice kA k.ws.length kc, .int .u64 k.seed, .int .i64 k.ep, .int .i64 k.nu, .int .i64 k.de] 25) = W0 at *
                generalize w.heap.size = z at *
                refine (dutyAwake _).mono ?_
                rintro e W1 ⟨rfl, k1⟩
                have HC1 := Lib.hid (HC0.out.kept k1)
                have HA1 := Lib.hid (HA0.out.kept k1)
                have HK1 := Lib.hid (HK0.out.trans k1)
                clear k1 HC0 HA0 HK0
                obtain ⟨c0, c1, c2, c3, c4⟩ := HC1.out.five
                have hz := HC1.out.1
                go_wp2_with fail
                clear c0 c1 c2 c3 c4 hz
                refine (may_any kA kc k _ HA1.out).mono ?_
                rintro e W2 ⟨rfl, k1⟩
                rw [HM.out]
                have HC2 := Lib.hid (HC1.out.kept k1)
                have HA2 := Lib.hid (HA1.out.kept k1)
                have HK2 := Lib.hid (HK1.out.trans k1)
                clear k1 HC1 HA1 HK1
                obtain ⟨c0, c1, c2, c3, c4⟩ := HC2.out.five
                have hz := HC2.out.1
                go_wp2_with fail
                clear c0 c1 c2 c3 c4 hz
                obtain ⟨c0, c1, c2, c3, c4⟩ := HC2.out.five
                have hz := HC2.out.1
                have HCM := Lib.hid (fun w' (hk : w'.cell? ⟨z, 0, none⟩ = some (.slice kA k.ws.length kc) ∧ w'.cell? ⟨z, 1, none⟩ = some (.int .u64 k.seed) ∧ w'.cell? ⟨z, 2, none⟩ = some (.int .i64 k.ep) ∧ w'.cell? ⟨z, 3, none⟩ = some (.int .i64 k.nu) ∧ w'.cell? ⟨z, 4, none⟩ = some (.int .i64 k.de) ∧ Kept W2 w') => (comm_any kA kc k slot w' (HA2.out.kept hk.2.2.2.2.2) khs).mono (R' := fun e w'' => ∃ A' c', e = .returned (.slice A' k.ws.length c') ∧ Kept w' w'') (fun e w'' ⟨A', c', he, _, hk'⟩ => ⟨A', c', by rw [he, HCL.out], hk'⟩))
                have HIM := Lib.hid (fun w' (hk : w'.cell? ⟨z, 0, none⟩ = some (.slice kA k.ws.length kc) ∧ w'.cell? ⟨z, 1, none⟩ = some (.int .u64 k.seed) ∧ w'.cell? ⟨z, 2, none⟩ = some (.int .i64 k.ep) ∧ w'.cell? ⟨z, 3, none⟩ = some (.int .i64 k.nu) ∧ w'.cell? ⟨z, 4, none⟩ = some (.int .i64 k.de) ∧ Kept W2 w') => in_any kA kc k slot who w' (HA2.out.kept hk.2.2.2.2.2) khs)
                go_region_held3 (fun w' => w'.cell? ⟨z, 0, none⟩ = some (.slice kA k.ws.length kc) ∧ w'.cell? ⟨z, 1, none⟩ = some (.int .u64 k.seed) ∧ w'.cell? ⟨z, 2, none⟩ = some (.int .i64 k.ep) ∧ w'.cell? ⟨z, 3, none⟩ = some (.int .i64 k.nu) ∧ w'.cell? ⟨z, 4, none⟩ = some (.int .i64 k.de) ∧ Kept W2 w')
                  (first | exact ⟨c0, c1, c2, c3, c4, Kept.refl _⟩ | exact ⟨c0, c1, c2, c3, c4, (Kept.refl _).drew⟩ | assumption | exact five_keep hz (by assumption) (by assumption))
                  (first
                    | (go_at_call 14; ((with_reducible refine (HCM.out _ (by assumption)).mono ?_); rintro e w' ⟨A', c', rfl, kk⟩))
                    | (go_at_call 21; ((with_reducible refine (HIM.out _ (by assumption)).mono ?_); rintro e w' ⟨rfl, kk⟩; rw [HIV.out])))
                all_goals
                  rename_i hh
                  have hk := Lib.hid (HK2.out.trans hh.2.2.2.2.2)
                  clear hh
                  go_wp2_with fail
                  go_ret
                  exact ⟨by first | rfl | (simp; done) | (simp; omega), hk.out⟩
            · exact all_neg w kA kc k khm khs khl slot who hn hm HM h1 h2 h3 h4
          · have h3b : (k.ep != 1) = true := by simp [h3]
            clear h3
            clear hm
            obtain ⟨hC, hA, hK⟩ := conf_box (c := kc) khl
            have HC0 := Lib.hid hC
            have HA0 := Lib.hid hA
            have HK0 := Lib.hid hK
            clear hC hA hK khl
            go_enter Try.func7, Try.ntmps7
            go_wp2_with fail
            generalize w.alloc (.cells #[.slice kA k.ws.length kc, .int .u64 k.seed, .int .i64 k.ep, .int .i64 k.nu, .int .i64 k.de] 25) = W0 at *
            generalize w.heap.size = z at *
            refine (dutyAwake _).mono ?_
            rintro e W1 ⟨rfl, k1⟩
            have HC1 := Lib.hid (HC0.out.kept k1)
            have HA1 := Lib.hid (HA0.out.kept k1)
            have HK1 := Lib.hid (HK0.out.trans k1)
            clear k1 HC0 HA0 HK0
            obtain ⟨c0, c1, c2, c3, c4⟩ := HC1.out.five
            have hz := HC1.out.1
            go_wp2_with fail
            clear c0 c1 c2 c3 c4 hz
            refine (may_any kA kc k _ HA1.out).mono ?_
            rintro e W2 ⟨rfl, k1⟩
            rw [HM.out]
            have HC2 := Lib.hid (HC1.out.kept k1)
            have HA2 := Lib.hid (HA1.out.kept k1)
            have HK2 := Lib.hid (HK1.out.trans k1)
            clear k1 HC1 HA1 HK1
            obtain ⟨c0, c1, c2, c3, c4⟩ := HC2.out.five
            have hz := HC2.out.1
            go_wp2_with fail
            clear c0 c1 c2 c3 c4 hz
            go_ret
            exact ⟨rfl, HK2.out⟩

/-! ### The row's step -/
set_option maxRecDepth 100000 in
theorem lifted (os : Os) (started : os.Started) (H : Type) (enc : TypeId × Value → H) :
    ReturnsInHanded {} Try.checked os 7 .any (Rows.dutyAllSpec.pre6 enc Try.prog Try.f7 Rows.dutyAllRow.domain false) (Rows.dutyAllSpec.post enc Try.prog Try.f7 false true false false) := by
  refine returnsInHanded_of_change (C := Try.checked) own started (by kernel_rfl) Try.func7
    (ChangeSpec.witness6 (enc := enc) (C := Try.checked) false ⟨#[], #[.agg #[.slice none 0 0, .int .u64 0, .int .i64 0, .int .i64 0, .int .i64 0], .int .i64 0, .int .i64 0], []⟩ 8 (by kernel_rfl) (by kernel_rfl) (by kernel_rfl) (by kernel_rfl)) ?_
  intro W base args ds gs before hval0 hW hcnd _
  have hval : ∀ (j : Nat) t v, Try.f7.params[j]? = some t → args[j]? = some v → Value.okWide Try.prog W .any base t v := hval0
  have hW' := hW
  obtain ⟨p, q, hA0, hV, rfl, hfz, hnd⟩ := hW
  have hA : DataW.TrodAll enc Try.prog W 0 (fun _ => true) true Try.f7.params.toList args.toList ds p := hA0
  rw [Try.params7] at hA hval
  obtain ⟨v0, vs0, d0, ds0, p0, q0, hargs, rfl, rfl, h0, r0⟩ := trodAll_cons hA
  obtain ⟨v1, vs1, d1, ds1, p1, q1, rfl, rfl, rfl, h1, r1⟩ := trodAll_cons r0
  obtain ⟨v2, vs2, d2, ds2, p2, q2, rfl, rfl, rfl, h2, r2⟩ := trodAll_cons r1
  obtain ⟨rfl, rfl, rfl⟩ := trodAll_nil r2
  obtain rfl : args = #[v0, v1, v2] := by cases args; simp_all
  obtain ⟨rfl, rfl⟩ := trodVars_none hV
  obtain ⟨kA, kc, k, rfl, khm, khs, khl⟩ := open_conf (hval 0 _ v0 rfl rfl) h0
  obtain ⟨slot, rfl, hslot1, hslot2⟩ := open_num (hval 1 _ v1 rfl rfl) h1
  obtain ⟨who, rfl, hwho1, hwho2⟩ := open_num (hval 2 _ v2 rfl rfl) h2
  clear hA0 hval0
  refine (walk W kA kc k khm khs khl slot hslot1 hslot2 who hwho1 hwho2).mono fun e W' ⟨he, hb⟩ => ?_
  subst he
  exact ⟨_, rfl, law_post rfl (by kernel_rfl) rfl hW' rfl hb⟩

theorem over : Rows.dutyAllRow.holds Try.pinned (OpenSpec.ofChange Rows.dutyAllSpec) :=
  OpenClaim.holds_of_wide 7 Try.f7 rfl rfl rfl rfl rfl rfl rfl ⟨rfl, rfl, rfl, rfl, rfl⟩ rfl rfl rfl rfl rfl (by kernel_rfl) Try.func7 (by kernel_rfl)
    (of_decide_eq_true (by kernel_rfl)) (by unfold Func.isWrapper; first | (rw [if_pos (by decide +kernel)]; kernel_rfl) | (rw [if_neg (by decide +kernel)]; exact ⟨rfl, rfl⟩))
    (fun os started H enc _ => lifted os started H enc)

/-- The statement. -/
theorem proved : Rows.DutyAllSaid :=
  over
#print axioms proved
end Go.Proofs.Ytdidmgmfjfnliaa.dutyAll
