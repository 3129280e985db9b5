/-
  For every conf, every list, every slot and every number marigoldlaw05.DutyTells returns true and leaves its arguments as they were: no further condition.
-/
import Derived.Test.YtdidmgmfjfnliaaDutyRefComm
namespace Go.Proofs.Ytdidmgmfjfnliaa.dutyTells
open Go.ChangeShapes Go.WideShapes Go.ChangeAt Go.RowKit
set_option linter.unusedVariables false

/-! ### The walk: the call returns true, and of what was there nothing has changed. -/
set_option maxRecDepth 100000 in
set_option maxHeartbeats 6400000 in
theorem walk (w : World) (kA : Option Addr) (kc : Nat) (k : Cf) (khm : k.ws.length ≤ maxLen) (khs : k.seed < 18446744073709551616) (khl : CellsAt w w.heap.size kA (intCells k.ws)) (lA : Option Addr) (lc : Nat) (l : List Int) (lhm : l.length ≤ maxLen) (lhb : ∀ x ∈ l, -9223372036854775808 ≤ x ∧ x ≤ 9223372036854775807) (lhl : CellsAt w w.heap.size lA (intCells l)) (slot : Int) (hslot1 : -9223372036854775808 ≤ slot) (hslot2 : slot ≤ 9223372036854775807) (who : Int) (hwho1 : -9223372036854775808 ≤ who) (hwho2 : who ≤ 9223372036854775807) :
    Calls Try.prog 3 #[.agg #[.slice kA k.ws.length kc, .int .u64 k.seed, .int .i64 k.ep, .int .i64 k.nu, .int .i64 k.de], .slice lA l.length lc, .int .i64 slot, .int .i64 who] w fun e w' => e = .returned (.bool true) ∧ Kept w w' := by
  by_cases hn : k.ws.length > 40
  · obtain ⟨hC, hA, hK⟩ := conf_box (c := kc) khl
    have HC0 := Lib.hid hC
    have HA0 := Lib.hid hA
    have HK0 := Lib.hid hK
    have HLl0 := Lib.hid (lhl.kept hK)
    clear hC hA hK khl lhl
    go_enter Try.func3, Try.ntmps3
    go_wp2_with fail
    generalize w.alloc (.cells #[.slice kA k.ws.length kc, .int .u64 k.seed, .int .i64 k.ep, .int .i64 k.nu, .int .i64 k.de] 25) = W0 at *
    generalize w.heap.size = z at *
    refine (dutyAwake _).mono ?_
    rintro e W1 ⟨rfl, k1⟩
    have HC1 := Lib.hid (HC0.out.kept k1)
    have HA1 := Lib.hid (HA0.out.kept k1)
    have HLl1 := Lib.hid (HLl0.out.kept k1)
    have HK1 := Lib.hid (HK0.out.trans k1)
    clear k1 HC0 HA0 HLl0 HK0
    obtain ⟨c0, c1, c2, c3, c4⟩ := HC1.out.five
    have hz := HC1.out.1
    go_wp2_with fail
    clear c0 c1 c2 c3 c4 hz
    go_ret
    exact ⟨rfl, HK1.out⟩
  · by_cases hl : l.length > 40
    · obtain ⟨hC, hA, hK⟩ := conf_box (c := kc) khl
      have HC0 := Lib.hid hC
      have HA0 := Lib.hid hA
      have HK0 := Lib.hid hK
      have HLl0 := Lib.hid (lhl.kept hK)
      clear hC hA hK khl lhl
      go_enter Try.func3, Try.ntmps3
      go_wp2_with fail
      generalize w.alloc (.cells #[.slice kA k.ws.length kc, .int .u64 k.seed, .int .i64 k.ep, .int .i64 k.nu, .int .i64 k.de] 25) = W0 at *
      generalize w.heap.size = z at *
      refine (dutyAwake _).mono ?_
      rintro e W1 ⟨rfl, k1⟩
      have HC1 := Lib.hid (HC0.out.kept k1)
      have HA1 := Lib.hid (HA0.out.kept k1)
      have HLl1 := Lib.hid (HLl0.out.kept k1)
      have HK1 := Lib.hid (HK0.out.trans k1)
      clear k1 HC0 HA0 HLl0 HK0
      obtain ⟨c0, c1, c2, c3, c4⟩ := HC1.out.five
      have hz := HC1.out.1
      go_wp2_with fail
      clear c0 c1 c2 c3 c4 hz
      go_ret
      exact ⟨rfl, HK1.out⟩
    · have hn1 : k.ws.length ≤ 1000 := by omega
      have HLen := Lib.hid (comm_len k slot)
      obtain ⟨hC, hA, hK⟩ := conf_box (c := kc) khl
      have HC0 := Lib.hid hC
      have HA0 := Lib.hid hA
      have HK0 := Lib.hid hK
      have HLl0 := Lib.hid (lhl.kept hK)
      clear hC hA hK khl lhl
      go_enter Try.func3, Try.ntmps3
      go_wp2_with fail
      generalize w.alloc (.cells #[.slice kA k.ws.length kc, .int .u64 k.seed, .int .i64 k.ep, .int .i64 k.nu, .int .i64 k.de] 25) = W0 at *
      generalize w.heap.size = z at *
      refine (dutyAwake _).mono ?_
      rintro e W1 ⟨rfl, k1⟩
      have HC1 := Lib.hid (HC0.out.kept k1)
      have HA1 := Lib.hid (HA0.out.kept k1)
      have HLl1 := Lib.hid (HLl0.out.kept k1)
      have HK1 := Lib.hid (HK0.out.trans k1)
      clear k1 HC0 HA0 HLl0 HK0
      obtain ⟨c0, c1, c2, c3, c4⟩ := HC1.out.five
      have hz := HC1.out.1
      go_wp2_with fail
      clear c0 c1 c2 c3 c4 hz
      refine (refMay5_any kA kc k _ hn1 HA1.out).mono ?_
      rintro e W2 ⟨rfl, k1⟩
      have HC2 := Lib.hid (HC1.out.kept k1)
      have HA2 := Lib.hid (HA1.out.kept k1)
      have HLl2 := Lib.hid (HLl1.out.kept k1)
      have HK2 := Lib.hid (HK1.out.trans k1)
      clear k1 HC1 HA1 HLl1 HK1
      obtain ⟨c0, c1, c2, c3, c4⟩ := HC2.out.five
      have hz := HC2.out.1
      go_wp2_with fail
      clear c0 c1 c2 c3 c4 hz
      refine (refIn_any kA kc k slot who _ hn1 HA2.out khs).mono ?_
      rintro e W3 ⟨rfl, k1⟩
      have HC3 := Lib.hid (HC2.out.kept k1)
      have HA3 := Lib.hid (HA2.out.kept k1)
      have HLl3 := Lib.hid (HLl2.out.kept k1)
      have HK3 := Lib.hid (HK2.out.trans k1)
      clear k1 HC2 HA2 HLl2 HK2
      obtain ⟨c0, c1, c2, c3, c4⟩ := HC3.out.five
      have hz := HC3.out.1
      go_wp2_with fail
      clear c0 c1 c2 c3 c4 hz
      obtain ⟨c0, c1, c2, c3, c4⟩ := HC3.out.five
      have hz := HC3.out.1
      have HC1 := Lib.hid (fun w' (hk : w'.cell? ⟨z, 0, none⟩ = some (.slice kA k.ws.length kc) ∧ w'.cell? ⟨z, 1, none⟩ = some (.int .u64 k.seed) ∧ w'.cell? ⟨z, 2, none⟩ = some (.int .i64 k.ep) ∧ w'.cell? ⟨z, 3, none⟩ = some (.int .i64 k.nu) ∧ w'.cell? ⟨z, 4, none⟩ = some (.int .i64 k.de) ∧ Kept W3 w') => comm_any kA kc k slot w' (HA3.out.kept hk.2.2.2.2.2) khs)
      have HC2 := Lib.hid (fun w' (hk : w'.cell? ⟨z, 0, none⟩ = some (.slice kA k.ws.length kc) ∧ w'.cell? ⟨z, 1, none⟩ = some (.int .u64 k.seed) ∧ w'.cell? ⟨z, 2, none⟩ = some (.int .i64 k.ep) ∧ w'.cell? ⟨z, 3, none⟩ = some (.int .i64 k.nu) ∧ w'.cell? ⟨z, 4, none⟩ = some (.int .i64 k.de) ∧ Kept W3 w') => refComm_any kA kc k slot w' hn1 (HA3.out.kept hk.2.2.2.2.2) khs)
      have HM1 := Lib.hid (fun w' (hk : w'.cell? ⟨z, 0, none⟩ = some (.slice kA k.ws.length kc) ∧ w'.cell? ⟨z, 1, none⟩ = some (.int .u64 k.seed) ∧ w'.cell? ⟨z, 2, none⟩ = some (.int .i64 k.ep) ∧ w'.cell? ⟨z, 3, none⟩ = some (.int .i64 k.nu) ∧ w'.cell? ⟨z, 4, none⟩ = some (.int .i64 k.de) ∧ Kept W3 w') => may_any kA kc k w' (HA3.out.kept hk.2.2.2.2.2))
      have HW1 := Lib.hid (fun w' (hk : w'.cell? ⟨z, 0, none⟩ = some (.slice kA k.ws.length kc) ∧ w'.cell? ⟨z, 1, none⟩ = some (.int .u64 k.seed) ∧ w'.cell? ⟨z, 2, none⟩ = some (.int .i64 k.ep) ∧ w'.cell? ⟨z, 3, none⟩ = some (.int .i64 k.nu) ∧ w'.cell? ⟨z, 4, none⟩ = some (.int .i64 k.de) ∧ Kept W3 w') => weight_any kA kc k lA l lc w' (HA3.out.kept hk.2.2.2.2.2) (by omega) (HLl3.out.kept hk.2.2.2.2.2))
      have HW2 := Lib.hid (fun w' (hk : w'.cell? ⟨z, 0, none⟩ = some (.slice kA k.ws.length kc) ∧ w'.cell? ⟨z, 1, none⟩ = some (.int .u64 k.seed) ∧ w'.cell? ⟨z, 2, none⟩ = some (.int .i64 k.ep) ∧ w'.cell? ⟨z, 3, none⟩ = some (.int .i64 k.nu) ∧ w'.cell? ⟨z, 4, none⟩ = some (.int .i64 k.de) ∧ Kept W3 w') => refWeight_any kA kc k lA l lc w' hn1 (by omega) (HA3.out.kept hk.2.2.2.2.2) (HLl3.out.kept hk.2.2.2.2.2))
      have HT1 := Lib.hid (fun w' (hk : w'.cell? ⟨z, 0, none⟩ = some (.slice kA k.ws.length kc) ∧ w'.cell? ⟨z, 1, none⟩ = some (.int .u64 k.seed) ∧ w'.cell? ⟨z, 2, none⟩ = some (.int .i64 k.ep) ∧ w'.cell? ⟨z, 3, none⟩ = some (.int .i64 k.nu) ∧ w'.cell? ⟨z, 4, none⟩ = some (.int .i64 k.de) ∧ Kept W3 w') => total_any kA kc k w' (HA3.out.kept hk.2.2.2.2.2))
      have HT2 := Lib.hid (fun w' (hk : w'.cell? ⟨z, 0, none⟩ = some (.slice kA k.ws.length kc) ∧ w'.cell? ⟨z, 1, none⟩ = some (.int .u64 k.seed) ∧ w'.cell? ⟨z, 2, none⟩ = some (.int .i64 k.ep) ∧ w'.cell? ⟨z, 3, none⟩ = some (.int .i64 k.nu) ∧ w'.cell? ⟨z, 4, none⟩ = some (.int .i64 k.de) ∧ Kept W3 w') => refTotal_any kA kc k w' hn1 (HA3.out.kept hk.2.2.2.2.2))
      have HI1 := Lib.hid (fun w' (hk : w'.cell? ⟨z, 0, none⟩ = some (.slice kA k.ws.length kc) ∧ w'.cell? ⟨z, 1, none⟩ = some (.int .u64 k.seed) ∧ w'.cell? ⟨z, 2, none⟩ = some (.int .i64 k.ep) ∧ w'.cell? ⟨z, 3, none⟩ = some (.int .i64 k.nu) ∧ w'.cell? ⟨z, 4, none⟩ = some (.int .i64 k.de) ∧ Kept W3 w') => in_any kA kc k slot who w' (HA3.out.kept hk.2.2.2.2.2) khs)
      have HP1 := Lib.hid (fun w' (hk : w'.cell? ⟨z, 0, none⟩ = some (.slice kA k.ws.length kc) ∧ w'.cell? ⟨z, 1, none⟩ = some (.int .u64 k.seed) ∧ w'.cell? ⟨z, 2, none⟩ = some (.int .i64 k.ep) ∧ w'.cell? ⟨z, 3, none⟩ = some (.int .i64 k.nu) ∧ w'.cell? ⟨z, 4, none⟩ = some (.int .i64 k.de) ∧ Kept W3 w') => prop_any kA kc k slot w' (HA3.out.kept hk.2.2.2.2.2) khs)
      have HP2 := Lib.hid (fun w' (hk : w'.cell? ⟨z, 0, none⟩ = some (.slice kA k.ws.length kc) ∧ w'.cell? ⟨z, 1, none⟩ = some (.int .u64 k.seed) ∧ w'.cell? ⟨z, 2, none⟩ = some (.int .i64 k.ep) ∧ w'.cell? ⟨z, 3, none⟩ = some (.int .i64 k.nu) ∧ w'.cell? ⟨z, 4, none⟩ = some (.int .i64 k.de) ∧ Kept W3 w') => refProp_any kA kc k slot w' hn1 (HA3.out.kept hk.2.2.2.2.2) khs)
      generalize commC k slot = cs at *
      generalize propC k slot = pr at *
      generalize mayC k = mb at *
      generalize weightC k l = wt at *
      generalize totalC k = tt at *
      generalize inC k slot who = ib at *
      go_region_held3 (fun w' => w'.cell? ⟨z, 0, none⟩ = some (.slice kA k.ws.length kc) ∧ w'.cell? ⟨z, 1, none⟩ = some (.int .u64 k.seed) ∧ w'.cell? ⟨z, 2, none⟩ = some (.int .i64 k.ep) ∧ w'.cell? ⟨z, 3, none⟩ = some (.int .i64 k.nu) ∧ w'.cell? ⟨z, 4, none⟩ = some (.int .i64 k.de) ∧ Kept W3 w')
        (first | exact ⟨c0, c1, c2, c3, c4, Kept.refl _⟩ | exact ⟨c0, c1, c2, c3, c4, (Kept.refl _).drew⟩ | assumption | exact five_keep hz (by assumption) (by assumption))
        (first
          | (go_at_call 14; ((with_reducible refine (HC1.out _ (by assumption)).mono ?_); rintro e w' ⟨A', c', rfl, hcl, kk⟩))
          | (go_at_call 15; ((with_reducible refine (HC2.out _ (by assumption)).mono ?_); rintro e w' ⟨A'', c'', rfl, hcl2, kk⟩; have hcl1 := hcl.kept kk))
          | (go_at_call 13; ((with_reducible refine (ints_same A' c' A'' c'' cs _ HLen.out hcl1 hcl2).mono ?_); rintro e w' ⟨rfl, kk⟩)))
      rename_i hh
      obtain ⟨e0, e1, e2, e3, e4, ek⟩ := hh
      clear hcl hcl1 hcl2 c0 c1 c2 c3 c4 HC1 HC2
      go_wp2_with fail
      go_region_held3 (fun w' => w'.cell? ⟨z, 0, none⟩ = some (.slice kA k.ws.length kc) ∧ w'.cell? ⟨z, 1, none⟩ = some (.int .u64 k.seed) ∧ w'.cell? ⟨z, 2, none⟩ = some (.int .i64 k.ep) ∧ w'.cell? ⟨z, 3, none⟩ = some (.int .i64 k.nu) ∧ w'.cell? ⟨z, 4, none⟩ = some (.int .i64 k.de) ∧ Kept W3 w')
        (first | exact ⟨e0, e1, e2, e3, e4, ek⟩ | exact ⟨e0, e1, e2, e3, e4, ek.drew⟩ | assumption | exact five_keep hz (by assumption) (by assumption))
        (first
          | (go_at_call 16; ((with_reducible refine (HM1.out _ (by assumption)).mono ?_); rintro e w' ⟨rfl, kk⟩))
          | (go_at_call 17; ((with_reducible refine (HW1.out _ (by assumption)).mono ?_); rintro e w' ⟨rfl, kk⟩))
          | (go_at_call 18; ((with_reducible refine (HW2.out _ (by assumption)).mono ?_); rintro e w' ⟨rfl, kk⟩))
          | (go_at_call 19; ((with_reducible refine (HT1.out _ (by assumption)).mono ?_); rintro e w' ⟨rfl, kk⟩))
          | (go_at_call 20; ((with_reducible refine (HT2.out _ (by assumption)).mono ?_); rintro e w' ⟨rfl, kk⟩))
          | (go_at_call 21; ((with_reducible refine (HI1.out _ (by assumption)).mono ?_); rintro e w' ⟨rfl, kk⟩))
          | (go_at_call 22; ((with_reducible refine (HP1.out _ (by assumption)).mono ?_); rintro e w' ⟨rfl, kk⟩))
          | (go_at_call 23; ((with_reducible refine (HP2.out _ (by assumption)).mono ?_); rintro e w' ⟨rfl, kk⟩)))
      all_goals
        rename_i hh
        have hk := Lib.hid (HK3.out.trans hh.2.2.2.2.2)
        clear hh
        go_wp2_with fail
        go_ret
        exact ⟨by first | rfl | (simp; done), hk.out⟩

/-! ### The row's step -/
set_option maxRecDepth 100000 in
theorem lifted (os : Os) (started : os.Started) (H : Type) (enc : TypeId × Value → H) :
    ReturnsInHanded {} Try.checked os 3 .any (Rows.dutyTellsSpec.pre6 enc Try.prog Try.f3 Rows.dutyTellsRow.domain false) (Rows.dutyTellsSpec.post enc Try.prog Try.f3 false true false false) := by
  refine returnsInHanded_of_change (C := Try.checked) own started (by kernel_rfl) Try.func3
    (ChangeSpec.witness6 (enc := enc) (C := Try.checked) false ⟨#[], #[.agg #[.slice none 0 0, .int .u64 0, .int .i64 0, .int .i64 0, .int .i64 0], .slice none 0 0, .int .i64 0, .int .i64 0], []⟩ 8 (by kernel_rfl) (by kernel_rfl) (by kernel_rfl) (by kernel_rfl)) ?_
  intro W base args ds gs before hval0 hW hcnd _
  have hval : ∀ (j : Nat) t v, Try.f3.params[j]? = some t → args[j]? = some v → Value.okWide Try.prog W .any base t v := hval0
  have hW' := hW
  obtain ⟨p, q, hA0, hV, rfl, hfz, hnd⟩ := hW
  have hA : DataW.TrodAll enc Try.prog W 0 (fun _ => true) true Try.f3.params.toList args.toList ds p := hA0
  rw [Try.params3] at hA hval
  obtain ⟨v0, vs0, d0, ds0, p0, q0, hargs, rfl, rfl, h0, r0⟩ := trodAll_cons hA
  obtain ⟨v1, vs1, d1, ds1, p1, q1, rfl, rfl, rfl, h1, r1⟩ := trodAll_cons r0
  obtain ⟨v2, vs2, d2, ds2, p2, q2, rfl, rfl, rfl, h2, r2⟩ := trodAll_cons r1
  obtain ⟨v3, vs3, d3, ds3, p3, q3, rfl, rfl, rfl, h3, r3⟩ := trodAll_cons r2
  obtain ⟨rfl, rfl, rfl⟩ := trodAll_nil r3
  obtain rfl : args = #[v0, v1, v2, v3] := by cases args; simp_all
  obtain ⟨rfl, rfl⟩ := trodVars_none hV
  obtain ⟨kA, kc, k, rfl, khm, khs, khl⟩ := open_conf (hval 0 _ v0 rfl rfl) h0
  obtain ⟨lA, lc, l, rfl, lhm, lhb, lhl⟩ := open_list (hval 1 _ v1 rfl rfl) h1
  obtain ⟨slot, rfl, hslot1, hslot2⟩ := open_num (hval 2 _ v2 rfl rfl) h2
  obtain ⟨who, rfl, hwho1, hwho2⟩ := open_num (hval 3 _ v3 rfl rfl) h3
  clear hA0 hval0
  refine (walk W kA kc k khm khs khl lA lc l lhm lhb lhl slot hslot1 hslot2 who hwho1 hwho2).mono fun e W' ⟨he, hb⟩ => ?_
  subst he
  exact ⟨_, rfl, law_post rfl (by kernel_rfl) rfl hW' rfl hb⟩

theorem over : Rows.dutyTellsRow.holds Try.pinned (OpenSpec.ofChange Rows.dutyTellsSpec) :=
  OpenClaim.holds_of_wide 3 Try.f3 rfl rfl rfl rfl rfl rfl rfl ⟨rfl, rfl, rfl, rfl, rfl⟩ rfl rfl rfl rfl rfl (by kernel_rfl) Try.func3 (by kernel_rfl)
    (of_decide_eq_true (by kernel_rfl)) (by unfold Func.isWrapper; first | (rw [if_pos (by decide +kernel)]; kernel_rfl) | (rw [if_neg (by decide +kernel)]; exact ⟨rfl, rfl⟩))
    (fun os started H enc _ => lifted os started H enc)

/-- The statement. -/
theorem proved : Rows.DutyTellsSaid :=
  over
#print axioms proved
end Go.Proofs.Ytdidmgmfjfnliaa.dutyTells
