/-
  For every conf and every slot marigoldlaw05.DutyProposes returns true and leaves its arguments as they were: no further condition.
-/
import Derived.Test.YtdidmgmfjfnliaaDutyAwake
namespace Go.Proofs.Ytdidmgmfjfnliaa.dutyProposes
open Go.ChangeShapes Go.WideShapes Go.ChangeAt Go.RowKit
set_option linter.unusedVariables false

theorem prop_nat {k : Cf} {slot : Int} (h : dutyC k slot = true) : propC k slot = ((propN k.seed k.ws.length slot.toNat : Nat) : Int) := by unfold propC; rw [if_pos h]
theorem prop_lt {seed n s : Nat} (hn : 1 ≤ n) : propN seed n s < n := Nat.mod_lt _ (by omega)
theorem slot_out {k : Cf} {slot : Int} (h : dutyC k slot = false) (hm : mayC k = true) : ¬ (1 ≤ slot ∧ slot ≤ 1048576) := by
  rw [dutyC_slot hm] at h
  exact of_decide_eq_false h

/-! ### The walk: the call returns true, and of what was there nothing has changed. -/
set_option maxHeartbeats 1600000 in
theorem walk (w : World) (kA : Option Addr) (kc : Nat) (k : Cf) (khm : k.ws.length ≤ maxLen) (khs : k.seed < 18446744073709551616) (khl : CellsAt w w.heap.size kA (intCells k.ws)) (slot : Int) (hslot1 : -9223372036854775808 ≤ slot) (hslot2 : slot ≤ 9223372036854775807) :
    Calls Try.prog 6 #[.agg #[.slice kA k.ws.length kc, .int .u64 k.seed, .int .i64 k.ep, .int .i64 k.nu, .int .i64 k.de], .int .i64 slot] w fun e w' => e = .returned (.bool true) ∧ Kept w w' := by
  by_cases hn : k.ws.length > 40
  · obtain ⟨hC, hA, hK⟩ := conf_box (c := kc) khl
    have HC0 := Lib.hid hC
    have HA0 := Lib.hid hA
    have HK0 := Lib.hid hK
    clear hC hA hK khl
    go_enter Try.func6, Try.ntmps6
    go_wp2_with fail
    generalize w.alloc (.cells #[.slice kA k.ws.length kc, .int .u64 k.seed, .int .i64 k.ep, .int .i64 k.nu, .int .i64 k.de] 25) = W0 at *
    generalize w.heap.size = z at *
    refine (dutyAwake _).mono ?_
    rintro e W1 ⟨rfl, k1⟩
    have HC1 := Lib.hid (HC0.out.kept k1)
    have HA1 := Lib.hid (HA0.out.kept k1)
    have HK1 := Lib.hid (HK0.out.trans k1)
    clear k1 HC0 HA0 HK0
    obtain ⟨c0, c1, c2, c3, c4⟩ := HC1.out.five
    have hz := HC1.out.1
    go_wp2_with fail
    clear c0 c1 c2 c3 c4 hz
    go_ret
    exact ⟨rfl, HK1.out⟩
  · cases hd : dutyC k slot with
    | true =>
      obtain ⟨hm, h1, h2⟩ := dutyC_yes hd
      have hnz := (mayC_yes hm).1
      have HM := Lib.hid hm
      have HP := Lib.hid (prop_nat hd)
      have hlt := prop_lt (seed := k.seed) (s := slot.toNat) hnz
      generalize propN k.seed k.ws.length slot.toNat = x at *
      clear hd hm
      obtain ⟨hC, hA, hK⟩ := conf_box (c := kc) khl
      have HC0 := Lib.hid hC
      have HA0 := Lib.hid hA
      have HK0 := Lib.hid hK
      clear hC hA hK khl
      go_enter Try.func6, Try.ntmps6
      go_wp2_with fail
      generalize w.alloc (.cells #[.slice kA k.ws.length kc, .int .u64 k.seed, .int .i64 k.ep, .int .i64 k.nu, .int .i64 k.de] 25) = W0 at *
      generalize w.heap.size = z at *
      refine (dutyAwake _).mono ?_
      rintro e W1 ⟨rfl, k1⟩
      have HC1 := Lib.hid (HC0.out.kept k1)
      have HA1 := Lib.hid (HA0.out.kept k1)
      have HK1 := Lib.hid (HK0.out.trans k1)
      clear k1 HC0 HA0 HK0
      obtain ⟨c0, c1, c2, c3, c4⟩ := HC1.out.five
      have hz := HC1.out.1
      go_wp2_with fail
      clear c0 c1 c2 c3 c4 hz
      refine (prop_any kA kc k slot _ HA1.out khs).mono ?_
      rintro e W2 ⟨rfl, k1⟩
      rw [HP.out]
      have HC2 := Lib.hid (HC1.out.kept k1)
      have HA2 := Lib.hid (HA1.out.kept k1)
      have HK2 := Lib.hid (HK1.out.trans k1)
      clear k1 HC1 HA1 HK1
      obtain ⟨c0, c1, c2, c3, c4⟩ := HC2.out.five
      have hz := HC2.out.1
      go_wp2_with fail
      clear c0 c1 c2 c3 c4 hz
      refine (may_any kA kc k _ HA2.out).mono ?_
      rintro e W3 ⟨rfl, k1⟩
      rw [HM.out]
      have HC3 := Lib.hid (HC2.out.kept k1)
      have HA3 := Lib.hid (HA2.out.kept k1)
      have HK3 := Lib.hid (HK2.out.trans k1)
      clear k1 HC2 HA2 HK2
      obtain ⟨c0, c1, c2, c3, c4⟩ := HC3.out.five
      have hz := HC3.out.1
      go_wp2_with fail
      clear c0 c1 c2 c3 c4 hz
      go_ret
      exact ⟨rfl, HK3.out⟩
    | false =>
      have HP := Lib.hid (propC_no hd)
      have HCo := Lib.hid (commC_no hd)
      cases hm : mayC k with
      | false =>
        have HM := Lib.hid hm
        clear hm hd
        obtain ⟨hC, hA, hK⟩ := conf_box (c := kc) khl
        have HC0 := Lib.hid hC
        have HA0 := Lib.hid hA
        have HK0 := Lib.hid hK
        clear hC hA hK khl
        go_enter Try.func6, Try.ntmps6
        go_wp2_with fail
        generalize w.alloc (.cells #[.slice kA k.ws.length kc, .int .u64 k.seed, .int .i64 k.ep, .int .i64 k.nu, .int .i64 k.de] 25) = W0 at *
        generalize w.heap.size = z at *
        refine (dutyAwake _).mono ?_
        rintro e W1 ⟨rfl, k1⟩
        have HC1 := Lib.hid (HC0.out.kept k1)
        have HA1 := Lib.hid (HA0.out.kept k1)
        have HK1 := Lib.hid (HK0.out.trans k1)
        clear k1 HC0 HA0 HK0
        obtain ⟨c0, c1, c2, c3, c4⟩ := HC1.out.five
        have hz := HC1.out.1
        go_wp2_with fail
        clear c0 c1 c2 c3 c4 hz
        refine (prop_any kA kc k slot _ HA1.out khs).mono ?_
        rintro e W2 ⟨rfl, k1⟩
        rw [HP.out]
        have HC2 := Lib.hid (HC1.out.kept k1)
        have HA2 := Lib.hid (HA1.out.kept k1)
        have HK2 := Lib.hid (HK1.out.trans k1)
        clear k1 HC1 HA1 HK1
        obtain ⟨c0, c1, c2, c3, c4⟩ := HC2.out.five
        have hz := HC2.out.1
        go_wp2_with fail
        clear c0 c1 c2 c3 c4 hz
        refine (may_any kA kc k _ HA2.out).mono ?_
        rintro e W3 ⟨rfl, k1⟩
        rw [HM.out]
        have HC3 := Lib.hid (HC2.out.kept k1)
        have HA3 := Lib.hid (HA2.out.kept k1)
        have HK3 := Lib.hid (HK2.out.trans k1)
        clear k1 HC2 HA2 HK2
        obtain ⟨c0, c1, c2, c3, c4⟩ := HC3.out.five
        have hz := HC3.out.1
        go_wp2_with fail
        clear c0 c1 c2 c3 c4 hz
        refine (comm_any kA kc k slot _ HA3.out khs).mono ?_
        rintro e W4 ⟨A', c', rfl, _, k1⟩
        rw [HCo.out]
        have HC4 := Lib.hid (HC3.out.kept k1)
        have HA4 := Lib.hid (HA3.out.kept k1)
        have HK4 := Lib.hid (HK3.out.trans k1)
        clear k1 HC3 HA3 HK3
        obtain ⟨c0, c1, c2, c3, c4⟩ := HC4.out.five
        have hz := HC4.out.1
        go_wp2_with fail
        clear c0 c1 c2 c3 c4 hz
        go_ret
        exact ⟨rfl, HK4.out⟩
      | true =>
        have hsl := slot_out hd hm
        have HM := Lib.hid hm
        clear hm hd
        by_cases h1 : slot < 1
        · obtain ⟨hC, hA, hK⟩ := conf_box (c := kc) khl
          have HC0 := Lib.hid hC
          have HA0 := Lib.hid hA
          have HK0 := Lib.hid hK
          clear hC hA hK khl
          go_enter Try.func6, Try.ntmps6
          go_wp2_with fail
          generalize w.alloc (.cells #[.slice kA k.ws.length kc, .int .u64 k.seed, .int .i64 k.ep, .int .i64 k.nu, .int .i64 k.de] 25) = W0 at *
          generalize w.heap.size = z at *
          refine (dutyAwake _).mono ?_
          rintro e W1 ⟨rfl, k1⟩
          have HC1 := Lib.hid (HC0.out.kept k1)
          have HA1 := Lib.hid (HA0.out.kept k1)
          have HK1 := Lib.hid (HK0.out.trans k1)
          clear k1 HC0 HA0 HK0
          obtain ⟨c0, c1, c2, c3, c4⟩ := HC1.out.five
          have hz := HC1.out.1
          go_wp2_with fail
          clear c0 c1 c2 c3 c4 hz
          refine (prop_any kA kc k slot _ HA1.out khs).mono ?_
          rintro e W2 ⟨rfl, k1⟩
          rw [HP.out]
          have HC2 := Lib.hid (HC1.out.kept k1)
          have HA2 := Lib.hid (HA1.out.kept k1)
          have HK2 := Lib.hid (HK1.out.trans k1)
          clear k1 HC1 HA1 HK1
          obtain ⟨c0, c1, c2, c3, c4⟩ := HC2.out.five
          have hz := HC2.out.1
          go_wp2_with fail
          clear c0 c1 c2 c3 c4 hz
          refine (may_any kA kc k _ HA2.out).mono ?_
          rintro e W3 ⟨rfl, k1⟩
          rw [HM.out]
          have HC3 := Lib.hid (HC2.out.kept k1)
          have HA3 := Lib.hid (HA2.out.kept k1)
          have HK3 := Lib.hid (HK2.out.trans k1)
          clear k1 HC2 HA2 HK2
          obtain ⟨c0, c1, c2, c3, c4⟩ := HC3.out.five
          have hz := HC3.out.1
          go_wp2_with fail
          clear c0 c1 c2 c3 c4 hz
          refine (comm_any kA kc k slot _ HA3.out khs).mono ?_
          rintro e W4 ⟨A', c', rfl, _, k1⟩
          rw [HCo.out]
          have HC4 := Lib.hid (HC3.out.kept k1)
          have HA4 := Lib.hid (HA3.out.kept k1)
          have HK4 := Lib.hid (HK3.out.trans k1)
          clear k1 HC3 HA3 HK3
          obtain ⟨c0, c1, c2, c3, c4⟩ := HC4.out.five
          have hz := HC4.out.1
          go_wp2_with fail
          clear c0 c1 c2 c3 c4 hz
          go_ret
          exact ⟨rfl, HK4.out⟩
        · have h2 : slot > 1048576 := by omega
          obtain ⟨hC, hA, hK⟩ := conf_box (c := kc) khl
          have HC0 := Lib.hid hC
          have HA0 := Lib.hid hA
          have HK0 := Lib.hid hK
          clear hC hA hK khl
          go_enter Try.func6, Try.ntmps6
          go_wp2_with fail
          generalize w.alloc (.cells #[.slice kA k.ws.length kc, .int .u64 k.seed, .int .i64 k.ep, .int .i64 k.nu, .int .i64 k.de] 25) = W0 at *
          generalize w.heap.size = z at *
          refine (dutyAwake _).mono ?_
          rintro e W1 ⟨rfl, k1⟩
          have HC1 := Lib.hid (HC0.out.kept k1)
          have HA1 := Lib.hid (HA0.out.kept k1)
          have HK1 := Lib.hid (HK0.out.trans k1)
          clear k1 HC0 HA0 HK0
          obtain ⟨c0, c1, c2, c3, c4⟩ := HC1.out.five
          have hz := HC1.out.1
          go_wp2_with fail
          clear c0 c1 c2 c3 c4 hz
          refine (prop_any kA kc k slot _ HA1.out khs).mono ?_
          rintro e W2 ⟨rfl, k1⟩
          rw [HP.out]
          have HC2 := Lib.hid (HC1.out.kept k1)
          have HA2 := Lib.hid (HA1.out.kept k1)
          have HK2 := Lib.hid (HK1.out.trans k1)
          clear k1 HC1 HA1 HK1
          obtain ⟨c0, c1, c2, c3, c4⟩ := HC2.out.five
          have hz := HC2.out.1
          go_wp2_with fail
          clear c0 c1 c2 c3 c4 hz
          refine (may_any kA kc k _ HA2.out).mono ?_
          rintro e W3 ⟨rfl, k1⟩
          rw [HM.out]
          have HC3 := Lib.hid (HC2.out.kept k1)
          have HA3 := Lib.hid (HA2.out.kept k1)
          have HK3 := Lib.hid (HK2.out.trans k1)
          clear k1 HC2 HA2 HK2
          obtain ⟨c0, c1, c2, c3, c4⟩ := HC3.out.five
          have hz := HC3.out.1
          go_wp2_with fail
          clear c0 c1 c2 c3 c4 hz
          refine (comm_any kA kc k slot _ HA3.out khs).mono ?_
          rintro e W4 ⟨A', c', rfl, _, k1⟩
          rw [HCo.out]
          have HC4 := Lib.hid (HC3.out.kept k1)
          have HA4 := Lib.hid (HA3.out.kept k1)
          have HK4 := Lib.hid (HK3.out.trans k1)
          clear k1 HC3 HA3 HK3
          obtain ⟨c0, c1, c2, c3, c4⟩ := HC4.out.five
          have hz := HC4.out.1
          go_wp2_with fail
          clear c0 c1 c2 c3 c4 hz
          go_ret
          exact ⟨rfl, HK4.out⟩

/-! ### The row's step -/
set_option maxRecDepth 100000 in
theorem lifted (os : Os) (started : os.Started) (H : Type) (enc : TypeId × Value → H) :
    ReturnsInHanded {} Try.checked os 6 .any (Rows.dutyProposesSpec.pre6 enc Try.prog Try.f6 Rows.dutyProposesRow.domain false) (Rows.dutyProposesSpec.post enc Try.prog Try.f6 false true false false) := by
  refine returnsInHanded_of_change (C := Try.checked) own started (by kernel_rfl) Try.func6
    (ChangeSpec.witness6 (enc := enc) (C := Try.checked) false ⟨#[], #[.agg #[.slice none 0 0, .int .u64 0, .int .i64 0, .int .i64 0, .int .i64 0], .int .i64 0], []⟩ 8 (by kernel_rfl) (by kernel_rfl) (by kernel_rfl) (by kernel_rfl)) ?_
  intro W base args ds gs before hval0 hW hcnd _
  have hval : ∀ (j : Nat) t v, Try.f6.params[j]? = some t → args[j]? = some v → Value.okWide Try.prog W .any base t v := hval0
  have hW' := hW
  obtain ⟨p, q, hA0, hV, rfl, hfz, hnd⟩ := hW
  have hA : DataW.TrodAll enc Try.prog W 0 (fun _ => true) true Try.f6.params.toList args.toList ds p := hA0
  rw [Try.params6] at hA hval
  obtain ⟨v0, vs0, d0, ds0, p0, q0, hargs, rfl, rfl, h0, r0⟩ := trodAll_cons hA
  obtain ⟨v1, vs1, d1, ds1, p1, q1, rfl, rfl, rfl, h1, r1⟩ := trodAll_cons r0
  obtain ⟨rfl, rfl, rfl⟩ := trodAll_nil r1
  obtain rfl : args = #[v0, v1] := by cases args; simp_all
  obtain ⟨rfl, rfl⟩ := trodVars_none hV
  obtain ⟨kA, kc, k, rfl, khm, khs, khl⟩ := open_conf (hval 0 _ v0 rfl rfl) h0
  obtain ⟨slot, rfl, hslot1, hslot2⟩ := open_num (hval 1 _ v1 rfl rfl) h1
  clear hA0 hval0
  refine (walk W kA kc k khm khs khl slot hslot1 hslot2).mono fun e W' ⟨he, hb⟩ => ?_
  subst he
  exact ⟨_, rfl, law_post rfl (by kernel_rfl) rfl hW' rfl hb⟩

theorem over : Rows.dutyProposesRow.holds Try.pinned (OpenSpec.ofChange Rows.dutyProposesSpec) :=
  OpenClaim.holds_of_wide 6 Try.f6 rfl rfl rfl rfl rfl rfl rfl ⟨rfl, rfl, rfl, rfl, rfl⟩ rfl rfl rfl rfl rfl (by kernel_rfl) Try.func6 (by kernel_rfl)
    (of_decide_eq_true (by kernel_rfl)) (by unfold Func.isWrapper; first | (rw [if_pos (by decide +kernel)]; kernel_rfl) | (rw [if_neg (by decide +kernel)]; exact ⟨rfl, rfl⟩))
    (fun os started H enc _ => lifted os started H enc)

/-- The statement. -/
theorem proved : Rows.DutyProposesSaid :=
  over
#print axioms proved
end Go.Proofs.Ytdidmgmfjfnliaa.dutyProposes
