/-
  Law VotesOrder of layer 7: in another order, and with some twice, the same votes count, whatever votes, slot and cut.
-/
import Derived.Test.YtjcjglhoknbhpaaVoteAwake
import Derived.Test.YtjcjglhoknbhpaaVoteSame
import Derived.Test.YtjcjglhoknbhpaaVoteOpen
import Derived.Test.YtjcjglhoknbhpaaNumOpen
import Derived.Test.YtjcjglhoknbhpaaVoteFacts
namespace Go.Proofs.Ytjcjglhoknbhpaa.votesOrder
open Go.ChangeShapes Go.WideShapes Go.ChangeAt Go.RowKit
set_option linter.unusedVariables false

/-! ### The walk: the call returns true, and of what was there nothing has changed. -/
set_option maxHeartbeats 1000000 in
theorem walk (w : World) (lA : Option Addr) (lc : Nat) (l : List Vt) (lhm : l.length ≤ maxLen) (lhc : l.length ≤ lc) (lhw : WfVs l) (lhl : CellsAt w w.heap.size lA (votesCells l)) (slot : Int) (hslot1 : -9223372036854775808 ≤ slot) (hslot2 : slot ≤ 9223372036854775807) (at_ : Int) (hat_1 : -9223372036854775808 ≤ at_) (hat_2 : at_ ≤ 9223372036854775807) :
    Calls Try.prog 4 #[.slice lA l.length lc, .int .i64 slot, .int .i64 at_] w fun e w' => e = .returned (.bool true) ∧ Kept w w' := by
  by_cases h40 : l.length ≤ 40
  · have hl6 : l.length ≤ 1000000 := by omega
    by_cases h1 : at_ < 0
    · go_enter Try.func4, Try.ntmps4
      go_wp2_with fail
      have HK_0 := Lib.hid (Kept.refl w)
      have HA_0 := Lib.hid lhl
      clear lhl
      refine (votesAwake w).mono ?_
      rintro e W1 ⟨rfl, k⟩
      have HK_1 := Lib.hid (HK_0.out.trans k)
      have HA_1 := Lib.hid (HA_0.out.kept k)
      clear k HK_0 HA_0
      go_wp2_with fail
      go_ret
      exact ⟨by first | rfl | (simp; done), HK_1.out⟩
    · by_cases h2 : at_ ≤ (l.length : Int)
      · obtain ⟨j, rfl⟩ := Int.eq_ofNat_of_zero_le (show 0 ≤ at_ by omega)
        have hj : j ≤ l.length := by omega
        clear hat_1 hat_2
        go_enter Try.func4, Try.ntmps4
        go_wp2_with fail
        have HK_0 := Lib.hid (Kept.refl w)
        have HA_0 := Lib.hid lhl
        clear lhl
        refine (votesAwake w).mono ?_
        rintro e W1 ⟨rfl, k⟩
        have HK_1 := Lib.hid (HK_0.out.trans k)
        have HA_1 := Lib.hid (HA_0.out.kept k)
        clear k HK_0 HA_0
        obtain ⟨A0, hfr, hA0⟩ := from_votes HA_1.out lc j hj lhc
        have HD := Lib.hid hA0
        clear hA0
        have hdl : (l.drop j).length = l.length - j := List.length_drop
        have hb1 : ([] : List Vt).length + (l.length - j) ≤ 10000000 := by simp; omega
        have hb2 : ([] ++ l.drop j).length + l.length ≤ 10000000 := by simp; omega
        have HDL := Lib.hid hdl
        clear hdl
        go_wp2_with (first | (refine wpList_vts _ rfl _ _ rfl W1 [] _ rfl (Vts.nil W1) _ _ _ _ (l.drop j) rfl HDL.out HD.out hb1 ?_; intro v1 w1 HV1 _) | (refine wpList_vts _ rfl _ _ rfl W1 ([] ++ l.drop j) _ rfl HV1 _ _ _ _ l rfl rfl (HA_1.out.kept HV1.2) hb2 ?_; intro v2 W2 HV2 _))
        have k := HV2.2
        have HK_2 := Lib.hid (HK_1.out.trans k)
        have HA_2 := Lib.hid (HA_1.out.kept k)
        clear k HK_1 HA_1
        obtain ⟨B, cb, rfl⟩ := HV2.slice
        have HM_2 := Lib.hid (CellsAt.of_own HV2.1)
        have HMM := Lib.hid (mem_cut l j)
        have HMW := Lib.hid (lhw.cut j)
        have hM6 : ([] ++ l.drop j ++ l).length ≤ 1000000 := by simp; omega
        clear HV1 HV2 HD hfr hb1 hb2 HDL
        generalize [] ++ l.drop j ++ l = M at *
        refine (doubles_any lA lc l hl6 lhw slot W2 HA_2.out).mono ?_
        rintro e W3 ⟨R1, hR1, hn1, A1, c1, rfl, hc1, k⟩
        have HK_3 := Lib.hid (HK_2.out.trans k)
        have HA_3 := Lib.hid (HA_2.out.kept k)
        have HM_3 := Lib.hid (HM_2.out.kept k)
        clear k HK_2 HA_2 HM_2
        have HC1_3 := Lib.hid hc1
        clear hc1
        have HR1 := Lib.hid hR1
        clear hR1
        go_wp2_with fail
        refine (doubles_any B cb M hM6 HMW.out slot W3 HM_3.out).mono ?_
        rintro e W4 ⟨R2, hR2, hn2, A2, c2, rfl, hc2, k⟩
        have HK_4 := Lib.hid (HK_3.out.trans k)
        have HA_4 := Lib.hid (HA_3.out.kept k)
        have HM_4 := Lib.hid (HM_3.out.kept k)
        have HC1_4 := Lib.hid (HC1_3.out.kept k)
        clear k HK_3 HA_3 HM_3 HC1_3
        have HC2_4 := Lib.hid hc2
        clear hc2
        have HR2 := Lib.hid hR2
        clear hR2
        have e := HR1.out.same HMM.out HR2.out
        clear HR1 HR2
        subst e
        go_wp2_with fail
        refine (ints_same7 _ _ _ _ R1 W4 (by omega) HC1_4.out HC2_4.out).mono ?_
        rintro e W5 ⟨rfl, k⟩
        have HK_5 := Lib.hid (HK_4.out.trans k)
        have HA_5 := Lib.hid (HA_4.out.kept k)
        have HM_5 := Lib.hid (HM_4.out.kept k)
        have HC1_5 := Lib.hid (HC1_4.out.kept k)
        have HC2_5 := Lib.hid (HC2_4.out.kept k)
        clear k HK_4 HA_4 HM_4 HC1_4 HC2_4
        go_wp2_with fail
        clear HC1_5
        clear HC2_5
        refine (of_any lA lc l hl6 lhw slot W5 HA_5.out).mono ?_
        rintro e W6 ⟨R3, hR3, hn3, A3, c3, rfl, hc3, k⟩
        have HK_6 := Lib.hid (HK_5.out.trans k)
        have HA_6 := Lib.hid (HA_5.out.kept k)
        have HM_6 := Lib.hid (HM_5.out.kept k)
        clear k HK_5 HA_5 HM_5
        have HC3_6 := Lib.hid hc3
        clear hc3
        have HR3 := Lib.hid hR3
        clear hR3
        go_wp2_with fail
        refine (of_any B cb M hM6 HMW.out slot W6 HM_6.out).mono ?_
        rintro e W7 ⟨R4, hR4, hn4, A4, c4, rfl, hc4, k⟩
        have HK_7 := Lib.hid (HK_6.out.trans k)
        have HA_7 := Lib.hid (HA_6.out.kept k)
        have HM_7 := Lib.hid (HM_6.out.kept k)
        have HC3_7 := Lib.hid (HC3_6.out.kept k)
        clear k HK_6 HA_6 HM_6 HC3_6
        have HC4_7 := Lib.hid hc4
        clear hc4
        have HR4 := Lib.hid hR4
        clear hR4
        have e := HR3.out.same HMM.out HR4.out
        clear HR3 HR4
        subst e
        go_wp2_with fail
        refine (votes_same _ _ _ _ R3 W7 (by omega) HC3_7.out HC4_7.out).mono ?_
        rintro e W8 ⟨rfl, k⟩
        have HK_8 := Lib.hid (HK_7.out.trans k)
        have HA_8 := Lib.hid (HA_7.out.kept k)
        have HM_8 := Lib.hid (HM_7.out.kept k)
        have HC3_8 := Lib.hid (HC3_7.out.kept k)
        have HC4_8 := Lib.hid (HC4_7.out.kept k)
        clear k HK_7 HA_7 HM_7 HC3_7 HC4_7
        go_wp2_with fail
        clear HC3_8
        clear HC4_8
        refine (last_any lA lc l hl6 lhw slot W8 HA_8.out).mono ?_
        rintro e W9 ⟨R5, hR5, hn5, A5, c5, rfl, hc5, k⟩
        have HK_9 := Lib.hid (HK_8.out.trans k)
        have HA_9 := Lib.hid (HA_8.out.kept k)
        have HM_9 := Lib.hid (HM_8.out.kept k)
        clear k HK_8 HA_8 HM_8
        have HC5_9 := Lib.hid hc5
        clear hc5
        have HR5 := Lib.hid hR5
        clear hR5
        go_wp2_with fail
        refine (last_any B cb M hM6 HMW.out slot W9 HM_9.out).mono ?_
        rintro e W10 ⟨R6, hR6, hn6, A6, c6, rfl, hc6, k⟩
        have HK_10 := Lib.hid (HK_9.out.trans k)
        have HA_10 := Lib.hid (HA_9.out.kept k)
        have HM_10 := Lib.hid (HM_9.out.kept k)
        have HC5_10 := Lib.hid (HC5_9.out.kept k)
        clear k HK_9 HA_9 HM_9 HC5_9
        have HC6_10 := Lib.hid hc6
        clear hc6
        have HR6 := Lib.hid hR6
        clear hR6
        have e := HR5.out.same HMM.out HR6.out
        clear HR5 HR6
        subst e
        go_wp2_with fail
        refine (votes_same _ _ _ _ R5 W10 (by omega) HC5_10.out HC6_10.out).mono ?_
        rintro e W11 ⟨rfl, k⟩
        have HK_11 := Lib.hid (HK_10.out.trans k)
        have HA_11 := Lib.hid (HA_10.out.kept k)
        have HM_11 := Lib.hid (HM_10.out.kept k)
        have HC5_11 := Lib.hid (HC5_10.out.kept k)
        have HC6_11 := Lib.hid (HC6_10.out.kept k)
        clear k HK_10 HA_10 HM_10 HC5_10 HC6_10
        go_wp2_with fail
        clear HC5_11
        clear HC6_11
        go_ret
        exact ⟨by first | rfl | (simp; done), HK_11.out⟩
      · go_enter Try.func4, Try.ntmps4
        go_wp2_with fail
        have HK_0 := Lib.hid (Kept.refl w)
        have HA_0 := Lib.hid lhl
        clear lhl
        refine (votesAwake w).mono ?_
        rintro e W1 ⟨rfl, k⟩
        have HK_1 := Lib.hid (HK_0.out.trans k)
        have HA_1 := Lib.hid (HA_0.out.kept k)
        clear k HK_0 HA_0
        go_wp2_with fail
        go_ret
        exact ⟨by first | rfl | (simp; done), HK_1.out⟩
  · go_enter Try.func4, Try.ntmps4
    go_wp2_with fail
    have HK_0 := Lib.hid (Kept.refl w)
    have HA_0 := Lib.hid lhl
    clear lhl
    refine (votesAwake w).mono ?_
    rintro e W1 ⟨rfl, k⟩
    have HK_1 := Lib.hid (HK_0.out.trans k)
    have HA_1 := Lib.hid (HA_0.out.kept k)
    clear k HK_0 HA_0
    go_wp2_with fail
    go_ret
    exact ⟨by first | rfl | (simp; done), HK_1.out⟩

/-! ### The row's step -/
set_option maxRecDepth 100000 in
theorem lifted (os : Os) (started : os.Started) (H : Type) (enc : TypeId × Value → H) :
    ReturnsInHanded {} Try.checked os 4 .any (Rows.votesOrderSpec.pre6 enc Try.prog Try.f4 Rows.votesOrderRow.domain false) (Rows.votesOrderSpec.post enc Try.prog Try.f4 false true false false) := by
  refine returnsInHanded_of_change (C := Try.checked) own started (by kernel_rfl) Try.func4
    (ChangeSpec.witness6 (enc := enc) (C := Try.checked) false ⟨#[], #[.slice none 0 0, .int .i64 0, .int .i64 0], []⟩ 8 (by kernel_rfl) (by kernel_rfl) (by kernel_rfl) (by kernel_rfl)) ?_
  intro W base args ds gs before hval0 hW hcnd _
  have hval : ∀ (j : Nat) t v, Try.f4.params[j]? = some t → args[j]? = some v → Value.okWide Try.prog W .any base t v := hval0
  have hW' := hW
  obtain ⟨p, q, hA0, hV, rfl, hfz, hnd⟩ := hW
  have hA : DataW.TrodAll enc Try.prog W 0 (fun _ => true) true Try.f4.params.toList args.toList ds p := hA0
  rw [Try.params4] at hA hval
  obtain ⟨v0, vs0, d0, ds0, p0, q0, hargs, rfl, rfl, h0, r0⟩ := trodAll_cons hA
  obtain ⟨v1, vs1, d1, ds1, p1, q1, rfl, rfl, rfl, h1, r1⟩ := trodAll_cons r0
  obtain ⟨v2, vs2, d2, ds2, p2, q2, rfl, rfl, rfl, h2, r2⟩ := trodAll_cons r1
  obtain ⟨rfl, rfl, rfl⟩ := trodAll_nil r2
  obtain rfl : args = #[v0, v1, v2] := by cases args; simp_all
  obtain ⟨rfl, rfl⟩ := trodVars_none hV
  obtain ⟨lA, lc, l, rfl, lhm, lhc, lhw, lhl⟩ := open_votes (hval 0 _ v0 rfl rfl) h0
  obtain ⟨slot, rfl, hslot1, hslot2⟩ := open_num (hval 1 _ v1 rfl rfl) h1
  obtain ⟨at_, rfl, hat_1, hat_2⟩ := open_num (hval 2 _ v2 rfl rfl) h2
  clear hA0 hval0
  refine (walk W lA lc l lhm lhc lhw lhl slot hslot1 hslot2 at_ hat_1 hat_2).mono fun e W' ⟨he, hb⟩ => ?_
  subst he
  exact ⟨_, rfl, law_post rfl (by kernel_rfl) rfl hW' rfl hb⟩

theorem over : Rows.votesOrderRow.holds Try.pinned (OpenSpec.ofChange Rows.votesOrderSpec) :=
  OpenClaim.holds_of_wide 4 Try.f4 rfl rfl rfl rfl rfl rfl rfl ⟨rfl, rfl, rfl, rfl, rfl⟩ rfl rfl rfl rfl rfl (by kernel_rfl) Try.func4 (by kernel_rfl)
    (of_decide_eq_true (by kernel_rfl)) (by unfold Func.isWrapper; first | (rw [if_pos (by decide +kernel)]; kernel_rfl) | (rw [if_neg (by decide +kernel)]; exact ⟨rfl, rfl⟩))
    (fun os started H enc _ => lifted os started H enc)

/-- The statement. -/
theorem proved : Rows.VotesOrderSaid :=
  over
#print axioms proved
end Go.Proofs.Ytjcjglhoknbhpaa.votesOrder
