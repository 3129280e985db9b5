/-
  Law VotesSlots of layer 7: votes of other slots do not matter to a slot, nor later ones to the last ones up to it, whatever votes and slot.
-/
import Derived.Test.YtjcjglhoknbhpaaVoteAwake
import Derived.Test.YtjcjglhoknbhpaaVoteSame
import Derived.Test.YtjcjglhoknbhpaaVoteOpen
import Derived.Test.YtjcjglhoknbhpaaNumOpen
import Derived.Test.YtjcjglhoknbhpaaVoteTwo
namespace Go.Proofs.Ytjcjglhoknbhpaa.votesSlots
open Go.ChangeShapes Go.WideShapes Go.ChangeAt Go.RowKit
set_option linter.unusedVariables false

/-! ### The walk: the call returns true, and of what was there nothing has changed. -/
set_option maxHeartbeats 1000000 in
theorem walk (w : World) (lA : Option Addr) (lc : Nat) (l : List Vt) (lhm : l.length ≤ maxLen) (lhc : l.length ≤ lc) (lhw : WfVs l) (lhl : CellsAt w w.heap.size lA (votesCells l)) (slot : Int) (hslot1 : -9223372036854775808 ≤ slot) (hslot2 : slot ≤ 9223372036854775807) :
    Calls Try.prog 7 #[.slice lA l.length lc, .int .i64 slot] w fun e w' => e = .returned (.bool true) ∧ Kept w w' := by
  by_cases h40 : l.length ≤ 40
  · have hl6 : l.length ≤ 1000000 := by omega
    go_enter Try.func7, Try.ntmps7
    go_wp2_with fail
    have HK_0 := Lib.hid (Kept.refl w)
    have HA_0 := Lib.hid lhl
    clear lhl
    refine (votesAwake w).mono ?_
    rintro e W1 ⟨rfl, k⟩
    have HK_1 := Lib.hid (HK_0.out.trans k)
    have HA_1 := Lib.hid (HA_0.out.kept k)
    clear k HK_0 HA_0
    go_wp2_with fail
    go_loopw [6, 7, 8] (fun v6 v7 i w' => ∃ j : Nat, j ≤ l.length ∧ i = .int .i64 (j : Nat) ∧ Vts2 W1 (fitL (isQ slot) (l.take j)) v6 (fitL (upQ slot) (l.take j)) v7 w') (fun _ _ i _ => l.length - (intOf i).toNat)
    case atStart => exact ⟨0, by omega, rfl, Vts2.nil W1⟩
    case round =>
      obtain ⟨j, hj, rfl, hV⟩ := hrel
      have HV := Lib.hid hV
      have HL1 := Lib.hid (fitL_le (isQ slot) (l.take j))
      have HL2 := Lib.hid (fitL_le (upQ slot) (l.take j))
      clear hV
      by_cases hlt : j < l.length
      · obtain ⟨z, o, rfl, hb, c0, c1, c2, c3⟩ := vote_at (HA_1.out.kept HV.out.1.2) hlt
        have HT := Lib.hid (take_vt hlt)
        have hl1 : (fitL (isQ slot) (l.take j)).length + 1 ≤ 10000000 := by have := HL1.out; rw [List.length_take] at this; omega
        have hl2 : (fitL (upQ slot) (l.take j)).length + 1 ≤ 10000000 := by have := HL2.out; rw [List.length_take] at this; omega
        obtain ⟨x, hx⟩ : ∃ x, x = l[j] := ⟨_, rfl⟩
        rw [← hx] at c0 c1 c2 c3 HT
        have HX := Lib.hid hx
        clear hx
        by_cases h1 : x.s = slot
        · subst h1
          have HN1 := Lib.hid (fitL_yes (q := isQ x.s) (L := l.take j) (v := x) (isQ_iff.2 rfl))
          have HN2 := Lib.hid (fitL_yes (q := upQ x.s) (L := l.take j) (v := x) (upQ_iff.2 (Int.le_refl _)))
          go_wp2_with (first | (refine wpList_two2 _ rfl _ _ rfl W1 (fitL (isQ x.s) (l.take j) ++ [x]) (fitL (upQ x.s) (l.take j)) v1 _ rfl (HVV.out.alloc _) _ _ 1 1 [x] rfl rfl (votes_one_at (HasCells.new _ _ _ _ rfl)) hl2 ?_; intro v2 w2 HV2) | (refine wpList_two1 _ rfl _ _ rfl W1 (fitL (isQ x.s) (l.take j)) (fitL (upQ x.s) (l.take j)) _ u7 rfl (HV.out.alloc _) _ _ 1 1 [x] rfl rfl (votes_one_at (HasCells.new _ _ _ _ rfl)) hl1 ?_; intro v1 w1 HV1; have HVV := Lib.hid HV1; obtain ⟨z', o', ez, _, d0, d1, d2, d3⟩ := vote_at (HA_1.out.kept HV1.1.2) hlt; rw [← HX.out] at d0 d1 d2 d3; obtain ⟨rfl, rfl⟩ : z = z' ∧ o = o' := (by injection ez with ez; injection ez with e1 e2; exact ⟨e1, e2⟩); clear HV1 ez))
          go_roundw
          case rel => exact ⟨j + 1, by omega, by go_num, by rw [HT.out, HN1.out, HN2.out]; exact HV2⟩
          case measure => simp [intOf]; omega
        · by_cases h2 : x.s ≤ slot
          · have hne1 : isQ slot x.s = false := decide_eq_false h1
            have HN1 := Lib.hid (fitL_no (L := l.take j) hne1)
            have HN2 := Lib.hid (fitL_yes (L := l.take j) (upQ_iff.2 h2))
            clear hne1
            go_wp2_with (refine wpList_two2 _ rfl _ _ rfl W1 (fitL (isQ slot) (l.take j)) (fitL (upQ slot) (l.take j)) u6 _ rfl (HV.out.alloc _) _ _ 1 1 [x] rfl rfl (votes_one_at (HasCells.new _ _ _ _ rfl)) hl2 ?_; intro v1 w1 HV1)
            go_roundw
            case rel => exact ⟨j + 1, by omega, by go_num, by rw [HT.out, HN1.out, HN2.out]; exact HV1⟩
            case measure => simp [intOf]; omega
          · have hne1 : isQ slot x.s = false := decide_eq_false h1
            have hne2 : upQ slot x.s = false := decide_eq_false h2
            have HN1 := Lib.hid (fitL_no (L := l.take j) hne1)
            have HN2 := Lib.hid (fitL_no (L := l.take j) hne2)
            clear hne1 hne2
            go_wp2_with fail
            go_roundw
            case rel => exact ⟨j + 1, by omega, by go_num, by rw [HT.out, HN1.out, HN2.out]; exact HV.out⟩
            case measure => simp [intOf]; omega
      · have hjl : j = l.length := by omega
        subst hjl
        have HT := Lib.hid (show l.take l.length = l from List.take_length)
        have HV2 : Vts2 W1 (fitL (isQ slot) l) u6 (fitL (upQ slot) l) u7 wr := by have := HV.out; rwa [HT.out] at this
        have k := HV2.1.2
        have HK_2 := Lib.hid (HK_1.out.trans k)
        have HA_2 := Lib.hid (HA_1.out.kept k)
        clear k HK_1 HA_1
        have HF1 := Lib.hid (lhw.fit (isQ slot))
        have HF2 := Lib.hid (lhw.fit (upQ slot))
        have hf1 : (fitL (isQ slot) l).length ≤ 1000000 := by have := fitL_le (isQ slot) l; omega
        have hf2 : (fitL (upQ slot) l).length ≤ 1000000 := by have := fitL_le (upQ slot) l; omega
        obtain ⟨B1, d1, rfl⟩ := HV2.1.slice
        obtain ⟨B2, d2, rfl⟩ := HV2.2.1.slice
        have HM_2 := Lib.hid (CellsAt.of_own HV2.1.1)
        have HN_2 := Lib.hid (CellsAt.of_own HV2.2.1.1)
        clear HV HV2 HT HL1 HL2
        go_wp2_with fail
        refine (of_any lA lc l hl6 lhw slot wr HA_2.out).mono ?_
        rintro e W3 ⟨R1, hR1, hn1, A1, c1, rfl, hc1, k⟩
        have HK_3 := Lib.hid (HK_2.out.trans k)
        have HA_3 := Lib.hid (HA_2.out.kept k)
        have HM_3 := Lib.hid (HM_2.out.kept k)
        have HN_3 := Lib.hid (HN_2.out.kept k)
        clear k HK_2 HA_2 HM_2 HN_2
        have HC1_3 := Lib.hid hc1
        clear hc1
        have HR1 := Lib.hid hR1
        clear hR1
        go_wp2_with fail
        refine (of_any B1 d1 (fitL (isQ slot) l) hf1 HF1.out slot W3 HM_3.out).mono ?_
        rintro e W4 ⟨R2, hR2, hn2, A2, c2, rfl, hc2, k⟩
        have HK_4 := Lib.hid (HK_3.out.trans k)
        have HA_4 := Lib.hid (HA_3.out.kept k)
        have HM_4 := Lib.hid (HM_3.out.kept k)
        have HN_4 := Lib.hid (HN_3.out.kept k)
        have HC1_4 := Lib.hid (HC1_3.out.kept k)
        clear k HK_3 HA_3 HM_3 HN_3 HC1_3
        have HC2_4 := Lib.hid hc2
        clear hc2
        have HR2 := Lib.hid hR2
        clear hR2
        have e := HR1.out.fit HR2.out
        clear HR1 HR2
        subst e
        go_wp2_with fail
        refine (votes_same _ _ _ _ R1 W4 (by omega) HC1_4.out HC2_4.out).mono ?_
        rintro e W5 ⟨rfl, k⟩
        have HK_5 := Lib.hid (HK_4.out.trans k)
        have HA_5 := Lib.hid (HA_4.out.kept k)
        have HM_5 := Lib.hid (HM_4.out.kept k)
        have HN_5 := Lib.hid (HN_4.out.kept k)
        have HC1_5 := Lib.hid (HC1_4.out.kept k)
        have HC2_5 := Lib.hid (HC2_4.out.kept k)
        clear k HK_4 HA_4 HM_4 HN_4 HC1_4 HC2_4
        go_wp2_with fail
        clear HC1_5
        clear HC2_5
        refine (last_any lA lc l hl6 lhw slot W5 HA_5.out).mono ?_
        rintro e W6 ⟨R3, hR3, hn3, A3, c3, rfl, hc3, k⟩
        have HK_6 := Lib.hid (HK_5.out.trans k)
        have HA_6 := Lib.hid (HA_5.out.kept k)
        have HM_6 := Lib.hid (HM_5.out.kept k)
        have HN_6 := Lib.hid (HN_5.out.kept k)
        clear k HK_5 HA_5 HM_5 HN_5
        have HC3_6 := Lib.hid hc3
        clear hc3
        have HR3 := Lib.hid hR3
        clear hR3
        go_wp2_with fail
        refine (last_any B2 d2 (fitL (upQ slot) l) hf2 HF2.out slot W6 HN_6.out).mono ?_
        rintro e W7 ⟨R4, hR4, hn4, A4, c4, rfl, hc4, k⟩
        have HK_7 := Lib.hid (HK_6.out.trans k)
        have HA_7 := Lib.hid (HA_6.out.kept k)
        have HM_7 := Lib.hid (HM_6.out.kept k)
        have HN_7 := Lib.hid (HN_6.out.kept k)
        have HC3_7 := Lib.hid (HC3_6.out.kept k)
        clear k HK_6 HA_6 HM_6 HN_6 HC3_6
        have HC4_7 := Lib.hid hc4
        clear hc4
        have HR4 := Lib.hid hR4
        clear hR4
        have e := HR3.out.fit HR4.out
        clear HR3 HR4
        subst e
        go_wp2_with fail
        refine (votes_same _ _ _ _ R3 W7 (by omega) HC3_7.out HC4_7.out).mono ?_
        rintro e W8 ⟨rfl, k⟩
        have HK_8 := Lib.hid (HK_7.out.trans k)
        have HA_8 := Lib.hid (HA_7.out.kept k)
        have HM_8 := Lib.hid (HM_7.out.kept k)
        have HN_8 := Lib.hid (HN_7.out.kept k)
        have HC3_8 := Lib.hid (HC3_7.out.kept k)
        have HC4_8 := Lib.hid (HC4_7.out.kept k)
        clear k HK_7 HA_7 HM_7 HN_7 HC3_7 HC4_7
        go_wp2_with fail
        clear HC3_8
        clear HC4_8
        refine (doubles_any lA lc l hl6 lhw slot W8 HA_8.out).mono ?_
        rintro e W9 ⟨R5, hR5, hn5, A5, c5, rfl, hc5, k⟩
        have HK_9 := Lib.hid (HK_8.out.trans k)
        have HA_9 := Lib.hid (HA_8.out.kept k)
        have HM_9 := Lib.hid (HM_8.out.kept k)
        have HN_9 := Lib.hid (HN_8.out.kept k)
        clear k HK_8 HA_8 HM_8 HN_8
        have HC5_9 := Lib.hid hc5
        clear hc5
        have HR5 := Lib.hid hR5
        clear hR5
        go_wp2_with fail
        refine (doubles_any B1 d1 (fitL (isQ slot) l) hf1 HF1.out slot W9 HM_9.out).mono ?_
        rintro e W10 ⟨R6, hR6, hn6, A6, c6, rfl, hc6, k⟩
        have HK_10 := Lib.hid (HK_9.out.trans k)
        have HA_10 := Lib.hid (HA_9.out.kept k)
        have HM_10 := Lib.hid (HM_9.out.kept k)
        have HN_10 := Lib.hid (HN_9.out.kept k)
        have HC5_10 := Lib.hid (HC5_9.out.kept k)
        clear k HK_9 HA_9 HM_9 HN_9 HC5_9
        have HC6_10 := Lib.hid hc6
        clear hc6
        have HR6 := Lib.hid hR6
        clear hR6
        have e := HR5.out.fit HR6.out
        clear HR5 HR6
        subst e
        go_wp2_with fail
        refine (ints_same7 _ _ _ _ R5 W10 (by omega) HC5_10.out HC6_10.out).mono ?_
        rintro e W11 ⟨rfl, k⟩
        have HK_11 := Lib.hid (HK_10.out.trans k)
        have HA_11 := Lib.hid (HA_10.out.kept k)
        have HM_11 := Lib.hid (HM_10.out.kept k)
        have HN_11 := Lib.hid (HN_10.out.kept k)
        have HC5_11 := Lib.hid (HC5_10.out.kept k)
        have HC6_11 := Lib.hid (HC6_10.out.kept k)
        clear k HK_10 HA_10 HM_10 HN_10 HC5_10 HC6_10
        go_wp2_with fail
        clear HC5_11
        clear HC6_11
        go_ret
        exact ⟨by first | rfl | (simp; done), HK_11.out⟩
  · go_enter Try.func7, Try.ntmps7
    go_wp2_with fail
    have HK_0 := Lib.hid (Kept.refl w)
    have HA_0 := Lib.hid lhl
    clear lhl
    refine (votesAwake w).mono ?_
    rintro e W1 ⟨rfl, k⟩
    have HK_1 := Lib.hid (HK_0.out.trans k)
    have HA_1 := Lib.hid (HA_0.out.kept k)
    clear k HK_0 HA_0
    go_wp2_with fail
    go_ret
    exact ⟨by first | rfl | (simp; done), HK_1.out⟩

/-! ### The row's step -/
set_option maxRecDepth 100000 in
theorem lifted (os : Os) (started : os.Started) (H : Type) (enc : TypeId × Value → H) :
    ReturnsInHanded {} Try.checked os 7 .any (Rows.votesSlotsSpec.pre6 enc Try.prog Try.f7 Rows.votesSlotsRow.domain false) (Rows.votesSlotsSpec.post enc Try.prog Try.f7 false true false false) := by
  refine returnsInHanded_of_change (C := Try.checked) own started (by kernel_rfl) Try.func7
    (ChangeSpec.witness6 (enc := enc) (C := Try.checked) false ⟨#[], #[.slice none 0 0, .int .i64 0], []⟩ 8 (by kernel_rfl) (by kernel_rfl) (by kernel_rfl) (by kernel_rfl)) ?_
  intro W base args ds gs before hval0 hW hcnd _
  have hval : ∀ (j : Nat) t v, Try.f7.params[j]? = some t → args[j]? = some v → Value.okWide Try.prog W .any base t v := hval0
  have hW' := hW
  obtain ⟨p, q, hA0, hV, rfl, hfz, hnd⟩ := hW
  have hA : DataW.TrodAll enc Try.prog W 0 (fun _ => true) true Try.f7.params.toList args.toList ds p := hA0
  rw [Try.params7] at hA hval
  obtain ⟨v0, vs0, d0, ds0, p0, q0, hargs, rfl, rfl, h0, r0⟩ := trodAll_cons hA
  obtain ⟨v1, vs1, d1, ds1, p1, q1, rfl, rfl, rfl, h1, r1⟩ := trodAll_cons r0
  obtain ⟨rfl, rfl, rfl⟩ := trodAll_nil r1
  obtain rfl : args = #[v0, v1] := by cases args; simp_all
  obtain ⟨rfl, rfl⟩ := trodVars_none hV
  obtain ⟨lA, lc, l, rfl, lhm, lhc, lhw, lhl⟩ := open_votes (hval 0 _ v0 rfl rfl) h0
  obtain ⟨slot, rfl, hslot1, hslot2⟩ := open_num (hval 1 _ v1 rfl rfl) h1
  clear hA0 hval0
  refine (walk W lA lc l lhm lhc lhw lhl slot hslot1 hslot2).mono fun e W' ⟨he, hb⟩ => ?_
  subst he
  exact ⟨_, rfl, law_post rfl (by kernel_rfl) rfl hW' rfl hb⟩

theorem over : Rows.votesSlotsRow.holds Try.pinned (OpenSpec.ofChange Rows.votesSlotsSpec) :=
  OpenClaim.holds_of_wide 7 Try.f7 rfl rfl rfl rfl rfl rfl rfl ⟨rfl, rfl, rfl, rfl, rfl⟩ rfl rfl rfl rfl rfl (by kernel_rfl) Try.func7 (by kernel_rfl)
    (of_decide_eq_true (by kernel_rfl)) (by unfold Func.isWrapper; first | (rw [if_pos (by decide +kernel)]; kernel_rfl) | (rw [if_neg (by decide +kernel)]; exact ⟨rfl, rfl⟩))
    (fun os started H enc _ => lifted os started H enc)

/-- The statement. -/
theorem proved : Rows.VotesSlotsSaid :=
  over
#print axioms proved
end Go.Proofs.Ytjcjglhoknbhpaa.votesSlots
