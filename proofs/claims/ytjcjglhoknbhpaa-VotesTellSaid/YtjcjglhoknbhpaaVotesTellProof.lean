/-
  Law VotesTell of layer 7: who is double in any slot, and which votes count, of a slot and as the last ones, is what the document says, whatever votes and slot.
-/
import Derived.Test.YtjcjglhoknbhpaaVoteAwake
import Derived.Test.YtjcjglhoknbhpaaVoteSame
import Derived.Test.YtjcjglhoknbhpaaVoteOpen
import Derived.Test.YtjcjglhoknbhpaaNumOpen
import Derived.Test.YtjcjglhoknbhpaaVoteRefLast
namespace Go.Proofs.Ytjcjglhoknbhpaa.votesTell
open Go.ChangeShapes Go.WideShapes Go.ChangeAt Go.RowKit
set_option linter.unusedVariables false

/-! ### The walk: the call returns true, and of what was there nothing has changed. -/
set_option maxHeartbeats 1000000 in
theorem walk (w : World) (lA : Option Addr) (lc : Nat) (l : List Vt) (lhm : l.length ≤ maxLen) (lhc : l.length ≤ lc) (lhw : WfVs l) (lhl : CellsAt w w.heap.size lA (votesCells l)) (slot : Int) (hslot1 : -9223372036854775808 ≤ slot) (hslot2 : slot ≤ 9223372036854775807) :
    Calls Try.prog 3 #[.slice lA l.length lc, .int .i64 slot] w fun e w' => e = .returned (.bool true) ∧ Kept w w' := by
  by_cases h40 : l.length ≤ 40
  · have hl6 : l.length ≤ 1000000 := by omega
    have hl9 : l.length ≤ 900000 := by omega
    go_enter Try.func3, Try.ntmps3
    go_wp2_with fail
    have HK_0 := Lib.hid (Kept.refl w)
    have HA_0 := Lib.hid lhl
    clear lhl
    refine (votesAwake w).mono ?_
    rintro e W1 ⟨rfl, k⟩
    have HK_1 := Lib.hid (HK_0.out.trans k)
    have HA_1 := Lib.hid (HA_0.out.kept k)
    clear k HK_0 HA_0
    go_wp2_with fail
    refine (doubles_any lA lc l hl6 lhw slot W1 HA_1.out).mono ?_
    rintro e W2 ⟨R1, hR1, hn1, A1, c1, rfl, hc1, k⟩
    have HK_2 := Lib.hid (HK_1.out.trans k)
    have HA_2 := Lib.hid (HA_1.out.kept k)
    clear k HK_1 HA_1
    have HC1_2 := Lib.hid hc1
    clear hc1
    have HR1 := Lib.hid hR1
    clear hR1
    go_wp2_with fail
    refine (refDoubles_any lA lc l hl9 slot W2 HA_2.out).mono ?_
    rintro e W3 ⟨R2, hR2, hn2, A2, c2, rfl, hc2, k⟩
    have HK_3 := Lib.hid (HK_2.out.trans k)
    have HA_3 := Lib.hid (HA_2.out.kept k)
    have HC1_3 := Lib.hid (HC1_2.out.kept k)
    clear k HK_2 HA_2 HC1_2
    have HC2_3 := Lib.hid hc2
    clear hc2
    have e := HR1.out.unique hR2
    clear HR1 hR2
    subst e
    go_wp2_with fail
    refine (ints_same7 _ _ _ _ R1 W3 (by omega) HC1_3.out HC2_3.out).mono ?_
    rintro e W4 ⟨rfl, k⟩
    have HK_4 := Lib.hid (HK_3.out.trans k)
    have HA_4 := Lib.hid (HA_3.out.kept k)
    have HC1_4 := Lib.hid (HC1_3.out.kept k)
    have HC2_4 := Lib.hid (HC2_3.out.kept k)
    clear k HK_3 HA_3 HC1_3 HC2_3
    go_wp2_with fail
    clear HC1_4
    clear HC2_4
    refine (of_any lA lc l hl6 lhw slot W4 HA_4.out).mono ?_
    rintro e W5 ⟨R3, hR3, hn3, A3, c3, rfl, hc3, k⟩
    have HK_5 := Lib.hid (HK_4.out.trans k)
    have HA_5 := Lib.hid (HA_4.out.kept k)
    clear k HK_4 HA_4
    have HC3_5 := Lib.hid hc3
    clear hc3
    have HR3 := Lib.hid hR3
    clear hR3
    go_wp2_with fail
    refine (refOf_any lA lc l hl9 slot W5 HA_5.out).mono ?_
    rintro e W6 ⟨R4, hR4, hn4, A4, c4, rfl, hc4, k⟩
    have HK_6 := Lib.hid (HK_5.out.trans k)
    have HA_6 := Lib.hid (HA_5.out.kept k)
    have HC3_6 := Lib.hid (HC3_5.out.kept k)
    clear k HK_5 HA_5 HC3_5
    have HC4_6 := Lib.hid hc4
    clear hc4
    have e := HR3.out.unique hR4
    clear HR3 hR4
    subst e
    go_wp2_with fail
    refine (votes_same _ _ _ _ R3 W6 (by omega) HC3_6.out HC4_6.out).mono ?_
    rintro e W7 ⟨rfl, k⟩
    have HK_7 := Lib.hid (HK_6.out.trans k)
    have HA_7 := Lib.hid (HA_6.out.kept k)
    have HC3_7 := Lib.hid (HC3_6.out.kept k)
    have HC4_7 := Lib.hid (HC4_6.out.kept k)
    clear k HK_6 HA_6 HC3_6 HC4_6
    go_wp2_with fail
    clear HC3_7
    clear HC4_7
    refine (last_any lA lc l hl6 lhw slot W7 HA_7.out).mono ?_
    rintro e W8 ⟨R5, hR5, hn5, A5, c5, rfl, hc5, k⟩
    have HK_8 := Lib.hid (HK_7.out.trans k)
    have HA_8 := Lib.hid (HA_7.out.kept k)
    clear k HK_7 HA_7
    have HC5_8 := Lib.hid hc5
    clear hc5
    have HR5 := Lib.hid hR5
    clear hR5
    go_wp2_with fail
    refine (refLast_any lA lc l hl9 slot W8 HA_8.out).mono ?_
    rintro e W9 ⟨R6, hR6, hn6, A6, c6, rfl, hc6, k⟩
    have HK_9 := Lib.hid (HK_8.out.trans k)
    have HA_9 := Lib.hid (HA_8.out.kept k)
    have HC5_9 := Lib.hid (HC5_8.out.kept k)
    clear k HK_8 HA_8 HC5_8
    have HC6_9 := Lib.hid hc6
    clear hc6
    have e := HR5.out.unique hR6
    clear HR5 hR6
    subst e
    go_wp2_with fail
    refine (votes_same _ _ _ _ R5 W9 (by omega) HC5_9.out HC6_9.out).mono ?_
    rintro e W10 ⟨rfl, k⟩
    have HK_10 := Lib.hid (HK_9.out.trans k)
    have HA_10 := Lib.hid (HA_9.out.kept k)
    have HC5_10 := Lib.hid (HC5_9.out.kept k)
    have HC6_10 := Lib.hid (HC6_9.out.kept k)
    clear k HK_9 HA_9 HC5_9 HC6_9
    go_wp2_with fail
    clear HC5_10
    clear HC6_10
    go_ret
    exact ⟨by first | rfl | (simp; done), HK_10.out⟩
  · go_enter Try.func3, Try.ntmps3
    go_wp2_with fail
    have HK_0 := Lib.hid (Kept.refl w)
    have HA_0 := Lib.hid lhl
    clear lhl
    refine (votesAwake w).mono ?_
    rintro e W1 ⟨rfl, k⟩
    have HK_1 := Lib.hid (HK_0.out.trans k)
    have HA_1 := Lib.hid (HA_0.out.kept k)
    clear k HK_0 HA_0
    go_wp2_with fail
    go_ret
    exact ⟨by first | rfl | (simp; done), HK_1.out⟩

/-! ### The row's step -/
set_option maxRecDepth 100000 in
theorem lifted (os : Os) (started : os.Started) (H : Type) (enc : TypeId × Value → H) :
    ReturnsInHanded {} Try.checked os 3 .any (Rows.votesTellSpec.pre6 enc Try.prog Try.f3 Rows.votesTellRow.domain false) (Rows.votesTellSpec.post enc Try.prog Try.f3 false true false false) := by
  refine returnsInHanded_of_change (C := Try.checked) own started (by kernel_rfl) Try.func3
    (ChangeSpec.witness6 (enc := enc) (C := Try.checked) false ⟨#[], #[.slice none 0 0, .int .i64 0], []⟩ 8 (by kernel_rfl) (by kernel_rfl) (by kernel_rfl) (by kernel_rfl)) ?_
  intro W base args ds gs before hval0 hW hcnd _
  have hval : ∀ (j : Nat) t v, Try.f3.params[j]? = some t → args[j]? = some v → Value.okWide Try.prog W .any base t v := hval0
  have hW' := hW
  obtain ⟨p, q, hA0, hV, rfl, hfz, hnd⟩ := hW
  have hA : DataW.TrodAll enc Try.prog W 0 (fun _ => true) true Try.f3.params.toList args.toList ds p := hA0
  rw [Try.params3] at hA hval
  obtain ⟨v0, vs0, d0, ds0, p0, q0, hargs, rfl, rfl, h0, r0⟩ := trodAll_cons hA
  obtain ⟨v1, vs1, d1, ds1, p1, q1, rfl, rfl, rfl, h1, r1⟩ := trodAll_cons r0
  obtain ⟨rfl, rfl, rfl⟩ := trodAll_nil r1
  obtain rfl : args = #[v0, v1] := by cases args; simp_all
  obtain ⟨rfl, rfl⟩ := trodVars_none hV
  obtain ⟨lA, lc, l, rfl, lhm, lhc, lhw, lhl⟩ := open_votes (hval 0 _ v0 rfl rfl) h0
  obtain ⟨slot, rfl, hslot1, hslot2⟩ := open_num (hval 1 _ v1 rfl rfl) h1
  clear hA0 hval0
  refine (walk W lA lc l lhm lhc lhw lhl slot hslot1 hslot2).mono fun e W' ⟨he, hb⟩ => ?_
  subst he
  exact ⟨_, rfl, law_post rfl (by kernel_rfl) rfl hW' rfl hb⟩

theorem over : Rows.votesTellRow.holds Try.pinned (OpenSpec.ofChange Rows.votesTellSpec) :=
  OpenClaim.holds_of_wide 3 Try.f3 rfl rfl rfl rfl rfl rfl rfl ⟨rfl, rfl, rfl, rfl, rfl⟩ rfl rfl rfl rfl rfl (by kernel_rfl) Try.func3 (by kernel_rfl)
    (of_decide_eq_true (by kernel_rfl)) (by unfold Func.isWrapper; first | (rw [if_pos (by decide +kernel)]; kernel_rfl) | (rw [if_neg (by decide +kernel)]; exact ⟨rfl, rfl⟩))
    (fun os started H enc _ => lifted os started H enc)

/-- The statement. -/
theorem proved : Rows.VotesTellSaid :=
  over
#print axioms proved
end Go.Proofs.Ytjcjglhoknbhpaa.votesTell
