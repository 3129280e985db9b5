/-
  Law VotesMore of layer 7: one more vote changes only what of its voter counts, and who was double stays so, whatever votes, vote and slot.
-/
import Derived.Test.YtjcjglhoknbhpaaVoteAwake
import Derived.Test.YtjcjglhoknbhpaaVoteSame
import Derived.Test.YtjcjglhoknbhpaaVoteThere
import Derived.Test.YtjcjglhoknbhpaaVoteOpen
import Derived.Test.YtjcjglhoknbhpaaNumOpen
import Derived.Test.YtjcjglhoknbhpaaVoteMoreFacts
namespace Go.Proofs.Ytjcjglhoknbhpaa.votesMore
open Go.ChangeShapes Go.WideShapes Go.ChangeAt Go.RowKit
set_option linter.unusedVariables false

/-! ### The walk: the call returns true, and of what was there nothing has changed. -/
set_option maxRecDepth 100000 in
set_option maxHeartbeats 8000000 in
theorem walk (w : World) (lA : Option Addr) (lc : Nat) (l : List Vt) (lhm : l.length ≤ maxLen) (lhc : l.length ≤ lc) (lhw : WfVs l) (lhl : CellsAt w w.heap.size lA (votesCells l)) (v : Vt) (hv : WfV v) (slot : Int) (hslot1 : -9223372036854775808 ≤ slot) (hslot2 : slot ≤ 9223372036854775807) :
    Calls Try.prog 6 #[.slice lA l.length lc, .agg #[.int .i64 v.f, .int .i64 v.s, .int .u64 v.p.1, .int .u64 v.p.2], .int .i64 slot] w fun e w' => e = .returned (.bool true) ∧ Kept w w' := by
  by_cases h40 : l.length ≤ 40
  · have hl6 : l.length ≤ 1000000 := by omega
    go_enter Try.func6, Try.ntmps6
    go_wp2_with fail
    have HK_0 := Lib.hid ((Kept.refl w).alloc (.cells #[.int .i64 v.f, .int .i64 v.s, .int .u64 v.p.1, .int .u64 v.p.2] 36))
    have HA_0 := Lib.hid (lhl.kept ((Kept.refl w).alloc (.cells #[.int .i64 v.f, .int .i64 v.s, .int .u64 v.p.1, .int .u64 v.p.2] 36)))
    have HB_0 := Lib.hid (HasCells.new w #[.int .i64 v.f, .int .i64 v.s, .int .u64 v.p.1, .int .u64 v.p.2] 36 w.heap.size rfl)
    generalize w.alloc (.cells #[.int .i64 v.f, .int .i64 v.s, .int .u64 v.p.1, .int .u64 v.p.2] 36) = W0 at *
    generalize hzv : w.heap.size = zv at *
    clear hzv lhl
    refine (votesAwake W0).mono ?_
    rintro e W1 ⟨rfl, k⟩
    have HK_1 := Lib.hid (HK_0.out.trans k)
    have HA_1 := Lib.hid (HA_0.out.kept k)
    have HB_1 := Lib.hid (HB_0.out.kept k)
    clear k HK_0 HA_0 HB_0
    go_wp2_with fail
    obtain ⟨c0, c1, c2, c3⟩ := HB_1.out.four
    have hz0 := HB_1.out.1
    have hlen : l.length + 1 ≤ 1000000 := by omega
    have hq := (⟨c0, c1, c2, c3, Kept.refl W1⟩ : _ ∧ _ ∧ _ ∧ _ ∧ _)
    go_region_held3 (fun w' => w'.cell? ⟨zv, 0, none⟩ = some (.int .i64 v.f) ∧ w'.cell? ⟨zv, 1, none⟩ = some (.int .i64 v.s) ∧ w'.cell? ⟨zv, 2, none⟩ = some (.int .u64 v.p.1) ∧ w'.cell? ⟨zv, 3, none⟩ = some (.int .u64 v.p.2) ∧ Kept W1 w')
      (first | exact hq | exact ⟨c0, c1, c2, c3, (Kept.refl _).drew⟩ | assumption | exact keep4 hz0 hq (Kept.trans (Kept.drew (Kept.refl _)) b2.2) | exact keep4 hz0 hq (Kept.trans (Kept.drew (Kept.alloc (Kept.refl _) _)) b2.2) | exact keep4 hz0 hq (Kept.trans (Kept.drew (Kept.refl _)) b1.2) | exact keep4 hz0 hq (Kept.trans (Kept.drew (Kept.alloc (Kept.refl _) _)) b1.2) | exact keep4 hz0 hq (Kept.drew (Kept.alloc (Kept.refl _) _)) | exact keep4 hz0 (by assumption) ((Kept.refl _).alloc _) | exact keep4 hz0 (by assumption) (by assumption))
      (first
        | (refine step_vnil _ (by rfl) (.tmp 22) (by rfl) _ lA l.length lc l (by rfl) rfl (HA_1.out.kept (Kept.refl _).drew) (by omega) ?_; intro A1 d1 w1 b1)
        | (refine step_vnil _ (by rfl) (.tmp 22) (by rfl) _ lA l.length lc l (by rfl) rfl (HA_1.out.kept (Kept.drew (Kept.alloc (Kept.refl _) _))) (by omega) ?_; intro A1 d1 w1 b1)
        | (refine step_vts _ (by rfl) (.tmp 23) (.tmp 25) (by rfl) _ l _ (by rfl) (b1.alloc _) _ _ 1 1 [v] (by rfl) rfl (votes_one _ _ _ _ rfl) hlen ?_; intro AM dM w2 b2)
        | (refine step_vts _ (by rfl) (.tmp 23) (.tmp 25) (by rfl) _ l _ (by rfl) b1 _ _ 1 1 [v] (by rfl) rfl (((votes_one W1 _ _ _ rfl).kept (Kept.drew (Kept.refl _))).kept b1.2) hlen ?_; intro AM dM w2 b2))
    all_goals
      rename_i hh
      have k := hh.2.2.2.2
      have XB := Lib.hid (CellsAt.of_own b2.1)
      clear hh hq b1 b2 c0 c1 c2 c3 hz0
      have HK_2 := Lib.hid (HK_1.out.trans k)
      have HA_2 := Lib.hid (HA_1.out.kept k)
      have HB_2 := Lib.hid (HB_1.out.kept k)
      clear k HK_1 HA_1 HB_1
      generalize w2 = W2 at *
      have HM_2 := XB
      clear XB
      have hmL : (l ++ [v]).length ≤ 41 := by simp; omega
      have hmw : WfVs (l ++ [v]) := wf_more lhw hv
      have hMl : l.length + 1 = (l ++ [v]).length := by simp
      generalize hM : l ++ [v] = M at *
      have HM0 := Lib.hid hM
      try rw [hMl]
      clear hM hMl
      have hml : M.length ≤ 1000000 := by omega
      go_wp2_with fail
      refine (doubles_any lA lc l hl6 lhw slot W2 HA_2.out).mono ?_
      rintro e W3 ⟨R1, hR1, hn1, A1, c1, rfl, hc1, k⟩
      have HK_3 := Lib.hid (HK_2.out.trans k)
      have HA_3 := Lib.hid (HA_2.out.kept k)
      have HB_3 := Lib.hid (HB_2.out.kept k)
      have HM_3 := Lib.hid (HM_2.out.kept k)
      clear k HK_2 HA_2 HB_2 HM_2
      have HC1_3 := Lib.hid hc1
      clear hc1
      have HR1 := Lib.hid hR1
      clear hR1
      go_wp2_with fail
      refine (doubles_any AM dM M hml hmw slot W3 HM_3.out).mono ?_
      rintro e W4 ⟨R2, hR2, hn2, A2, c2, rfl, hc2, k⟩
      have HK_4 := Lib.hid (HK_3.out.trans k)
      have HA_4 := Lib.hid (HA_3.out.kept k)
      have HB_4 := Lib.hid (HB_3.out.kept k)
      have HM_4 := Lib.hid (HM_3.out.kept k)
      have HC1_4 := Lib.hid (HC1_3.out.kept k)
      clear k HK_3 HA_3 HB_3 HM_3 HC1_3
      have HC2_4 := Lib.hid hc2
      clear hc2
      have HR2 := Lib.hid hR2
      clear hR2
      have hd := more_dbls HR1.out (by rw [HM0.out]; exact HR2.out)
      have hd1 : ¬ ((R2.length : Int) < (R1.length : Int)) := by omega
      have hd2 : ¬ ((R1.length : Int) + 1 < (R2.length : Int)) := by omega
      clear hd
      go_wp2_with fail
      clear HC1_4
      clear HC2_4
      clear HR1 HR2
      have c0 := HB_4.out.at0
      have hz0 := HB_4.out.1
      have XOl := Lib.hid (fun w' (h : Kept W4 w') => of_any lA lc l hl6 lhw slot w' (HA_4.out.kept h))
      have XOm := Lib.hid (fun w' (h : Kept W4 w') => of_any AM dM M hml hmw slot w' (HM_4.out.kept h))
      go_region_held3 (fun w' => w'.cell? ⟨zv, 0, none⟩ = some (.int .i64 v.f) ∧ Kept W4 w')
        (first | exact ⟨c0, (Kept.refl _).drew⟩ | assumption | exact keep0 hz0 (by assumption) (by assumption))
        (first
          | (go_at_call 15; ((with_reducible refine (XOl.out _ ((by assumption : _ ∧ Kept W4 _).2)).mono ?_); rintro e x1 ⟨Ra, hRa, hna, B1, e1, rfl, hc1, kk1⟩))
          | (go_at_call 15; ((with_reducible refine (XOm.out _ ((by assumption : _ ∧ Kept W4 _).2)).mono ?_); rintro e x3 ⟨Rb, hRb, hnb, B3, e3, rfl, hc3, kk3⟩))
          | (go_at_call 20; ((with_reducible refine (without_any B1 e1 Ra (by omega) v.f _ hc1).mono ?_); rintro e x2 ⟨B2, e2, rfl, hc2, kk2⟩))
          | (go_at_call 20; ((with_reducible refine (without_any B3 e3 Rb (by omega) v.f _ hc3).mono ?_); rintro e x4 ⟨B4, e4, he, hc4, kk4⟩; (have ee := Lib.hid (more_wo hRa (by rw [HM0.out]; exact hRb))); rw [← ee.out] at he hc4; subst he))
          | (go_at_call 14; ((with_reducible refine (votes_same B2 e2 B4 e4 (wo v.f Ra) _ (by have := wo_le v.f Ra; omega) ((hc2.kept kk3).kept kk4) hc4).mono ?_); rintro e x5 ⟨rfl, kk5⟩)))
      rename_i hh
      have k := hh.2
      clear hh
      have HK_5 := Lib.hid (HK_4.out.trans k)
      have HA_5 := Lib.hid (HA_4.out.kept k)
      have HB_5 := Lib.hid (HB_4.out.kept k)
      have HM_5 := Lib.hid (HM_4.out.kept k)
      clear k HK_4 HA_4 HB_4 HM_4
      generalize x5 = W5 at *
      clear c0 hz0 XOl XOm kk1 kk2 kk3 kk4 kk5 hc1 hc2 hc3 hc4 hRa hRb ee hna hnb
      go_wp2_with fail
      have c0 := HB_5.out.at0
      have hz0 := HB_5.out.1
      have XOl := Lib.hid (fun w' (h : Kept W5 w') => last_any lA lc l hl6 lhw slot w' (HA_5.out.kept h))
      have XOm := Lib.hid (fun w' (h : Kept W5 w') => last_any AM dM M hml hmw slot w' (HM_5.out.kept h))
      go_region_held3 (fun w' => w'.cell? ⟨zv, 0, none⟩ = some (.int .i64 v.f) ∧ Kept W5 w')
        (first | exact ⟨c0, (Kept.refl _).drew⟩ | assumption | exact keep0 hz0 (by assumption) (by assumption))
        (first
          | (go_at_call 17; ((with_reducible refine (XOl.out _ ((by assumption : _ ∧ Kept W5 _).2)).mono ?_); rintro e x1 ⟨Ra, hRa, hna, B1, e1, rfl, hc1, kk1⟩))
          | (go_at_call 17; ((with_reducible refine (XOm.out _ ((by assumption : _ ∧ Kept W5 _).2)).mono ?_); rintro e x3 ⟨Rb, hRb, hnb, B3, e3, rfl, hc3, kk3⟩))
          | (go_at_call 20; ((with_reducible refine (without_any B1 e1 Ra (by omega) v.f _ hc1).mono ?_); rintro e x2 ⟨B2, e2, rfl, hc2, kk2⟩))
          | (go_at_call 20; ((with_reducible refine (without_any B3 e3 Rb (by omega) v.f _ hc3).mono ?_); rintro e x4 ⟨B4, e4, he, hc4, kk4⟩; (have ee := Lib.hid (more_wo hRa (by rw [HM0.out]; exact hRb))); rw [← ee.out] at he hc4; subst he))
          | (go_at_call 14; ((with_reducible refine (votes_same B2 e2 B4 e4 (wo v.f Ra) _ (by have := wo_le v.f Ra; omega) ((hc2.kept kk3).kept kk4) hc4).mono ?_); rintro e x5 ⟨rfl, kk5⟩)))
      rename_i hh
      have k := hh.2
      clear hh
      have HK_6 := Lib.hid (HK_5.out.trans k)
      have HA_6 := Lib.hid (HA_5.out.kept k)
      have HB_6 := Lib.hid (HB_5.out.kept k)
      have HM_6 := Lib.hid (HM_5.out.kept k)
      clear k HK_5 HA_5 HB_5 HM_5
      generalize x5 = W6 at *
      clear c0 hz0 XOl XOm kk1 kk2 kk3 kk4 kk5 hc1 hc2 hc3 hc4 hRa hRb ee hna hnb
      go_wp2_with fail
      refine (of_any AM dM M hml hmw slot W6 HM_6.out).mono ?_
      rintro e W7 ⟨R7, hR7, hn7, A7, c7, rfl, hc7, k⟩
      have HK_7 := Lib.hid (HK_6.out.trans k)
      have HA_7 := Lib.hid (HA_6.out.kept k)
      have HB_7 := Lib.hid (HB_6.out.kept k)
      have HM_7 := Lib.hid (HM_6.out.kept k)
      clear k HK_6 HA_6 HB_6 HM_6
      have HC7_7 := Lib.hid hc7
      clear hc7
      have HR7 := Lib.hid hR7
      clear hR7
      go_wp2_with fail
      refine (of_any lA lc l hl6 lhw slot W7 HA_7.out).mono ?_
      rintro e W8 ⟨R8, hR8, hn8, A8, c8, rfl, hc8, k⟩
      have HK_8 := Lib.hid (HK_7.out.trans k)
      have HA_8 := Lib.hid (HA_7.out.kept k)
      have HB_8 := Lib.hid (HB_7.out.kept k)
      have HM_8 := Lib.hid (HM_7.out.kept k)
      have HC7_8 := Lib.hid (HC7_7.out.kept k)
      clear k HK_7 HA_7 HB_7 HM_7 HC7_7
      have HC8_8 := Lib.hid hc8
      clear hc8
      have HR8 := Lib.hid hR8
      clear hR8
      have hd := more_len HR8.out (by rw [HM0.out]; exact HR7.out)
      have hd3 : (R7.length : Int) ≤ (R8.length : Int) + 1 := by omega
      clear hd
      go_wp2_with fail
      go_ret
      exact ⟨by first | rfl | (simp; done), HK_8.out⟩
  · go_enter Try.func6, Try.ntmps6
    go_wp2_with fail
    have HK_0 := Lib.hid ((Kept.refl w).alloc (.cells #[.int .i64 v.f, .int .i64 v.s, .int .u64 v.p.1, .int .u64 v.p.2] 36))
    have HA_0 := Lib.hid (lhl.kept ((Kept.refl w).alloc (.cells #[.int .i64 v.f, .int .i64 v.s, .int .u64 v.p.1, .int .u64 v.p.2] 36)))
    have HB_0 := Lib.hid (HasCells.new w #[.int .i64 v.f, .int .i64 v.s, .int .u64 v.p.1, .int .u64 v.p.2] 36 w.heap.size rfl)
    generalize w.alloc (.cells #[.int .i64 v.f, .int .i64 v.s, .int .u64 v.p.1, .int .u64 v.p.2] 36) = W0 at *
    generalize hzv : w.heap.size = zv at *
    clear hzv lhl
    refine (votesAwake W0).mono ?_
    rintro e W1 ⟨rfl, k⟩
    have HK_1 := Lib.hid (HK_0.out.trans k)
    have HA_1 := Lib.hid (HA_0.out.kept k)
    have HB_1 := Lib.hid (HB_0.out.kept k)
    clear k HK_0 HA_0 HB_0
    go_wp2_with fail
    go_ret
    exact ⟨by first | rfl | (simp; done), HK_1.out⟩

/-! ### The row's step -/
set_option maxRecDepth 100000 in
theorem lifted (os : Os) (started : os.Started) (H : Type) (enc : TypeId × Value → H) :
    ReturnsInHanded {} Try.checked os 6 .any (Rows.votesMoreSpec.pre6 enc Try.prog Try.f6 Rows.votesMoreRow.domain false) (Rows.votesMoreSpec.post enc Try.prog Try.f6 false true false false) := by
  refine returnsInHanded_of_change (C := Try.checked) own started (by kernel_rfl) Try.func6
    (ChangeSpec.witness6 (enc := enc) (C := Try.checked) false ⟨#[], #[.slice none 0 0, .agg #[.int .i64 0, .int .i64 0, .int .u64 0, .int .u64 0], .int .i64 0], []⟩ 8 (by kernel_rfl) (by kernel_rfl) (by kernel_rfl) (by kernel_rfl)) ?_
  intro W base args ds gs before hval0 hW hcnd _
  have hval : ∀ (j : Nat) t v, Try.f6.params[j]? = some t → args[j]? = some v → Value.okWide Try.prog W .any base t v := hval0
  have hW' := hW
  obtain ⟨p, q, hA0, hV, rfl, hfz, hnd⟩ := hW
  have hA : DataW.TrodAll enc Try.prog W 0 (fun _ => true) true Try.f6.params.toList args.toList ds p := hA0
  rw [Try.params6] at hA hval
  obtain ⟨v0, vs0, d0, ds0, p0, q0, hargs, rfl, rfl, h0, r0⟩ := trodAll_cons hA
  obtain ⟨v1, vs1, d1, ds1, p1, q1, rfl, rfl, rfl, h1, r1⟩ := trodAll_cons r0
  obtain ⟨v2, vs2, d2, ds2, p2, q2, rfl, rfl, rfl, h2, r2⟩ := trodAll_cons r1
  obtain ⟨rfl, rfl, rfl⟩ := trodAll_nil r2
  obtain rfl : args = #[v0, v1, v2] := by cases args; simp_all
  obtain ⟨rfl, rfl⟩ := trodVars_none hV
  obtain ⟨lA, lc, l, rfl, lhm, lhc, lhw, lhl⟩ := open_votes (hval 0 _ v0 rfl rfl) h0
  obtain ⟨v, rfl, hv⟩ := open_vt (hval 1 _ v1 rfl rfl) h1
  obtain ⟨slot, rfl, hslot1, hslot2⟩ := open_num (hval 2 _ v2 rfl rfl) h2
  clear hA0 hval0
  refine (walk W lA lc l lhm lhc lhw lhl v hv slot hslot1 hslot2).mono fun e W' ⟨he, hb⟩ => ?_
  subst he
  exact ⟨_, rfl, law_post rfl (by kernel_rfl) rfl hW' rfl hb⟩

theorem over : Rows.votesMoreRow.holds Try.pinned (OpenSpec.ofChange Rows.votesMoreSpec) :=
  OpenClaim.holds_of_wide 6 Try.f6 rfl rfl rfl rfl rfl rfl rfl ⟨rfl, rfl, rfl, rfl, rfl⟩ rfl rfl rfl rfl rfl (by kernel_rfl) Try.func6 (by kernel_rfl)
    (of_decide_eq_true (by kernel_rfl)) (by unfold Func.isWrapper; first | (rw [if_pos (by decide +kernel)]; kernel_rfl) | (rw [if_neg (by decide +kernel)]; exact ⟨rfl, rfl⟩))
    (fun os started H enc _ => lifted os started H enc)

/-- The statement. -/
theorem proved : Rows.VotesMoreSaid :=
  over
#print axioms proved
end Go.Proofs.Ytjcjglhoknbhpaa.votesMore
