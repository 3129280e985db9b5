/-
  Law VotesEach of layer 7: of each who has a vote of a slot just one thing is so, it counts, or they are double, whatever votes and whichever one.
-/
import Derived.Test.YtjcjglhoknbhpaaVoteAwake
import Derived.Test.YtjcjglhoknbhpaaVoteSame
import Derived.Test.YtjcjglhoknbhpaaVoteOpen
import Derived.Test.YtjcjglhoknbhpaaNumOpen
import Derived.Test.YtjcjglhoknbhpaaVoteFacts
namespace Go.Proofs.Ytjcjglhoknbhpaa.votesEach
open Go.ChangeShapes Go.WideShapes Go.ChangeAt Go.RowKit
set_option linter.unusedVariables false

/-! ### The walk: the call returns true, and of what was there nothing has changed. -/
attribute [local go_sem high] eqV in
set_option maxRecDepth 100000 in
set_option maxHeartbeats 1600000 in
theorem walk (w : World) (lA : Option Addr) (lc : Nat) (l : List Vt) (lhm : l.length ≤ maxLen) (lhc : l.length ≤ lc) (lhw : WfVs l) (lhl : CellsAt w w.heap.size lA (votesCells l)) (at_ : Int) (hat_1 : -9223372036854775808 ≤ at_) (hat_2 : at_ ≤ 9223372036854775807) :
    Calls Try.prog 8 #[.slice lA l.length lc, .int .i64 at_] w fun e w' => e = .returned (.bool true) ∧ Kept w w' := by
  by_cases h40 : l.length ≤ 40
  · have hl6 : l.length ≤ 1000000 := by omega
    by_cases h1 : at_ < 0
    · go_enter Try.func8, Try.ntmps8
      go_wp2_with fail
      have HK_0 := Lib.hid (Kept.refl w)
      have HA_0 := Lib.hid lhl
      clear lhl
      refine (votesAwake w).mono ?_
      rintro e W1 ⟨rfl, k⟩
      have HK_1 := Lib.hid (HK_0.out.trans k)
      have HA_1 := Lib.hid (HA_0.out.kept k)
      clear k HK_0 HA_0
      go_wp2_with fail
      go_ret
      exact ⟨by first | rfl | (simp; done), HK_1.out⟩
    · by_cases h2 : at_ < (l.length : Int)
      · obtain ⟨i0, rfl⟩ := Int.eq_ofNat_of_zero_le (show 0 ≤ at_ by omega)
        have hj : i0 < l.length := by omega
        clear hat_1 hat_2
        go_enter Try.func8, Try.ntmps8
        go_wp2_with fail
        have HK_0 := Lib.hid (Kept.refl w)
        have HA_0 := Lib.hid lhl
        clear lhl
        refine (votesAwake w).mono ?_
        rintro e W1 ⟨rfl, k⟩
        have HK_1 := Lib.hid (HK_0.out.trans k)
        have HA_1 := Lib.hid (HA_0.out.kept k)
        clear k HK_0 HA_0
        have HI := Lib.hid (List.getElem_mem hj)
        have HX := Lib.hid (lhw l[i0] (List.getElem_mem hj))
        obtain ⟨z, o, rfl, hb, c0, c1, c2, c3⟩ := vote_at HA_1.out hj
        generalize l[i0] = x at *
        go_wp2_with fail
        have HB_1 := Lib.hid (HasCells.new W1 #[.int .i64 x.f, .int .i64 x.s, .int .u64 x.p.1, .int .u64 x.p.2] 36 W1.heap.size rfl)
        have k := (Kept.refl W1).alloc (.cells #[.int .i64 x.f, .int .i64 x.s, .int .u64 x.p.1, .int .u64 x.p.2] 36)
        have HB0 := HB_1
        clear HB_1 c0 c1 c2 c3 hb
        have HK_2 := Lib.hid (HK_1.out.trans k)
        have HA_2 := Lib.hid (HA_1.out.kept k)
        clear k HK_1 HA_1
        have HB_2 := HB0
        clear HB0
        generalize W1.alloc (.cells #[.int .i64 x.f, .int .i64 x.s, .int .u64 x.p.1, .int .u64 x.p.2] 36) = W2 at *
        generalize W1.heap.size = zb at *
        refine (of_any _ lc l hl6 lhw x.s W2 HA_2.out).mono ?_
        rintro e W3 ⟨R1, hR1, hn1, A1, c1, rfl, hc1, k⟩
        have HK_3 := Lib.hid (HK_2.out.trans k)
        have HA_3 := Lib.hid (HA_2.out.kept k)
        have HB_3 := Lib.hid (HB_2.out.kept k)
        clear k HK_2 HA_2 HB_2
        have HC1_3 := Lib.hid hc1
        clear hc1
        have HR1 := Lib.hid hR1
        clear hR1
        obtain ⟨b0, b1, b2, b3⟩ := HB_3.out.four
        go_wp2_with fail
        clear b0 b1 b2 b3
        go_loopw [7, 9] (fun c i w' => ∃ j : Nat, j ≤ R1.length ∧ i = .int .i64 (j : Nat) ∧ c = .int .i64 ((R1.take j).countP (fun v => decide (v.f = x.f)) : Nat) ∧ Kept W3 w') (fun _ i _ => R1.length - (intOf i).toNat)
        case atStart => exact ⟨0, by omega, rfl, rfl, Kept.refl _⟩
        case round =>
          obtain ⟨j, hjj, rfl, rfl, hKr⟩ := hrel
          have HR := Lib.hid hKr
          clear hKr
          by_cases hlt : j < R1.length
          · obtain ⟨z1, o1, rfl, hb1, c0, c1, c2, c3⟩ := vote_at (HC1_3.out.kept HR.out) hlt
            obtain ⟨b0, b1, b2, b3⟩ := (HB_3.out.kept HR.out).four
            have HT := Lib.hid (take_vt hlt)
            have HCS := Lib.hid (countP_snoc (fun v : Vt => decide (v.f = x.f)) (R1.take j) R1[j])
            have hcl : (R1.take j).countP (fun v => decide (v.f = x.f)) ≤ 1000000 := by have := List.countP_le_length (p := fun v : Vt => decide (v.f = x.f)) (l := R1.take j); rw [List.length_take] at this; omega
            by_cases hf : R1[j].f = x.f
            · have hxx := each_one HI.out HR1.out (List.getElem_mem hlt) hf
              rw [hxx] at c0 c1 c2 c3 HT HCS
              have hss := sameV_self x
              have HC := Lib.hid (show (R1.take j ++ [x]).countP (fun v => decide (v.f = x.f)) = (R1.take j).countP (fun v => decide (v.f = x.f)) + 1 by rw [HCS.out]; simp)
              clear hf hxx HCS
              generalize (R1.take j).countP (fun v => decide (v.f = x.f)) = cc at *
              go_wp2_with fail
              go_quiet (fail)
              go_wp2_with fail
              go_quiet (fail)
              go_wp2_with fail
              go_roundw
              case rel => exact ⟨j + 1, by omega, by go_num, by rw [HT.out, HC.out]; go_num, HR.out.drewN _⟩
              case measure => simp [intOf]; omega
            · have HC := Lib.hid (show (R1.take j ++ [R1[j]]).countP (fun v => decide (v.f = x.f)) = (R1.take j).countP (fun v => decide (v.f = x.f)) by rw [HCS.out]; simp [hf])
              clear HCS
              generalize R1[j] = y at *
              go_wp2_with fail
              go_quiet (fail)
              go_wp2_with fail
              go_roundw
              case rel => exact ⟨j + 1, by omega, by go_num, by rw [HT.out, HC.out], HR.out.drewN _⟩
              case measure => simp [intOf]; omega
          · have hjl : j = R1.length := by omega
            subst hjl
            have HT := Lib.hid (show R1.take R1.length = R1 from List.take_length)
            rw [HT.out]
            clear HT
            have k := HR.out
            clear HR
            have HK_4 := Lib.hid (HK_3.out.trans k)
            have HA_4 := Lib.hid (HA_3.out.kept k)
            have HB_4 := Lib.hid (HB_3.out.kept k)
            have HC1_4 := Lib.hid (HC1_3.out.kept k)
            clear k HK_3 HA_3 HB_3 HC1_3
            have hcl : R1.countP (fun v => decide (v.f = x.f)) ≤ 1000000 := by have := List.countP_le_length (p := fun v : Vt => decide (v.f = x.f)) (l := R1); omega
            obtain ⟨cc, hcc⟩ : ∃ cc, cc = R1.countP (fun v => decide (v.f = x.f)) := ⟨_, rfl⟩
            rw [← hcc] at hcl ⊢
            have HCC := Lib.hid hcc
            clear hcc
            obtain ⟨b0, b1, b2, b3⟩ := HB_4.out.four
            go_wp2_with fail
            clear b0 b1 b2 b3
            refine (doubles_any _ lc l hl6 lhw x.s wr HA_4.out).mono ?_
            rintro e W5 ⟨R2, hR2, hn2, A2, c2, rfl, hc2, k⟩
            have HK_5 := Lib.hid (HK_4.out.trans k)
            have HA_5 := Lib.hid (HA_4.out.kept k)
            have HB_5 := Lib.hid (HB_4.out.kept k)
            have HC1_5 := Lib.hid (HC1_4.out.kept k)
            clear k HK_4 HA_4 HB_4 HC1_4
            have HC2_5 := Lib.hid hc2
            clear hc2
            have HR2 := Lib.hid hR2
            clear hR2
            go_wp2_with fail
            go_loopw [10, 12] (fun c i w' => ∃ j : Nat, j ≤ R2.length ∧ i = .int .i64 (j : Nat) ∧ c = .int .i64 ((R2.take j).countP (fun f => decide (f = x.f)) : Nat) ∧ Kept W5 w') (fun _ i _ => R2.length - (intOf i).toNat)
            case atStart => exact ⟨0, by omega, rfl, rfl, Kept.refl _⟩
            case round =>
              obtain ⟨j, hjj2, rfl, rfl, hKr⟩ := hrel
              have HR := Lib.hid hKr
              clear hKr
              by_cases hlt : j < R2.length
              · obtain ⟨z2, o2, rfl, hb2, c0⟩ := num_at (HC2_5.out.kept HR.out) hlt
                obtain ⟨b0, b1, b2, b3⟩ := (HB_5.out.kept HR.out).four
                have HT := Lib.hid (show R2.take (j + 1) = R2.take j ++ [R2[j]] from List.take_succ_eq_append_getElem hlt)
                have HCS := Lib.hid (countP_snoc (fun f : Int => decide (f = x.f)) (R2.take j) R2[j])
                have hcl2 : (R2.take j).countP (fun f => decide (f = x.f)) ≤ 1000000 := by have := List.countP_le_length (p := fun f : Int => decide (f = x.f)) (l := R2.take j); rw [List.length_take] at this; omega
                by_cases hf : R2[j] = x.f
                · rw [hf] at c0 HT HCS
                  have HC := Lib.hid (show (R2.take j ++ [x.f]).countP (fun f => decide (f = x.f)) = (R2.take j).countP (fun f => decide (f = x.f)) + 1 by rw [HCS.out]; simp)
                  clear hf HCS
                  generalize (R2.take j).countP (fun f => decide (f = x.f)) = c2 at *
                  go_wp2_with fail
                  go_quiet (fail)
                  go_wp2_with fail
                  go_roundw
                  case rel => exact ⟨j + 1, by omega, by go_num, by rw [HT.out, HC.out]; go_num, HR.out.drewN _⟩
                  case measure => simp [intOf]; omega
                · have HC := Lib.hid (show (R2.take j ++ [R2[j]]).countP (fun f => decide (f = x.f)) = (R2.take j).countP (fun f => decide (f = x.f)) by rw [HCS.out]; simp [hf])
                  clear HCS
                  generalize R2[j] = y at *
                  go_wp2_with fail
                  go_quiet (fail)
                  go_wp2_with fail
                  go_roundw
                  case rel => exact ⟨j + 1, by omega, by go_num, by rw [HT.out, HC.out], HR.out.drewN _⟩
                  case measure => simp [intOf]; omega
              · have hjl : j = R2.length := by omega
                subst hjl
                have HT := Lib.hid (show R2.take R2.length = R2 from List.take_length)
                rw [HT.out]
                have hsum : cc + R2.countP (fun f => decide (f = x.f)) = 1 := by rw [HCC.out]; exact each_sum HI.out HR1.out HR2.out
                generalize R2.countP (fun f => decide (f = x.f)) = c2 at *
                have hsi : (cc : Int) + (c2 : Int) = 1 := by omega
                go_wp2_with fail
                go_ret
                exact ⟨by first | rfl | (simp; done), HK_5.out.trans HR.out⟩
      · go_enter Try.func8, Try.ntmps8
        go_wp2_with fail
        have HK_0 := Lib.hid (Kept.refl w)
        have HA_0 := Lib.hid lhl
        clear lhl
        refine (votesAwake w).mono ?_
        rintro e W1 ⟨rfl, k⟩
        have HK_1 := Lib.hid (HK_0.out.trans k)
        have HA_1 := Lib.hid (HA_0.out.kept k)
        clear k HK_0 HA_0
        go_wp2_with fail
        go_ret
        exact ⟨by first | rfl | (simp; done), HK_1.out⟩
  · go_enter Try.func8, Try.ntmps8
    go_wp2_with fail
    have HK_0 := Lib.hid (Kept.refl w)
    have HA_0 := Lib.hid lhl
    clear lhl
    refine (votesAwake w).mono ?_
    rintro e W1 ⟨rfl, k⟩
    have HK_1 := Lib.hid (HK_0.out.trans k)
    have HA_1 := Lib.hid (HA_0.out.kept k)
    clear k HK_0 HA_0
    go_wp2_with fail
    go_ret
    exact ⟨by first | rfl | (simp; done), HK_1.out⟩

/-! ### The row's step -/
set_option maxRecDepth 100000 in
theorem lifted (os : Os) (started : os.Started) (H : Type) (enc : TypeId × Value → H) :
    ReturnsInHanded {} Try.checked os 8 .any (Rows.votesEachSpec.pre6 enc Try.prog Try.f8 Rows.votesEachRow.domain false) (Rows.votesEachSpec.post enc Try.prog Try.f8 false true false false) := by
  refine returnsInHanded_of_change (C := Try.checked) own started (by kernel_rfl) Try.func8
    (ChangeSpec.witness6 (enc := enc) (C := Try.checked) false ⟨#[], #[.slice none 0 0, .int .i64 0], []⟩ 8 (by kernel_rfl) (by kernel_rfl) (by kernel_rfl) (by kernel_rfl)) ?_
  intro W base args ds gs before hval0 hW hcnd _
  have hval : ∀ (j : Nat) t v, Try.f8.params[j]? = some t → args[j]? = some v → Value.okWide Try.prog W .any base t v := hval0
  have hW' := hW
  obtain ⟨p, q, hA0, hV, rfl, hfz, hnd⟩ := hW
  have hA : DataW.TrodAll enc Try.prog W 0 (fun _ => true) true Try.f8.params.toList args.toList ds p := hA0
  rw [Try.params8] at hA hval
  obtain ⟨v0, vs0, d0, ds0, p0, q0, hargs, rfl, rfl, h0, r0⟩ := trodAll_cons hA
  obtain ⟨v1, vs1, d1, ds1, p1, q1, rfl, rfl, rfl, h1, r1⟩ := trodAll_cons r0
  obtain ⟨rfl, rfl, rfl⟩ := trodAll_nil r1
  obtain rfl : args = #[v0, v1] := by cases args; simp_all
  obtain ⟨rfl, rfl⟩ := trodVars_none hV
  obtain ⟨lA, lc, l, rfl, lhm, lhc, lhw, lhl⟩ := open_votes (hval 0 _ v0 rfl rfl) h0
  obtain ⟨at_, rfl, hat_1, hat_2⟩ := open_num (hval 1 _ v1 rfl rfl) h1
  clear hA0 hval0
  refine (walk W lA lc l lhm lhc lhw lhl at_ hat_1 hat_2).mono fun e W' ⟨he, hb⟩ => ?_
  subst he
  exact ⟨_, rfl, law_post rfl (by kernel_rfl) rfl hW' rfl hb⟩

theorem over : Rows.votesEachRow.holds Try.pinned (OpenSpec.ofChange Rows.votesEachSpec) :=
  OpenClaim.holds_of_wide 8 Try.f8 rfl rfl rfl rfl rfl rfl rfl ⟨rfl, rfl, rfl, rfl, rfl⟩ rfl rfl rfl rfl rfl (by kernel_rfl) Try.func8 (by kernel_rfl)
    (of_decide_eq_true (by kernel_rfl)) (by unfold Func.isWrapper; first | (rw [if_pos (by decide +kernel)]; kernel_rfl) | (rw [if_neg (by decide +kernel)]; exact ⟨rfl, rfl⟩))
    (fun os started H enc _ => lifted os started H enc)

/-- The statement. -/
theorem proved : Rows.VotesEachSaid :=
  over
#print axioms proved
end Go.Proofs.Ytjcjglhoknbhpaa.votesEach
