/-
  Law VotesOne of layer 7: what counts is of those who are not double, one of each, rising, and a vote that is there, whatever votes and slot.
-/
import Derived.Test.YtjcjglhoknbhpaaVoteAwake
import Derived.Test.YtjcjglhoknbhpaaVoteSame
import Derived.Test.YtjcjglhoknbhpaaVoteThere
import Derived.Test.YtjcjglhoknbhpaaVoteOpen
import Derived.Test.YtjcjglhoknbhpaaNumOpen
import Derived.Test.YtjcjglhoknbhpaaVoteFacts
namespace Go.Proofs.Ytjcjglhoknbhpaa.votesOne
open Go.ChangeShapes Go.WideShapes Go.ChangeAt Go.RowKit
set_option linter.unusedVariables false

/-! ### The walk: the call returns true, and of what was there nothing has changed. -/
set_option maxRecDepth 100000 in
set_option maxHeartbeats 8000000 in
theorem walk (w : World) (lA : Option Addr) (lc : Nat) (l : List Vt) (lhm : l.length ≤ maxLen) (lhc : l.length ≤ lc) (lhw : WfVs l) (lhl : CellsAt w w.heap.size lA (votesCells l)) (slot : Int) (hslot1 : -9223372036854775808 ≤ slot) (hslot2 : slot ≤ 9223372036854775807) :
    Calls Try.prog 5 #[.slice lA l.length lc, .int .i64 slot] w fun e w' => e = .returned (.bool true) ∧ Kept w w' := by
  by_cases h40 : l.length ≤ 40
  · have hl6 : l.length ≤ 1000000 := by omega
    go_enter Try.func5, Try.ntmps5
    go_wp2_with fail
    have HK_0 := Lib.hid (Kept.refl w)
    have HA_0 := Lib.hid lhl
    clear lhl
    refine (votesAwake w).mono ?_
    rintro e W1 ⟨rfl, k⟩
    have HK_1 := Lib.hid (HK_0.out.trans k)
    have HA_1 := Lib.hid (HA_0.out.kept k)
    clear k HK_0 HA_0
    go_wp2_with fail
    refine (doubles_any lA lc l hl6 lhw slot W1 HA_1.out).mono ?_
    rintro e W2 ⟨R1, hR1, hn1, A1, c1, rfl, hc1, k⟩
    have HK_2 := Lib.hid (HK_1.out.trans k)
    have HA_2 := Lib.hid (HA_1.out.kept k)
    clear k HK_1 HA_1
    have HC1_2 := Lib.hid hc1
    clear hc1
    have HR1 := Lib.hid hR1
    clear hR1
    go_wp2_with fail
    refine (of_any lA lc l hl6 lhw slot W2 HA_2.out).mono ?_
    rintro e W3 ⟨R2, hR2, hn2, A2, c2, rfl, hc2, k⟩
    have HK_3 := Lib.hid (HK_2.out.trans k)
    have HA_3 := Lib.hid (HA_2.out.kept k)
    have HC1_3 := Lib.hid (HC1_2.out.kept k)
    clear k HK_2 HA_2 HC1_2
    have HC2_3 := Lib.hid hc2
    clear hc2
    have HR2 := Lib.hid hR2
    clear hR2
    go_wp2_with fail
    refine (last_any lA lc l hl6 lhw slot W3 HA_3.out).mono ?_
    rintro e W4 ⟨R3, hR3, hn3, A3, c3, rfl, hc3, k⟩
    have HK_4 := Lib.hid (HK_3.out.trans k)
    have HA_4 := Lib.hid (HA_3.out.kept k)
    have HC1_4 := Lib.hid (HC1_3.out.kept k)
    have HC2_4 := Lib.hid (HC2_3.out.kept k)
    clear k HK_3 HA_3 HC1_3 HC2_3
    have HC3_4 := Lib.hid hc3
    clear hc3
    have HR3 := Lib.hid hR3
    clear hR3
    go_wp2_with fail
    go_loopw [9] (fun i w' => ∃ j : Nat, j ≤ R2.length ∧ i = .int .i64 (j : Nat) ∧ Kept W4 w') (fun i _ => R2.length - (intOf i).toNat)
    case atStart => exact ⟨0, by omega, rfl, Kept.refl _⟩
    case round =>
      obtain ⟨j, hj, rfl, hKr⟩ := hrel
      have HR := Lib.hid hKr
      clear hKr
      by_cases hlt : j < R2.length
      · obtain ⟨z2, o2, rfl, hb2, c0, c1, c2, c3⟩ := vote_at (HC2_4.out.kept HR.out) hlt
        have HMem := Lib.hid (HR2.out.mem hlt)
        have HSl := Lib.hid (isQ_iff.1 (HR2.out.fits hlt))
        go_wp2_with fail
        refine (there_yes lA lc l hl6 R2[j] HMem.out wr (HA_4.out.kept HR.out)).mono ?_
        rintro e W5 ⟨rfl, k⟩
        have HR5 := Lib.hid (HR.out.trans k)
        clear k c0 c1 c2 c3 HR
        obtain ⟨z2', o2', ez, _, c0, c1, c2, c3⟩ := vote_at (HC2_4.out.kept HR5.out) hlt
        obtain ⟨rfl, rfl⟩ : z2 = z2' ∧ o2 = o2' := by injection ez with ez; injection ez with e1 e2; exact ⟨e1, e2⟩
        clear ez
        rw [HSl.out] at c1
        cases j with
        | zero =>
          go_wp2_with fail
          go_quiet (fail)
          go_wp2_with fail
          have HV := Lib.hid (HR5.out.drewN nq)
          clear c0 c1 c2 c3
          generalize W5.drewN nq = V0 at *
          clear HR5
          go_loopw [11] (fun i w' => ∃ k : Nat, k ≤ R1.length ∧ i = .int .i64 (k : Nat) ∧ Kept V0 w') (fun i _ => R1.length - (intOf i).toNat)
          case atStart => exact ⟨0, by omega, rfl, Kept.refl _⟩
          case round =>
            obtain ⟨k, hk, rfl, hKr⟩ := hrel
            have HQ := Lib.hid (HV.out.trans hKr)
            have HQ0 := Lib.hid hKr
            clear hKr
            by_cases hlk : k < R1.length
            · obtain ⟨z1, o1, rfl, hb1, d0⟩ := num_at (HC1_4.out.kept HQ.out) hlk
              obtain ⟨z2', o2', ez, _, c0, c1, c2, c3⟩ := vote_at (HC2_4.out.kept HQ.out) hlt
              obtain ⟨rfl, rfl⟩ : z2 = z2' ∧ o2 = o2' := by injection ez with ez; injection ez with e1 e2; exact ⟨e1, e2⟩
              clear ez
              have hne := HR2.out.notDbl hlt (isQ_iff.2 rfl) HR1.out hlk
              clear c1 c2 c3; rw [Nat.zero_mul, Nat.add_zero] at c0
              generalize R1[k] = p at *
              generalize R2[0].f = y at *
              go_wp2_with fail
              go_quiet (fail)
              go_wp2_with fail
              go_roundw
              case rel => exact ⟨k + 1, by omega, by go_num, HQ0.out.drewN _⟩
              case measure => simp [intOf]; omega
            · have hkl : k = R1.length := by omega
              subst hkl
              go_wp2_with fail
              go_roundw
              case rel => exact ⟨0 + 1, by omega, by go_num, HQ.out⟩
              case measure => simp [intOf]; omega
        | succ j =>
          obtain ⟨z2', o2', ez, _, d0, d1, d2, d3⟩ := vote_at (HC2_4.out.kept HR5.out) (show j < R2.length by omega)
          obtain ⟨rfl, rfl⟩ : z2 = z2' ∧ o2 = o2' := by injection ez with ez; injection ez with e1 e2; exact ⟨e1, e2⟩
          clear ez d1 d2 d3
          have hrs := HR2.out.rise hlt (Nat.lt_succ_self j)
          go_wp2_with fail
          go_quiet (fail)
          go_wp2_with fail
          have HV := Lib.hid (HR5.out.drewN nq)
          clear c0 c1 c2 c3 d0
          generalize W5.drewN nq = V0 at *
          clear HR5
          go_loopw [11] (fun i w' => ∃ k : Nat, k ≤ R1.length ∧ i = .int .i64 (k : Nat) ∧ Kept V0 w') (fun i _ => R1.length - (intOf i).toNat)
          case atStart => exact ⟨0, by omega, rfl, Kept.refl _⟩
          case round =>
            obtain ⟨k, hk, rfl, hKr⟩ := hrel
            have HQ := Lib.hid (HV.out.trans hKr)
            have HQ0 := Lib.hid hKr
            clear hKr
            by_cases hlk : k < R1.length
            · obtain ⟨z1, o1, rfl, hb1, d0⟩ := num_at (HC1_4.out.kept HQ.out) hlk
              obtain ⟨z2', o2', ez, _, c0, c1, c2, c3⟩ := vote_at (HC2_4.out.kept HQ.out) hlt
              obtain ⟨rfl, rfl⟩ : z2 = z2' ∧ o2 = o2' := by injection ez with ez; injection ez with e1 e2; exact ⟨e1, e2⟩
              clear ez
              have hne := HR2.out.notDbl hlt (isQ_iff.2 rfl) HR1.out hlk
              clear c1 c2 c3
              generalize R1[k] = p at *
              generalize R2[(j + 1)].f = y at *
              go_wp2_with fail
              go_quiet (fail)
              go_wp2_with fail
              go_roundw
              case rel => exact ⟨k + 1, by omega, by go_num, HQ0.out.drewN _⟩
              case measure => simp [intOf]; omega
            · have hkl : k = R1.length := by omega
              subst hkl
              go_wp2_with fail
              go_roundw
              case rel => exact ⟨(j + 1) + 1, by omega, by go_num, HQ.out⟩
              case measure => simp [intOf]; omega
      · have hjl : j = R2.length := by omega
        subst hjl
        have k := HR.out
        clear HR
        have HK_5 := Lib.hid (HK_4.out.trans k)
        have HA_5 := Lib.hid (HA_4.out.kept k)
        have HC1_5 := Lib.hid (HC1_4.out.kept k)
        have HC2_5 := Lib.hid (HC2_4.out.kept k)
        have HC3_5 := Lib.hid (HC3_4.out.kept k)
        clear k HK_4 HA_4 HC1_4 HC2_4 HC3_4
        go_wp2_with fail
        generalize wr = V0 at *
        go_loopw [12] (fun i w' => ∃ j : Nat, j ≤ R3.length ∧ i = .int .i64 (j : Nat) ∧ Kept V0 w') (fun i _ => R3.length - (intOf i).toNat)
        case atStart => exact ⟨0, by omega, rfl, Kept.refl _⟩
        case round =>
          obtain ⟨j, hj3, rfl, hKr⟩ := hrel
          have HR := Lib.hid hKr
          clear hKr
          by_cases hlt : j < R3.length
          · obtain ⟨z3, o3, rfl, hb3, c0, c1, c2, c3⟩ := vote_at (HC3_5.out.kept HR.out) hlt
            have HMem := Lib.hid (HR3.out.mem hlt)
            have hsl := upQ_iff.1 (HR3.out.fits hlt)
            go_wp2_with fail
            refine (there_yes lA lc l hl6 R3[j] HMem.out wr (HA_5.out.kept HR.out)).mono ?_
            rintro e W6 ⟨rfl, k⟩
            have HR5 := Lib.hid (HR.out.trans k)
            clear k c0 c1 c2 c3 HR
            obtain ⟨z3', o3', ez, _, c0, c1, c2, c3⟩ := vote_at (HC3_5.out.kept HR5.out) hlt
            obtain ⟨rfl, rfl⟩ : z3 = z3' ∧ o3 = o3' := by injection ez with ez; injection ez with e1 e2; exact ⟨e1, e2⟩
            clear ez
            have hsn : decide (slot < R3[j].s) = false := decide_eq_false (by omega)
            clear hsl
            cases j with
            | zero =>
              clear HMem c2 c3
              generalize R3[0].s = ys at *
              generalize R3[0].f = yf at *
              rw [Nat.zero_mul, Nat.add_zero] at c0 c1
              go_wp2_with fail
              go_quiet (fail)
              go_wp2_with fail
              go_roundw
              case rel => exact ⟨0 + 1, by omega, by go_num, HR5.out.drewN _⟩
              case measure => simp [intOf]; omega
            | succ j =>
              obtain ⟨z3', o3', ez, _, d0, d1, d2, d3⟩ := vote_at (HC3_5.out.kept HR5.out) (show j < R3.length by omega)
              obtain ⟨rfl, rfl⟩ : z3 = z3' ∧ o3 = o3' := by injection ez with ez; injection ez with e1 e2; exact ⟨e1, e2⟩
              clear ez d1 d2 d3
              have hrs := HR3.out.rise hlt (Nat.lt_succ_self j)
              clear HMem c2 c3
              generalize R3[(j + 1)].s = ys at *
              generalize R3[(j + 1)].f = yf at *
              generalize R3[j].f = yp at *
              go_wp2_with fail
              go_quiet (fail)
              go_wp2_with fail
              go_roundw
              case rel => exact ⟨(j + 1) + 1, by omega, by go_num, HR5.out.drewN _⟩
              case measure => simp [intOf]; omega
          · have hjl : j = R3.length := by omega
            subst hjl
            go_wp2_with fail
            go_ret
            exact ⟨rfl, HK_5.out.trans HR.out⟩
  · go_enter Try.func5, Try.ntmps5
    go_wp2_with fail
    have HK_0 := Lib.hid (Kept.refl w)
    have HA_0 := Lib.hid lhl
    clear lhl
    refine (votesAwake w).mono ?_
    rintro e W1 ⟨rfl, k⟩
    have HK_1 := Lib.hid (HK_0.out.trans k)
    have HA_1 := Lib.hid (HA_0.out.kept k)
    clear k HK_0 HA_0
    go_wp2_with fail
    go_ret
    exact ⟨by first | rfl | (simp; done), HK_1.out⟩

/-! ### The row's step -/
set_option maxRecDepth 100000 in
theorem lifted (os : Os) (started : os.Started) (H : Type) (enc : TypeId × Value → H) :
    ReturnsInHanded {} Try.checked os 5 .any (Rows.votesOneSpec.pre6 enc Try.prog Try.f5 Rows.votesOneRow.domain false) (Rows.votesOneSpec.post enc Try.prog Try.f5 false true false false) := by
  refine returnsInHanded_of_change (C := Try.checked) own started (by kernel_rfl) Try.func5
    (ChangeSpec.witness6 (enc := enc) (C := Try.checked) false ⟨#[], #[.slice none 0 0, .int .i64 0], []⟩ 8 (by kernel_rfl) (by kernel_rfl) (by kernel_rfl) (by kernel_rfl)) ?_
  intro W base args ds gs before hval0 hW hcnd _
  have hval : ∀ (j : Nat) t v, Try.f5.params[j]? = some t → args[j]? = some v → Value.okWide Try.prog W .any base t v := hval0
  have hW' := hW
  obtain ⟨p, q, hA0, hV, rfl, hfz, hnd⟩ := hW
  have hA : DataW.TrodAll enc Try.prog W 0 (fun _ => true) true Try.f5.params.toList args.toList ds p := hA0
  rw [Try.params5] at hA hval
  obtain ⟨v0, vs0, d0, ds0, p0, q0, hargs, rfl, rfl, h0, r0⟩ := trodAll_cons hA
  obtain ⟨v1, vs1, d1, ds1, p1, q1, rfl, rfl, rfl, h1, r1⟩ := trodAll_cons r0
  obtain ⟨rfl, rfl, rfl⟩ := trodAll_nil r1
  obtain rfl : args = #[v0, v1] := by cases args; simp_all
  obtain ⟨rfl, rfl⟩ := trodVars_none hV
  obtain ⟨lA, lc, l, rfl, lhm, lhc, lhw, lhl⟩ := open_votes (hval 0 _ v0 rfl rfl) h0
  obtain ⟨slot, rfl, hslot1, hslot2⟩ := open_num (hval 1 _ v1 rfl rfl) h1
  clear hA0 hval0
  refine (walk W lA lc l lhm lhc lhw lhl slot hslot1 hslot2).mono fun e W' ⟨he, hb⟩ => ?_
  subst he
  exact ⟨_, rfl, law_post rfl (by kernel_rfl) rfl hW' rfl hb⟩

theorem over : Rows.votesOneRow.holds Try.pinned (OpenSpec.ofChange Rows.votesOneSpec) :=
  OpenClaim.holds_of_wide 5 Try.f5 rfl rfl rfl rfl rfl rfl rfl ⟨rfl, rfl, rfl, rfl, rfl⟩ rfl rfl rfl rfl rfl (by kernel_rfl) Try.func5 (by kernel_rfl)
    (of_decide_eq_true (by kernel_rfl)) (by unfold Func.isWrapper; first | (rw [if_pos (by decide +kernel)]; kernel_rfl) | (rw [if_neg (by decide +kernel)]; exact ⟨rfl, rfl⟩))
    (fun os started H enc _ => lifted os started H enc)

/-- The statement. -/
theorem proved : Rows.VotesOneSaid :=
  over
#print axioms proved
end Go.Proofs.Ytjcjglhoknbhpaa.votesOne
