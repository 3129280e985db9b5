/-
  Law VotesLater of layer 7: the last vote of who is double in no slot is of a slot no less than that of any vote of theirs up to it, whatever votes, slot and whichever one.
-/
import Derived.Test.YtjcjglhoknbhpaaVoteAwake
import Derived.Test.YtjcjglhoknbhpaaVoteSame
import Derived.Test.YtjcjglhoknbhpaaVoteOpen
import Derived.Test.YtjcjglhoknbhpaaNumOpen
import Derived.Test.YtjcjglhoknbhpaaVoteFacts
namespace Go.Proofs.Ytjcjglhoknbhpaa.votesLater
open Go.ChangeShapes Go.WideShapes Go.ChangeAt Go.RowKit
set_option linter.unusedVariables false

/-! ### The walk: the call returns true, and of what was there nothing has changed. -/
set_option maxRecDepth 100000 in
set_option maxHeartbeats 8000000 in
theorem walk (w : World) (lA : Option Addr) (lc : Nat) (l : List Vt) (lhm : l.length ≤ maxLen) (lhc : l.length ≤ lc) (lhw : WfVs l) (lhl : CellsAt w w.heap.size lA (votesCells l)) (upto : Int) (hupto1 : -9223372036854775808 ≤ upto) (hupto2 : upto ≤ 9223372036854775807) (at_ : Int) (hat_1 : -9223372036854775808 ≤ at_) (hat_2 : at_ ≤ 9223372036854775807) :
    Calls Try.prog 9 #[.slice lA l.length lc, .int .i64 upto, .int .i64 at_] w fun e w' => e = .returned (.bool true) ∧ Kept w w' := by
  by_cases h40 : l.length ≤ 40
  · have hl6 : l.length ≤ 1000000 := by omega
    by_cases h1 : at_ < 0
    · go_enter Try.func9, Try.ntmps9
      go_wp2_with fail
      have HK_0 := Lib.hid (Kept.refl w)
      have HA_0 := Lib.hid lhl
      clear lhl
      refine (votesAwake w).mono ?_
      rintro e W1 ⟨rfl, k⟩
      have HK_1 := Lib.hid (HK_0.out.trans k)
      have HA_1 := Lib.hid (HA_0.out.kept k)
      clear k HK_0 HA_0
      go_wp2_with fail
      go_ret
      exact ⟨by first | rfl | (simp; done), HK_1.out⟩
    · by_cases h2 : at_ < (l.length : Int)
      · obtain ⟨i0, rfl⟩ := Int.eq_ofNat_of_zero_le (show 0 ≤ at_ by omega)
        have hj : i0 < l.length := by omega
        clear hat_1 hat_2
        obtain ⟨x, hx⟩ : ∃ x, x = l[i0] := ⟨_, rfl⟩
        have HI := Lib.hid (show x ∈ l by rw [hx]; exact List.getElem_mem hj)
        have HX := Lib.hid hx
        clear hx
        by_cases hu : x.s ≤ upto
        · go_enter Try.func9, Try.ntmps9
          go_wp2_with fail
          have HK_0 := Lib.hid (Kept.refl w)
          have HA_0 := Lib.hid lhl
          clear lhl
          refine (votesAwake w).mono ?_
          rintro e W1 ⟨rfl, k⟩
          have HK_1 := Lib.hid (HK_0.out.trans k)
          have HA_1 := Lib.hid (HA_0.out.kept k)
          clear k HK_0 HA_0
          obtain ⟨z, o, rfl, hb, c0, c1, c2, c3⟩ := vote_at HA_1.out hj
          rw [← HX.out] at c0 c1 c2 c3
          go_wp2_with fail
          clear c0 c1 c2 c3
          refine (last_any _ lc l hl6 lhw upto W1 HA_1.out).mono ?_
          rintro e W2 ⟨R1, hR1, hn1, A1, c1, rfl, hc1, k⟩
          have HK_2 := Lib.hid (HK_1.out.trans k)
          have HA_2 := Lib.hid (HA_1.out.kept k)
          clear k HK_1 HA_1
          have HC1_2 := Lib.hid hc1
          clear hc1
          have HR1 := Lib.hid hR1
          clear hR1
          go_wp2_with fail
          go_loopw [9] (fun i w' => ∃ j : Nat, j ≤ R1.length ∧ i = .int .i64 (j : Nat) ∧ Kept W2 w' ∧ ∀ v ∈ R1.take j, v.f ≠ x.f) (fun i _ => R1.length - (intOf i).toNat)
          case atStart => exact ⟨0, by omega, rfl, Kept.refl _, fun v hv => by simp at hv⟩
          case round =>
            obtain ⟨j, hjj, rfl, hKr, hNo⟩ := hrel
            have HR := Lib.hid hKr
            have HNo := Lib.hid hNo
            clear hKr hNo
            by_cases hlt : j < R1.length
            · obtain ⟨z1, o1, rfl, hb1, d0, d1, d2, d3⟩ := vote_at (HC1_2.out.kept HR.out) hlt
              obtain ⟨zz, oo, ez, _, c0, c1, c2, c3⟩ := vote_at (HA_2.out.kept HR.out) hj
              obtain ⟨rfl, rfl⟩ : z = zz ∧ o = oo := by injection ez with ez; injection ez with e1 e2; exact ⟨e1, e2⟩
              clear ez
              rw [← HX.out] at c0 c1 c2 c3
              have HT := Lib.hid (take_vt hlt)
              have HY := Lib.hid (List.getElem_mem hlt)
              generalize R1[j] = y at *
              by_cases hf : y.f = x.f
              · have hle := later_le HR1.out HI.out hu HY.out hf
                rw [hf] at d0
                go_wp2_with fail
                go_quiet (fail)
                go_wp2_with fail
                go_quiet (fail)
                go_wp2_with fail
                go_ret
                exact ⟨by first | rfl | (simp; done) | (simp; omega), HK_2.out.trans ((HR.out.drewN _).drewN _)⟩
              · go_wp2_with fail
                go_quiet (fail)
                go_wp2_with fail
                go_roundw
                case rel =>
                  refine ⟨j + 1, by omega, by go_num, HR.out.drewN _, ?_⟩
                  rw [HT.out]
                  intro v hv
                  rcases List.mem_append.1 hv with h | h
                  · exact HNo.out v h
                  · have : v = y := by simpa using h
                    rw [this]; exact hf
                case measure => simp [intOf]; omega
            · have hjl : j = R1.length := by omega
              subst hjl
              have HN := Lib.hid (show ∀ v ∈ R1, v.f ≠ x.f by have := HNo.out; rwa [List.take_length] at this)
              have k := HR.out
              clear HR HNo HC1_2
              have HK_3 := Lib.hid (HK_2.out.trans k)
              have HA_3 := Lib.hid (HA_2.out.kept k)
              clear k HK_2 HA_2
              go_wp2_with fail
              generalize wr = V0 at *
              go_loopw [10] (fun i w' => ∃ j : Nat, j ≤ l.length ∧ i = .int .i64 (j : Nat) ∧ Kept V0 w' ∧ ∀ v ∈ l.take j, v.f = x.f → v.s ≤ upto → ¬ Dbl l v.s x.f) (fun i _ => l.length - (intOf i).toNat)
              case atStart => exact ⟨0, by omega, rfl, Kept.refl _, fun v hv => by simp at hv⟩
              case round =>
                obtain ⟨j, hjj2, rfl, hKr, hNo⟩ := hrel
                have HR := Lib.hid hKr
                have HNo := Lib.hid hNo
                clear hKr hNo
                by_cases hlt : j < l.length
                · obtain ⟨zz, oo, ez, _, c0, c1, c2, c3⟩ := vote_at (HA_3.out.kept HR.out) hj
                  obtain ⟨rfl, rfl⟩ : z = zz ∧ o = oo := by injection ez with ez; injection ez with e1 e2; exact ⟨e1, e2⟩
                  clear ez
                  rw [← HX.out] at c0 c1 c2 c3
                  obtain ⟨zz, oo, ez, _, d0, d1, d2, d3⟩ := vote_at (HA_3.out.kept HR.out) hlt
                  obtain ⟨rfl, rfl⟩ : z = zz ∧ o = oo := by injection ez with ez; injection ez with e1 e2; exact ⟨e1, e2⟩
                  clear ez
                  have HT := Lib.hid (take_vt hlt)
                  obtain ⟨y, hy⟩ : ∃ y, y = l[j] := ⟨_, rfl⟩
                  rw [← hy] at d0 d1 d2 d3 HT
                  clear hy
                  by_cases hf : y.f = x.f
                  · by_cases hs : y.s ≤ upto
                    · rw [hf] at d0
                      go_wp2_with fail
                      go_quiet (fail)
                      have HV1 := Lib.hid (HR.out.drewN nq)
                      have HA1 := Lib.hid (HA_3.out.kept (HR.out.drewN nq))
                      have d1q : (wr.drewN nq).cell? ⟨z, o + j * 4 + 1, none⟩ = some (.int .i64 y.s) := d1
                      clear c0 c1 c2 c3 d0 d1 d2 d3 hf
                      generalize wr.drewN nq = V1 at *
                      go_wp2_with fail
                      clear d1q
                      refine (doubles_any _ lc l hl6 lhw y.s V1 HA1.out).mono ?_
                      rintro e W4 ⟨R2, hR2, hn2, A2, c2, rfl, hc2, k⟩
                      have HD := Lib.hid hR2
                      have HC2 := Lib.hid hc2
                      have HA4 := Lib.hid (HA1.out.kept k)
                      have HV4 := Lib.hid (HV1.out.trans k)
                      clear hR2 hc2 k HA1 HV1
                      go_wp2_with fail
                      go_loopw [12] (fun i w' => ∃ k : Nat, k ≤ R2.length ∧ i = .int .i64 (k : Nat) ∧ Kept W4 w' ∧ x.f ∉ R2.take k) (fun i _ => R2.length - (intOf i).toNat)
                      case atStart => exact ⟨0, by omega, rfl, Kept.refl _, by simp⟩
                      case round =>
                        obtain ⟨k, hk, rfl, hKr, hNk⟩ := hrel
                        have HQ := Lib.hid hKr
                        have HNk := Lib.hid hNk
                        clear hKr hNk
                        by_cases hlk : k < R2.length
                        · obtain ⟨z2, o2, rfl, hb2, d0⟩ := num_at (HC2.out.kept HQ.out) hlk
                          obtain ⟨zz, oo, ez, _, c0, c1, c2, c3⟩ := vote_at (HA4.out.kept HQ.out) hj
                          obtain ⟨rfl, rfl⟩ : z = zz ∧ o = oo := by injection ez with ez; injection ez with e1 e2; exact ⟨e1, e2⟩
                          clear ez
                          rw [← HX.out] at c0 c1 c2 c3
                          have HTk := Lib.hid (show R2.take (k + 1) = R2.take k ++ [R2[k]] from List.take_succ_eq_append_getElem hlk)
                          generalize R2[k] = p at *
                          by_cases hp : p = x.f
                          · rw [hp] at d0
                            go_wp2_with fail
                            go_quiet (fail)
                            go_wp2_with fail
                            go_ret
                            exact ⟨rfl, HK_3.out.trans (HV4.out.trans (HQ.out.drewN _))⟩
                          · go_wp2_with fail
                            go_quiet (fail)
                            go_wp2_with fail
                            go_roundw
                            case rel =>
                              refine ⟨k + 1, by omega, by go_num, HQ.out.drewN _, ?_⟩
                              rw [HTk.out]
                              intro h
                              rcases List.mem_append.1 h with h | h
                              · exact HNk.out h
                              · exact hp (show x.f = p by simpa using h).symm
                            case measure => simp [intOf]; omega
                        · have hkl : k = R2.length := by omega
                          subst hkl
                          have HNY := Lib.hid (show y.f = x.f → y.s ≤ upto → ¬ Dbl l y.s x.f from fun _ _ d => by have := HNk.out; rw [List.take_length] at this; exact this ((HD.out.2 _).2 d))
                          go_wp2_with fail
                          go_roundw
                          case rel =>
                            refine ⟨j + 1, by omega, by go_num, HV4.out.trans HQ.out, ?_⟩
                            rw [HT.out]
                            intro v hv
                            rcases List.mem_append.1 hv with h | h
                            · exact HNo.out v h
                            · have : v = y := by simpa using h
                              rw [this]; exact HNY.out
                          case measure => simp [intOf]; omega
                    · have HNY := Lib.hid (show y.f = x.f → y.s ≤ upto → ¬ Dbl l y.s x.f from fun _ h => absurd h hs)
                      rw [hf] at d0
                      go_wp2_with fail
                      go_quiet (fail)
                      go_wp2_with fail
                      go_roundw
                      case rel =>
                        refine ⟨j + 1, by omega, by go_num, HR.out.drewN _, ?_⟩
                        rw [HT.out]
                        intro v hv
                        rcases List.mem_append.1 hv with h | h
                        · exact HNo.out v h
                        · have : v = y := by simpa using h
                          rw [this]; exact HNY.out
                      case measure => simp [intOf]; omega
                  · have HNY := Lib.hid (show y.f = x.f → y.s ≤ upto → ¬ Dbl l y.s x.f from fun h => absurd h hf)
                    go_wp2_with fail
                    go_quiet (fail)
                    go_wp2_with fail
                    go_roundw
                    case rel =>
                      refine ⟨j + 1, by omega, by go_num, HR.out.drewN _, ?_⟩
                      rw [HT.out]
                      intro v hv
                      rcases List.mem_append.1 hv with h | h
                      · exact HNo.out v h
                      · have : v = y := by simpa using h
                        rw [this]; exact HNY.out
                    case measure => simp [intOf]; omega
                · have hjl : j = l.length := by omega
                  subst hjl
                  exact (later_bad HR1.out HI.out hu HN.out (by have := HNo.out; rwa [List.take_length] at this)).elim
        · go_enter Try.func9, Try.ntmps9
          go_wp2_with fail
          have HK_0 := Lib.hid (Kept.refl w)
          have HA_0 := Lib.hid lhl
          clear lhl
          refine (votesAwake w).mono ?_
          rintro e W1 ⟨rfl, k⟩
          have HK_1 := Lib.hid (HK_0.out.trans k)
          have HA_1 := Lib.hid (HA_0.out.kept k)
          clear k HK_0 HA_0
          obtain ⟨z, o, rfl, hb, c0, c1, c2, c3⟩ := vote_at HA_1.out hj
          rw [← HX.out] at c0 c1 c2 c3
          go_wp2_with fail
          clear c0 c1 c2 c3
          go_ret
          exact ⟨by first | rfl | (simp; done), HK_1.out⟩
      · go_enter Try.func9, Try.ntmps9
        go_wp2_with fail
        have HK_0 := Lib.hid (Kept.refl w)
        have HA_0 := Lib.hid lhl
        clear lhl
        refine (votesAwake w).mono ?_
        rintro e W1 ⟨rfl, k⟩
        have HK_1 := Lib.hid (HK_0.out.trans k)
        have HA_1 := Lib.hid (HA_0.out.kept k)
        clear k HK_0 HA_0
        go_wp2_with fail
        go_ret
        exact ⟨by first | rfl | (simp; done), HK_1.out⟩
  · go_enter Try.func9, Try.ntmps9
    go_wp2_with fail
    have HK_0 := Lib.hid (Kept.refl w)
    have HA_0 := Lib.hid lhl
    clear lhl
    refine (votesAwake w).mono ?_
    rintro e W1 ⟨rfl, k⟩
    have HK_1 := Lib.hid (HK_0.out.trans k)
    have HA_1 := Lib.hid (HA_0.out.kept k)
    clear k HK_0 HA_0
    go_wp2_with fail
    go_ret
    exact ⟨by first | rfl | (simp; done), HK_1.out⟩

/-! ### The row's step -/
set_option maxRecDepth 100000 in
theorem lifted (os : Os) (started : os.Started) (H : Type) (enc : TypeId × Value → H) :
    ReturnsInHanded {} Try.checked os 9 .any (Rows.votesLaterSpec.pre6 enc Try.prog Try.f9 Rows.votesLaterRow.domain false) (Rows.votesLaterSpec.post enc Try.prog Try.f9 false true false false) := by
  refine returnsInHanded_of_change (C := Try.checked) own started (by kernel_rfl) Try.func9
    (ChangeSpec.witness6 (enc := enc) (C := Try.checked) false ⟨#[], #[.slice none 0 0, .int .i64 0, .int .i64 0], []⟩ 8 (by kernel_rfl) (by kernel_rfl) (by kernel_rfl) (by kernel_rfl)) ?_
  intro W base args ds gs before hval0 hW hcnd _
  have hval : ∀ (j : Nat) t v, Try.f9.params[j]? = some t → args[j]? = some v → Value.okWide Try.prog W .any base t v := hval0
  have hW' := hW
  obtain ⟨p, q, hA0, hV, rfl, hfz, hnd⟩ := hW
  have hA : DataW.TrodAll enc Try.prog W 0 (fun _ => true) true Try.f9.params.toList args.toList ds p := hA0
  rw [Try.params9] at hA hval
  obtain ⟨v0, vs0, d0, ds0, p0, q0, hargs, rfl, rfl, h0, r0⟩ := trodAll_cons hA
  obtain ⟨v1, vs1, d1, ds1, p1, q1, rfl, rfl, rfl, h1, r1⟩ := trodAll_cons r0
  obtain ⟨v2, vs2, d2, ds2, p2, q2, rfl, rfl, rfl, h2, r2⟩ := trodAll_cons r1
  obtain ⟨rfl, rfl, rfl⟩ := trodAll_nil r2
  obtain rfl : args = #[v0, v1, v2] := by cases args; simp_all
  obtain ⟨rfl, rfl⟩ := trodVars_none hV
  obtain ⟨lA, lc, l, rfl, lhm, lhc, lhw, lhl⟩ := open_votes (hval 0 _ v0 rfl rfl) h0
  obtain ⟨upto, rfl, hupto1, hupto2⟩ := open_num (hval 1 _ v1 rfl rfl) h1
  obtain ⟨at_, rfl, hat_1, hat_2⟩ := open_num (hval 2 _ v2 rfl rfl) h2
  clear hA0 hval0
  refine (walk W lA lc l lhm lhc lhw lhl upto hupto1 hupto2 at_ hat_1 hat_2).mono fun e W' ⟨he, hb⟩ => ?_
  subst he
  exact ⟨_, rfl, law_post rfl (by kernel_rfl) rfl hW' rfl hb⟩

theorem over : Rows.votesLaterRow.holds Try.pinned (OpenSpec.ofChange Rows.votesLaterSpec) :=
  OpenClaim.holds_of_wide 9 Try.f9 rfl rfl rfl rfl rfl rfl rfl ⟨rfl, rfl, rfl, rfl, rfl⟩ rfl rfl rfl rfl rfl (by kernel_rfl) Try.func9 (by kernel_rfl)
    (of_decide_eq_true (by kernel_rfl)) (by unfold Func.isWrapper; first | (rw [if_pos (by decide +kernel)]; kernel_rfl) | (rw [if_neg (by decide +kernel)]; exact ⟨rfl, rfl⟩))
    (fun os started H enc _ => lifted os started H enc)

/-- The statement. -/
theorem proved : Rows.VotesLaterSaid :=
  over
#print axioms proved
end Go.Proofs.Ytjcjglhoknbhpaa.votesLater
