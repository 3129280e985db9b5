/-
  Law LmdUp of layer 13: where what the boost is for is under the head a greater boost leaves it there, whatever conf, blocks, votes and slot.
-/
import Derived.Test.YteamjjkmcomabaaLmdAwake
import Derived.Test.YteamjjkmcomabaaGhostAwake
import Derived.Test.YteamjjkmcomabaaDutyG
import Derived.Test.YteamjjkmcomabaaTreeG
import Derived.Test.YteamjjkmcomabaaVoteG
import Derived.Test.YteamjjkmcomabaaMixG
import Derived.Test.YteamjjkmcomabaaGround
import Derived.Test.YteamjjkmcomabaaIdBox
namespace Go.Proofs.Yteamjjkmcomabaa.lmdUp
set_option maxRecDepth 100000
set_option linter.unusedVariables false
set_option linter.unusedSimpArgs false
open Go.ChangeShapes Go.WideShapes Go.ChangeAt Go.RowKit
set_option linter.unusedVariables false

/-! ### The walk: the call returns true, and of what was there nothing has changed. -/
attribute [local go_sem high] eqIdN eqIdZ in
set_option maxRecDepth 100000 in
set_option maxHeartbeats 6400000 in
theorem walk (w : World) (kA : Option Addr) (kc : Nat) (k : Cf) (khm : k.ws.length ≤ maxLen) (khs : k.seed < 18446744073709551616) (khl : CellsAt w w.heap.size kA (intCells k.ws)) (lA : Option Addr) (lc : Nat) (l : List Bk) (lhm : l.length ≤ maxLen) (lhc : l.length ≤ lc) (lhw : WfL l) (lhl : CellsAt w w.heap.size lA (blockCells l)) (vA : Option Addr) (vc : Nat) (v : List Vt) (vhm : v.length ≤ maxLen) (vhc : v.length ≤ vc) (vhw : WfVs v) (vhl : CellsAt w w.heap.size vA (votesCells v)) (upto : Int) (hupto1 : -9223372036854775808 ≤ upto) (hupto2 : upto ≤ 9223372036854775807) (bo : Nat × Nat) (hbo1 : bo.1 < 18446744073709551616) (hbo2 : bo.2 < 18446744073709551616) (pct : Int) (hpct1 : -9223372036854775808 ≤ pct) (hpct2 : pct ≤ 9223372036854775807) (more : Int) (hmore1 : -9223372036854775808 ≤ more) (hmore2 : more ≤ 9223372036854775807) :
    Calls Try.prog 7 #[.agg #[.slice kA k.ws.length kc, .int .u64 k.seed, .int .i64 k.ep, .int .i64 k.nu, .int .i64 k.de], .slice lA l.length lc, .slice vA v.length vc, .int .i64 upto, .agg #[.int .u64 bo.1, .int .u64 bo.2], .int .i64 pct, .int .i64 more] w fun e w' => e = .returned (.bool true) ∧ Kept w w' := by
  cases hf : few9C k l v with
  | false =>
    go_enter Try.func7, Try.ntmps7
    go_wp2_with fail
    have K0 := Lib.hid (((Kept.refl w).alloc (.cells #[.slice kA k.ws.length kc, .int .u64 k.seed, .int .i64 k.ep, .int .i64 k.nu, .int .i64 k.de] 25)).alloc (.cells #[.int .u64 bo.1, .int .u64 bo.2] 29))
    have HA := Lib.hid (khl.kept K0.out)
    clear khl
    have HL := Lib.hid (lhl.kept K0.out)
    clear lhl
    have HV := Lib.hid (vhl.kept K0.out)
    clear vhl
    have HB0 := Lib.hid ((HasCells.new w #[.slice kA k.ws.length kc, .int .u64 k.seed, .int .i64 k.ep, .int .i64 k.nu, .int .i64 k.de] 25 (w.heap.size) (by simp)).alloc (.cells #[.int .u64 bo.1, .int .u64 bo.2] 29))
    have HB1 := Lib.hid (HasCells.new (w.alloc (.cells #[.slice kA k.ws.length kc, .int .u64 k.seed, .int .i64 k.ep, .int .i64 k.nu, .int .i64 k.de] 25)) #[.int .u64 bo.1, .int .u64 bo.2] 29 (w.heap.size + 1) (by simp))
    generalize ((w.alloc (.cells #[.slice kA k.ws.length kc, .int .u64 k.seed, .int .i64 k.ep, .int .i64 k.nu, .int .i64 k.de] 25)).alloc (.cells #[.int .u64 bo.1, .int .u64 bo.2] 29)) = W0 at *
    generalize w.heap.size + 1 = z1 at *
    generalize w.heap.size = z0 at *
    have KB0 := Lib.hid (Kept.refl W0)
    refine (lmdAwake W0).mono ?_
    rintro e W1 ⟨rfl, k⟩
    have KB1 := Lib.hid (KB0.out.trans k)
    clear k
    obtain ⟨b00, b01, b02, b03, b04⟩ := (HB0.out.kept KB1.out).five
    have bz0 := (HB0.out.kept KB1.out).1
    obtain ⟨b10, b11⟩ := (HB1.out.kept KB1.out).two
    have bz1 := (HB1.out.kept KB1.out).1
    go_wp2_with fail
    clear b00 b01 b02 b03 b04 bz0 b10 b11 bz1
    refine (few9_any kA kc k lA lc l vA vc v W1).mono ?_
    rintro e W2 ⟨rfl, k⟩
    have KB2 := Lib.hid (KB1.out.trans k)
    clear k
    rw [hf]
    obtain ⟨b00, b01, b02, b03, b04⟩ := (HB0.out.kept KB2.out).five
    have bz0 := (HB0.out.kept KB2.out).1
    obtain ⟨b10, b11⟩ := (HB1.out.kept KB2.out).two
    have bz1 := (HB1.out.kept KB2.out).1
    go_wp2_with fail
    clear b00 b01 b02 b03 b04 bz0 b10 b11 bz1
    go_ret
    exact ⟨by first | rfl | (simp; done), K0.out.trans KB2.out⟩
  | true =>
    obtain ⟨hk40, hl20, hv30⟩ := few9C_yes hf
    have HF := Lib.hid hf
    clear hf
    have hwbo : WfI bo := ⟨hbo1, hbo2⟩
    go_enter Try.func7, Try.ntmps7
    go_wp2_with fail
    have K0 := Lib.hid (((Kept.refl w).alloc (.cells #[.slice kA k.ws.length kc, .int .u64 k.seed, .int .i64 k.ep, .int .i64 k.nu, .int .i64 k.de] 25)).alloc (.cells #[.int .u64 bo.1, .int .u64 bo.2] 29))
    have HA := Lib.hid (khl.kept K0.out)
    clear khl
    have HL := Lib.hid (lhl.kept K0.out)
    clear lhl
    have HV := Lib.hid (vhl.kept K0.out)
    clear vhl
    have HB0 := Lib.hid ((HasCells.new w #[.slice kA k.ws.length kc, .int .u64 k.seed, .int .i64 k.ep, .int .i64 k.nu, .int .i64 k.de] 25 (w.heap.size) (by simp)).alloc (.cells #[.int .u64 bo.1, .int .u64 bo.2] 29))
    have HB1 := Lib.hid (HasCells.new (w.alloc (.cells #[.slice kA k.ws.length kc, .int .u64 k.seed, .int .i64 k.ep, .int .i64 k.nu, .int .i64 k.de] 25)) #[.int .u64 bo.1, .int .u64 bo.2] 29 (w.heap.size + 1) (by simp))
    generalize ((w.alloc (.cells #[.slice kA k.ws.length kc, .int .u64 k.seed, .int .i64 k.ep, .int .i64 k.nu, .int .i64 k.de] 25)).alloc (.cells #[.int .u64 bo.1, .int .u64 bo.2] 29)) = W0 at *
    generalize w.heap.size + 1 = z1 at *
    generalize w.heap.size = z0 at *
    have KB0 := Lib.hid (Kept.refl W0)
    refine (lmdAwake W0).mono ?_
    rintro e W1 ⟨rfl, k⟩
    have KB1 := Lib.hid (KB0.out.trans k)
    clear k
    obtain ⟨b00, b01, b02, b03, b04⟩ := (HB0.out.kept KB1.out).five
    have bz0 := (HB0.out.kept KB1.out).1
    obtain ⟨b10, b11⟩ := (HB1.out.kept KB1.out).two
    have bz1 := (HB1.out.kept KB1.out).1
    go_wp2_with fail
    clear b00 b01 b02 b03 b04 bz0 b10 b11 bz1
    refine (few9_any kA kc k lA lc l vA vc v W1).mono ?_
    rintro e W2 ⟨rfl, k⟩
    have KB2 := Lib.hid (KB1.out.trans k)
    clear k
    rw [HF.out]
    obtain ⟨s, hs⟩ : ∃ s, wrap64 (pct + more) = s := ⟨_, rfl⟩
    have HSi := Lib.hid (show IntKind.i64.wrap (pct + more) = s by rw [← hs]; first | exact IntWalk.i64_left _ | exact Go.IntWalk.i64_left _)
    by_cases h1 : pct < 0
    · have g1 : decide (pct < 0) = true := decide_eq_true h1
      obtain ⟨b00, b01, b02, b03, b04⟩ := (HB0.out.kept KB2.out).five
      have bz0 := (HB0.out.kept KB2.out).1
      obtain ⟨b10, b11⟩ := (HB1.out.kept KB2.out).two
      have bz1 := (HB1.out.kept KB2.out).1
      go_wp2_with fail
      clear b00 b01 b02 b03 b04 bz0 b10 b11 bz1
      go_ret
      exact ⟨by first | rfl | (simp; done), K0.out.trans KB2.out⟩
    · have g1 : decide (pct < 0) = false := decide_eq_false h1
      by_cases h2 : more < 0
      · have g2 : decide (more < 0) = true := decide_eq_true h2
        obtain ⟨b00, b01, b02, b03, b04⟩ := (HB0.out.kept KB2.out).five
        have bz0 := (HB0.out.kept KB2.out).1
        obtain ⟨b10, b11⟩ := (HB1.out.kept KB2.out).two
        have bz1 := (HB1.out.kept KB2.out).1
        go_wp2_with fail
        clear b00 b01 b02 b03 b04 bz0 b10 b11 bz1
        go_ret
        exact ⟨by first | rfl | (simp; done), K0.out.trans KB2.out⟩
      · have g2 : decide (more < 0) = false := decide_eq_false h2
        by_cases h3 : 100 < pct
        · have g3 : decide (100 < pct) = true := decide_eq_true h3
          obtain ⟨b00, b01, b02, b03, b04⟩ := (HB0.out.kept KB2.out).five
          have bz0 := (HB0.out.kept KB2.out).1
          obtain ⟨b10, b11⟩ := (HB1.out.kept KB2.out).two
          have bz1 := (HB1.out.kept KB2.out).1
          go_wp2_with fail
          clear b00 b01 b02 b03 b04 bz0 b10 b11 bz1
          go_ret
          exact ⟨by first | rfl | (simp; done), K0.out.trans KB2.out⟩
        · have g3 : decide (100 < pct) = false := decide_eq_false h3
          by_cases h4 : 100 < s
          · have g4 : decide (100 < s) = true := decide_eq_true h4
            obtain ⟨b00, b01, b02, b03, b04⟩ := (HB0.out.kept KB2.out).five
            have bz0 := (HB0.out.kept KB2.out).1
            obtain ⟨b10, b11⟩ := (HB1.out.kept KB2.out).two
            have bz1 := (HB1.out.kept KB2.out).1
            go_wp2_with fail
            clear b00 b01 b02 b03 b04 bz0 b10 b11 bz1
            go_ret
            exact ⟨by first | rfl | (simp; done), K0.out.trans KB2.out⟩
          · have g4 : decide (100 < s) = false := decide_eq_false h4
            by_cases h5 : s < pct
            · have g5 : decide (s < pct) = true := decide_eq_true h5
              obtain ⟨b00, b01, b02, b03, b04⟩ := (HB0.out.kept KB2.out).five
              have bz0 := (HB0.out.kept KB2.out).1
              obtain ⟨b10, b11⟩ := (HB1.out.kept KB2.out).two
              have bz1 := (HB1.out.kept KB2.out).1
              go_wp2_with fail
              clear b00 b01 b02 b03 b04 bz0 b10 b11 bz1
              go_ret
              exact ⟨by first | rfl | (simp; done), K0.out.trans KB2.out⟩
            · have g5 : decide (s < pct) = false := decide_eq_false h5
              have hsv : s = pct + more := by have h := HSi.out; rw [IntKind.wrap_i64] at h; omega
              subst hsv
              have HUp := Lib.hid (fun (R : List Vt) (h : underC l bo (headG (onB k l R bo pct) l) = true) => up_head (show 0 ≤ pct by omega) (show pct ≤ pct + more by omega) (show pct + more ≤ 100 by omega) h)
              obtain ⟨b00, b01, b02, b03, b04⟩ := (HB0.out.kept KB2.out).five
              have bz0 := (HB0.out.kept KB2.out).1
              obtain ⟨b10, b11⟩ := (HB1.out.kept KB2.out).two
              have bz1 := (HB1.out.kept KB2.out).1
              go_wp2_with fail
              clear b00 b01 b02 b03 b04 bz0 b10 b11 bz1
              refine (lmdHead_any kA kc k lA lc l vA vc v upto bo pct W2 (by omega) (by omega) (by omega) lhw vhw hwbo (HA.out.kept KB2.out) (HL.out.kept KB2.out) (HV.out.kept KB2.out)).mono ?_
              rintro e W3 ⟨R, hR, rfl, k⟩
              have KB3 := Lib.hid (KB2.out.trans k)
              clear k
              have HR := Lib.hid hR
              clear hR
              obtain ⟨a, ha⟩ : ∃ a, a = headG (onB k l R bo pct) l := ⟨_, rfl⟩
              rw [← ha]
              have HEa := Lib.hid ha
              clear ha
              have HX1 := Lib.hid (AtI.new W3 a W3.heap.size rfl)
              have KX1 := Lib.hid (Kept.alloc (Kept.refl W3) (.cells #[.int .u64 a.1, .int .u64 a.2] 29))
              obtain ⟨b00, b01, b02, b03, b04⟩ := (HB0.out.kept KB3.out).five
              have bz0 := (HB0.out.kept KB3.out).1
              obtain ⟨b10, b11⟩ := (HB1.out.kept KB3.out).two
              have bz1 := (HB1.out.kept KB3.out).1
              go_wp2_with fail
              clear b00 b01 b02 b03 b04 bz0 b10 b11 bz1
              generalize W3.alloc (.cells #[.int .u64 a.1, .int .u64 a.2] 29) = V1 at *
              generalize W3.heap.size = y1 at *
              have KB4 := Lib.hid (KB3.out.trans KX1.out)
              refine (lmdHead_any kA kc k lA lc l vA vc v upto bo (pct + more) V1 (by omega) (by omega) (by omega) lhw vhw hwbo (HA.out.kept KB4.out) (HL.out.kept KB4.out) (HV.out.kept KB4.out)).mono ?_
              rintro e W5 ⟨R2, hR2, rfl, k⟩
              replace HX1 := Lib.hid (HX1.out.kept k)
              have KB5 := Lib.hid (KB4.out.trans k)
              clear k
              have eR := HR.out.unique hR2
              subst eR
              clear hR2
              obtain ⟨b, hb⟩ : ∃ b, b = headG (onB k l R bo (pct + more)) l := ⟨_, rfl⟩
              rw [← hb]
              have HEb := Lib.hid hb
              clear hb
              have HX2 := Lib.hid (AtI.new W5 b W5.heap.size rfl)
              have KX2 := Lib.hid (Kept.alloc (Kept.refl W5) (.cells #[.int .u64 b.1, .int .u64 b.2] 29))
              have a0 := HX1.out.c0
              have a1 := HX1.out.c1
              have hba := HX1.out.lt
              obtain ⟨b00, b01, b02, b03, b04⟩ := (HB0.out.kept KB5.out).five
              have bz0 := (HB0.out.kept KB5.out).1
              obtain ⟨b10, b11⟩ := (HB1.out.kept KB5.out).two
              have bz1 := (HB1.out.kept KB5.out).1
              go_wp2_with fail
              clear b00 b01 b02 b03 b04 bz0 b10 b11 bz1
              clear a0 a1 hba
              generalize W5.alloc (.cells #[.int .u64 b.1, .int .u64 b.2] 29) = V2 at *
              generalize W5.heap.size = y2 at *
              have KB6 := Lib.hid (KB5.out.trans KX2.out)
              have b0 := HX2.out.c0
              have b1 := HX2.out.c1
              have hbb := HX2.out.lt
              have hwa : WfI a := by rw [HEa.out]; exact headG_wf _ _
              have hwb : WfI b := by rw [HEb.out]; exact headG_wf _ _
              have HUa := Lib.hid (fun (h : underC l bo a = true) => (show underC l bo b = true by rw [HEa.out] at h; rw [HEb.out]; exact HUp.out R h))
              refine (under_any lA lc l (by omega) lhw bo a hwa V2 (HL.out.kept KB6.out)).mono ?_
              rintro e W7 ⟨rfl, k⟩
              replace b0 := (k.cell (p := ⟨y2, 0, none⟩) hbb).trans b0
              replace b1 := (k.cell (p := ⟨y2, 1, none⟩) hbb).trans b1
              replace hbb := Nat.lt_of_lt_of_le hbb k.size_le
              have KB7 := Lib.hid (KB6.out.trans k)
              clear k
              cases hu : underC l bo a with
              | false =>
                obtain ⟨b00, b01, b02, b03, b04⟩ := (HB0.out.kept KB7.out).five
                have bz0 := (HB0.out.kept KB7.out).1
                obtain ⟨b10, b11⟩ := (HB1.out.kept KB7.out).two
                have bz1 := (HB1.out.kept KB7.out).1
                go_wp2_with fail
                clear b00 b01 b02 b03 b04 bz0 b10 b11 bz1
                go_ret
                exact ⟨by first | rfl | (simp; done), K0.out.trans KB7.out⟩
              | true =>
                have hb2 := HUa.out hu
                obtain ⟨b00, b01, b02, b03, b04⟩ := (HB0.out.kept KB7.out).five
                have bz0 := (HB0.out.kept KB7.out).1
                obtain ⟨b10, b11⟩ := (HB1.out.kept KB7.out).two
                have bz1 := (HB1.out.kept KB7.out).1
                go_wp2_with fail
                clear b00 b01 b02 b03 b04 bz0 b10 b11 bz1
                refine (under_any lA lc l (by omega) lhw bo b hwb W7 (HL.out.kept KB7.out)).mono ?_
                rintro e W8 ⟨rfl, k⟩
                have KB8 := Lib.hid (KB7.out.trans k)
                clear k
                rw [hb2]
                obtain ⟨b00, b01, b02, b03, b04⟩ := (HB0.out.kept KB8.out).five
                have bz0 := (HB0.out.kept KB8.out).1
                obtain ⟨b10, b11⟩ := (HB1.out.kept KB8.out).two
                have bz1 := (HB1.out.kept KB8.out).1
                go_wp2_with fail
                clear b00 b01 b02 b03 b04 bz0 b10 b11 bz1
                go_ret
                exact ⟨by first | rfl | (simp; done), K0.out.trans KB8.out⟩

/-! ### The row's step -/
set_option maxRecDepth 100000 in
theorem lifted (os : Os) (started : os.Started) (H : Type) (enc : TypeId × Value → H) :
    ReturnsInHanded {} Try.checked os 7 .any (Rows.lmdUpSpec.pre6 enc Try.prog Try.f7 Rows.lmdUpRow.domain false) (Rows.lmdUpSpec.post enc Try.prog Try.f7 false true false false) := by
  refine returnsInHanded_of_change (C := Try.checked) own started (by kernel_rfl) Try.func7
    (ChangeSpec.witness6 (enc := enc) (C := Try.checked) false ⟨#[], #[.agg #[.slice none 0 0, .int .u64 0, .int .i64 0, .int .i64 0, .int .i64 0], .slice none 0 0, .slice none 0 0, .int .i64 0, .agg #[.int .u64 0, .int .u64 0], .int .i64 0, .int .i64 0], []⟩ 8 (by kernel_rfl) (by kernel_rfl) (by kernel_rfl) (by kernel_rfl)) ?_
  intro W base args ds gs before hval0 hW hcnd _
  have hval : ∀ (j : Nat) t v, Try.f7.params[j]? = some t → args[j]? = some v → Value.okWide Try.prog W .any base t v := hval0
  have hW' := hW
  obtain ⟨p, q, hA0, hV, rfl, hfz, hnd⟩ := hW
  have hA : DataW.TrodAll enc Try.prog W 0 (fun _ => true) true Try.f7.params.toList args.toList ds p := hA0
  rw [Try.params7] at hA hval
  obtain ⟨v0, vs0, d0, ds0, p0, q0, hargs, rfl, rfl, h0, r0⟩ := trodAll_cons hA
  obtain ⟨v1, vs1, d1, ds1, p1, q1, rfl, rfl, rfl, h1, r1⟩ := trodAll_cons r0
  obtain ⟨v2, vs2, d2, ds2, p2, q2, rfl, rfl, rfl, h2, r2⟩ := trodAll_cons r1
  obtain ⟨v3, vs3, d3, ds3, p3, q3, rfl, rfl, rfl, h3, r3⟩ := trodAll_cons r2
  obtain ⟨v4, vs4, d4, ds4, p4, q4, rfl, rfl, rfl, h4, r4⟩ := trodAll_cons r3
  obtain ⟨v5, vs5, d5, ds5, p5, q5, rfl, rfl, rfl, h5, r5⟩ := trodAll_cons r4
  obtain ⟨v6, vs6, d6, ds6, p6, q6, rfl, rfl, rfl, h6, r6⟩ := trodAll_cons r5
  obtain ⟨rfl, rfl, rfl⟩ := trodAll_nil r6
  obtain rfl : args = #[v0, v1, v2, v3, v4, v5, v6] := by cases args; simp_all
  obtain ⟨rfl, rfl⟩ := trodVars_none hV
  obtain ⟨kA, kc, k, rfl, khm, khs, khl⟩ := open_conf (hval 0 _ v0 rfl rfl) h0
  obtain ⟨lA, lc, l, rfl, lhm, lhc, lhw, lhl⟩ := open_blocks (hval 1 _ v1 rfl rfl) h1
  obtain ⟨vA, vc, v, rfl, vhm, vhc, vhw, vhl⟩ := open_votes (hval 2 _ v2 rfl rfl) h2
  obtain ⟨upto, rfl, hupto1, hupto2⟩ := open_num (hval 3 _ v3 rfl rfl) h3
  obtain ⟨bo, rfl, hbo1, hbo2⟩ := open_id (hval 4 _ v4 rfl rfl) h4
  obtain ⟨pct, rfl, hpct1, hpct2⟩ := open_num (hval 5 _ v5 rfl rfl) h5
  obtain ⟨more, rfl, hmore1, hmore2⟩ := open_num (hval 6 _ v6 rfl rfl) h6
  clear hA0 hval0
  refine (walk W kA kc k khm khs khl lA lc l lhm lhc lhw lhl vA vc v vhm vhc vhw vhl upto hupto1 hupto2 bo hbo1 hbo2 pct hpct1 hpct2 more hmore1 hmore2).mono fun e W' ⟨he, hb⟩ => ?_
  subst he
  exact ⟨_, rfl, law_post rfl (by kernel_rfl) rfl hW' rfl hb⟩

theorem over : Rows.lmdUpRow.holds Try.pinned (OpenSpec.ofChange Rows.lmdUpSpec) :=
  OpenClaim.holds_of_wide 7 Try.f7 rfl rfl rfl rfl rfl rfl rfl ⟨rfl, rfl, rfl, rfl, rfl⟩ rfl rfl rfl rfl rfl (by kernel_rfl) Try.func7 (by kernel_rfl)
    (of_decide_eq_true (by kernel_rfl)) (by unfold Func.isWrapper; first | (rw [if_pos (by decide +kernel)]; kernel_rfl) | (rw [if_neg (by decide +kernel)]; exact ⟨rfl, rfl⟩))
    (fun os started H enc _ => lifted os started H enc)

/-- The statement. -/
theorem proved : Rows.LmdUpSaid :=
  over
#print axioms proved

end Go.Proofs.Yteamjjkmcomabaa.lmdUp
