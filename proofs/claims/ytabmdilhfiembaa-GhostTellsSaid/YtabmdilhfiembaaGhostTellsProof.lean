/-
  Law GhostTells of layer 9: the best block on any one, and the head, by any votes, are what the document says, whatever conf, blocks, votes and id.
-/
import Derived.Test.YtabmdilhfiembaaGhostAwake
import Derived.Test.YtabmdilhfiembaaGhostBest
import Derived.Test.YtabmdilhfiembaaGhostRefTop
import Derived.Test.YtabmdilhfiembaaDutyG
import Derived.Test.YtabmdilhfiembaaTreeG
import Derived.Test.YtabmdilhfiembaaVoteG
import Derived.Test.YtabmdilhfiembaaMixG
import Derived.Test.YtabmdilhfiembaaGround
namespace Go.Proofs.Ytabmdilhfiembaa.ghostTells
set_option maxRecDepth 100000
set_option linter.unusedVariables false
open Go.ChangeShapes Go.WideShapes Go.ChangeAt Go.RowKit
set_option linter.unusedVariables false

/-! ### The walk: the call returns true, and of what was there nothing has changed. -/
attribute [local go_sem high] eqIdN eqIdZ in
set_option maxRecDepth 100000 in
set_option maxHeartbeats 3200000 in
theorem walk (w : World) (kA : Option Addr) (kc : Nat) (k : Cf) (khm : k.ws.length ≤ maxLen) (khs : k.seed < 18446744073709551616) (khl : CellsAt w w.heap.size kA (intCells k.ws)) (lA : Option Addr) (lc : Nat) (l : List Bk) (lhm : l.length ≤ maxLen) (lhc : l.length ≤ lc) (lhw : WfL l) (lhl : CellsAt w w.heap.size lA (blockCells l)) (vA : Option Addr) (vc : Nat) (v : List Vt) (vhm : v.length ≤ maxLen) (vhc : v.length ≤ vc) (vhw : WfVs v) (vhl : CellsAt w w.heap.size vA (votesCells v)) (x : Nat × Nat) (hx1 : x.1 < 18446744073709551616) (hx2 : x.2 < 18446744073709551616) :
    Calls Try.prog 3 #[.agg #[.slice kA k.ws.length kc, .int .u64 k.seed, .int .i64 k.ep, .int .i64 k.nu, .int .i64 k.de], .slice lA l.length lc, .slice vA v.length vc, .agg #[.int .u64 x.1, .int .u64 x.2]] w fun e w' => e = .returned (.bool true) ∧ Kept w w' := by
  cases hf : few9C k l v with
  | false =>
    go_enter Try.func3, Try.ntmps3
    go_wp2_with fail
    have K0 := Lib.hid (((Kept.refl w).alloc (.cells #[.slice kA k.ws.length kc, .int .u64 k.seed, .int .i64 k.ep, .int .i64 k.nu, .int .i64 k.de] 25)).alloc (.cells #[.int .u64 x.1, .int .u64 x.2] 29))
    have HA := Lib.hid (khl.kept K0.out)
    clear khl
    have HL := Lib.hid (lhl.kept K0.out)
    clear lhl
    have HV := Lib.hid (vhl.kept K0.out)
    clear vhl
    have HB0 := Lib.hid ((HasCells.new w #[.slice kA k.ws.length kc, .int .u64 k.seed, .int .i64 k.ep, .int .i64 k.nu, .int .i64 k.de] 25 (w.heap.size) (by simp)).alloc (.cells #[.int .u64 x.1, .int .u64 x.2] 29))
    have HB1 := Lib.hid (HasCells.new (w.alloc (.cells #[.slice kA k.ws.length kc, .int .u64 k.seed, .int .i64 k.ep, .int .i64 k.nu, .int .i64 k.de] 25)) #[.int .u64 x.1, .int .u64 x.2] 29 (w.heap.size + 1) (by simp))
    generalize ((w.alloc (.cells #[.slice kA k.ws.length kc, .int .u64 k.seed, .int .i64 k.ep, .int .i64 k.nu, .int .i64 k.de] 25)).alloc (.cells #[.int .u64 x.1, .int .u64 x.2] 29)) = W0 at *
    generalize w.heap.size + 1 = z1 at *
    generalize w.heap.size = z0 at *
    have KB0 := Lib.hid (Kept.refl W0)
    refine (ghostAwake W0).mono ?_
    rintro e W1 ⟨rfl, k⟩
    have KB1 := Lib.hid (KB0.out.trans k)
    clear k
    obtain ⟨b00, b01, b02, b03, b04⟩ := (HB0.out.kept KB1.out).five
    have bz0 := (HB0.out.kept KB1.out).1
    obtain ⟨b10, b11⟩ := (HB1.out.kept KB1.out).two
    have bz1 := (HB1.out.kept KB1.out).1
    go_wp2_with fail
    clear b00 b01 b02 b03 b04 bz0 b10 b11 bz1
    refine (few9_any kA kc k lA lc l vA vc v W1).mono ?_
    rintro e W2 ⟨rfl, k⟩
    have KB2 := Lib.hid (KB1.out.trans k)
    clear k
    rw [hf]
    obtain ⟨b00, b01, b02, b03, b04⟩ := (HB0.out.kept KB2.out).five
    have bz0 := (HB0.out.kept KB2.out).1
    obtain ⟨b10, b11⟩ := (HB1.out.kept KB2.out).two
    have bz1 := (HB1.out.kept KB2.out).1
    go_wp2_with fail
    clear b00 b01 b02 b03 b04 bz0 b10 b11 bz1
    go_ret
    exact ⟨by first | rfl | (simp; done), K0.out.trans KB2.out⟩
  | true =>
    obtain ⟨hk40, hl30, hv30⟩ := few9C_yes hf
    have HF := Lib.hid hf
    clear hf
    go_enter Try.func3, Try.ntmps3
    go_wp2_with fail
    have K0 := Lib.hid (((Kept.refl w).alloc (.cells #[.slice kA k.ws.length kc, .int .u64 k.seed, .int .i64 k.ep, .int .i64 k.nu, .int .i64 k.de] 25)).alloc (.cells #[.int .u64 x.1, .int .u64 x.2] 29))
    have HA := Lib.hid (khl.kept K0.out)
    clear khl
    have HL := Lib.hid (lhl.kept K0.out)
    clear lhl
    have HV := Lib.hid (vhl.kept K0.out)
    clear vhl
    have HB0 := Lib.hid ((HasCells.new w #[.slice kA k.ws.length kc, .int .u64 k.seed, .int .i64 k.ep, .int .i64 k.nu, .int .i64 k.de] 25 (w.heap.size) (by simp)).alloc (.cells #[.int .u64 x.1, .int .u64 x.2] 29))
    have HB1 := Lib.hid (HasCells.new (w.alloc (.cells #[.slice kA k.ws.length kc, .int .u64 k.seed, .int .i64 k.ep, .int .i64 k.nu, .int .i64 k.de] 25)) #[.int .u64 x.1, .int .u64 x.2] 29 (w.heap.size + 1) (by simp))
    generalize ((w.alloc (.cells #[.slice kA k.ws.length kc, .int .u64 k.seed, .int .i64 k.ep, .int .i64 k.nu, .int .i64 k.de] 25)).alloc (.cells #[.int .u64 x.1, .int .u64 x.2] 29)) = W0 at *
    generalize w.heap.size + 1 = z1 at *
    generalize w.heap.size = z0 at *
    have KB0 := Lib.hid (Kept.refl W0)
    refine (ghostAwake W0).mono ?_
    rintro e W1 ⟨rfl, k⟩
    have KB1 := Lib.hid (KB0.out.trans k)
    clear k
    obtain ⟨b00, b01, b02, b03, b04⟩ := (HB0.out.kept KB1.out).five
    have bz0 := (HB0.out.kept KB1.out).1
    obtain ⟨b10, b11⟩ := (HB1.out.kept KB1.out).two
    have bz1 := (HB1.out.kept KB1.out).1
    go_wp2_with fail
    clear b00 b01 b02 b03 b04 bz0 b10 b11 bz1
    refine (few9_any kA kc k lA lc l vA vc v W1).mono ?_
    rintro e W2 ⟨rfl, k⟩
    have KB2 := Lib.hid (KB1.out.trans k)
    clear k
    rw [HF.out]
    obtain ⟨b00, b01, b02, b03, b04⟩ := (HB0.out.kept KB2.out).five
    have bz0 := (HB0.out.kept KB2.out).1
    obtain ⟨b10, b11⟩ := (HB1.out.kept KB2.out).two
    have bz1 := (HB1.out.kept KB2.out).1
    go_wp2_with fail
    clear b00 b01 b02 b03 b04 bz0 b10 b11 bz1
    have HP1 := Lib.hid (fun w' (kk : Kept W0 w') => best_any kA kc k lA lc l vA vc v x w' (by omega) (by omega) lhw vhw (HA.out.kept kk) (HL.out.kept kk) (HV.out.kept kk))
    have HP2 := Lib.hid (fun w' (kk : Kept W0 w') => refBest_any kA kc k lA lc l vA vc v x w' (by omega) (by omega) (by omega) lhw (HA.out.kept kk) (HL.out.kept kk) (HV.out.kept kk))
    have HH1 := Lib.hid (fun w' (kk : Kept W0 w') => head_any kA kc k lA lc l vA vc v w' (by omega) (by omega) lhw vhw (HA.out.kept kk) (HL.out.kept kk) (HV.out.kept kk))
    have HH2 := Lib.hid (fun w' (kk : Kept W0 w') => refHead_any kA kc k lA lc l vA vc v w' (by omega) (by omega) (by omega) lhw (HA.out.kept kk) (HL.out.kept kk) (HV.out.kept kk))
    generalize (candOf (onC k l v) (bestTo (onC k l v) (kidsC l x))).2 = p at *
    generalize decide (0 < (kidsC l x).length) = is at *
    generalize headC k l v = h at *
    refine (HP1.out W2 KB2.out).mono ?_
    rintro e W3 ⟨rfl, k⟩
    have KB3 := Lib.hid (KB2.out.trans k)
    clear k
    have HX1 := Lib.hid (HasCells.new W3 #[.int .u64 p.1, .int .u64 p.2] 29 W3.heap.size rfl)
    have KX1 := Lib.hid (Kept.alloc (Kept.refl W3) (.cells #[.int .u64 p.1, .int .u64 p.2] 29))
    obtain ⟨b00, b01, b02, b03, b04⟩ := (HB0.out.kept KB3.out).five
    have bz0 := (HB0.out.kept KB3.out).1
    obtain ⟨b10, b11⟩ := (HB1.out.kept KB3.out).two
    have bz1 := (HB1.out.kept KB3.out).1
    go_wp2_with fail
    clear b00 b01 b02 b03 b04 bz0 b10 b11 bz1
    generalize W3.alloc (.cells #[.int .u64 p.1, .int .u64 p.2] 29) = V1 at *
    generalize W3.heap.size = y1 at *
    have KB4 := Lib.hid (KB3.out.trans KX1.out)
    refine (HP2.out V1 KB4.out).mono ?_
    rintro e W5 ⟨rfl, k⟩
    replace HX1 := Lib.hid (HX1.out.kept k)
    have KB5 := Lib.hid (KB4.out.trans k)
    clear k
    have HX2 := Lib.hid (HasCells.new W5 #[.int .u64 p.1, .int .u64 p.2] 29 W5.heap.size rfl)
    have KX2 := Lib.hid (Kept.alloc (Kept.refl W5) (.cells #[.int .u64 p.1, .int .u64 p.2] 29))
    obtain ⟨p0, p1⟩ := HX1.out.two
    obtain ⟨b00, b01, b02, b03, b04⟩ := (HB0.out.kept KB5.out).five
    have bz0 := (HB0.out.kept KB5.out).1
    obtain ⟨b10, b11⟩ := (HB1.out.kept KB5.out).two
    have bz1 := (HB1.out.kept KB5.out).1
    go_wp2_with fail
    clear b00 b01 b02 b03 b04 bz0 b10 b11 bz1
    have HX3 := Lib.hid (HX1.out.kept KX2.out)
    clear p0 p1 HX1
    generalize W5.alloc (.cells #[.int .u64 p.1, .int .u64 p.2] 29) = V2 at *
    generalize W5.heap.size = y2 at *
    have KB6 := Lib.hid (KB5.out.trans KX2.out)
    obtain ⟨b00, b01, b02, b03, b04⟩ := (HB0.out.kept KB6.out).five
    have bz0 := (HB0.out.kept KB6.out).1
    obtain ⟨p0, p1⟩ := HX3.out.two
    obtain ⟨q0, q1⟩ := HX2.out.two
    have hy1 := HX3.out.1
    have hy2 := HX2.out.1
    have hs1 : sameI p p = true := sameI_yes rfl
    have hs2 : sameI h h = true := sameI_yes rfl
    go_region_held3 (fun w' => w'.cell? ⟨z0, 0, none⟩ = some (.slice kA k.ws.length kc) ∧ w'.cell? ⟨z0, 1, none⟩ = some (.int .u64 k.seed) ∧ w'.cell? ⟨z0, 2, none⟩ = some (.int .i64 k.ep) ∧ w'.cell? ⟨z0, 3, none⟩ = some (.int .i64 k.nu) ∧ w'.cell? ⟨z0, 4, none⟩ = some (.int .i64 k.de) ∧ w'.cell? ⟨y1, 0, none⟩ = some (.int .u64 p.1) ∧ w'.cell? ⟨y1, 1, none⟩ = some (.int .u64 p.2) ∧ w'.cell? ⟨y2, 0, none⟩ = some (.int .u64 p.1) ∧ w'.cell? ⟨y2, 1, none⟩ = some (.int .u64 p.2) ∧ Kept V2 w')
      (first | exact ⟨b00, b01, b02, b03, b04, p0, p1, q0, q1, Kept.refl _⟩ | exact ⟨b00, b01, b02, b03, b04, p0, p1, q0, q1, (Kept.refl _).drew⟩ | assumption | exact keepP9 bz0 bz0 bz0 bz0 bz0 hy1 hy1 hy2 hy2 (by assumption) (by assumption))
      (first
        | (go_at_call 15; ((first | (with_reducible refine (HH1.out _ (KB6.out.trans (by assumption : _ ∧ _ ∧ _ ∧ _ ∧ _ ∧ _ ∧ _ ∧ _ ∧ _ ∧ Kept V2 _).2.2.2.2.2.2.2.2.2)).mono ?_)); rintro e w' ⟨rfl, kk⟩))
        | (go_at_call 16; ((first | (with_reducible refine (HH2.out _ (KB6.out.trans (by assumption : _ ∧ _ ∧ _ ∧ _ ∧ _ ∧ _ ∧ _ ∧ _ ∧ _ ∧ Kept V2 _).2.2.2.2.2.2.2.2.2)).mono ?_)); rintro e w' ⟨rfl, kk⟩)))
    all_goals
      rename_i hh
      have k := hh.2.2.2.2.2.2.2.2.2
      clear hh
      have KB7 := Lib.hid (KB6.out.trans k)
      clear k
      generalize w' = W7 at *
      go_wp2_with fail
      go_ret
      exact ⟨by first | rfl | (simp; done), K0.out.trans KB7.out⟩

/-! ### The row's step -/
set_option maxRecDepth 100000 in
theorem lifted (os : Os) (started : os.Started) (H : Type) (enc : TypeId × Value → H) :
    ReturnsInHanded {} Try.checked os 3 .any (Rows.ghostTellsSpec.pre6 enc Try.prog Try.f3 Rows.ghostTellsRow.domain false) (Rows.ghostTellsSpec.post enc Try.prog Try.f3 false true false false) := by
  refine returnsInHanded_of_change (C := Try.checked) own started (by kernel_rfl) Try.func3
    (ChangeSpec.witness6 (enc := enc) (C := Try.checked) false ⟨#[], #[.agg #[.slice none 0 0, .int .u64 0, .int .i64 0, .int .i64 0, .int .i64 0], .slice none 0 0, .slice none 0 0, .agg #[.int .u64 0, .int .u64 0]], []⟩ 8 (by kernel_rfl) (by kernel_rfl) (by kernel_rfl) (by kernel_rfl)) ?_
  intro W base args ds gs before hval0 hW hcnd _
  have hval : ∀ (j : Nat) t v, Try.f3.params[j]? = some t → args[j]? = some v → Value.okWide Try.prog W .any base t v := hval0
  have hW' := hW
  obtain ⟨p, q, hA0, hV, rfl, hfz, hnd⟩ := hW
  have hA : DataW.TrodAll enc Try.prog W 0 (fun _ => true) true Try.f3.params.toList args.toList ds p := hA0
  rw [Try.params3] at hA hval
  obtain ⟨v0, vs0, d0, ds0, p0, q0, hargs, rfl, rfl, h0, r0⟩ := trodAll_cons hA
  obtain ⟨v1, vs1, d1, ds1, p1, q1, rfl, rfl, rfl, h1, r1⟩ := trodAll_cons r0
  obtain ⟨v2, vs2, d2, ds2, p2, q2, rfl, rfl, rfl, h2, r2⟩ := trodAll_cons r1
  obtain ⟨v3, vs3, d3, ds3, p3, q3, rfl, rfl, rfl, h3, r3⟩ := trodAll_cons r2
  obtain ⟨rfl, rfl, rfl⟩ := trodAll_nil r3
  obtain rfl : args = #[v0, v1, v2, v3] := by cases args; simp_all
  obtain ⟨rfl, rfl⟩ := trodVars_none hV
  obtain ⟨kA, kc, k, rfl, khm, khs, khl⟩ := open_conf (hval 0 _ v0 rfl rfl) h0
  obtain ⟨lA, lc, l, rfl, lhm, lhc, lhw, lhl⟩ := open_blocks (hval 1 _ v1 rfl rfl) h1
  obtain ⟨vA, vc, v, rfl, vhm, vhc, vhw, vhl⟩ := open_votes (hval 2 _ v2 rfl rfl) h2
  obtain ⟨x, rfl, hx1, hx2⟩ := open_id (hval 3 _ v3 rfl rfl) h3
  clear hA0 hval0
  refine (walk W kA kc k khm khs khl lA lc l lhm lhc lhw lhl vA vc v vhm vhc vhw vhl x hx1 hx2).mono fun e W' ⟨he, hb⟩ => ?_
  subst he
  exact ⟨_, rfl, law_post rfl (by kernel_rfl) rfl hW' rfl hb⟩

theorem over : Rows.ghostTellsRow.holds Try.pinned (OpenSpec.ofChange Rows.ghostTellsSpec) :=
  OpenClaim.holds_of_wide 3 Try.f3 rfl rfl rfl rfl rfl rfl rfl ⟨rfl, rfl, rfl, rfl, rfl⟩ rfl rfl rfl rfl rfl (by kernel_rfl) Try.func3 (by kernel_rfl)
    (of_decide_eq_true (by kernel_rfl)) (by unfold Func.isWrapper; first | (rw [if_pos (by decide +kernel)]; kernel_rfl) | (rw [if_neg (by decide +kernel)]; exact ⟨rfl, rfl⟩))
    (fun os started H enc _ => lifted os started H enc)

/-- The statement. -/
theorem proved : Rows.GhostTellsSaid :=
  over
#print axioms proved

end Go.Proofs.Ytabmdilhfiembaa.ghostTells
