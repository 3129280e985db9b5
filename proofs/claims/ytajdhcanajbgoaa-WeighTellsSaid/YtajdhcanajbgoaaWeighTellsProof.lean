/-
  Law WeighTells of layer 8: how much votes weigh for a block, and all of them, is what the document says, whatever conf, blocks, votes and id.
-/
import Derived.Test.YtajdhcanajbgoaaWeighAwake
import Derived.Test.YtajdhcanajbgoaaWeighRef
import Derived.Test.YtajdhcanajbgoaaWeighKeep
import Derived.Test.YtajdhcanajbgoaaDutyG
import Derived.Test.YtajdhcanajbgoaaTreeG
import Derived.Test.YtajdhcanajbgoaaVoteG
import Derived.Test.YtajdhcanajbgoaaMixG
namespace Go.Proofs.Ytajdhcanajbgoaa.weighTells
set_option maxRecDepth 100000
open Go.ChangeShapes Go.WideShapes Go.ChangeAt Go.RowKit
set_option linter.unusedVariables false

/-! ### The walk: the call returns true, and of what was there nothing has changed. -/
attribute [local go_sem high] eqIdN eqIdZ in
set_option maxRecDepth 100000 in
set_option maxHeartbeats 3200000 in
theorem walk (w : World) (kA : Option Addr) (kc : Nat) (k : Cf) (khm : k.ws.length ≤ maxLen) (khs : k.seed < 18446744073709551616) (khl : CellsAt w w.heap.size kA (intCells k.ws)) (lA : Option Addr) (lc : Nat) (l : List Bk) (lhm : l.length ≤ maxLen) (lhc : l.length ≤ lc) (lhw : WfL l) (lhl : CellsAt w w.heap.size lA (blockCells l)) (vA : Option Addr) (vc : Nat) (v : List Vt) (vhm : v.length ≤ maxLen) (vhc : v.length ≤ vc) (vhw : WfVs v) (vhl : CellsAt w w.heap.size vA (votesCells v)) (x : Nat × Nat) (hx1 : x.1 < 18446744073709551616) (hx2 : x.2 < 18446744073709551616) :
    Calls Try.prog 3 #[.agg #[.slice kA k.ws.length kc, .int .u64 k.seed, .int .i64 k.ep, .int .i64 k.nu, .int .i64 k.de], .slice lA l.length lc, .slice vA v.length vc, .agg #[.int .u64 x.1, .int .u64 x.2]] w fun e w' => e = .returned (.bool true) ∧ Kept w w' := by
  cases hf : fewC k l v with
  | false =>
    go_enter Try.func3, Try.ntmps3
    go_wp2_with fail
    have HK_0 := Lib.hid (((Kept.refl w).alloc (.cells #[.slice kA k.ws.length kc, .int .u64 k.seed, .int .i64 k.ep, .int .i64 k.nu, .int .i64 k.de] 25)).alloc (.cells #[.int .u64 x.1, .int .u64 x.2] 29))
    have HA_0 := Lib.hid (khl.kept HK_0.out)
    clear khl
    have HL_0 := Lib.hid (lhl.kept HK_0.out)
    clear lhl
    have HV_0 := Lib.hid (vhl.kept HK_0.out)
    clear vhl
    have HB0_0 := Lib.hid ((HasCells.new w #[.slice kA k.ws.length kc, .int .u64 k.seed, .int .i64 k.ep, .int .i64 k.nu, .int .i64 k.de] 25 (w.heap.size) (by simp)).alloc (.cells #[.int .u64 x.1, .int .u64 x.2] 29))
    have HB1_0 := Lib.hid (HasCells.new (w.alloc (.cells #[.slice kA k.ws.length kc, .int .u64 k.seed, .int .i64 k.ep, .int .i64 k.nu, .int .i64 k.de] 25)) #[.int .u64 x.1, .int .u64 x.2] 29 (w.heap.size + 1) (by simp))
    generalize ((w.alloc (.cells #[.slice kA k.ws.length kc, .int .u64 k.seed, .int .i64 k.ep, .int .i64 k.nu, .int .i64 k.de] 25)).alloc (.cells #[.int .u64 x.1, .int .u64 x.2] 29)) = W0 at *
    generalize w.heap.size + 1 = z1 at *
    generalize w.heap.size = z0 at *
    refine (weighAwake W0).mono ?_
    rintro e W1 ⟨rfl, k⟩
    have HK_1 := Lib.hid (HK_0.out.trans k)
    have HA_1 := Lib.hid (HA_0.out.kept k)
    have HL_1 := Lib.hid (HL_0.out.kept k)
    have HV_1 := Lib.hid (HV_0.out.kept k)
    have HB0_1 := Lib.hid (HB0_0.out.kept k)
    have HB1_1 := Lib.hid (HB1_0.out.kept k)
    clear k HK_0 HA_0 HL_0 HV_0 HB0_0 HB1_0
    obtain ⟨b00, b01, b02, b03, b04⟩ := HB0_1.out.five
    have bz0 := HB0_1.out.1
    obtain ⟨b10, b11⟩ := HB1_1.out.two
    have bz1 := HB1_1.out.1
    go_wp2_with fail
    clear b00 b01 b02 b03 b04 bz0 b10 b11 bz1
    refine (few_any kA kc k lA lc l vA vc v W1).mono ?_
    rintro e W2 ⟨rfl, k⟩
    have HK_2 := Lib.hid (HK_1.out.trans k)
    have HA_2 := Lib.hid (HA_1.out.kept k)
    have HL_2 := Lib.hid (HL_1.out.kept k)
    have HV_2 := Lib.hid (HV_1.out.kept k)
    have HB0_2 := Lib.hid (HB0_1.out.kept k)
    have HB1_2 := Lib.hid (HB1_1.out.kept k)
    clear k HK_1 HA_1 HL_1 HV_1 HB0_1 HB1_1
    rw [hf]
    obtain ⟨b00, b01, b02, b03, b04⟩ := HB0_2.out.five
    have bz0 := HB0_2.out.1
    obtain ⟨b10, b11⟩ := HB1_2.out.two
    have bz1 := HB1_2.out.1
    go_wp2_with fail
    clear b00 b01 b02 b03 b04 bz0 b10 b11 bz1
    go_ret
    exact ⟨by first | rfl | (simp; done), HK_2.out⟩
  | true =>
    obtain ⟨hk40, hl30, hv30⟩ := fewC_yes hf
    have HF := Lib.hid hf
    clear hf
    go_enter Try.func3, Try.ntmps3
    go_wp2_with fail
    have HK_0 := Lib.hid (((Kept.refl w).alloc (.cells #[.slice kA k.ws.length kc, .int .u64 k.seed, .int .i64 k.ep, .int .i64 k.nu, .int .i64 k.de] 25)).alloc (.cells #[.int .u64 x.1, .int .u64 x.2] 29))
    have HA_0 := Lib.hid (khl.kept HK_0.out)
    clear khl
    have HL_0 := Lib.hid (lhl.kept HK_0.out)
    clear lhl
    have HV_0 := Lib.hid (vhl.kept HK_0.out)
    clear vhl
    have HB0_0 := Lib.hid ((HasCells.new w #[.slice kA k.ws.length kc, .int .u64 k.seed, .int .i64 k.ep, .int .i64 k.nu, .int .i64 k.de] 25 (w.heap.size) (by simp)).alloc (.cells #[.int .u64 x.1, .int .u64 x.2] 29))
    have HB1_0 := Lib.hid (HasCells.new (w.alloc (.cells #[.slice kA k.ws.length kc, .int .u64 k.seed, .int .i64 k.ep, .int .i64 k.nu, .int .i64 k.de] 25)) #[.int .u64 x.1, .int .u64 x.2] 29 (w.heap.size + 1) (by simp))
    generalize ((w.alloc (.cells #[.slice kA k.ws.length kc, .int .u64 k.seed, .int .i64 k.ep, .int .i64 k.nu, .int .i64 k.de] 25)).alloc (.cells #[.int .u64 x.1, .int .u64 x.2] 29)) = W0 at *
    generalize w.heap.size + 1 = z1 at *
    generalize w.heap.size = z0 at *
    refine (weighAwake W0).mono ?_
    rintro e W1 ⟨rfl, k⟩
    have HK_1 := Lib.hid (HK_0.out.trans k)
    have HA_1 := Lib.hid (HA_0.out.kept k)
    have HL_1 := Lib.hid (HL_0.out.kept k)
    have HV_1 := Lib.hid (HV_0.out.kept k)
    have HB0_1 := Lib.hid (HB0_0.out.kept k)
    have HB1_1 := Lib.hid (HB1_0.out.kept k)
    clear k HK_0 HA_0 HL_0 HV_0 HB0_0 HB1_0
    obtain ⟨b00, b01, b02, b03, b04⟩ := HB0_1.out.five
    have bz0 := HB0_1.out.1
    obtain ⟨b10, b11⟩ := HB1_1.out.two
    have bz1 := HB1_1.out.1
    go_wp2_with fail
    clear b00 b01 b02 b03 b04 bz0 b10 b11 bz1
    refine (few_any kA kc k lA lc l vA vc v W1).mono ?_
    rintro e W2 ⟨rfl, k⟩
    have HK_2 := Lib.hid (HK_1.out.trans k)
    have HA_2 := Lib.hid (HA_1.out.kept k)
    have HL_2 := Lib.hid (HL_1.out.kept k)
    have HV_2 := Lib.hid (HV_1.out.kept k)
    have HB0_2 := Lib.hid (HB0_1.out.kept k)
    have HB1_2 := Lib.hid (HB1_1.out.kept k)
    clear k HK_1 HA_1 HL_1 HV_1 HB0_1 HB1_1
    rw [HF.out]
    obtain ⟨b00, b01, b02, b03, b04⟩ := HB0_2.out.five
    have bz0 := HB0_2.out.1
    obtain ⟨b10, b11⟩ := HB1_2.out.two
    have bz1 := HB1_2.out.1
    go_wp2_with fail
    clear b00 b01 b02 b03 b04 bz0 b10 b11 bz1
    have HO1 := Lib.hid (fun w' (kk : Kept W2 w') => on_any kA kc k lA lc l vA vc v x w' (by omega) (by omega) lhw vhw ⟨hx1, hx2⟩ (HA_2.out.kept kk) (HL_2.out.kept kk) (HV_2.out.kept kk))
    have HO2 := Lib.hid (fun w' (kk : Kept W2 w') => refOn_any kA kc k lA lc l vA vc v x w' (by omega) (by omega) (by omega) lhw (HA_2.out.kept kk) (HL_2.out.kept kk) (HV_2.out.kept kk))
    have HO3 := Lib.hid (fun w' (kk : Kept W2 w') => all_any kA kc k lA lc l vA vc v w' (by omega) (by omega) lhw vhw (HA_2.out.kept kk) (HL_2.out.kept kk) (HV_2.out.kept kk))
    have HO4 := Lib.hid (fun w' (kk : Kept W2 w') => refAll_any kA kc k lA lc l vA vc v w' (by omega) (by omega) (by omega) lhw (HA_2.out.kept kk) (HL_2.out.kept kk) (HV_2.out.kept kk))
    generalize onC k l v x = p at *
    generalize onC k l v zid = q at *
    obtain ⟨b00, b01, b02, b03, b04⟩ := HB0_2.out.five
    have bz0 := HB0_2.out.1
    obtain ⟨b10, b11⟩ := HB1_2.out.two
    have bz1 := HB1_2.out.1
    go_region_held3 (fun w' => (w'.cell? ⟨z0, 0, none⟩ = some (.slice kA k.ws.length kc) ∧ w'.cell? ⟨z0, 1, none⟩ = some (.int .u64 k.seed) ∧ w'.cell? ⟨z0, 2, none⟩ = some (.int .i64 k.ep) ∧ w'.cell? ⟨z0, 3, none⟩ = some (.int .i64 k.nu) ∧ w'.cell? ⟨z0, 4, none⟩ = some (.int .i64 k.de)) ∧ (w'.cell? ⟨z1, 0, none⟩ = some (.int .u64 x.1) ∧ w'.cell? ⟨z1, 1, none⟩ = some (.int .u64 x.2)) ∧ Kept W2 w')
      (first | exact ⟨⟨b00, b01, b02, b03, b04⟩, ⟨b10, b11⟩, Kept.refl _⟩ | exact ⟨⟨b00, b01, b02, b03, b04⟩, ⟨b10, b11⟩, (Kept.refl _).drew⟩ | assumption | exact keepCI bz0 bz1 (by assumption) (by assumption))
      (first
        | (go_at_call 11; ((first | (with_reducible refine (HO1.out _ (And.right (And.right (by assumption)))).mono ?_)); rintro e w' ⟨rfl, kk⟩))
        | (go_at_call 12; ((first | (with_reducible refine (HO2.out _ (And.right (And.right (by assumption)))).mono ?_)); rintro e w' ⟨rfl, kk⟩))
        | (go_at_call 13; ((first | (with_reducible refine (HO3.out _ (And.right (And.right (by assumption)))).mono ?_)); rintro e w' ⟨rfl, kk⟩))
        | (go_at_call 14; ((first | (with_reducible refine (HO4.out _ (And.right (And.right (by assumption)))).mono ?_)); rintro e w' ⟨rfl, kk⟩)))
    all_goals
      rename_i hh
      have k := hh.2.2
      have HKE := Lib.hid (HK_2.out.trans k)
      clear hh k
      go_wp2_with fail
      go_ret
      exact ⟨by first | rfl | (simp; done), HKE.out⟩

/-! ### The row's step -/
set_option maxRecDepth 100000 in
theorem lifted (os : Os) (started : os.Started) (H : Type) (enc : TypeId × Value → H) :
    ReturnsInHanded {} Try.checked os 3 .any (Rows.weighTellsSpec.pre6 enc Try.prog Try.f3 Rows.weighTellsRow.domain false) (Rows.weighTellsSpec.post enc Try.prog Try.f3 false true false false) := by
  refine returnsInHanded_of_change (C := Try.checked) own started (by kernel_rfl) Try.func3
    (ChangeSpec.witness6 (enc := enc) (C := Try.checked) false ⟨#[], #[.agg #[.slice none 0 0, .int .u64 0, .int .i64 0, .int .i64 0, .int .i64 0], .slice none 0 0, .slice none 0 0, .agg #[.int .u64 0, .int .u64 0]], []⟩ 8 (by kernel_rfl) (by kernel_rfl) (by kernel_rfl) (by kernel_rfl)) ?_
  intro W base args ds gs before hval0 hW hcnd _
  have hval : ∀ (j : Nat) t v, Try.f3.params[j]? = some t → args[j]? = some v → Value.okWide Try.prog W .any base t v := hval0
  have hW' := hW
  obtain ⟨p, q, hA0, hV, rfl, hfz, hnd⟩ := hW
  have hA : DataW.TrodAll enc Try.prog W 0 (fun _ => true) true Try.f3.params.toList args.toList ds p := hA0
  rw [Try.params3] at hA hval
  obtain ⟨v0, vs0, d0, ds0, p0, q0, hargs, rfl, rfl, h0, r0⟩ := trodAll_cons hA
  obtain ⟨v1, vs1, d1, ds1, p1, q1, rfl, rfl, rfl, h1, r1⟩ := trodAll_cons r0
  obtain ⟨v2, vs2, d2, ds2, p2, q2, rfl, rfl, rfl, h2, r2⟩ := trodAll_cons r1
  obtain ⟨v3, vs3, d3, ds3, p3, q3, rfl, rfl, rfl, h3, r3⟩ := trodAll_cons r2
  obtain ⟨rfl, rfl, rfl⟩ := trodAll_nil r3
  obtain rfl : args = #[v0, v1, v2, v3] := by cases args; simp_all
  obtain ⟨rfl, rfl⟩ := trodVars_none hV
  obtain ⟨kA, kc, k, rfl, khm, khs, khl⟩ := open_conf (hval 0 _ v0 rfl rfl) h0
  obtain ⟨lA, lc, l, rfl, lhm, lhc, lhw, lhl⟩ := open_blocks (hval 1 _ v1 rfl rfl) h1
  obtain ⟨vA, vc, v, rfl, vhm, vhc, vhw, vhl⟩ := open_votes (hval 2 _ v2 rfl rfl) h2
  obtain ⟨x, rfl, hx1, hx2⟩ := open_id (hval 3 _ v3 rfl rfl) h3
  clear hA0 hval0
  refine (walk W kA kc k khm khs khl lA lc l lhm lhc lhw lhl vA vc v vhm vhc vhw vhl x hx1 hx2).mono fun e W' ⟨he, hb⟩ => ?_
  subst he
  exact ⟨_, rfl, law_post rfl (by kernel_rfl) rfl hW' rfl hb⟩

theorem over : Rows.weighTellsRow.holds Try.pinned (OpenSpec.ofChange Rows.weighTellsSpec) :=
  OpenClaim.holds_of_wide 3 Try.f3 rfl rfl rfl rfl rfl rfl rfl ⟨rfl, rfl, rfl, rfl, rfl⟩ rfl rfl rfl rfl rfl (by kernel_rfl) Try.func3 (by kernel_rfl)
    (of_decide_eq_true (by kernel_rfl)) (by unfold Func.isWrapper; first | (rw [if_pos (by decide +kernel)]; kernel_rfl) | (rw [if_neg (by decide +kernel)]; exact ⟨rfl, rfl⟩))
    (fun os started H enc _ => lifted os started H enc)

/-- The statement. -/
theorem proved : Rows.WeighTellsSaid :=
  over
#print axioms proved

end Go.Proofs.Ytajdhcanajbgoaa.weighTells
