/-
  For all blocks b and votes v marigoldlaw03.WireLens returns true and leaves its arguments as they were: no further condition.
-/
import Derived.Test.YtfbjiepnhfgmfaaWireAwake
namespace Go.Proofs.Ytfbjiepnhfgmfaa.wireLens
open Go.ChangeShapes Go.WideShapes Go.ChangeAt Go.RowKit
set_option linter.unusedVariables false

/-! ### The walk: the call returns true, and of what was there nothing has changed. -/
set_option maxRecDepth 100000 in
set_option maxHeartbeats 4000000 in
theorem walk (w : World) (bs bf : Int) (bp : Nat × Nat) (bt : Nat) (hb1 : bp.1 < 18446744073709551616) (hb2 : bp.2 < 18446744073709551616) (hb3 : bt < 18446744073709551616) (vf vs : Int) (vp : Nat × Nat) (hv1 : vp.1 < 18446744073709551616) (hv2 : vp.2 < 18446744073709551616) :
    Calls Try.prog 8 #[.agg #[.int .i64 bs, .int .i64 bf, .int .u64 bp.1, .int .u64 bp.2, .int .u64 bt], .agg #[.int .i64 vf, .int .i64 vs, .int .u64 vp.1, .int .u64 vp.2]] w fun e w' => e = .returned (.bool true) ∧ Kept w w' := by
  cases hb : made bs bf
  · cases hv : made vs vf
    · rcases made_no hb with b1 | ⟨b1, b2⟩ | ⟨b1, b2, b3⟩ | ⟨b1, b2, b3, b4⟩
      all_goals
        rcases made_no hv with v1 | ⟨v1, v2⟩ | ⟨v1, v2, v3⟩ | ⟨v1, v2, v3, v4⟩
        all_goals
          have HB := Lib.hid hb; have HV := Lib.hid hv
          clear hb hv
          go_enter Try.func8, Try.ntmps8
          go_wp2_with fail
          have B0 := Lib.hid (HasCells.new w #[.int .i64 bs, .int .i64 bf, .int .u64 bp.1, .int .u64 bp.2, .int .u64 bt] 26 (w.heap.size) (by simp))
          have V0 := Lib.hid (HasCells.new (w.alloc (.cells #[.int .i64 bs, .int .i64 bf, .int .u64 bp.1, .int .u64 bp.2, .int .u64 bt] 26)) #[.int .i64 vf, .int .i64 vs, .int .u64 vp.1, .int .u64 vp.2] 28 (w.heap.size + 1) (by simp))
          have B0 := Lib.hid (B0.out.alloc (.cells #[.int .i64 vf, .int .i64 vs, .int .u64 vp.1, .int .u64 vp.2] 28))
          have K0 := Lib.hid (show Kept w ((w.alloc (.cells #[.int .i64 bs, .int .i64 bf, .int .u64 bp.1, .int .u64 bp.2, .int .u64 bt] 26)).alloc (.cells #[.int .i64 vf, .int .i64 vs, .int .u64 vp.1, .int .u64 vp.2] 28)) from ((Kept.refl w).alloc _).alloc _)
          generalize ((w.alloc (.cells #[.int .i64 bs, .int .i64 bf, .int .u64 bp.1, .int .u64 bp.2, .int .u64 bt] 26)).alloc (.cells #[.int .i64 vf, .int .i64 vs, .int .u64 vp.1, .int .u64 vp.2] 28)) = W0 at *
          generalize w.heap.size = z at *
          have HZ := Lib.hid True.intro
          refine (awake_any _).mono ?_
          rintro e W1 ⟨rfl, k1⟩
          have K1 := Lib.hid (K0.out.trans k1)
          have B1 := Lib.hid (B0.out.kept k1)
          clear B0 
          obtain ⟨b1a, b1b, b1c, b1d, b1e⟩ := B1.out.five
          have V1 := Lib.hid (V0.out.kept k1)
          clear V0 
          obtain ⟨v1a, v1b, v1c, v1d⟩ := V1.out.four
          clear k1
          go_wp2_with fail
          refine (block_no bs bf bp bt _ HB.out).mono ?_
          rintro e W2 ⟨bA, bc, rfl, br, k2⟩
          have K2 := Lib.hid (K1.out.trans k2)
          have B2 := Lib.hid (B1.out.kept k2)
          clear B1 b1a b1b b1c b1d b1e
          obtain ⟨b2a, b2b, b2c, b2d, b2e⟩ := B2.out.five
          have V2 := Lib.hid (V1.out.kept k2)
          clear V1 v1a v1b v1c v1d
          obtain ⟨v2a, v2b, v2c, v2d⟩ := V2.out.four
          clear k2
          clear br
          go_wp2_with fail
          refine (vote_no vs vf vp _ HV.out).mono ?_
          rintro e W3 ⟨vA, vc, rfl, vr, k3⟩
          have K3 := Lib.hid (K2.out.trans k3)
          have B3 := Lib.hid (B2.out.kept k3)
          clear B2 b2a b2b b2c b2d b2e
          obtain ⟨b3a, b3b, b3c, b3d, b3e⟩ := B3.out.five
          have V3 := Lib.hid (V2.out.kept k3)
          clear V2 v2a v2b v2c v2d
          obtain ⟨v3a, v3b, v3c, v3d⟩ := V3.out.four
          clear k3
          clear vr
          go_wp2_with fail
          go_ret
          exact ⟨rfl, K3.out⟩
    · rcases made_no hb with b1 | ⟨b1, b2⟩ | ⟨b1, b2, b3⟩ | ⟨b1, b2, b3, b4⟩
      all_goals
        obtain ⟨v1, v2, v3, v4⟩ := made_yes hv
        have HB := Lib.hid hb; have HV := Lib.hid hv
        clear hb hv
        go_enter Try.func8, Try.ntmps8
        go_wp2_with fail
        have B0 := Lib.hid (HasCells.new w #[.int .i64 bs, .int .i64 bf, .int .u64 bp.1, .int .u64 bp.2, .int .u64 bt] 26 (w.heap.size) (by simp))
        have V0 := Lib.hid (HasCells.new (w.alloc (.cells #[.int .i64 bs, .int .i64 bf, .int .u64 bp.1, .int .u64 bp.2, .int .u64 bt] 26)) #[.int .i64 vf, .int .i64 vs, .int .u64 vp.1, .int .u64 vp.2] 28 (w.heap.size + 1) (by simp))
        have B0 := Lib.hid (B0.out.alloc (.cells #[.int .i64 vf, .int .i64 vs, .int .u64 vp.1, .int .u64 vp.2] 28))
        have K0 := Lib.hid (show Kept w ((w.alloc (.cells #[.int .i64 bs, .int .i64 bf, .int .u64 bp.1, .int .u64 bp.2, .int .u64 bt] 26)).alloc (.cells #[.int .i64 vf, .int .i64 vs, .int .u64 vp.1, .int .u64 vp.2] 28)) from ((Kept.refl w).alloc _).alloc _)
        generalize ((w.alloc (.cells #[.int .i64 bs, .int .i64 bf, .int .u64 bp.1, .int .u64 bp.2, .int .u64 bt] 26)).alloc (.cells #[.int .i64 vf, .int .i64 vs, .int .u64 vp.1, .int .u64 vp.2] 28)) = W0 at *
        generalize w.heap.size = z at *
        have HZ := Lib.hid True.intro
        refine (awake_any _).mono ?_
        rintro e W1 ⟨rfl, k1⟩
        have K1 := Lib.hid (K0.out.trans k1)
        have B1 := Lib.hid (B0.out.kept k1)
        clear B0 
        obtain ⟨b1a, b1b, b1c, b1d, b1e⟩ := B1.out.five
        have V1 := Lib.hid (V0.out.kept k1)
        clear V0 
        obtain ⟨v1a, v1b, v1c, v1d⟩ := V1.out.four
        clear k1
        go_wp2_with fail
        refine (block_no bs bf bp bt _ HB.out).mono ?_
        rintro e W2 ⟨bA, bc, rfl, br, k2⟩
        have K2 := Lib.hid (K1.out.trans k2)
        have B2 := Lib.hid (B1.out.kept k2)
        clear B1 b1a b1b b1c b1d b1e
        obtain ⟨b2a, b2b, b2c, b2d, b2e⟩ := B2.out.five
        have V2 := Lib.hid (V1.out.kept k2)
        clear V1 v1a v1b v1c v1d
        obtain ⟨v2a, v2b, v2c, v2d⟩ := V2.out.four
        clear k2
        clear br
        go_wp2_with fail
        refine (vote_yes vs vf vp _ HV.out).mono ?_
        rintro e W3 ⟨vg, vc, rfl, vr, k3⟩
        have K3 := Lib.hid (K2.out.trans k3)
        have B3 := Lib.hid (B2.out.kept k3)
        clear B2 b2a b2b b2c b2d b2e
        obtain ⟨b3a, b3b, b3c, b3d, b3e⟩ := B3.out.five
        have V3 := Lib.hid (V2.out.kept k3)
        clear V2 v2a v2b v2c v2d
        obtain ⟨v3a, v3b, v3c, v3d⟩ := V3.out.four
        clear k3
        have Q3 := Lib.hid vr
        clear vr
        have q0 := Q3.out.2.2 0 2 rfl
        go_wp2_with fail
        go_ret
        exact ⟨rfl, K3.out⟩
  · cases hv : made vs vf
    · obtain ⟨b1, b2, b3, b4⟩ := made_yes hb
      rcases made_no hv with v1 | ⟨v1, v2⟩ | ⟨v1, v2, v3⟩ | ⟨v1, v2, v3, v4⟩
      all_goals
        have HB := Lib.hid hb; have HV := Lib.hid hv
        clear hb hv
        go_enter Try.func8, Try.ntmps8
        go_wp2_with fail
        have B0 := Lib.hid (HasCells.new w #[.int .i64 bs, .int .i64 bf, .int .u64 bp.1, .int .u64 bp.2, .int .u64 bt] 26 (w.heap.size) (by simp))
        have V0 := Lib.hid (HasCells.new (w.alloc (.cells #[.int .i64 bs, .int .i64 bf, .int .u64 bp.1, .int .u64 bp.2, .int .u64 bt] 26)) #[.int .i64 vf, .int .i64 vs, .int .u64 vp.1, .int .u64 vp.2] 28 (w.heap.size + 1) (by simp))
        have B0 := Lib.hid (B0.out.alloc (.cells #[.int .i64 vf, .int .i64 vs, .int .u64 vp.1, .int .u64 vp.2] 28))
        have K0 := Lib.hid (show Kept w ((w.alloc (.cells #[.int .i64 bs, .int .i64 bf, .int .u64 bp.1, .int .u64 bp.2, .int .u64 bt] 26)).alloc (.cells #[.int .i64 vf, .int .i64 vs, .int .u64 vp.1, .int .u64 vp.2] 28)) from ((Kept.refl w).alloc _).alloc _)
        generalize ((w.alloc (.cells #[.int .i64 bs, .int .i64 bf, .int .u64 bp.1, .int .u64 bp.2, .int .u64 bt] 26)).alloc (.cells #[.int .i64 vf, .int .i64 vs, .int .u64 vp.1, .int .u64 vp.2] 28)) = W0 at *
        generalize w.heap.size = z at *
        have HZ := Lib.hid True.intro
        refine (awake_any _).mono ?_
        rintro e W1 ⟨rfl, k1⟩
        have K1 := Lib.hid (K0.out.trans k1)
        have B1 := Lib.hid (B0.out.kept k1)
        clear B0 
        obtain ⟨b1a, b1b, b1c, b1d, b1e⟩ := B1.out.five
        have V1 := Lib.hid (V0.out.kept k1)
        clear V0 
        obtain ⟨v1a, v1b, v1c, v1d⟩ := V1.out.four
        clear k1
        go_wp2_with fail
        refine (block_yes bs bf bp bt _ HB.out).mono ?_
        rintro e W2 ⟨bg, bc, rfl, br, k2⟩
        have K2 := Lib.hid (K1.out.trans k2)
        have B2 := Lib.hid (B1.out.kept k2)
        clear B1 b1a b1b b1c b1d b1e
        obtain ⟨b2a, b2b, b2c, b2d, b2e⟩ := B2.out.five
        have V2 := Lib.hid (V1.out.kept k2)
        clear V1 v1a v1b v1c v1d
        obtain ⟨v2a, v2b, v2c, v2d⟩ := V2.out.four
        clear k2
        have P2 := Lib.hid br
        clear br
        go_wp2_with fail
        refine (vote_no vs vf vp _ HV.out).mono ?_
        rintro e W3 ⟨vA, vc, rfl, vr, k3⟩
        have K3 := Lib.hid (K2.out.trans k3)
        have B3 := Lib.hid (B2.out.kept k3)
        clear B2 b2a b2b b2c b2d b2e
        obtain ⟨b3a, b3b, b3c, b3d, b3e⟩ := B3.out.five
        have V3 := Lib.hid (V2.out.kept k3)
        clear V2 v2a v2b v2c v2d
        obtain ⟨v3a, v3b, v3c, v3d⟩ := V3.out.four
        have P3 := Lib.hid (P2.out.kept k3)
        clear P2
        clear k3
        clear vr
        have p0 := P3.out.2.2 0 1 rfl
        go_wp2_with fail
        go_ret
        exact ⟨rfl, K3.out⟩
    · obtain ⟨b1, b2, b3, b4⟩ := made_yes hb
      obtain ⟨v1, v2, v3, v4⟩ := made_yes hv
      have HB := Lib.hid hb; have HV := Lib.hid hv
      clear hb hv
      go_enter Try.func8, Try.ntmps8
      go_wp2_with fail
      have B0 := Lib.hid (HasCells.new w #[.int .i64 bs, .int .i64 bf, .int .u64 bp.1, .int .u64 bp.2, .int .u64 bt] 26 (w.heap.size) (by simp))
      have V0 := Lib.hid (HasCells.new (w.alloc (.cells #[.int .i64 bs, .int .i64 bf, .int .u64 bp.1, .int .u64 bp.2, .int .u64 bt] 26)) #[.int .i64 vf, .int .i64 vs, .int .u64 vp.1, .int .u64 vp.2] 28 (w.heap.size + 1) (by simp))
      have B0 := Lib.hid (B0.out.alloc (.cells #[.int .i64 vf, .int .i64 vs, .int .u64 vp.1, .int .u64 vp.2] 28))
      have K0 := Lib.hid (show Kept w ((w.alloc (.cells #[.int .i64 bs, .int .i64 bf, .int .u64 bp.1, .int .u64 bp.2, .int .u64 bt] 26)).alloc (.cells #[.int .i64 vf, .int .i64 vs, .int .u64 vp.1, .int .u64 vp.2] 28)) from ((Kept.refl w).alloc _).alloc _)
      generalize ((w.alloc (.cells #[.int .i64 bs, .int .i64 bf, .int .u64 bp.1, .int .u64 bp.2, .int .u64 bt] 26)).alloc (.cells #[.int .i64 vf, .int .i64 vs, .int .u64 vp.1, .int .u64 vp.2] 28)) = W0 at *
      generalize w.heap.size = z at *
      have HZ := Lib.hid True.intro
      refine (awake_any _).mono ?_
      rintro e W1 ⟨rfl, k1⟩
      have K1 := Lib.hid (K0.out.trans k1)
      have B1 := Lib.hid (B0.out.kept k1)
      clear B0 
      obtain ⟨b1a, b1b, b1c, b1d, b1e⟩ := B1.out.five
      have V1 := Lib.hid (V0.out.kept k1)
      clear V0 
      obtain ⟨v1a, v1b, v1c, v1d⟩ := V1.out.four
      clear k1
      go_wp2_with fail
      refine (block_yes bs bf bp bt _ HB.out).mono ?_
      rintro e W2 ⟨bg, bc, rfl, br, k2⟩
      have K2 := Lib.hid (K1.out.trans k2)
      have B2 := Lib.hid (B1.out.kept k2)
      clear B1 b1a b1b b1c b1d b1e
      obtain ⟨b2a, b2b, b2c, b2d, b2e⟩ := B2.out.five
      have V2 := Lib.hid (V1.out.kept k2)
      clear V1 v1a v1b v1c v1d
      obtain ⟨v2a, v2b, v2c, v2d⟩ := V2.out.four
      clear k2
      have P2 := Lib.hid br
      clear br
      go_wp2_with fail
      refine (vote_yes vs vf vp _ HV.out).mono ?_
      rintro e W3 ⟨vg, vc, rfl, vr, k3⟩
      have K3 := Lib.hid (K2.out.trans k3)
      have B3 := Lib.hid (B2.out.kept k3)
      clear B2 b2a b2b b2c b2d b2e
      obtain ⟨b3a, b3b, b3c, b3d, b3e⟩ := B3.out.five
      have V3 := Lib.hid (V2.out.kept k3)
      clear V2 v2a v2b v2c v2d
      obtain ⟨v3a, v3b, v3c, v3d⟩ := V3.out.four
      have P3 := Lib.hid (P2.out.kept k3)
      clear P2
      clear k3
      have Q3 := Lib.hid vr
      clear vr
      have p0 := P3.out.2.2 0 1 rfl
      have q0 := Q3.out.2.2 0 2 rfl
      go_wp2_with fail
      go_ret
      exact ⟨rfl, K3.out⟩

/-! ### The row's step -/
set_option maxRecDepth 100000 in
theorem lifted (os : Os) (started : os.Started) (H : Type) (enc : TypeId × Value → H) :
    ReturnsInHanded {} Try.checked os 8 .any (Rows.wireLensSpec.pre6 enc Try.prog Try.f8 Rows.wireLensRow.domain false) (Rows.wireLensSpec.post enc Try.prog Try.f8 false true false false) := by
  refine returnsInHanded_of_change (C := Try.checked) own started (by kernel_rfl) Try.func8
    (ChangeSpec.witness6 (enc := enc) (C := Try.checked) false ⟨#[], #[.agg #[.int .i64 0, .int .i64 0, .int .u64 0, .int .u64 0, .int .u64 0], .agg #[.int .i64 0, .int .i64 0, .int .u64 0, .int .u64 0]], []⟩ 8 (by kernel_rfl) (by kernel_rfl) (by kernel_rfl) (by kernel_rfl)) ?_
  intro W base args ds gs before hval0 hW hcnd _
  have hval : ∀ (j : Nat) t v, Try.f8.params[j]? = some t → args[j]? = some v → Value.okWide Try.prog W .any base t v := hval0
  have hW' := hW
  obtain ⟨p, q, hA0, hV, rfl, hfz, hnd⟩ := hW
  have hA : DataW.TrodAll enc Try.prog W 0 (fun _ => true) true Try.f8.params.toList args.toList ds p := hA0
  rw [Try.params8] at hA hval
  obtain ⟨v0, vs0, d0, ds0, p0, q0, hargs, rfl, rfl, h0, r0⟩ := trodAll_cons hA
  obtain ⟨v1, vs1, d1, ds1, p1, q1, rfl, rfl, rfl, h1, r1⟩ := trodAll_cons r0
  obtain ⟨rfl, rfl, rfl⟩ := trodAll_nil r1
  obtain rfl : args = #[v0, v1] := by cases args; simp_all
  obtain ⟨rfl, rfl⟩ := trodVars_none hV
  obtain ⟨bs, bf, bp, bt, rfl, hb1, hb2, hb3⟩ := open_block (hval 0 _ v0 rfl rfl) h0
  obtain ⟨vf, vs, vp, rfl, hv1, hv2⟩ := open_vote (hval 1 _ v1 rfl rfl) h1
  clear hA0 hval0
  refine (walk W bs bf bp bt hb1 hb2 hb3 vf vs vp hv1 hv2).mono fun e W' ⟨he, hb⟩ => ?_
  subst he
  exact ⟨_, rfl, law_post rfl (by kernel_rfl) rfl hW' rfl hb⟩

theorem over : Rows.wireLensRow.holds Try.pinned (OpenSpec.ofChange Rows.wireLensSpec) :=
  OpenClaim.holds_of_wide 8 Try.f8 rfl rfl rfl rfl rfl rfl rfl ⟨rfl, rfl, rfl, rfl, rfl⟩ rfl rfl rfl rfl rfl (by kernel_rfl) Try.func8 (by kernel_rfl)
    (of_decide_eq_true (by kernel_rfl)) (by unfold Func.isWrapper; first | (rw [if_pos (by decide +kernel)]; kernel_rfl) | (rw [if_neg (by decide +kernel)]; exact ⟨rfl, rfl⟩))
    (fun os started H enc _ => lifted os started H enc)

/-- The statement. -/
theorem proved : Rows.WireLensSaid :=
  over
#print axioms proved
end Go.Proofs.Ytfbjiepnhfgmfaa.wireLens
