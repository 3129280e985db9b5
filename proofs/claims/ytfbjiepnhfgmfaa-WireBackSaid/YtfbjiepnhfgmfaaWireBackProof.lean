/-
  For all blocks b, votes v and lists of bytes x marigoldlaw03.WireBack returns true and leaves its arguments as they were: no further condition.
-/
import Derived.Test.YtfbjiepnhfgmfaaWireAwake
namespace Go.Proofs.Ytfbjiepnhfgmfaa.wireBack
open Go.ChangeShapes Go.WideShapes Go.ChangeAt Go.RowKit
set_option linter.unusedVariables false

/-! ### The walk: the call returns true, and of what was there nothing has changed. -/
attribute [local go_sem high] eqBlock eqVote in
set_option maxRecDepth 100000 in
set_option maxHeartbeats 8000000 in
theorem walk (w : World) (bs bf : Int) (bp : Nat × Nat) (bt : Nat) (hb1 : bp.1 < 18446744073709551616) (hb2 : bp.2 < 18446744073709551616) (hb3 : bt < 18446744073709551616) (vf vs : Int) (vp : Nat × Nat) (hv1 : vp.1 < 18446744073709551616) (hv2 : vp.2 < 18446744073709551616) (xA : Option Addr) (xn xc : Nat) (x : List Nat) (xhm : xn ≤ maxLen) (xhl : Lies w x xA xn xc) :
    Calls Try.prog 4 #[.agg #[.int .i64 bs, .int .i64 bf, .int .u64 bp.1, .int .u64 bp.2, .int .u64 bt], .agg #[.int .i64 vf, .int .i64 vs, .int .u64 vp.1, .int .u64 vp.2], .slice xA xn xc] w fun e w' => e = .returned (.bool true) ∧ Kept w w' := by
  unfold maxLen at xhm
  by_cases hn : xn ≤ 100
  · cases hb : made bs bf
    · cases hv : made vs vf
      · rcases getN_cases x with hg | ⟨hx, hm, hg⟩ | ⟨hx, hm, hg⟩
        · have HB := Lib.hid hb
          have HV := Lib.hid hv
          have XL := Lib.hid xhl
          have HG := Lib.hid hg
          clear hg
          clear hb hv xhl xhm
          go_enter Try.func4, Try.ntmps4
          go_wp2_with fail
          have B0 := Lib.hid (HasCells.new w #[.int .i64 bs, .int .i64 bf, .int .u64 bp.1, .int .u64 bp.2, .int .u64 bt] 26 (w.heap.size) (by simp))
          have V0 := Lib.hid (HasCells.new (w.alloc (.cells #[.int .i64 bs, .int .i64 bf, .int .u64 bp.1, .int .u64 bp.2, .int .u64 bt] 26)) #[.int .i64 vf, .int .i64 vs, .int .u64 vp.1, .int .u64 vp.2] 28 (w.heap.size + 1) (by simp))
          have B0 := Lib.hid (B0.out.alloc (.cells #[.int .i64 vf, .int .i64 vs, .int .u64 vp.1, .int .u64 vp.2] 28))
          have K0 := Lib.hid (show Kept w ((w.alloc (.cells #[.int .i64 bs, .int .i64 bf, .int .u64 bp.1, .int .u64 bp.2, .int .u64 bt] 26)).alloc (.cells #[.int .i64 vf, .int .i64 vs, .int .u64 vp.1, .int .u64 vp.2] 28)) from ((Kept.refl w).alloc _).alloc _)
          have X0 := Lib.hid (XL.out.kept K0.out)
          clear XL
          generalize ((w.alloc (.cells #[.int .i64 bs, .int .i64 bf, .int .u64 bp.1, .int .u64 bp.2, .int .u64 bt] 26)).alloc (.cells #[.int .i64 vf, .int .i64 vs, .int .u64 vp.1, .int .u64 vp.2] 28)) = W0 at *
          generalize w.heap.size = z at *
          have HZ := Lib.hid True.intro
          refine (awake_any _).mono ?_
          rintro e W1 ⟨rfl, k1⟩
          have K1 := Lib.hid (K0.out.trans k1)
          have B1 := Lib.hid (B0.out.kept k1)
          clear B0 
          obtain ⟨b1a, b1b, b1c, b1d, b1e⟩ := B1.out.five
          have b1l := B1.out.1
          have V1 := Lib.hid (V0.out.kept k1)
          clear V0 
          obtain ⟨v1a, v1b, v1c, v1d⟩ := V1.out.four
          have v1l := V1.out.1
          have X1 := Lib.hid (X0.out.kept k1)
          clear X0
          clear k1
          go_wp2_with fail
          refine (block_no bs bf bp bt _ HB.out).mono ?_
          rintro e W2 ⟨bA, bc, rfl, br, k2⟩
          have K2 := Lib.hid (K1.out.trans k2)
          have B2 := Lib.hid (B1.out.kept k2)
          clear B1 b1a b1b b1c b1d b1e b1l
          obtain ⟨b2a, b2b, b2c, b2d, b2e⟩ := B2.out.five
          have b2l := B2.out.1
          have V2 := Lib.hid (V1.out.kept k2)
          clear V1 v1a v1b v1c v1d v1l
          obtain ⟨v2a, v2b, v2c, v2d⟩ := V2.out.four
          have v2l := V2.out.1
          have X2 := Lib.hid (X1.out.kept k2)
          clear X1
          clear k2
          clear br
          go_wp2_with fail
          refine (vote_no vs vf vp _ HV.out).mono ?_
          rintro e W3 ⟨vA, vc, rfl, vr, k3⟩
          have K3 := Lib.hid (K2.out.trans k3)
          have B3 := Lib.hid (B2.out.kept k3)
          clear B2 b2a b2b b2c b2d b2e b2l
          obtain ⟨b3a, b3b, b3c, b3d, b3e⟩ := B3.out.five
          have b3l := B3.out.1
          have V3 := Lib.hid (V2.out.kept k3)
          clear V2 v2a v2b v2c v2d v2l
          obtain ⟨v3a, v3b, v3c, v3d⟩ := V3.out.four
          have v3l := V3.out.1
          have X3 := Lib.hid (X2.out.kept k3)
          clear X2
          clear k3
          clear vr
          go_wp2_with fail
          refine (get_any _ _ _ _ _ (by omega) X3.out).mono ?_
          rintro e W4 ⟨rfl, k4⟩
          rw [HG.out]
          unfold getV Got.none
          have K4 := Lib.hid (K3.out.trans k4)
          have B4 := Lib.hid (B3.out.kept k4)
          clear B3 b3a b3b b3c b3d b3e b3l
          obtain ⟨b4a, b4b, b4c, b4d, b4e⟩ := B4.out.five
          have b4l := B4.out.1
          have V4 := Lib.hid (V3.out.kept k4)
          clear V3 v3a v3b v3c v3d v3l
          obtain ⟨v4a, v4b, v4c, v4d⟩ := V4.out.four
          have v4l := V4.out.1
          have X4 := Lib.hid (X3.out.kept k4)
          clear X3
          clear k4
          go_wp2_with fail
          go_ret
          exact ⟨rfl, (K4.out.alloc _).alloc _⟩
        · have HB := Lib.hid hb
          have HV := Lib.hid hv
          have XL := Lib.hid xhl
          have HS := Lib.hid (voteL_seg xhl.2.2.1 hx)
          obtain ⟨m1, m2, m3, m4⟩ := made_yes hm
          obtain ⟨hl, _⟩ := of_decide_eq_true hx
          have hxn := xhl.1
          obtain rfl : xn = 22 := by omega
          clear hxn hl
          generalize seg x 1 4 = s at *
          generalize seg x 5 1 = f at *
          generalize seg x 6 8 = p at *
          generalize seg x 14 8 = q at *
          have HG := Lib.hid hg
          clear hg hm hx
          clear hb hv xhl xhm
          go_enter Try.func4, Try.ntmps4
          go_wp2_with fail
          have B0 := Lib.hid (HasCells.new w #[.int .i64 bs, .int .i64 bf, .int .u64 bp.1, .int .u64 bp.2, .int .u64 bt] 26 (w.heap.size) (by simp))
          have V0 := Lib.hid (HasCells.new (w.alloc (.cells #[.int .i64 bs, .int .i64 bf, .int .u64 bp.1, .int .u64 bp.2, .int .u64 bt] 26)) #[.int .i64 vf, .int .i64 vs, .int .u64 vp.1, .int .u64 vp.2] 28 (w.heap.size + 1) (by simp))
          have B0 := Lib.hid (B0.out.alloc (.cells #[.int .i64 vf, .int .i64 vs, .int .u64 vp.1, .int .u64 vp.2] 28))
          have K0 := Lib.hid (show Kept w ((w.alloc (.cells #[.int .i64 bs, .int .i64 bf, .int .u64 bp.1, .int .u64 bp.2, .int .u64 bt] 26)).alloc (.cells #[.int .i64 vf, .int .i64 vs, .int .u64 vp.1, .int .u64 vp.2] 28)) from ((Kept.refl w).alloc _).alloc _)
          have X0 := Lib.hid (XL.out.kept K0.out)
          clear XL
          generalize ((w.alloc (.cells #[.int .i64 bs, .int .i64 bf, .int .u64 bp.1, .int .u64 bp.2, .int .u64 bt] 26)).alloc (.cells #[.int .i64 vf, .int .i64 vs, .int .u64 vp.1, .int .u64 vp.2] 28)) = W0 at *
          generalize w.heap.size = z at *
          have HZ := Lib.hid True.intro
          refine (awake_any _).mono ?_
          rintro e W1 ⟨rfl, k1⟩
          have K1 := Lib.hid (K0.out.trans k1)
          have B1 := Lib.hid (B0.out.kept k1)
          clear B0 
          obtain ⟨b1a, b1b, b1c, b1d, b1e⟩ := B1.out.five
          have b1l := B1.out.1
          have V1 := Lib.hid (V0.out.kept k1)
          clear V0 
          obtain ⟨v1a, v1b, v1c, v1d⟩ := V1.out.four
          have v1l := V1.out.1
          have X1 := Lib.hid (X0.out.kept k1)
          clear X0
          clear k1
          go_wp2_with fail
          refine (block_no bs bf bp bt _ HB.out).mono ?_
          rintro e W2 ⟨bA, bc, rfl, br, k2⟩
          have K2 := Lib.hid (K1.out.trans k2)
          have B2 := Lib.hid (B1.out.kept k2)
          clear B1 b1a b1b b1c b1d b1e b1l
          obtain ⟨b2a, b2b, b2c, b2d, b2e⟩ := B2.out.five
          have b2l := B2.out.1
          have V2 := Lib.hid (V1.out.kept k2)
          clear V1 v1a v1b v1c v1d v1l
          obtain ⟨v2a, v2b, v2c, v2d⟩ := V2.out.four
          have v2l := V2.out.1
          have X2 := Lib.hid (X1.out.kept k2)
          clear X1
          clear k2
          clear br
          go_wp2_with fail
          refine (vote_no vs vf vp _ HV.out).mono ?_
          rintro e W3 ⟨vA, vc, rfl, vr, k3⟩
          have K3 := Lib.hid (K2.out.trans k3)
          have B3 := Lib.hid (B2.out.kept k3)
          clear B2 b2a b2b b2c b2d b2e b2l
          obtain ⟨b3a, b3b, b3c, b3d, b3e⟩ := B3.out.five
          have b3l := B3.out.1
          have V3 := Lib.hid (V2.out.kept k3)
          clear V2 v2a v2b v2c v2d v2l
          obtain ⟨v3a, v3b, v3c, v3d⟩ := V3.out.four
          have v3l := V3.out.1
          have X3 := Lib.hid (X2.out.kept k3)
          clear X2
          clear k3
          clear vr
          go_wp2_with fail
          refine (get_any _ _ _ _ _ (by omega) X3.out).mono ?_
          rintro e W4 ⟨rfl, k4⟩
          rw [HG.out]
          unfold getV Got.vote
          have K4 := Lib.hid (K3.out.trans k4)
          have B4 := Lib.hid (B3.out.kept k4)
          clear B3 b3a b3b b3c b3d b3e b3l
          obtain ⟨b4a, b4b, b4c, b4d, b4e⟩ := B4.out.five
          have b4l := B4.out.1
          have V4 := Lib.hid (V3.out.kept k4)
          clear V3 v3a v3b v3c v3d v3l
          obtain ⟨v4a, v4b, v4c, v4d⟩ := V4.out.four
          have v4l := V4.out.1
          have X4 := Lib.hid (X3.out.kept k4)
          clear X3
          clear k4
          go_wp2_with fail
          refine (block_zero _).mono ?_
          rintro e W5 ⟨yA, yc, rfl, yr, k5⟩
          clear yr
          have VZ := Lib.hid ((HasCells.new (W4.alloc (.cells #[.int .i64 0, .int .i64 0, .int .u64 0, .int .u64 0, .int .u64 0] 26)) #[.int .i64 (f : Nat), .int .i64 (s : Nat), .int .u64 (p : Nat), .int .u64 (q : Nat)] 28 (W4.heap.size + 1) (by simp)).kept k5)
          obtain ⟨z0, z1, z2, z3⟩ := VZ.out.four
          replace k5 := Kept.trans (((Kept.refl _).alloc _).alloc _) k5
          have K5 := Lib.hid (K4.out.trans k5)
          have B5 := Lib.hid (B4.out.kept k5)
          clear B4 b4a b4b b4c b4d b4e b4l
          obtain ⟨b5a, b5b, b5c, b5d, b5e⟩ := B5.out.five
          have b5l := B5.out.1
          have V5 := Lib.hid (V4.out.kept k5)
          clear V4 v4a v4b v4c v4d v4l
          obtain ⟨v5a, v5b, v5c, v5d⟩ := V5.out.four
          have v5l := V5.out.1
          have X5 := Lib.hid (X4.out.kept k5)
          clear X4
          clear k5
          go_wp2_with fail
          refine (vote_made s f (p, q) _ (by omega) (by omega) (by omega)).mono ?_
          rintro e W6 ⟨yg, yd, rfl, yr, k6⟩
          rw [HS.out] at yr
          have Y := Lib.hid yr
          clear yr z0 z1 z2 z3 VZ
          have K6 := Lib.hid (K5.out.trans k6)
          have B6 := Lib.hid (B5.out.kept k6)
          clear B5 b5a b5b b5c b5d b5e b5l
          obtain ⟨b6a, b6b, b6c, b6d, b6e⟩ := B6.out.five
          have b6l := B6.out.1
          have V6 := Lib.hid (V5.out.kept k6)
          clear V5 v5a v5b v5c v5d v5l
          obtain ⟨v6a, v6b, v6c, v6d⟩ := V6.out.four
          have v6l := V6.out.1
          have X6 := Lib.hid (X5.out.kept k6)
          clear X5
          clear k6
          have s1 := Y.out.str
          have s2 := run_str X6.out
          go_wp2_with fail
          go_ret
          exact ⟨rfl, K6.out⟩
        · have HB := Lib.hid hb
          have HV := Lib.hid hv
          have XL := Lib.hid xhl
          have HS := Lib.hid (blockL_seg xhl.2.2.1 hx)
          obtain ⟨m1, m2, m3, m4⟩ := made_yes hm
          obtain ⟨hl, _⟩ := of_decide_eq_true hx
          have hxn := xhl.1
          obtain rfl : xn = 30 := by omega
          clear hxn hl
          generalize seg x 1 4 = s at *
          generalize seg x 5 1 = f at *
          generalize seg x 6 8 = p at *
          generalize seg x 14 8 = q at *
          generalize seg x 22 8 = t at *
          have HG := Lib.hid hg
          clear hg hm hx
          clear hb hv xhl xhm
          go_enter Try.func4, Try.ntmps4
          go_wp2_with fail
          have B0 := Lib.hid (HasCells.new w #[.int .i64 bs, .int .i64 bf, .int .u64 bp.1, .int .u64 bp.2, .int .u64 bt] 26 (w.heap.size) (by simp))
          have V0 := Lib.hid (HasCells.new (w.alloc (.cells #[.int .i64 bs, .int .i64 bf, .int .u64 bp.1, .int .u64 bp.2, .int .u64 bt] 26)) #[.int .i64 vf, .int .i64 vs, .int .u64 vp.1, .int .u64 vp.2] 28 (w.heap.size + 1) (by simp))
          have B0 := Lib.hid (B0.out.alloc (.cells #[.int .i64 vf, .int .i64 vs, .int .u64 vp.1, .int .u64 vp.2] 28))
          have K0 := Lib.hid (show Kept w ((w.alloc (.cells #[.int .i64 bs, .int .i64 bf, .int .u64 bp.1, .int .u64 bp.2, .int .u64 bt] 26)).alloc (.cells #[.int .i64 vf, .int .i64 vs, .int .u64 vp.1, .int .u64 vp.2] 28)) from ((Kept.refl w).alloc _).alloc _)
          have X0 := Lib.hid (XL.out.kept K0.out)
          clear XL
          generalize ((w.alloc (.cells #[.int .i64 bs, .int .i64 bf, .int .u64 bp.1, .int .u64 bp.2, .int .u64 bt] 26)).alloc (.cells #[.int .i64 vf, .int .i64 vs, .int .u64 vp.1, .int .u64 vp.2] 28)) = W0 at *
          generalize w.heap.size = z at *
          have HZ := Lib.hid True.intro
          refine (awake_any _).mono ?_
          rintro e W1 ⟨rfl, k1⟩
          have K1 := Lib.hid (K0.out.trans k1)
          have B1 := Lib.hid (B0.out.kept k1)
          clear B0 
          obtain ⟨b1a, b1b, b1c, b1d, b1e⟩ := B1.out.five
          have b1l := B1.out.1
          have V1 := Lib.hid (V0.out.kept k1)
          clear V0 
          obtain ⟨v1a, v1b, v1c, v1d⟩ := V1.out.four
          have v1l := V1.out.1
          have X1 := Lib.hid (X0.out.kept k1)
          clear X0
          clear k1
          go_wp2_with fail
          refine (block_no bs bf bp bt _ HB.out).mono ?_
          rintro e W2 ⟨bA, bc, rfl, br, k2⟩
          have K2 := Lib.hid (K1.out.trans k2)
          have B2 := Lib.hid (B1.out.kept k2)
          clear B1 b1a b1b b1c b1d b1e b1l
          obtain ⟨b2a, b2b, b2c, b2d, b2e⟩ := B2.out.five
          have b2l := B2.out.1
          have V2 := Lib.hid (V1.out.kept k2)
          clear V1 v1a v1b v1c v1d v1l
          obtain ⟨v2a, v2b, v2c, v2d⟩ := V2.out.four
          have v2l := V2.out.1
          have X2 := Lib.hid (X1.out.kept k2)
          clear X1
          clear k2
          clear br
          go_wp2_with fail
          refine (vote_no vs vf vp _ HV.out).mono ?_
          rintro e W3 ⟨vA, vc, rfl, vr, k3⟩
          have K3 := Lib.hid (K2.out.trans k3)
          have B3 := Lib.hid (B2.out.kept k3)
          clear B2 b2a b2b b2c b2d b2e b2l
          obtain ⟨b3a, b3b, b3c, b3d, b3e⟩ := B3.out.five
          have b3l := B3.out.1
          have V3 := Lib.hid (V2.out.kept k3)
          clear V2 v2a v2b v2c v2d v2l
          obtain ⟨v3a, v3b, v3c, v3d⟩ := V3.out.four
          have v3l := V3.out.1
          have X3 := Lib.hid (X2.out.kept k3)
          clear X2
          clear k3
          clear vr
          go_wp2_with fail
          refine (get_any _ _ _ _ _ (by omega) X3.out).mono ?_
          rintro e W4 ⟨rfl, k4⟩
          rw [HG.out]
          unfold getV Got.block
          have K4 := Lib.hid (K3.out.trans k4)
          have B4 := Lib.hid (B3.out.kept k4)
          clear B3 b3a b3b b3c b3d b3e b3l
          obtain ⟨b4a, b4b, b4c, b4d, b4e⟩ := B4.out.five
          have b4l := B4.out.1
          have V4 := Lib.hid (V3.out.kept k4)
          clear V3 v3a v3b v3c v3d v3l
          obtain ⟨v4a, v4b, v4c, v4d⟩ := V4.out.four
          have v4l := V4.out.1
          have X4 := Lib.hid (X3.out.kept k4)
          clear X3
          clear k4
          go_wp2_with fail
          refine (block_made s f (p, q) t _ (by omega) (by omega) (by omega)).mono ?_
          rintro e W5 ⟨yg, yc, rfl, yr, k5⟩
          rw [HS.out] at yr
          have Y := Lib.hid yr
          clear yr
          replace k5 := Kept.trans (((Kept.refl _).alloc _).alloc _) k5
          have K5 := Lib.hid (K4.out.trans k5)
          have B5 := Lib.hid (B4.out.kept k5)
          clear B4 b4a b4b b4c b4d b4e b4l
          obtain ⟨b5a, b5b, b5c, b5d, b5e⟩ := B5.out.five
          have b5l := B5.out.1
          have V5 := Lib.hid (V4.out.kept k5)
          clear V4 v4a v4b v4c v4d v4l
          obtain ⟨v5a, v5b, v5c, v5d⟩ := V5.out.four
          have v5l := V5.out.1
          have X5 := Lib.hid (X4.out.kept k5)
          clear X4
          clear k5
          have s1 := Y.out.str
          have s2 := run_str X5.out
          go_wp2_with fail
          go_ret
          exact ⟨rfl, K5.out⟩
      · rcases getN_cases x with hg | ⟨hx, hm, hg⟩ | ⟨hx, hm, hg⟩
        · have HB := Lib.hid hb
          obtain ⟨vm, vn, rfl, rfl, v1, v2, v3⟩ := made_nat hv
          have GV := Lib.hid (getN_voteL (p := vp) v1 v2 v3 hv1 hv2)
          have XL := Lib.hid xhl
          have HG := Lib.hid hg
          clear hg
          clear hb hv xhl xhm
          go_enter Try.func4, Try.ntmps4
          go_wp2_with fail
          have B0 := Lib.hid (HasCells.new w #[.int .i64 bs, .int .i64 bf, .int .u64 bp.1, .int .u64 bp.2, .int .u64 bt] 26 (w.heap.size) (by simp))
          have V0 := Lib.hid (HasCells.new (w.alloc (.cells #[.int .i64 bs, .int .i64 bf, .int .u64 bp.1, .int .u64 bp.2, .int .u64 bt] 26)) #[.int .i64 (vn : Nat), .int .i64 (vm : Nat), .int .u64 vp.1, .int .u64 vp.2] 28 (w.heap.size + 1) (by simp))
          have B0 := Lib.hid (B0.out.alloc (.cells #[.int .i64 (vn : Nat), .int .i64 (vm : Nat), .int .u64 vp.1, .int .u64 vp.2] 28))
          have K0 := Lib.hid (show Kept w ((w.alloc (.cells #[.int .i64 bs, .int .i64 bf, .int .u64 bp.1, .int .u64 bp.2, .int .u64 bt] 26)).alloc (.cells #[.int .i64 (vn : Nat), .int .i64 (vm : Nat), .int .u64 vp.1, .int .u64 vp.2] 28)) from ((Kept.refl w).alloc _).alloc _)
          have X0 := Lib.hid (XL.out.kept K0.out)
          clear XL
          generalize ((w.alloc (.cells #[.int .i64 bs, .int .i64 bf, .int .u64 bp.1, .int .u64 bp.2, .int .u64 bt] 26)).alloc (.cells #[.int .i64 (vn : Nat), .int .i64 (vm : Nat), .int .u64 vp.1, .int .u64 vp.2] 28)) = W0 at *
          generalize w.heap.size = z at *
          have HZ := Lib.hid True.intro
          refine (awake_any _).mono ?_
          rintro e W1 ⟨rfl, k1⟩
          have K1 := Lib.hid (K0.out.trans k1)
          have B1 := Lib.hid (B0.out.kept k1)
          clear B0 
          obtain ⟨b1a, b1b, b1c, b1d, b1e⟩ := B1.out.five
          have b1l := B1.out.1
          have V1 := Lib.hid (V0.out.kept k1)
          clear V0 
          obtain ⟨v1a, v1b, v1c, v1d⟩ := V1.out.four
          have v1l := V1.out.1
          have X1 := Lib.hid (X0.out.kept k1)
          clear X0
          clear k1
          go_wp2_with fail
          refine (block_no bs bf bp bt _ HB.out).mono ?_
          rintro e W2 ⟨bA, bc, rfl, br, k2⟩
          have K2 := Lib.hid (K1.out.trans k2)
          have B2 := Lib.hid (B1.out.kept k2)
          clear B1 b1a b1b b1c b1d b1e b1l
          obtain ⟨b2a, b2b, b2c, b2d, b2e⟩ := B2.out.five
          have b2l := B2.out.1
          have V2 := Lib.hid (V1.out.kept k2)
          clear V1 v1a v1b v1c v1d v1l
          obtain ⟨v2a, v2b, v2c, v2d⟩ := V2.out.four
          have v2l := V2.out.1
          have X2 := Lib.hid (X1.out.kept k2)
          clear X1
          clear k2
          clear br
          go_wp2_with fail
          refine (vote_made vm vn vp _ v1 v2 v3).mono ?_
          rintro e W3 ⟨vg, vc, rfl, vr, k3⟩
          have K3 := Lib.hid (K2.out.trans k3)
          have B3 := Lib.hid (B2.out.kept k3)
          clear B2 b2a b2b b2c b2d b2e b2l
          obtain ⟨b3a, b3b, b3c, b3d, b3e⟩ := B3.out.five
          have b3l := B3.out.1
          have V3 := Lib.hid (V2.out.kept k3)
          clear V2 v2a v2b v2c v2d v2l
          obtain ⟨v3a, v3b, v3c, v3d⟩ := V3.out.four
          have v3l := V3.out.1
          have X3 := Lib.hid (X2.out.kept k3)
          clear X2
          clear k3
          have P3 := Lib.hid vr
          clear vr
          go_wp2_with fail
          refine (get_any _ _ _ _ _ (by omega) P3.out.2.1).mono ?_
          rintro e W4 ⟨rfl, k4⟩
          rw [GV.out]
          unfold getV Got.vote
          have K4 := Lib.hid (K3.out.trans k4)
          have B4 := Lib.hid (B3.out.kept k4)
          clear B3 b3a b3b b3c b3d b3e b3l
          obtain ⟨b4a, b4b, b4c, b4d, b4e⟩ := B4.out.five
          have b4l := B4.out.1
          have V4 := Lib.hid (V3.out.kept k4)
          clear V3 v3a v3b v3c v3d v3l
          obtain ⟨v4a, v4b, v4c, v4d⟩ := V4.out.four
          have v4l := V4.out.1
          have X4 := Lib.hid (X3.out.kept k4)
          clear X3
          clear k4
          clear P3
          go_wp2_with fail
          refine (get_any _ _ _ _ _ (by omega) (X4.out.kept (((Kept.refl _).alloc _).alloc _))).mono ?_
          rintro e W5 ⟨rfl, k5⟩
          rw [HG.out]
          unfold getV Got.none
          replace k5 := Kept.trans (((Kept.refl _).alloc _).alloc _) k5
          have K5 := Lib.hid (K4.out.trans k5)
          have B5 := Lib.hid (B4.out.kept k5)
          clear B4 b4a b4b b4c b4d b4e b4l
          obtain ⟨b5a, b5b, b5c, b5d, b5e⟩ := B5.out.five
          have b5l := B5.out.1
          have V5 := Lib.hid (V4.out.kept k5)
          clear V4 v4a v4b v4c v4d v4l
          obtain ⟨v5a, v5b, v5c, v5d⟩ := V5.out.four
          have v5l := V5.out.1
          have X5 := Lib.hid (X4.out.kept k5)
          clear X4
          clear k5
          go_wp2_with fail
          go_ret
          exact ⟨rfl, (K5.out.alloc _).alloc _⟩
        · have HB := Lib.hid hb
          obtain ⟨vm, vn, rfl, rfl, v1, v2, v3⟩ := made_nat hv
          have GV := Lib.hid (getN_voteL (p := vp) v1 v2 v3 hv1 hv2)
          have XL := Lib.hid xhl
          have HS := Lib.hid (voteL_seg xhl.2.2.1 hx)
          obtain ⟨m1, m2, m3, m4⟩ := made_yes hm
          obtain ⟨hl, _⟩ := of_decide_eq_true hx
          have hxn := xhl.1
          obtain rfl : xn = 22 := by omega
          clear hxn hl
          generalize seg x 1 4 = s at *
          generalize seg x 5 1 = f at *
          generalize seg x 6 8 = p at *
          generalize seg x 14 8 = q at *
          have HG := Lib.hid hg
          clear hg hm hx
          clear hb hv xhl xhm
          go_enter Try.func4, Try.ntmps4
          go_wp2_with fail
          have B0 := Lib.hid (HasCells.new w #[.int .i64 bs, .int .i64 bf, .int .u64 bp.1, .int .u64 bp.2, .int .u64 bt] 26 (w.heap.size) (by simp))
          have V0 := Lib.hid (HasCells.new (w.alloc (.cells #[.int .i64 bs, .int .i64 bf, .int .u64 bp.1, .int .u64 bp.2, .int .u64 bt] 26)) #[.int .i64 (vn : Nat), .int .i64 (vm : Nat), .int .u64 vp.1, .int .u64 vp.2] 28 (w.heap.size + 1) (by simp))
          have B0 := Lib.hid (B0.out.alloc (.cells #[.int .i64 (vn : Nat), .int .i64 (vm : Nat), .int .u64 vp.1, .int .u64 vp.2] 28))
          have K0 := Lib.hid (show Kept w ((w.alloc (.cells #[.int .i64 bs, .int .i64 bf, .int .u64 bp.1, .int .u64 bp.2, .int .u64 bt] 26)).alloc (.cells #[.int .i64 (vn : Nat), .int .i64 (vm : Nat), .int .u64 vp.1, .int .u64 vp.2] 28)) from ((Kept.refl w).alloc _).alloc _)
          have X0 := Lib.hid (XL.out.kept K0.out)
          clear XL
          generalize ((w.alloc (.cells #[.int .i64 bs, .int .i64 bf, .int .u64 bp.1, .int .u64 bp.2, .int .u64 bt] 26)).alloc (.cells #[.int .i64 (vn : Nat), .int .i64 (vm : Nat), .int .u64 vp.1, .int .u64 vp.2] 28)) = W0 at *
          generalize w.heap.size = z at *
          have HZ := Lib.hid True.intro
          refine (awake_any _).mono ?_
          rintro e W1 ⟨rfl, k1⟩
          have K1 := Lib.hid (K0.out.trans k1)
          have B1 := Lib.hid (B0.out.kept k1)
          clear B0 
          obtain ⟨b1a, b1b, b1c, b1d, b1e⟩ := B1.out.five
          have b1l := B1.out.1
          have V1 := Lib.hid (V0.out.kept k1)
          clear V0 
          obtain ⟨v1a, v1b, v1c, v1d⟩ := V1.out.four
          have v1l := V1.out.1
          have X1 := Lib.hid (X0.out.kept k1)
          clear X0
          clear k1
          go_wp2_with fail
          refine (block_no bs bf bp bt _ HB.out).mono ?_
          rintro e W2 ⟨bA, bc, rfl, br, k2⟩
          have K2 := Lib.hid (K1.out.trans k2)
          have B2 := Lib.hid (B1.out.kept k2)
          clear B1 b1a b1b b1c b1d b1e b1l
          obtain ⟨b2a, b2b, b2c, b2d, b2e⟩ := B2.out.five
          have b2l := B2.out.1
          have V2 := Lib.hid (V1.out.kept k2)
          clear V1 v1a v1b v1c v1d v1l
          obtain ⟨v2a, v2b, v2c, v2d⟩ := V2.out.four
          have v2l := V2.out.1
          have X2 := Lib.hid (X1.out.kept k2)
          clear X1
          clear k2
          clear br
          go_wp2_with fail
          refine (vote_made vm vn vp _ v1 v2 v3).mono ?_
          rintro e W3 ⟨vg, vc, rfl, vr, k3⟩
          have K3 := Lib.hid (K2.out.trans k3)
          have B3 := Lib.hid (B2.out.kept k3)
          clear B2 b2a b2b b2c b2d b2e b2l
          obtain ⟨b3a, b3b, b3c, b3d, b3e⟩ := B3.out.five
          have b3l := B3.out.1
          have V3 := Lib.hid (V2.out.kept k3)
          clear V2 v2a v2b v2c v2d v2l
          obtain ⟨v3a, v3b, v3c, v3d⟩ := V3.out.four
          have v3l := V3.out.1
          have X3 := Lib.hid (X2.out.kept k3)
          clear X2
          clear k3
          have P3 := Lib.hid vr
          clear vr
          go_wp2_with fail
          refine (get_any _ _ _ _ _ (by omega) P3.out.2.1).mono ?_
          rintro e W4 ⟨rfl, k4⟩
          rw [GV.out]
          unfold getV Got.vote
          have K4 := Lib.hid (K3.out.trans k4)
          have B4 := Lib.hid (B3.out.kept k4)
          clear B3 b3a b3b b3c b3d b3e b3l
          obtain ⟨b4a, b4b, b4c, b4d, b4e⟩ := B4.out.five
          have b4l := B4.out.1
          have V4 := Lib.hid (V3.out.kept k4)
          clear V3 v3a v3b v3c v3d v3l
          obtain ⟨v4a, v4b, v4c, v4d⟩ := V4.out.four
          have v4l := V4.out.1
          have X4 := Lib.hid (X3.out.kept k4)
          clear X3
          clear k4
          clear P3
          go_wp2_with fail
          refine (get_any _ _ _ _ _ (by omega) (X4.out.kept (((Kept.refl _).alloc _).alloc _))).mono ?_
          rintro e W5 ⟨rfl, k5⟩
          rw [HG.out]
          unfold getV Got.vote
          replace k5 := Kept.trans (((Kept.refl _).alloc _).alloc _) k5
          have K5 := Lib.hid (K4.out.trans k5)
          have B5 := Lib.hid (B4.out.kept k5)
          clear B4 b4a b4b b4c b4d b4e b4l
          obtain ⟨b5a, b5b, b5c, b5d, b5e⟩ := B5.out.five
          have b5l := B5.out.1
          have V5 := Lib.hid (V4.out.kept k5)
          clear V4 v4a v4b v4c v4d v4l
          obtain ⟨v5a, v5b, v5c, v5d⟩ := V5.out.four
          have v5l := V5.out.1
          have X5 := Lib.hid (X4.out.kept k5)
          clear X4
          clear k5
          go_wp2_with fail
          refine (block_zero _).mono ?_
          rintro e W6 ⟨yA, yc, rfl, yr, k6⟩
          clear yr
          have VZ := Lib.hid ((HasCells.new (W5.alloc (.cells #[.int .i64 0, .int .i64 0, .int .u64 0, .int .u64 0, .int .u64 0] 26)) #[.int .i64 (f : Nat), .int .i64 (s : Nat), .int .u64 (p : Nat), .int .u64 (q : Nat)] 28 (W5.heap.size + 1) (by simp)).kept k6)
          obtain ⟨z0, z1, z2, z3⟩ := VZ.out.four
          replace k6 := Kept.trans (((Kept.refl _).alloc _).alloc _) k6
          have K6 := Lib.hid (K5.out.trans k6)
          have B6 := Lib.hid (B5.out.kept k6)
          clear B5 b5a b5b b5c b5d b5e b5l
          obtain ⟨b6a, b6b, b6c, b6d, b6e⟩ := B6.out.five
          have b6l := B6.out.1
          have V6 := Lib.hid (V5.out.kept k6)
          clear V5 v5a v5b v5c v5d v5l
          obtain ⟨v6a, v6b, v6c, v6d⟩ := V6.out.four
          have v6l := V6.out.1
          have X6 := Lib.hid (X5.out.kept k6)
          clear X5
          clear k6
          go_wp2_with fail
          refine (vote_made s f (p, q) _ (by omega) (by omega) (by omega)).mono ?_
          rintro e W7 ⟨yg, yd, rfl, yr, k7⟩
          rw [HS.out] at yr
          have Y := Lib.hid yr
          clear yr z0 z1 z2 z3 VZ
          have K7 := Lib.hid (K6.out.trans k7)
          have B7 := Lib.hid (B6.out.kept k7)
          clear B6 b6a b6b b6c b6d b6e b6l
          obtain ⟨b7a, b7b, b7c, b7d, b7e⟩ := B7.out.five
          have b7l := B7.out.1
          have V7 := Lib.hid (V6.out.kept k7)
          clear V6 v6a v6b v6c v6d v6l
          obtain ⟨v7a, v7b, v7c, v7d⟩ := V7.out.four
          have v7l := V7.out.1
          have X7 := Lib.hid (X6.out.kept k7)
          clear X6
          clear k7
          have s1 := Y.out.str
          have s2 := run_str X7.out
          go_wp2_with fail
          go_ret
          exact ⟨rfl, K7.out⟩
        · have HB := Lib.hid hb
          obtain ⟨vm, vn, rfl, rfl, v1, v2, v3⟩ := made_nat hv
          have GV := Lib.hid (getN_voteL (p := vp) v1 v2 v3 hv1 hv2)
          have XL := Lib.hid xhl
          have HS := Lib.hid (blockL_seg xhl.2.2.1 hx)
          obtain ⟨m1, m2, m3, m4⟩ := made_yes hm
          obtain ⟨hl, _⟩ := of_decide_eq_true hx
          have hxn := xhl.1
          obtain rfl : xn = 30 := by omega
          clear hxn hl
          generalize seg x 1 4 = s at *
          generalize seg x 5 1 = f at *
          generalize seg x 6 8 = p at *
          generalize seg x 14 8 = q at *
          generalize seg x 22 8 = t at *
          have HG := Lib.hid hg
          clear hg hm hx
          clear hb hv xhl xhm
          go_enter Try.func4, Try.ntmps4
          go_wp2_with fail
          have B0 := Lib.hid (HasCells.new w #[.int .i64 bs, .int .i64 bf, .int .u64 bp.1, .int .u64 bp.2, .int .u64 bt] 26 (w.heap.size) (by simp))
          have V0 := Lib.hid (HasCells.new (w.alloc (.cells #[.int .i64 bs, .int .i64 bf, .int .u64 bp.1, .int .u64 bp.2, .int .u64 bt] 26)) #[.int .i64 (vn : Nat), .int .i64 (vm : Nat), .int .u64 vp.1, .int .u64 vp.2] 28 (w.heap.size + 1) (by simp))
          have B0 := Lib.hid (B0.out.alloc (.cells #[.int .i64 (vn : Nat), .int .i64 (vm : Nat), .int .u64 vp.1, .int .u64 vp.2] 28))
          have K0 := Lib.hid (show Kept w ((w.alloc (.cells #[.int .i64 bs, .int .i64 bf, .int .u64 bp.1, .int .u64 bp.2, .int .u64 bt] 26)).alloc (.cells #[.int .i64 (vn : Nat), .int .i64 (vm : Nat), .int .u64 vp.1, .int .u64 vp.2] 28)) from ((Kept.refl w).alloc _).alloc _)
          have X0 := Lib.hid (XL.out.kept K0.out)
          clear XL
          generalize ((w.alloc (.cells #[.int .i64 bs, .int .i64 bf, .int .u64 bp.1, .int .u64 bp.2, .int .u64 bt] 26)).alloc (.cells #[.int .i64 (vn : Nat), .int .i64 (vm : Nat), .int .u64 vp.1, .int .u64 vp.2] 28)) = W0 at *
          generalize w.heap.size = z at *
          have HZ := Lib.hid True.intro
          refine (awake_any _).mono ?_
          rintro e W1 ⟨rfl, k1⟩
          have K1 := Lib.hid (K0.out.trans k1)
          have B1 := Lib.hid (B0.out.kept k1)
          clear B0 
          obtain ⟨b1a, b1b, b1c, b1d, b1e⟩ := B1.out.five
          have b1l := B1.out.1
          have V1 := Lib.hid (V0.out.kept k1)
          clear V0 
          obtain ⟨v1a, v1b, v1c, v1d⟩ := V1.out.four
          have v1l := V1.out.1
          have X1 := Lib.hid (X0.out.kept k1)
          clear X0
          clear k1
          go_wp2_with fail
          refine (block_no bs bf bp bt _ HB.out).mono ?_
          rintro e W2 ⟨bA, bc, rfl, br, k2⟩
          have K2 := Lib.hid (K1.out.trans k2)
          have B2 := Lib.hid (B1.out.kept k2)
          clear B1 b1a b1b b1c b1d b1e b1l
          obtain ⟨b2a, b2b, b2c, b2d, b2e⟩ := B2.out.five
          have b2l := B2.out.1
          have V2 := Lib.hid (V1.out.kept k2)
          clear V1 v1a v1b v1c v1d v1l
          obtain ⟨v2a, v2b, v2c, v2d⟩ := V2.out.four
          have v2l := V2.out.1
          have X2 := Lib.hid (X1.out.kept k2)
          clear X1
          clear k2
          clear br
          go_wp2_with fail
          refine (vote_made vm vn vp _ v1 v2 v3).mono ?_
          rintro e W3 ⟨vg, vc, rfl, vr, k3⟩
          have K3 := Lib.hid (K2.out.trans k3)
          have B3 := Lib.hid (B2.out.kept k3)
          clear B2 b2a b2b b2c b2d b2e b2l
          obtain ⟨b3a, b3b, b3c, b3d, b3e⟩ := B3.out.five
          have b3l := B3.out.1
          have V3 := Lib.hid (V2.out.kept k3)
          clear V2 v2a v2b v2c v2d v2l
          obtain ⟨v3a, v3b, v3c, v3d⟩ := V3.out.four
          have v3l := V3.out.1
          have X3 := Lib.hid (X2.out.kept k3)
          clear X2
          clear k3
          have P3 := Lib.hid vr
          clear vr
          go_wp2_with fail
          refine (get_any _ _ _ _ _ (by omega) P3.out.2.1).mono ?_
          rintro e W4 ⟨rfl, k4⟩
          rw [GV.out]
          unfold getV Got.vote
          have K4 := Lib.hid (K3.out.trans k4)
          have B4 := Lib.hid (B3.out.kept k4)
          clear B3 b3a b3b b3c b3d b3e b3l
          obtain ⟨b4a, b4b, b4c, b4d, b4e⟩ := B4.out.five
          have b4l := B4.out.1
          have V4 := Lib.hid (V3.out.kept k4)
          clear V3 v3a v3b v3c v3d v3l
          obtain ⟨v4a, v4b, v4c, v4d⟩ := V4.out.four
          have v4l := V4.out.1
          have X4 := Lib.hid (X3.out.kept k4)
          clear X3
          clear k4
          clear P3
          go_wp2_with fail
          refine (get_any _ _ _ _ _ (by omega) (X4.out.kept (((Kept.refl _).alloc _).alloc _))).mono ?_
          rintro e W5 ⟨rfl, k5⟩
          rw [HG.out]
          unfold getV Got.block
          replace k5 := Kept.trans (((Kept.refl _).alloc _).alloc _) k5
          have K5 := Lib.hid (K4.out.trans k5)
          have B5 := Lib.hid (B4.out.kept k5)
          clear B4 b4a b4b b4c b4d b4e b4l
          obtain ⟨b5a, b5b, b5c, b5d, b5e⟩ := B5.out.five
          have b5l := B5.out.1
          have V5 := Lib.hid (V4.out.kept k5)
          clear V4 v4a v4b v4c v4d v4l
          obtain ⟨v5a, v5b, v5c, v5d⟩ := V5.out.four
          have v5l := V5.out.1
          have X5 := Lib.hid (X4.out.kept k5)
          clear X4
          clear k5
          go_wp2_with fail
          refine (block_made s f (p, q) t _ (by omega) (by omega) (by omega)).mono ?_
          rintro e W6 ⟨yg, yc, rfl, yr, k6⟩
          rw [HS.out] at yr
          have Y := Lib.hid yr
          clear yr
          replace k6 := Kept.trans (((Kept.refl _).alloc _).alloc _) k6
          have K6 := Lib.hid (K5.out.trans k6)
          have B6 := Lib.hid (B5.out.kept k6)
          clear B5 b5a b5b b5c b5d b5e b5l
          obtain ⟨b6a, b6b, b6c, b6d, b6e⟩ := B6.out.five
          have b6l := B6.out.1
          have V6 := Lib.hid (V5.out.kept k6)
          clear V5 v5a v5b v5c v5d v5l
          obtain ⟨v6a, v6b, v6c, v6d⟩ := V6.out.four
          have v6l := V6.out.1
          have X6 := Lib.hid (X5.out.kept k6)
          clear X5
          clear k6
          have s1 := Y.out.str
          have s2 := run_str X6.out
          go_wp2_with fail
          go_ret
          exact ⟨rfl, K6.out⟩
    · cases hv : made vs vf
      · rcases getN_cases x with hg | ⟨hx, hm, hg⟩ | ⟨hx, hm, hg⟩
        · obtain ⟨bm, bn, rfl, rfl, b1, b2, b3⟩ := made_nat hb
          have GB := Lib.hid (getN_blockL (p := bp) (t := bt) b1 b2 b3 hb1 hb2 hb3)
          have HV := Lib.hid hv
          have XL := Lib.hid xhl
          have HG := Lib.hid hg
          clear hg
          clear hb hv xhl xhm
          go_enter Try.func4, Try.ntmps4
          go_wp2_with fail
          have B0 := Lib.hid (HasCells.new w #[.int .i64 (bm : Nat), .int .i64 (bn : Nat), .int .u64 bp.1, .int .u64 bp.2, .int .u64 bt] 26 (w.heap.size) (by simp))
          have V0 := Lib.hid (HasCells.new (w.alloc (.cells #[.int .i64 (bm : Nat), .int .i64 (bn : Nat), .int .u64 bp.1, .int .u64 bp.2, .int .u64 bt] 26)) #[.int .i64 vf, .int .i64 vs, .int .u64 vp.1, .int .u64 vp.2] 28 (w.heap.size + 1) (by simp))
          have B0 := Lib.hid (B0.out.alloc (.cells #[.int .i64 vf, .int .i64 vs, .int .u64 vp.1, .int .u64 vp.2] 28))
          have K0 := Lib.hid (show Kept w ((w.alloc (.cells #[.int .i64 (bm : Nat), .int .i64 (bn : Nat), .int .u64 bp.1, .int .u64 bp.2, .int .u64 bt] 26)).alloc (.cells #[.int .i64 vf, .int .i64 vs, .int .u64 vp.1, .int .u64 vp.2] 28)) from ((Kept.refl w).alloc _).alloc _)
          have X0 := Lib.hid (XL.out.kept K0.out)
          clear XL
          generalize ((w.alloc (.cells #[.int .i64 (bm : Nat), .int .i64 (bn : Nat), .int .u64 bp.1, .int .u64 bp.2, .int .u64 bt] 26)).alloc (.cells #[.int .i64 vf, .int .i64 vs, .int .u64 vp.1, .int .u64 vp.2] 28)) = W0 at *
          generalize w.heap.size = z at *
          have HZ := Lib.hid True.intro
          refine (awake_any _).mono ?_
          rintro e W1 ⟨rfl, k1⟩
          have K1 := Lib.hid (K0.out.trans k1)
          have B1 := Lib.hid (B0.out.kept k1)
          clear B0 
          obtain ⟨b1a, b1b, b1c, b1d, b1e⟩ := B1.out.five
          have b1l := B1.out.1
          have V1 := Lib.hid (V0.out.kept k1)
          clear V0 
          obtain ⟨v1a, v1b, v1c, v1d⟩ := V1.out.four
          have v1l := V1.out.1
          have X1 := Lib.hid (X0.out.kept k1)
          clear X0
          clear k1
          go_wp2_with fail
          refine (block_made bm bn bp bt _ b1 b2 b3).mono ?_
          rintro e W2 ⟨bg, bc, rfl, br, k2⟩
          have K2 := Lib.hid (K1.out.trans k2)
          have B2 := Lib.hid (B1.out.kept k2)
          clear B1 b1a b1b b1c b1d b1e b1l
          obtain ⟨b2a, b2b, b2c, b2d, b2e⟩ := B2.out.five
          have b2l := B2.out.1
          have V2 := Lib.hid (V1.out.kept k2)
          clear V1 v1a v1b v1c v1d v1l
          obtain ⟨v2a, v2b, v2c, v2d⟩ := V2.out.four
          have v2l := V2.out.1
          have X2 := Lib.hid (X1.out.kept k2)
          clear X1
          clear k2
          have P2 := Lib.hid br
          clear br
          go_wp2_with fail
          refine (get_any _ _ _ _ _ (by omega) P2.out.2.1).mono ?_
          rintro e W3 ⟨rfl, k3⟩
          rw [GB.out]
          unfold getV Got.block
          have K3 := Lib.hid (K2.out.trans k3)
          have B3 := Lib.hid (B2.out.kept k3)
          clear B2 b2a b2b b2c b2d b2e b2l
          obtain ⟨b3a, b3b, b3c, b3d, b3e⟩ := B3.out.five
          have b3l := B3.out.1
          have V3 := Lib.hid (V2.out.kept k3)
          clear V2 v2a v2b v2c v2d v2l
          obtain ⟨v3a, v3b, v3c, v3d⟩ := V3.out.four
          have v3l := V3.out.1
          have X3 := Lib.hid (X2.out.kept k3)
          clear X2
          clear k3
          clear P2
          go_wp2_with fail
          refine (vote_no vs vf vp _ HV.out).mono ?_
          rintro e W4 ⟨vA, vc, rfl, vr, k4⟩
          replace k4 := Kept.trans (((Kept.refl _).alloc _).alloc _) k4
          have K4 := Lib.hid (K3.out.trans k4)
          have B4 := Lib.hid (B3.out.kept k4)
          clear B3 b3a b3b b3c b3d b3e b3l
          obtain ⟨b4a, b4b, b4c, b4d, b4e⟩ := B4.out.five
          have b4l := B4.out.1
          have V4 := Lib.hid (V3.out.kept k4)
          clear V3 v3a v3b v3c v3d v3l
          obtain ⟨v4a, v4b, v4c, v4d⟩ := V4.out.four
          have v4l := V4.out.1
          have X4 := Lib.hid (X3.out.kept k4)
          clear X3
          clear k4
          clear vr
          go_wp2_with fail
          refine (get_any _ _ _ _ _ (by omega) X4.out).mono ?_
          rintro e W5 ⟨rfl, k5⟩
          rw [HG.out]
          unfold getV Got.none
          have K5 := Lib.hid (K4.out.trans k5)
          have B5 := Lib.hid (B4.out.kept k5)
          clear B4 b4a b4b b4c b4d b4e b4l
          obtain ⟨b5a, b5b, b5c, b5d, b5e⟩ := B5.out.five
          have b5l := B5.out.1
          have V5 := Lib.hid (V4.out.kept k5)
          clear V4 v4a v4b v4c v4d v4l
          obtain ⟨v5a, v5b, v5c, v5d⟩ := V5.out.four
          have v5l := V5.out.1
          have X5 := Lib.hid (X4.out.kept k5)
          clear X4
          clear k5
          go_wp2_with fail
          go_ret
          exact ⟨rfl, (K5.out.alloc _).alloc _⟩
        · obtain ⟨bm, bn, rfl, rfl, b1, b2, b3⟩ := made_nat hb
          have GB := Lib.hid (getN_blockL (p := bp) (t := bt) b1 b2 b3 hb1 hb2 hb3)
          have HV := Lib.hid hv
          have XL := Lib.hid xhl
          have HS := Lib.hid (voteL_seg xhl.2.2.1 hx)
          obtain ⟨m1, m2, m3, m4⟩ := made_yes hm
          obtain ⟨hl, _⟩ := of_decide_eq_true hx
          have hxn := xhl.1
          obtain rfl : xn = 22 := by omega
          clear hxn hl
          generalize seg x 1 4 = s at *
          generalize seg x 5 1 = f at *
          generalize seg x 6 8 = p at *
          generalize seg x 14 8 = q at *
          have HG := Lib.hid hg
          clear hg hm hx
          clear hb hv xhl xhm
          go_enter Try.func4, Try.ntmps4
          go_wp2_with fail
          have B0 := Lib.hid (HasCells.new w #[.int .i64 (bm : Nat), .int .i64 (bn : Nat), .int .u64 bp.1, .int .u64 bp.2, .int .u64 bt] 26 (w.heap.size) (by simp))
          have V0 := Lib.hid (HasCells.new (w.alloc (.cells #[.int .i64 (bm : Nat), .int .i64 (bn : Nat), .int .u64 bp.1, .int .u64 bp.2, .int .u64 bt] 26)) #[.int .i64 vf, .int .i64 vs, .int .u64 vp.1, .int .u64 vp.2] 28 (w.heap.size + 1) (by simp))
          have B0 := Lib.hid (B0.out.alloc (.cells #[.int .i64 vf, .int .i64 vs, .int .u64 vp.1, .int .u64 vp.2] 28))
          have K0 := Lib.hid (show Kept w ((w.alloc (.cells #[.int .i64 (bm : Nat), .int .i64 (bn : Nat), .int .u64 bp.1, .int .u64 bp.2, .int .u64 bt] 26)).alloc (.cells #[.int .i64 vf, .int .i64 vs, .int .u64 vp.1, .int .u64 vp.2] 28)) from ((Kept.refl w).alloc _).alloc _)
          have X0 := Lib.hid (XL.out.kept K0.out)
          clear XL
          generalize ((w.alloc (.cells #[.int .i64 (bm : Nat), .int .i64 (bn : Nat), .int .u64 bp.1, .int .u64 bp.2, .int .u64 bt] 26)).alloc (.cells #[.int .i64 vf, .int .i64 vs, .int .u64 vp.1, .int .u64 vp.2] 28)) = W0 at *
          generalize w.heap.size = z at *
          have HZ := Lib.hid True.intro
          refine (awake_any _).mono ?_
          rintro e W1 ⟨rfl, k1⟩
          have K1 := Lib.hid (K0.out.trans k1)
          have B1 := Lib.hid (B0.out.kept k1)
          clear B0 
          obtain ⟨b1a, b1b, b1c, b1d, b1e⟩ := B1.out.five
          have b1l := B1.out.1
          have V1 := Lib.hid (V0.out.kept k1)
          clear V0 
          obtain ⟨v1a, v1b, v1c, v1d⟩ := V1.out.four
          have v1l := V1.out.1
          have X1 := Lib.hid (X0.out.kept k1)
          clear X0
          clear k1
          go_wp2_with fail
          refine (block_made bm bn bp bt _ b1 b2 b3).mono ?_
          rintro e W2 ⟨bg, bc, rfl, br, k2⟩
          have K2 := Lib.hid (K1.out.trans k2)
          have B2 := Lib.hid (B1.out.kept k2)
          clear B1 b1a b1b b1c b1d b1e b1l
          obtain ⟨b2a, b2b, b2c, b2d, b2e⟩ := B2.out.five
          have b2l := B2.out.1
          have V2 := Lib.hid (V1.out.kept k2)
          clear V1 v1a v1b v1c v1d v1l
          obtain ⟨v2a, v2b, v2c, v2d⟩ := V2.out.four
          have v2l := V2.out.1
          have X2 := Lib.hid (X1.out.kept k2)
          clear X1
          clear k2
          have P2 := Lib.hid br
          clear br
          go_wp2_with fail
          refine (get_any _ _ _ _ _ (by omega) P2.out.2.1).mono ?_
          rintro e W3 ⟨rfl, k3⟩
          rw [GB.out]
          unfold getV Got.block
          have K3 := Lib.hid (K2.out.trans k3)
          have B3 := Lib.hid (B2.out.kept k3)
          clear B2 b2a b2b b2c b2d b2e b2l
          obtain ⟨b3a, b3b, b3c, b3d, b3e⟩ := B3.out.five
          have b3l := B3.out.1
          have V3 := Lib.hid (V2.out.kept k3)
          clear V2 v2a v2b v2c v2d v2l
          obtain ⟨v3a, v3b, v3c, v3d⟩ := V3.out.four
          have v3l := V3.out.1
          have X3 := Lib.hid (X2.out.kept k3)
          clear X2
          clear k3
          clear P2
          go_wp2_with fail
          refine (vote_no vs vf vp _ HV.out).mono ?_
          rintro e W4 ⟨vA, vc, rfl, vr, k4⟩
          replace k4 := Kept.trans (((Kept.refl _).alloc _).alloc _) k4
          have K4 := Lib.hid (K3.out.trans k4)
          have B4 := Lib.hid (B3.out.kept k4)
          clear B3 b3a b3b b3c b3d b3e b3l
          obtain ⟨b4a, b4b, b4c, b4d, b4e⟩ := B4.out.five
          have b4l := B4.out.1
          have V4 := Lib.hid (V3.out.kept k4)
          clear V3 v3a v3b v3c v3d v3l
          obtain ⟨v4a, v4b, v4c, v4d⟩ := V4.out.four
          have v4l := V4.out.1
          have X4 := Lib.hid (X3.out.kept k4)
          clear X3
          clear k4
          clear vr
          go_wp2_with fail
          refine (get_any _ _ _ _ _ (by omega) X4.out).mono ?_
          rintro e W5 ⟨rfl, k5⟩
          rw [HG.out]
          unfold getV Got.vote
          have K5 := Lib.hid (K4.out.trans k5)
          have B5 := Lib.hid (B4.out.kept k5)
          clear B4 b4a b4b b4c b4d b4e b4l
          obtain ⟨b5a, b5b, b5c, b5d, b5e⟩ := B5.out.five
          have b5l := B5.out.1
          have V5 := Lib.hid (V4.out.kept k5)
          clear V4 v4a v4b v4c v4d v4l
          obtain ⟨v5a, v5b, v5c, v5d⟩ := V5.out.four
          have v5l := V5.out.1
          have X5 := Lib.hid (X4.out.kept k5)
          clear X4
          clear k5
          go_wp2_with fail
          refine (block_zero _).mono ?_
          rintro e W6 ⟨yA, yc, rfl, yr, k6⟩
          clear yr
          have VZ := Lib.hid ((HasCells.new (W5.alloc (.cells #[.int .i64 0, .int .i64 0, .int .u64 0, .int .u64 0, .int .u64 0] 26)) #[.int .i64 (f : Nat), .int .i64 (s : Nat), .int .u64 (p : Nat), .int .u64 (q : Nat)] 28 (W5.heap.size + 1) (by simp)).kept k6)
          obtain ⟨z0, z1, z2, z3⟩ := VZ.out.four
          replace k6 := Kept.trans (((Kept.refl _).alloc _).alloc _) k6
          have K6 := Lib.hid (K5.out.trans k6)
          have B6 := Lib.hid (B5.out.kept k6)
          clear B5 b5a b5b b5c b5d b5e b5l
          obtain ⟨b6a, b6b, b6c, b6d, b6e⟩ := B6.out.five
          have b6l := B6.out.1
          have V6 := Lib.hid (V5.out.kept k6)
          clear V5 v5a v5b v5c v5d v5l
          obtain ⟨v6a, v6b, v6c, v6d⟩ := V6.out.four
          have v6l := V6.out.1
          have X6 := Lib.hid (X5.out.kept k6)
          clear X5
          clear k6
          go_wp2_with fail
          refine (vote_made s f (p, q) _ (by omega) (by omega) (by omega)).mono ?_
          rintro e W7 ⟨yg, yd, rfl, yr, k7⟩
          rw [HS.out] at yr
          have Y := Lib.hid yr
          clear yr z0 z1 z2 z3 VZ
          have K7 := Lib.hid (K6.out.trans k7)
          have B7 := Lib.hid (B6.out.kept k7)
          clear B6 b6a b6b b6c b6d b6e b6l
          obtain ⟨b7a, b7b, b7c, b7d, b7e⟩ := B7.out.five
          have b7l := B7.out.1
          have V7 := Lib.hid (V6.out.kept k7)
          clear V6 v6a v6b v6c v6d v6l
          obtain ⟨v7a, v7b, v7c, v7d⟩ := V7.out.four
          have v7l := V7.out.1
          have X7 := Lib.hid (X6.out.kept k7)
          clear X6
          clear k7
          have s1 := Y.out.str
          have s2 := run_str X7.out
          go_wp2_with fail
          go_ret
          exact ⟨rfl, K7.out⟩
        · obtain ⟨bm, bn, rfl, rfl, b1, b2, b3⟩ := made_nat hb
          have GB := Lib.hid (getN_blockL (p := bp) (t := bt) b1 b2 b3 hb1 hb2 hb3)
          have HV := Lib.hid hv
          have XL := Lib.hid xhl
          have HS := Lib.hid (blockL_seg xhl.2.2.1 hx)
          obtain ⟨m1, m2, m3, m4⟩ := made_yes hm
          obtain ⟨hl, _⟩ := of_decide_eq_true hx
          have hxn := xhl.1
          obtain rfl : xn = 30 := by omega
          clear hxn hl
          generalize seg x 1 4 = s at *
          generalize seg x 5 1 = f at *
          generalize seg x 6 8 = p at *
          generalize seg x 14 8 = q at *
          generalize seg x 22 8 = t at *
          have HG := Lib.hid hg
          clear hg hm hx
          clear hb hv xhl xhm
          go_enter Try.func4, Try.ntmps4
          go_wp2_with fail
          have B0 := Lib.hid (HasCells.new w #[.int .i64 (bm : Nat), .int .i64 (bn : Nat), .int .u64 bp.1, .int .u64 bp.2, .int .u64 bt] 26 (w.heap.size) (by simp))
          have V0 := Lib.hid (HasCells.new (w.alloc (.cells #[.int .i64 (bm : Nat), .int .i64 (bn : Nat), .int .u64 bp.1, .int .u64 bp.2, .int .u64 bt] 26)) #[.int .i64 vf, .int .i64 vs, .int .u64 vp.1, .int .u64 vp.2] 28 (w.heap.size + 1) (by simp))
          have B0 := Lib.hid (B0.out.alloc (.cells #[.int .i64 vf, .int .i64 vs, .int .u64 vp.1, .int .u64 vp.2] 28))
          have K0 := Lib.hid (show Kept w ((w.alloc (.cells #[.int .i64 (bm : Nat), .int .i64 (bn : Nat), .int .u64 bp.1, .int .u64 bp.2, .int .u64 bt] 26)).alloc (.cells #[.int .i64 vf, .int .i64 vs, .int .u64 vp.1, .int .u64 vp.2] 28)) from ((Kept.refl w).alloc _).alloc _)
          have X0 := Lib.hid (XL.out.kept K0.out)
          clear XL
          generalize ((w.alloc (.cells #[.int .i64 (bm : Nat), .int .i64 (bn : Nat), .int .u64 bp.1, .int .u64 bp.2, .int .u64 bt] 26)).alloc (.cells #[.int .i64 vf, .int .i64 vs, .int .u64 vp.1, .int .u64 vp.2] 28)) = W0 at *
          generalize w.heap.size = z at *
          have HZ := Lib.hid True.intro
          refine (awake_any _).mono ?_
          rintro e W1 ⟨rfl, k1⟩
          have K1 := Lib.hid (K0.out.trans k1)
          have B1 := Lib.hid (B0.out.kept k1)
          clear B0 
          obtain ⟨b1a, b1b, b1c, b1d, b1e⟩ := B1.out.five
          have b1l := B1.out.1
          have V1 := Lib.hid (V0.out.kept k1)
          clear V0 
          obtain ⟨v1a, v1b, v1c, v1d⟩ := V1.out.four
          have v1l := V1.out.1
          have X1 := Lib.hid (X0.out.kept k1)
          clear X0
          clear k1
          go_wp2_with fail
          refine (block_made bm bn bp bt _ b1 b2 b3).mono ?_
          rintro e W2 ⟨bg, bc, rfl, br, k2⟩
          have K2 := Lib.hid (K1.out.trans k2)
          have B2 := Lib.hid (B1.out.kept k2)
          clear B1 b1a b1b b1c b1d b1e b1l
          obtain ⟨b2a, b2b, b2c, b2d, b2e⟩ := B2.out.five
          have b2l := B2.out.1
          have V2 := Lib.hid (V1.out.kept k2)
          clear V1 v1a v1b v1c v1d v1l
          obtain ⟨v2a, v2b, v2c, v2d⟩ := V2.out.four
          have v2l := V2.out.1
          have X2 := Lib.hid (X1.out.kept k2)
          clear X1
          clear k2
          have P2 := Lib.hid br
          clear br
          go_wp2_with fail
          refine (get_any _ _ _ _ _ (by omega) P2.out.2.1).mono ?_
          rintro e W3 ⟨rfl, k3⟩
          rw [GB.out]
          unfold getV Got.block
          have K3 := Lib.hid (K2.out.trans k3)
          have B3 := Lib.hid (B2.out.kept k3)
          clear B2 b2a b2b b2c b2d b2e b2l
          obtain ⟨b3a, b3b, b3c, b3d, b3e⟩ := B3.out.five
          have b3l := B3.out.1
          have V3 := Lib.hid (V2.out.kept k3)
          clear V2 v2a v2b v2c v2d v2l
          obtain ⟨v3a, v3b, v3c, v3d⟩ := V3.out.four
          have v3l := V3.out.1
          have X3 := Lib.hid (X2.out.kept k3)
          clear X2
          clear k3
          clear P2
          go_wp2_with fail
          refine (vote_no vs vf vp _ HV.out).mono ?_
          rintro e W4 ⟨vA, vc, rfl, vr, k4⟩
          replace k4 := Kept.trans (((Kept.refl _).alloc _).alloc _) k4
          have K4 := Lib.hid (K3.out.trans k4)
          have B4 := Lib.hid (B3.out.kept k4)
          clear B3 b3a b3b b3c b3d b3e b3l
          obtain ⟨b4a, b4b, b4c, b4d, b4e⟩ := B4.out.five
          have b4l := B4.out.1
          have V4 := Lib.hid (V3.out.kept k4)
          clear V3 v3a v3b v3c v3d v3l
          obtain ⟨v4a, v4b, v4c, v4d⟩ := V4.out.four
          have v4l := V4.out.1
          have X4 := Lib.hid (X3.out.kept k4)
          clear X3
          clear k4
          clear vr
          go_wp2_with fail
          refine (get_any _ _ _ _ _ (by omega) X4.out).mono ?_
          rintro e W5 ⟨rfl, k5⟩
          rw [HG.out]
          unfold getV Got.block
          have K5 := Lib.hid (K4.out.trans k5)
          have B5 := Lib.hid (B4.out.kept k5)
          clear B4 b4a b4b b4c b4d b4e b4l
          obtain ⟨b5a, b5b, b5c, b5d, b5e⟩ := B5.out.five
          have b5l := B5.out.1
          have V5 := Lib.hid (V4.out.kept k5)
          clear V4 v4a v4b v4c v4d v4l
          obtain ⟨v5a, v5b, v5c, v5d⟩ := V5.out.four
          have v5l := V5.out.1
          have X5 := Lib.hid (X4.out.kept k5)
          clear X4
          clear k5
          go_wp2_with fail
          refine (block_made s f (p, q) t _ (by omega) (by omega) (by omega)).mono ?_
          rintro e W6 ⟨yg, yc, rfl, yr, k6⟩
          rw [HS.out] at yr
          have Y := Lib.hid yr
          clear yr
          replace k6 := Kept.trans (((Kept.refl _).alloc _).alloc _) k6
          have K6 := Lib.hid (K5.out.trans k6)
          have B6 := Lib.hid (B5.out.kept k6)
          clear B5 b5a b5b b5c b5d b5e b5l
          obtain ⟨b6a, b6b, b6c, b6d, b6e⟩ := B6.out.five
          have b6l := B6.out.1
          have V6 := Lib.hid (V5.out.kept k6)
          clear V5 v5a v5b v5c v5d v5l
          obtain ⟨v6a, v6b, v6c, v6d⟩ := V6.out.four
          have v6l := V6.out.1
          have X6 := Lib.hid (X5.out.kept k6)
          clear X5
          clear k6
          have s1 := Y.out.str
          have s2 := run_str X6.out
          go_wp2_with fail
          go_ret
          exact ⟨rfl, K6.out⟩
      · rcases getN_cases x with hg | ⟨hx, hm, hg⟩ | ⟨hx, hm, hg⟩
        · obtain ⟨bm, bn, rfl, rfl, b1, b2, b3⟩ := made_nat hb
          have GB := Lib.hid (getN_blockL (p := bp) (t := bt) b1 b2 b3 hb1 hb2 hb3)
          obtain ⟨vm, vn, rfl, rfl, v1, v2, v3⟩ := made_nat hv
          have GV := Lib.hid (getN_voteL (p := vp) v1 v2 v3 hv1 hv2)
          have XL := Lib.hid xhl
          have HG := Lib.hid hg
          clear hg
          clear hb hv xhl xhm
          go_enter Try.func4, Try.ntmps4
          go_wp2_with fail
          have B0 := Lib.hid (HasCells.new w #[.int .i64 (bm : Nat), .int .i64 (bn : Nat), .int .u64 bp.1, .int .u64 bp.2, .int .u64 bt] 26 (w.heap.size) (by simp))
          have V0 := Lib.hid (HasCells.new (w.alloc (.cells #[.int .i64 (bm : Nat), .int .i64 (bn : Nat), .int .u64 bp.1, .int .u64 bp.2, .int .u64 bt] 26)) #[.int .i64 (vn : Nat), .int .i64 (vm : Nat), .int .u64 vp.1, .int .u64 vp.2] 28 (w.heap.size + 1) (by simp))
          have B0 := Lib.hid (B0.out.alloc (.cells #[.int .i64 (vn : Nat), .int .i64 (vm : Nat), .int .u64 vp.1, .int .u64 vp.2] 28))
          have K0 := Lib.hid (show Kept w ((w.alloc (.cells #[.int .i64 (bm : Nat), .int .i64 (bn : Nat), .int .u64 bp.1, .int .u64 bp.2, .int .u64 bt] 26)).alloc (.cells #[.int .i64 (vn : Nat), .int .i64 (vm : Nat), .int .u64 vp.1, .int .u64 vp.2] 28)) from ((Kept.refl w).alloc _).alloc _)
          have X0 := Lib.hid (XL.out.kept K0.out)
          clear XL
          generalize ((w.alloc (.cells #[.int .i64 (bm : Nat), .int .i64 (bn : Nat), .int .u64 bp.1, .int .u64 bp.2, .int .u64 bt] 26)).alloc (.cells #[.int .i64 (vn : Nat), .int .i64 (vm : Nat), .int .u64 vp.1, .int .u64 vp.2] 28)) = W0 at *
          generalize w.heap.size = z at *
          have HZ := Lib.hid True.intro
          refine (awake_any _).mono ?_
          rintro e W1 ⟨rfl, k1⟩
          have K1 := Lib.hid (K0.out.trans k1)
          have B1 := Lib.hid (B0.out.kept k1)
          clear B0 
          obtain ⟨b1a, b1b, b1c, b1d, b1e⟩ := B1.out.five
          have b1l := B1.out.1
          have V1 := Lib.hid (V0.out.kept k1)
          clear V0 
          obtain ⟨v1a, v1b, v1c, v1d⟩ := V1.out.four
          have v1l := V1.out.1
          have X1 := Lib.hid (X0.out.kept k1)
          clear X0
          clear k1
          go_wp2_with fail
          refine (block_made bm bn bp bt _ b1 b2 b3).mono ?_
          rintro e W2 ⟨bg, bc, rfl, br, k2⟩
          have K2 := Lib.hid (K1.out.trans k2)
          have B2 := Lib.hid (B1.out.kept k2)
          clear B1 b1a b1b b1c b1d b1e b1l
          obtain ⟨b2a, b2b, b2c, b2d, b2e⟩ := B2.out.five
          have b2l := B2.out.1
          have V2 := Lib.hid (V1.out.kept k2)
          clear V1 v1a v1b v1c v1d v1l
          obtain ⟨v2a, v2b, v2c, v2d⟩ := V2.out.four
          have v2l := V2.out.1
          have X2 := Lib.hid (X1.out.kept k2)
          clear X1
          clear k2
          have P2 := Lib.hid br
          clear br
          go_wp2_with fail
          refine (get_any _ _ _ _ _ (by omega) P2.out.2.1).mono ?_
          rintro e W3 ⟨rfl, k3⟩
          rw [GB.out]
          unfold getV Got.block
          have K3 := Lib.hid (K2.out.trans k3)
          have B3 := Lib.hid (B2.out.kept k3)
          clear B2 b2a b2b b2c b2d b2e b2l
          obtain ⟨b3a, b3b, b3c, b3d, b3e⟩ := B3.out.five
          have b3l := B3.out.1
          have V3 := Lib.hid (V2.out.kept k3)
          clear V2 v2a v2b v2c v2d v2l
          obtain ⟨v3a, v3b, v3c, v3d⟩ := V3.out.four
          have v3l := V3.out.1
          have X3 := Lib.hid (X2.out.kept k3)
          clear X2
          clear k3
          clear P2
          go_wp2_with fail
          refine (vote_made vm vn vp _ v1 v2 v3).mono ?_
          rintro e W4 ⟨vg, vc, rfl, vr, k4⟩
          replace k4 := Kept.trans (((Kept.refl _).alloc _).alloc _) k4
          have K4 := Lib.hid (K3.out.trans k4)
          have B4 := Lib.hid (B3.out.kept k4)
          clear B3 b3a b3b b3c b3d b3e b3l
          obtain ⟨b4a, b4b, b4c, b4d, b4e⟩ := B4.out.five
          have b4l := B4.out.1
          have V4 := Lib.hid (V3.out.kept k4)
          clear V3 v3a v3b v3c v3d v3l
          obtain ⟨v4a, v4b, v4c, v4d⟩ := V4.out.four
          have v4l := V4.out.1
          have X4 := Lib.hid (X3.out.kept k4)
          clear X3
          clear k4
          have P4 := Lib.hid vr
          clear vr
          go_wp2_with fail
          refine (get_any _ _ _ _ _ (by omega) P4.out.2.1).mono ?_
          rintro e W5 ⟨rfl, k5⟩
          rw [GV.out]
          unfold getV Got.vote
          have K5 := Lib.hid (K4.out.trans k5)
          have B5 := Lib.hid (B4.out.kept k5)
          clear B4 b4a b4b b4c b4d b4e b4l
          obtain ⟨b5a, b5b, b5c, b5d, b5e⟩ := B5.out.five
          have b5l := B5.out.1
          have V5 := Lib.hid (V4.out.kept k5)
          clear V4 v4a v4b v4c v4d v4l
          obtain ⟨v5a, v5b, v5c, v5d⟩ := V5.out.four
          have v5l := V5.out.1
          have X5 := Lib.hid (X4.out.kept k5)
          clear X4
          clear k5
          clear P4
          go_wp2_with fail
          refine (get_any _ _ _ _ _ (by omega) (X5.out.kept (((Kept.refl _).alloc _).alloc _))).mono ?_
          rintro e W6 ⟨rfl, k6⟩
          rw [HG.out]
          unfold getV Got.none
          replace k6 := Kept.trans (((Kept.refl _).alloc _).alloc _) k6
          have K6 := Lib.hid (K5.out.trans k6)
          have B6 := Lib.hid (B5.out.kept k6)
          clear B5 b5a b5b b5c b5d b5e b5l
          obtain ⟨b6a, b6b, b6c, b6d, b6e⟩ := B6.out.five
          have b6l := B6.out.1
          have V6 := Lib.hid (V5.out.kept k6)
          clear V5 v5a v5b v5c v5d v5l
          obtain ⟨v6a, v6b, v6c, v6d⟩ := V6.out.four
          have v6l := V6.out.1
          have X6 := Lib.hid (X5.out.kept k6)
          clear X5
          clear k6
          go_wp2_with fail
          go_ret
          exact ⟨rfl, (K6.out.alloc _).alloc _⟩
        · obtain ⟨bm, bn, rfl, rfl, b1, b2, b3⟩ := made_nat hb
          have GB := Lib.hid (getN_blockL (p := bp) (t := bt) b1 b2 b3 hb1 hb2 hb3)
          obtain ⟨vm, vn, rfl, rfl, v1, v2, v3⟩ := made_nat hv
          have GV := Lib.hid (getN_voteL (p := vp) v1 v2 v3 hv1 hv2)
          have XL := Lib.hid xhl
          have HS := Lib.hid (voteL_seg xhl.2.2.1 hx)
          obtain ⟨m1, m2, m3, m4⟩ := made_yes hm
          obtain ⟨hl, _⟩ := of_decide_eq_true hx
          have hxn := xhl.1
          obtain rfl : xn = 22 := by omega
          clear hxn hl
          generalize seg x 1 4 = s at *
          generalize seg x 5 1 = f at *
          generalize seg x 6 8 = p at *
          generalize seg x 14 8 = q at *
          have HG := Lib.hid hg
          clear hg hm hx
          clear hb hv xhl xhm
          go_enter Try.func4, Try.ntmps4
          go_wp2_with fail
          have B0 := Lib.hid (HasCells.new w #[.int .i64 (bm : Nat), .int .i64 (bn : Nat), .int .u64 bp.1, .int .u64 bp.2, .int .u64 bt] 26 (w.heap.size) (by simp))
          have V0 := Lib.hid (HasCells.new (w.alloc (.cells #[.int .i64 (bm : Nat), .int .i64 (bn : Nat), .int .u64 bp.1, .int .u64 bp.2, .int .u64 bt] 26)) #[.int .i64 (vn : Nat), .int .i64 (vm : Nat), .int .u64 vp.1, .int .u64 vp.2] 28 (w.heap.size + 1) (by simp))
          have B0 := Lib.hid (B0.out.alloc (.cells #[.int .i64 (vn : Nat), .int .i64 (vm : Nat), .int .u64 vp.1, .int .u64 vp.2] 28))
          have K0 := Lib.hid (show Kept w ((w.alloc (.cells #[.int .i64 (bm : Nat), .int .i64 (bn : Nat), .int .u64 bp.1, .int .u64 bp.2, .int .u64 bt] 26)).alloc (.cells #[.int .i64 (vn : Nat), .int .i64 (vm : Nat), .int .u64 vp.1, .int .u64 vp.2] 28)) from ((Kept.refl w).alloc _).alloc _)
          have X0 := Lib.hid (XL.out.kept K0.out)
          clear XL
          generalize ((w.alloc (.cells #[.int .i64 (bm : Nat), .int .i64 (bn : Nat), .int .u64 bp.1, .int .u64 bp.2, .int .u64 bt] 26)).alloc (.cells #[.int .i64 (vn : Nat), .int .i64 (vm : Nat), .int .u64 vp.1, .int .u64 vp.2] 28)) = W0 at *
          generalize w.heap.size = z at *
          have HZ := Lib.hid True.intro
          refine (awake_any _).mono ?_
          rintro e W1 ⟨rfl, k1⟩
          have K1 := Lib.hid (K0.out.trans k1)
          have B1 := Lib.hid (B0.out.kept k1)
          clear B0 
          obtain ⟨b1a, b1b, b1c, b1d, b1e⟩ := B1.out.five
          have b1l := B1.out.1
          have V1 := Lib.hid (V0.out.kept k1)
          clear V0 
          obtain ⟨v1a, v1b, v1c, v1d⟩ := V1.out.four
          have v1l := V1.out.1
          have X1 := Lib.hid (X0.out.kept k1)
          clear X0
          clear k1
          go_wp2_with fail
          refine (block_made bm bn bp bt _ b1 b2 b3).mono ?_
          rintro e W2 ⟨bg, bc, rfl, br, k2⟩
          have K2 := Lib.hid (K1.out.trans k2)
          have B2 := Lib.hid (B1.out.kept k2)
          clear B1 b1a b1b b1c b1d b1e b1l
          obtain ⟨b2a, b2b, b2c, b2d, b2e⟩ := B2.out.five
          have b2l := B2.out.1
          have V2 := Lib.hid (V1.out.kept k2)
          clear V1 v1a v1b v1c v1d v1l
          obtain ⟨v2a, v2b, v2c, v2d⟩ := V2.out.four
          have v2l := V2.out.1
          have X2 := Lib.hid (X1.out.kept k2)
          clear X1
          clear k2
          have P2 := Lib.hid br
          clear br
          go_wp2_with fail
          refine (get_any _ _ _ _ _ (by omega) P2.out.2.1).mono ?_
          rintro e W3 ⟨rfl, k3⟩
          rw [GB.out]
          unfold getV Got.block
          have K3 := Lib.hid (K2.out.trans k3)
          have B3 := Lib.hid (B2.out.kept k3)
          clear B2 b2a b2b b2c b2d b2e b2l
          obtain ⟨b3a, b3b, b3c, b3d, b3e⟩ := B3.out.five
          have b3l := B3.out.1
          have V3 := Lib.hid (V2.out.kept k3)
          clear V2 v2a v2b v2c v2d v2l
          obtain ⟨v3a, v3b, v3c, v3d⟩ := V3.out.four
          have v3l := V3.out.1
          have X3 := Lib.hid (X2.out.kept k3)
          clear X2
          clear k3
          clear P2
          go_wp2_with fail
          refine (vote_made vm vn vp _ v1 v2 v3).mono ?_
          rintro e W4 ⟨vg, vc, rfl, vr, k4⟩
          replace k4 := Kept.trans (((Kept.refl _).alloc _).alloc _) k4
          have K4 := Lib.hid (K3.out.trans k4)
          have B4 := Lib.hid (B3.out.kept k4)
          clear B3 b3a b3b b3c b3d b3e b3l
          obtain ⟨b4a, b4b, b4c, b4d, b4e⟩ := B4.out.five
          have b4l := B4.out.1
          have V4 := Lib.hid (V3.out.kept k4)
          clear V3 v3a v3b v3c v3d v3l
          obtain ⟨v4a, v4b, v4c, v4d⟩ := V4.out.four
          have v4l := V4.out.1
          have X4 := Lib.hid (X3.out.kept k4)
          clear X3
          clear k4
          have P4 := Lib.hid vr
          clear vr
          go_wp2_with fail
          refine (get_any _ _ _ _ _ (by omega) P4.out.2.1).mono ?_
          rintro e W5 ⟨rfl, k5⟩
          rw [GV.out]
          unfold getV Got.vote
          have K5 := Lib.hid (K4.out.trans k5)
          have B5 := Lib.hid (B4.out.kept k5)
          clear B4 b4a b4b b4c b4d b4e b4l
          obtain ⟨b5a, b5b, b5c, b5d, b5e⟩ := B5.out.five
          have b5l := B5.out.1
          have V5 := Lib.hid (V4.out.kept k5)
          clear V4 v4a v4b v4c v4d v4l
          obtain ⟨v5a, v5b, v5c, v5d⟩ := V5.out.four
          have v5l := V5.out.1
          have X5 := Lib.hid (X4.out.kept k5)
          clear X4
          clear k5
          clear P4
          go_wp2_with fail
          refine (get_any _ _ _ _ _ (by omega) (X5.out.kept (((Kept.refl _).alloc _).alloc _))).mono ?_
          rintro e W6 ⟨rfl, k6⟩
          rw [HG.out]
          unfold getV Got.vote
          replace k6 := Kept.trans (((Kept.refl _).alloc _).alloc _) k6
          have K6 := Lib.hid (K5.out.trans k6)
          have B6 := Lib.hid (B5.out.kept k6)
          clear B5 b5a b5b b5c b5d b5e b5l
          obtain ⟨b6a, b6b, b6c, b6d, b6e⟩ := B6.out.five
          have b6l := B6.out.1
          have V6 := Lib.hid (V5.out.kept k6)
          clear V5 v5a v5b v5c v5d v5l
          obtain ⟨v6a, v6b, v6c, v6d⟩ := V6.out.four
          have v6l := V6.out.1
          have X6 := Lib.hid (X5.out.kept k6)
          clear X5
          clear k6
          go_wp2_with fail
          refine (block_zero _).mono ?_
          rintro e W7 ⟨yA, yc, rfl, yr, k7⟩
          clear yr
          have VZ := Lib.hid ((HasCells.new (W6.alloc (.cells #[.int .i64 0, .int .i64 0, .int .u64 0, .int .u64 0, .int .u64 0] 26)) #[.int .i64 (f : Nat), .int .i64 (s : Nat), .int .u64 (p : Nat), .int .u64 (q : Nat)] 28 (W6.heap.size + 1) (by simp)).kept k7)
          obtain ⟨z0, z1, z2, z3⟩ := VZ.out.four
          replace k7 := Kept.trans (((Kept.refl _).alloc _).alloc _) k7
          have K7 := Lib.hid (K6.out.trans k7)
          have B7 := Lib.hid (B6.out.kept k7)
          clear B6 b6a b6b b6c b6d b6e b6l
          obtain ⟨b7a, b7b, b7c, b7d, b7e⟩ := B7.out.five
          have b7l := B7.out.1
          have V7 := Lib.hid (V6.out.kept k7)
          clear V6 v6a v6b v6c v6d v6l
          obtain ⟨v7a, v7b, v7c, v7d⟩ := V7.out.four
          have v7l := V7.out.1
          have X7 := Lib.hid (X6.out.kept k7)
          clear X6
          clear k7
          go_wp2_with fail
          refine (vote_made s f (p, q) _ (by omega) (by omega) (by omega)).mono ?_
          rintro e W8 ⟨yg, yd, rfl, yr, k8⟩
          rw [HS.out] at yr
          have Y := Lib.hid yr
          clear yr z0 z1 z2 z3 VZ
          have K8 := Lib.hid (K7.out.trans k8)
          have B8 := Lib.hid (B7.out.kept k8)
          clear B7 b7a b7b b7c b7d b7e b7l
          obtain ⟨b8a, b8b, b8c, b8d, b8e⟩ := B8.out.five
          have b8l := B8.out.1
          have V8 := Lib.hid (V7.out.kept k8)
          clear V7 v7a v7b v7c v7d v7l
          obtain ⟨v8a, v8b, v8c, v8d⟩ := V8.out.four
          have v8l := V8.out.1
          have X8 := Lib.hid (X7.out.kept k8)
          clear X7
          clear k8
          have s1 := Y.out.str
          have s2 := run_str X8.out
          go_wp2_with fail
          go_ret
          exact ⟨rfl, K8.out⟩
        · obtain ⟨bm, bn, rfl, rfl, b1, b2, b3⟩ := made_nat hb
          have GB := Lib.hid (getN_blockL (p := bp) (t := bt) b1 b2 b3 hb1 hb2 hb3)
          obtain ⟨vm, vn, rfl, rfl, v1, v2, v3⟩ := made_nat hv
          have GV := Lib.hid (getN_voteL (p := vp) v1 v2 v3 hv1 hv2)
          have XL := Lib.hid xhl
          have HS := Lib.hid (blockL_seg xhl.2.2.1 hx)
          obtain ⟨m1, m2, m3, m4⟩ := made_yes hm
          obtain ⟨hl, _⟩ := of_decide_eq_true hx
          have hxn := xhl.1
          obtain rfl : xn = 30 := by omega
          clear hxn hl
          generalize seg x 1 4 = s at *
          generalize seg x 5 1 = f at *
          generalize seg x 6 8 = p at *
          generalize seg x 14 8 = q at *
          generalize seg x 22 8 = t at *
          have HG := Lib.hid hg
          clear hg hm hx
          clear hb hv xhl xhm
          go_enter Try.func4, Try.ntmps4
          go_wp2_with fail
          have B0 := Lib.hid (HasCells.new w #[.int .i64 (bm : Nat), .int .i64 (bn : Nat), .int .u64 bp.1, .int .u64 bp.2, .int .u64 bt] 26 (w.heap.size) (by simp))
          have V0 := Lib.hid (HasCells.new (w.alloc (.cells #[.int .i64 (bm : Nat), .int .i64 (bn : Nat), .int .u64 bp.1, .int .u64 bp.2, .int .u64 bt] 26)) #[.int .i64 (vn : Nat), .int .i64 (vm : Nat), .int .u64 vp.1, .int .u64 vp.2] 28 (w.heap.size + 1) (by simp))
          have B0 := Lib.hid (B0.out.alloc (.cells #[.int .i64 (vn : Nat), .int .i64 (vm : Nat), .int .u64 vp.1, .int .u64 vp.2] 28))
          have K0 := Lib.hid (show Kept w ((w.alloc (.cells #[.int .i64 (bm : Nat), .int .i64 (bn : Nat), .int .u64 bp.1, .int .u64 bp.2, .int .u64 bt] 26)).alloc (.cells #[.int .i64 (vn : Nat), .int .i64 (vm : Nat), .int .u64 vp.1, .int .u64 vp.2] 28)) from ((Kept.refl w).alloc _).alloc _)
          have X0 := Lib.hid (XL.out.kept K0.out)
          clear XL
          generalize ((w.alloc (.cells #[.int .i64 (bm : Nat), .int .i64 (bn : Nat), .int .u64 bp.1, .int .u64 bp.2, .int .u64 bt] 26)).alloc (.cells #[.int .i64 (vn : Nat), .int .i64 (vm : Nat), .int .u64 vp.1, .int .u64 vp.2] 28)) = W0 at *
          generalize w.heap.size = z at *
          have HZ := Lib.hid True.intro
          refine (awake_any _).mono ?_
          rintro e W1 ⟨rfl, k1⟩
          have K1 := Lib.hid (K0.out.trans k1)
          have B1 := Lib.hid (B0.out.kept k1)
          clear B0 
          obtain ⟨b1a, b1b, b1c, b1d, b1e⟩ := B1.out.five
          have b1l := B1.out.1
          have V1 := Lib.hid (V0.out.kept k1)
          clear V0 
          obtain ⟨v1a, v1b, v1c, v1d⟩ := V1.out.four
          have v1l := V1.out.1
          have X1 := Lib.hid (X0.out.kept k1)
          clear X0
          clear k1
          go_wp2_with fail
          refine (block_made bm bn bp bt _ b1 b2 b3).mono ?_
          rintro e W2 ⟨bg, bc, rfl, br, k2⟩
          have K2 := Lib.hid (K1.out.trans k2)
          have B2 := Lib.hid (B1.out.kept k2)
          clear B1 b1a b1b b1c b1d b1e b1l
          obtain ⟨b2a, b2b, b2c, b2d, b2e⟩ := B2.out.five
          have b2l := B2.out.1
          have V2 := Lib.hid (V1.out.kept k2)
          clear V1 v1a v1b v1c v1d v1l
          obtain ⟨v2a, v2b, v2c, v2d⟩ := V2.out.four
          have v2l := V2.out.1
          have X2 := Lib.hid (X1.out.kept k2)
          clear X1
          clear k2
          have P2 := Lib.hid br
          clear br
          go_wp2_with fail
          refine (get_any _ _ _ _ _ (by omega) P2.out.2.1).mono ?_
          rintro e W3 ⟨rfl, k3⟩
          rw [GB.out]
          unfold getV Got.block
          have K3 := Lib.hid (K2.out.trans k3)
          have B3 := Lib.hid (B2.out.kept k3)
          clear B2 b2a b2b b2c b2d b2e b2l
          obtain ⟨b3a, b3b, b3c, b3d, b3e⟩ := B3.out.five
          have b3l := B3.out.1
          have V3 := Lib.hid (V2.out.kept k3)
          clear V2 v2a v2b v2c v2d v2l
          obtain ⟨v3a, v3b, v3c, v3d⟩ := V3.out.four
          have v3l := V3.out.1
          have X3 := Lib.hid (X2.out.kept k3)
          clear X2
          clear k3
          clear P2
          go_wp2_with fail
          refine (vote_made vm vn vp _ v1 v2 v3).mono ?_
          rintro e W4 ⟨vg, vc, rfl, vr, k4⟩
          replace k4 := Kept.trans (((Kept.refl _).alloc _).alloc _) k4
          have K4 := Lib.hid (K3.out.trans k4)
          have B4 := Lib.hid (B3.out.kept k4)
          clear B3 b3a b3b b3c b3d b3e b3l
          obtain ⟨b4a, b4b, b4c, b4d, b4e⟩ := B4.out.five
          have b4l := B4.out.1
          have V4 := Lib.hid (V3.out.kept k4)
          clear V3 v3a v3b v3c v3d v3l
          obtain ⟨v4a, v4b, v4c, v4d⟩ := V4.out.four
          have v4l := V4.out.1
          have X4 := Lib.hid (X3.out.kept k4)
          clear X3
          clear k4
          have P4 := Lib.hid vr
          clear vr
          go_wp2_with fail
          refine (get_any _ _ _ _ _ (by omega) P4.out.2.1).mono ?_
          rintro e W5 ⟨rfl, k5⟩
          rw [GV.out]
          unfold getV Got.vote
          have K5 := Lib.hid (K4.out.trans k5)
          have B5 := Lib.hid (B4.out.kept k5)
          clear B4 b4a b4b b4c b4d b4e b4l
          obtain ⟨b5a, b5b, b5c, b5d, b5e⟩ := B5.out.five
          have b5l := B5.out.1
          have V5 := Lib.hid (V4.out.kept k5)
          clear V4 v4a v4b v4c v4d v4l
          obtain ⟨v5a, v5b, v5c, v5d⟩ := V5.out.four
          have v5l := V5.out.1
          have X5 := Lib.hid (X4.out.kept k5)
          clear X4
          clear k5
          clear P4
          go_wp2_with fail
          refine (get_any _ _ _ _ _ (by omega) (X5.out.kept (((Kept.refl _).alloc _).alloc _))).mono ?_
          rintro e W6 ⟨rfl, k6⟩
          rw [HG.out]
          unfold getV Got.block
          replace k6 := Kept.trans (((Kept.refl _).alloc _).alloc _) k6
          have K6 := Lib.hid (K5.out.trans k6)
          have B6 := Lib.hid (B5.out.kept k6)
          clear B5 b5a b5b b5c b5d b5e b5l
          obtain ⟨b6a, b6b, b6c, b6d, b6e⟩ := B6.out.five
          have b6l := B6.out.1
          have V6 := Lib.hid (V5.out.kept k6)
          clear V5 v5a v5b v5c v5d v5l
          obtain ⟨v6a, v6b, v6c, v6d⟩ := V6.out.four
          have v6l := V6.out.1
          have X6 := Lib.hid (X5.out.kept k6)
          clear X5
          clear k6
          go_wp2_with fail
          refine (block_made s f (p, q) t _ (by omega) (by omega) (by omega)).mono ?_
          rintro e W7 ⟨yg, yc, rfl, yr, k7⟩
          rw [HS.out] at yr
          have Y := Lib.hid yr
          clear yr
          replace k7 := Kept.trans (((Kept.refl _).alloc _).alloc _) k7
          have K7 := Lib.hid (K6.out.trans k7)
          have B7 := Lib.hid (B6.out.kept k7)
          clear B6 b6a b6b b6c b6d b6e b6l
          obtain ⟨b7a, b7b, b7c, b7d, b7e⟩ := B7.out.five
          have b7l := B7.out.1
          have V7 := Lib.hid (V6.out.kept k7)
          clear V6 v6a v6b v6c v6d v6l
          obtain ⟨v7a, v7b, v7c, v7d⟩ := V7.out.four
          have v7l := V7.out.1
          have X7 := Lib.hid (X6.out.kept k7)
          clear X6
          clear k7
          have s1 := Y.out.str
          have s2 := run_str X7.out
          go_wp2_with fail
          go_ret
          exact ⟨rfl, K7.out⟩
  · clear xhl
    go_enter Try.func4, Try.ntmps4
    go_wp2_with fail
    refine (awake_any _).mono ?_
    rintro e w1 ⟨rfl, k1⟩
    go_wp2_with fail
    go_ret
    exact ⟨rfl, (((Kept.refl w).alloc _).alloc _).trans k1⟩

/-! ### The row's step -/
set_option maxRecDepth 100000 in
theorem lifted (os : Os) (started : os.Started) (H : Type) (enc : TypeId × Value → H) :
    ReturnsInHanded {} Try.checked os 4 .any (Rows.wireBackSpec.pre6 enc Try.prog Try.f4 Rows.wireBackRow.domain false) (Rows.wireBackSpec.post enc Try.prog Try.f4 false true false false) := by
  refine returnsInHanded_of_change (C := Try.checked) own started (by kernel_rfl) Try.func4
    (ChangeSpec.witness6 (enc := enc) (C := Try.checked) false ⟨#[], #[.agg #[.int .i64 0, .int .i64 0, .int .u64 0, .int .u64 0, .int .u64 0], .agg #[.int .i64 0, .int .i64 0, .int .u64 0, .int .u64 0], .slice none 0 0], []⟩ 8 (by kernel_rfl) (by kernel_rfl) (by kernel_rfl) (by kernel_rfl)) ?_
  intro W base args ds gs before hval0 hW hcnd _
  have hval : ∀ (j : Nat) t v, Try.f4.params[j]? = some t → args[j]? = some v → Value.okWide Try.prog W .any base t v := hval0
  have hW' := hW
  obtain ⟨p, q, hA0, hV, rfl, hfz, hnd⟩ := hW
  have hA : DataW.TrodAll enc Try.prog W 0 (fun _ => true) true Try.f4.params.toList args.toList ds p := hA0
  rw [Try.params4] at hA hval
  obtain ⟨v0, vs0, d0, ds0, p0, q0, hargs, rfl, rfl, h0, r0⟩ := trodAll_cons hA
  obtain ⟨v1, vs1, d1, ds1, p1, q1, rfl, rfl, rfl, h1, r1⟩ := trodAll_cons r0
  obtain ⟨v2, vs2, d2, ds2, p2, q2, rfl, rfl, rfl, h2, r2⟩ := trodAll_cons r1
  obtain ⟨rfl, rfl, rfl⟩ := trodAll_nil r2
  obtain rfl : args = #[v0, v1, v2] := by cases args; simp_all
  obtain ⟨rfl, rfl⟩ := trodVars_none hV
  obtain ⟨bs, bf, bp, bt, rfl, hb1, hb2, hb3⟩ := open_block (hval 0 _ v0 rfl rfl) h0
  obtain ⟨vf, vs, vp, rfl, hv1, hv2⟩ := open_vote (hval 1 _ v1 rfl rfl) h1
  obtain ⟨xA, xn, xc, x, rfl, xhm, xhl⟩ := open_bytes (hval 2 _ v2 rfl rfl) h2
  clear hA0 hval0
  refine (walk W bs bf bp bt hb1 hb2 hb3 vf vs vp hv1 hv2 xA xn xc x xhm xhl).mono fun e W' ⟨he, hb⟩ => ?_
  subst he
  exact ⟨_, rfl, law_post rfl (by kernel_rfl) rfl hW' rfl hb⟩

theorem over : Rows.wireBackRow.holds Try.pinned (OpenSpec.ofChange Rows.wireBackSpec) :=
  OpenClaim.holds_of_wide 4 Try.f4 rfl rfl rfl rfl rfl rfl rfl ⟨rfl, rfl, rfl, rfl, rfl⟩ rfl rfl rfl rfl rfl (by kernel_rfl) Try.func4 (by kernel_rfl)
    (of_decide_eq_true (by kernel_rfl)) (by unfold Func.isWrapper; first | (rw [if_pos (by decide +kernel)]; kernel_rfl) | (rw [if_neg (by decide +kernel)]; exact ⟨rfl, rfl⟩))
    (fun os started H enc _ => lifted os started H enc)

/-- The statement. -/
theorem proved : Rows.WireBackSaid :=
  over
#print axioms proved
end Go.Proofs.Ytfbjiepnhfgmfaa.wireBack
