/-
  For all blocks b, votes v and numbers at marigoldlaw03.WireCut returns true and leaves its arguments as they were: no further condition.
-/
import Derived.Test.YtfbjiepnhfgmfaaWireAwake
namespace Go.Proofs.Ytfbjiepnhfgmfaa.wireCut
open Go.ChangeShapes Go.WideShapes Go.ChangeAt Go.RowKit
set_option linter.unusedVariables false

/-! ### The walk: the call returns true, and of what was there nothing has changed. -/
attribute [local go_sem high] eqBlock eqVote in
set_option maxRecDepth 100000 in
set_option maxHeartbeats 8000000 in
theorem walk (w : World) (bs bf : Int) (bp : Nat × Nat) (bt : Nat) (hb1 : bp.1 < 18446744073709551616) (hb2 : bp.2 < 18446744073709551616) (hb3 : bt < 18446744073709551616) (vf vs : Int) (vp : Nat × Nat) (hv1 : vp.1 < 18446744073709551616) (hv2 : vp.2 < 18446744073709551616) (at' : Int) (hat'1 : -9223372036854775808 ≤ at') (hat'2 : at' ≤ 9223372036854775807) :
    Calls Try.prog 5 #[.agg #[.int .i64 bs, .int .i64 bf, .int .u64 bp.1, .int .u64 bp.2, .int .u64 bt], .agg #[.int .i64 vf, .int .i64 vs, .int .u64 vp.1, .int .u64 vp.2], .int .i64 at'] w fun e w' => e = .returned (.bool true) ∧ Kept w w' := by
  cases hb : made bs bf
  · have HB := Lib.hid hb
    clear hb
    go_enter Try.func5, Try.ntmps5
    go_wp2_with fail
    have B0 := Lib.hid (HasCells.new w #[.int .i64 bs, .int .i64 bf, .int .u64 bp.1, .int .u64 bp.2, .int .u64 bt] 26 (w.heap.size) (by simp))
    have V0 := Lib.hid (HasCells.new (w.alloc (.cells #[.int .i64 bs, .int .i64 bf, .int .u64 bp.1, .int .u64 bp.2, .int .u64 bt] 26)) #[.int .i64 vf, .int .i64 vs, .int .u64 vp.1, .int .u64 vp.2] 28 (w.heap.size + 1) (by simp))
    have B0 := Lib.hid (B0.out.alloc (.cells #[.int .i64 vf, .int .i64 vs, .int .u64 vp.1, .int .u64 vp.2] 28))
    have K0 := Lib.hid (show Kept w ((w.alloc (.cells #[.int .i64 bs, .int .i64 bf, .int .u64 bp.1, .int .u64 bp.2, .int .u64 bt] 26)).alloc (.cells #[.int .i64 vf, .int .i64 vs, .int .u64 vp.1, .int .u64 vp.2] 28)) from ((Kept.refl w).alloc _).alloc _)
    generalize ((w.alloc (.cells #[.int .i64 bs, .int .i64 bf, .int .u64 bp.1, .int .u64 bp.2, .int .u64 bt] 26)).alloc (.cells #[.int .i64 vf, .int .i64 vs, .int .u64 vp.1, .int .u64 vp.2] 28)) = W0 at *
    generalize w.heap.size = z at *
    have HZ := Lib.hid True.intro
    refine (awake_any _).mono ?_
    rintro e W1 ⟨rfl, k1⟩
    have K1 := Lib.hid (K0.out.trans k1)
    have B1 := Lib.hid (B0.out.kept k1)
    clear B0 
    obtain ⟨b1a, b1b, b1c, b1d, b1e⟩ := B1.out.five
    have b1l := B1.out.1
    have V1 := Lib.hid (V0.out.kept k1)
    clear V0 
    obtain ⟨v1a, v1b, v1c, v1d⟩ := V1.out.four
    have v1l := V1.out.1
    clear k1
    go_wp2_with fail
    refine (block_no bs bf bp bt _ HB.out).mono ?_
    rintro e W2 ⟨bA, bc, rfl, br, k2⟩
    have K2 := Lib.hid (K1.out.trans k2)
    have B2 := Lib.hid (B1.out.kept k2)
    clear B1 b1a b1b b1c b1d b1e b1l
    obtain ⟨b2a, b2b, b2c, b2d, b2e⟩ := B2.out.five
    have b2l := B2.out.1
    have V2 := Lib.hid (V1.out.kept k2)
    clear V1 v1a v1b v1c v1d v1l
    obtain ⟨v2a, v2b, v2c, v2d⟩ := V2.out.four
    have v2l := V2.out.1
    clear k2
    clear br
    go_wp2_with fail
    refine (vote_some vs vf vp _).mono ?_
    rintro e W3 ⟨vv, vk, rfl, k3⟩
    have K3 := Lib.hid (K2.out.trans k3)
    have B3 := Lib.hid (B2.out.kept k3)
    clear B2 b2a b2b b2c b2d b2e b2l
    obtain ⟨b3a, b3b, b3c, b3d, b3e⟩ := B3.out.five
    have b3l := B3.out.1
    have V3 := Lib.hid (V2.out.kept k3)
    clear V2 v2a v2b v2c v2d v2l
    obtain ⟨v3a, v3b, v3c, v3d⟩ := V3.out.four
    have v3l := V3.out.1
    clear k3
    go_wp2_with fail
    go_ret
    exact ⟨rfl, K3.out⟩
  · cases hv : made vs vf
    · have HB := Lib.hid hb; have HV := Lib.hid hv
      clear hb hv
      go_enter Try.func5, Try.ntmps5
      go_wp2_with fail
      have B0 := Lib.hid (HasCells.new w #[.int .i64 bs, .int .i64 bf, .int .u64 bp.1, .int .u64 bp.2, .int .u64 bt] 26 (w.heap.size) (by simp))
      have V0 := Lib.hid (HasCells.new (w.alloc (.cells #[.int .i64 bs, .int .i64 bf, .int .u64 bp.1, .int .u64 bp.2, .int .u64 bt] 26)) #[.int .i64 vf, .int .i64 vs, .int .u64 vp.1, .int .u64 vp.2] 28 (w.heap.size + 1) (by simp))
      have B0 := Lib.hid (B0.out.alloc (.cells #[.int .i64 vf, .int .i64 vs, .int .u64 vp.1, .int .u64 vp.2] 28))
      have K0 := Lib.hid (show Kept w ((w.alloc (.cells #[.int .i64 bs, .int .i64 bf, .int .u64 bp.1, .int .u64 bp.2, .int .u64 bt] 26)).alloc (.cells #[.int .i64 vf, .int .i64 vs, .int .u64 vp.1, .int .u64 vp.2] 28)) from ((Kept.refl w).alloc _).alloc _)
      generalize ((w.alloc (.cells #[.int .i64 bs, .int .i64 bf, .int .u64 bp.1, .int .u64 bp.2, .int .u64 bt] 26)).alloc (.cells #[.int .i64 vf, .int .i64 vs, .int .u64 vp.1, .int .u64 vp.2] 28)) = W0 at *
      generalize w.heap.size = z at *
      have HZ := Lib.hid True.intro
      refine (awake_any _).mono ?_
      rintro e W1 ⟨rfl, k1⟩
      have K1 := Lib.hid (K0.out.trans k1)
      have B1 := Lib.hid (B0.out.kept k1)
      clear B0 
      obtain ⟨b1a, b1b, b1c, b1d, b1e⟩ := B1.out.five
      have b1l := B1.out.1
      have V1 := Lib.hid (V0.out.kept k1)
      clear V0 
      obtain ⟨v1a, v1b, v1c, v1d⟩ := V1.out.four
      have v1l := V1.out.1
      clear k1
      go_wp2_with fail
      refine (block_yes bs bf bp bt _ HB.out).mono ?_
      rintro e W2 ⟨bg, bc, rfl, br, k2⟩
      have K2 := Lib.hid (K1.out.trans k2)
      have B2 := Lib.hid (B1.out.kept k2)
      clear B1 b1a b1b b1c b1d b1e b1l
      obtain ⟨b2a, b2b, b2c, b2d, b2e⟩ := B2.out.five
      have b2l := B2.out.1
      have V2 := Lib.hid (V1.out.kept k2)
      clear V1 v1a v1b v1c v1d v1l
      obtain ⟨v2a, v2b, v2c, v2d⟩ := V2.out.four
      have v2l := V2.out.1
      clear k2
      clear br
      go_wp2_with fail
      refine (vote_no vs vf vp _ HV.out).mono ?_
      rintro e W3 ⟨vA, vc, rfl, vr, k3⟩
      have K3 := Lib.hid (K2.out.trans k3)
      have B3 := Lib.hid (B2.out.kept k3)
      clear B2 b2a b2b b2c b2d b2e b2l
      obtain ⟨b3a, b3b, b3c, b3d, b3e⟩ := B3.out.five
      have b3l := B3.out.1
      have V3 := Lib.hid (V2.out.kept k3)
      clear V2 v2a v2b v2c v2d v2l
      obtain ⟨v3a, v3b, v3c, v3d⟩ := V3.out.four
      have v3l := V3.out.1
      clear k3
      clear vr
      go_wp2_with fail
      go_ret
      exact ⟨rfl, K3.out⟩
    · by_cases hat : at' < 0
      · have HB := Lib.hid hb; have HV := Lib.hid hv
        clear hb hv
        go_enter Try.func5, Try.ntmps5
        go_wp2_with fail
        have B0 := Lib.hid (HasCells.new w #[.int .i64 bs, .int .i64 bf, .int .u64 bp.1, .int .u64 bp.2, .int .u64 bt] 26 (w.heap.size) (by simp))
        have V0 := Lib.hid (HasCells.new (w.alloc (.cells #[.int .i64 bs, .int .i64 bf, .int .u64 bp.1, .int .u64 bp.2, .int .u64 bt] 26)) #[.int .i64 vf, .int .i64 vs, .int .u64 vp.1, .int .u64 vp.2] 28 (w.heap.size + 1) (by simp))
        have B0 := Lib.hid (B0.out.alloc (.cells #[.int .i64 vf, .int .i64 vs, .int .u64 vp.1, .int .u64 vp.2] 28))
        have K0 := Lib.hid (show Kept w ((w.alloc (.cells #[.int .i64 bs, .int .i64 bf, .int .u64 bp.1, .int .u64 bp.2, .int .u64 bt] 26)).alloc (.cells #[.int .i64 vf, .int .i64 vs, .int .u64 vp.1, .int .u64 vp.2] 28)) from ((Kept.refl w).alloc _).alloc _)
        generalize ((w.alloc (.cells #[.int .i64 bs, .int .i64 bf, .int .u64 bp.1, .int .u64 bp.2, .int .u64 bt] 26)).alloc (.cells #[.int .i64 vf, .int .i64 vs, .int .u64 vp.1, .int .u64 vp.2] 28)) = W0 at *
        generalize w.heap.size = z at *
        have HZ := Lib.hid True.intro
        refine (awake_any _).mono ?_
        rintro e W1 ⟨rfl, k1⟩
        have K1 := Lib.hid (K0.out.trans k1)
        have B1 := Lib.hid (B0.out.kept k1)
        clear B0 
        obtain ⟨b1a, b1b, b1c, b1d, b1e⟩ := B1.out.five
        have b1l := B1.out.1
        have V1 := Lib.hid (V0.out.kept k1)
        clear V0 
        obtain ⟨v1a, v1b, v1c, v1d⟩ := V1.out.four
        have v1l := V1.out.1
        clear k1
        go_wp2_with fail
        refine (block_yes bs bf bp bt _ HB.out).mono ?_
        rintro e W2 ⟨bg, bc, rfl, br, k2⟩
        have K2 := Lib.hid (K1.out.trans k2)
        have B2 := Lib.hid (B1.out.kept k2)
        clear B1 b1a b1b b1c b1d b1e b1l
        obtain ⟨b2a, b2b, b2c, b2d, b2e⟩ := B2.out.five
        have b2l := B2.out.1
        have V2 := Lib.hid (V1.out.kept k2)
        clear V1 v1a v1b v1c v1d v1l
        obtain ⟨v2a, v2b, v2c, v2d⟩ := V2.out.four
        have v2l := V2.out.1
        clear k2
        clear br
        go_wp2_with fail
        refine (vote_yes vs vf vp _ HV.out).mono ?_
        rintro e W3 ⟨vg, vc, rfl, vr, k3⟩
        have K3 := Lib.hid (K2.out.trans k3)
        have B3 := Lib.hid (B2.out.kept k3)
        clear B2 b2a b2b b2c b2d b2e b2l
        obtain ⟨b3a, b3b, b3c, b3d, b3e⟩ := B3.out.five
        have b3l := B3.out.1
        have V3 := Lib.hid (V2.out.kept k3)
        clear V2 v2a v2b v2c v2d v2l
        obtain ⟨v3a, v3b, v3c, v3d⟩ := V3.out.four
        have v3l := V3.out.1
        clear k3
        clear vr
        go_wp2_with fail
        go_ret
        exact ⟨rfl, K3.out⟩
      · obtain ⟨k, rfl⟩ := Int.eq_ofNat_of_zero_le (show 0 ≤ at' by omega)
        by_cases k1 : k < 22
        · obtain ⟨bm, bn, rfl, rfl, b1, b2, b3⟩ := made_nat hb
          obtain ⟨vm, vn, rfl, rfl, v1, v2, v3⟩ := made_nat hv
          have NE := put_apart (m := bm) (n := bn) (p := bp) (t := bt) (m' := vm) (n' := vn) (p' := vp) (by omega) (by omega)
          have MB := Lib.hid (more_block (m := bm) (n := bn) (p := bp) (t := bt)); have MV := Lib.hid (more_vote (m := vm) (n := vn) (p := vp))
          have CB := Lib.hid (cut_block (m := bm) (n := bn) (p := bp) (t := bt) (k := k) (by omega))
          have CV := Lib.hid (cut_vote (m := vm) (n := vn) (p := vp) (k := k) (by omega))
          clear hb hv
          go_enter Try.func5, Try.ntmps5
          go_wp2_with fail
          have B0 := Lib.hid (HasCells.new w #[.int .i64 (bm : Nat), .int .i64 (bn : Nat), .int .u64 bp.1, .int .u64 bp.2, .int .u64 bt] 26 (w.heap.size) (by simp))
          have V0 := Lib.hid (HasCells.new (w.alloc (.cells #[.int .i64 (bm : Nat), .int .i64 (bn : Nat), .int .u64 bp.1, .int .u64 bp.2, .int .u64 bt] 26)) #[.int .i64 (vn : Nat), .int .i64 (vm : Nat), .int .u64 vp.1, .int .u64 vp.2] 28 (w.heap.size + 1) (by simp))
          have B0 := Lib.hid (B0.out.alloc (.cells #[.int .i64 (vn : Nat), .int .i64 (vm : Nat), .int .u64 vp.1, .int .u64 vp.2] 28))
          have K0 := Lib.hid (show Kept w ((w.alloc (.cells #[.int .i64 (bm : Nat), .int .i64 (bn : Nat), .int .u64 bp.1, .int .u64 bp.2, .int .u64 bt] 26)).alloc (.cells #[.int .i64 (vn : Nat), .int .i64 (vm : Nat), .int .u64 vp.1, .int .u64 vp.2] 28)) from ((Kept.refl w).alloc _).alloc _)
          generalize ((w.alloc (.cells #[.int .i64 (bm : Nat), .int .i64 (bn : Nat), .int .u64 bp.1, .int .u64 bp.2, .int .u64 bt] 26)).alloc (.cells #[.int .i64 (vn : Nat), .int .i64 (vm : Nat), .int .u64 vp.1, .int .u64 vp.2] 28)) = W0 at *
          generalize w.heap.size = z at *
          have HZ := Lib.hid True.intro
          refine (awake_any _).mono ?_
          rintro e W1 ⟨rfl, k1⟩
          have K1 := Lib.hid (K0.out.trans k1)
          have B1 := Lib.hid (B0.out.kept k1)
          clear B0 
          obtain ⟨b1a, b1b, b1c, b1d, b1e⟩ := B1.out.five
          have b1l := B1.out.1
          have V1 := Lib.hid (V0.out.kept k1)
          clear V0 
          obtain ⟨v1a, v1b, v1c, v1d⟩ := V1.out.four
          have v1l := V1.out.1
          clear k1
          go_wp2_with fail
          refine (block_made bm bn bp bt _ b1 b2 b3).mono ?_
          rintro e W2 ⟨bg, bc, rfl, br, k2⟩
          have K2 := Lib.hid (K1.out.trans k2)
          have B2 := Lib.hid (B1.out.kept k2)
          clear B1 b1a b1b b1c b1d b1e b1l
          obtain ⟨b2a, b2b, b2c, b2d, b2e⟩ := B2.out.five
          have b2l := B2.out.1
          have V2 := Lib.hid (V1.out.kept k2)
          clear V1 v1a v1b v1c v1d v1l
          obtain ⟨v2a, v2b, v2c, v2d⟩ := V2.out.four
          have v2l := V2.out.1
          clear k2
          have P2 := Lib.hid br
          clear br
          have bcl := P2.out.2.1.2.1
          go_wp2_with fail
          refine (vote_made vm vn vp _ v1 v2 v3).mono ?_
          rintro e W3 ⟨vg, vc, rfl, vr, k3⟩
          have K3 := Lib.hid (K2.out.trans k3)
          have B3 := Lib.hid (B2.out.kept k3)
          clear B2 b2a b2b b2c b2d b2e b2l
          obtain ⟨b3a, b3b, b3c, b3d, b3e⟩ := B3.out.five
          have b3l := B3.out.1
          have V3 := Lib.hid (V2.out.kept k3)
          clear V2 v2a v2b v2c v2d v2l
          obtain ⟨v3a, v3b, v3c, v3d⟩ := V3.out.four
          have v3l := V3.out.1
          have P3 := Lib.hid (P2.out.kept k3)
          clear P2
          clear k3
          have Q3 := Lib.hid vr
          clear vr
          have vcl := Q3.out.2.1.2.1
          go_wp2_with (first
            | (at_builtin
               refine wpList_bytes _ rfl (.const (.slice none 0 0)) (.tmp 55) rfl W3 [] (.slice none 0 0) rfl (Bytes.nil (Kept.refl _)) _ (some ⟨bg, 0, none⟩) 30 bc (blockL bm bn bp bt) rfl (by simp) (P3.out.kept (Kept.refl _)).cells (by simp) ?_
               intro aP waP baP
               rw [List.nil_append] at baP
               have HAP := Lib.hid baP
               clear baP)
            | (at_builtin
               refine wpList_bytes _ rfl (.tmp 56) (.tmp 57) rfl W3 (blockL bm bn bp bt) aP rfl (HAP.out.alloc _) _ (some ⟨waP.heap.size, 0, none⟩) 1 1 [0] rfl rfl (CellsAt.one waP _ _ _ rfl) (by simp) ?_
               intro cP wcP bcP
               have HCP := Lib.hid bcP
               clear bcP HAP))
          obtain ⟨AP, xP, eP, lP⟩ := HCP.out.lies (fun b hb => by
            rcases List.mem_append.1 hb with h | h
            · exact P3.out.2.1.2.2.1 b h
            · simp at h; omega)
          subst eP
          have HLP := Lib.hid lP
          have HKP := Lib.hid HCP.out.2
          clear lP HCP
          clear B3 V3 b3a b3b b3c b3d b3e b3l v3a v3b v3c v3d v3l
          refine (get_any _ _ _ _ _ (by simp) HLP.out).mono ?_
          rintro e W4 ⟨rfl, k4⟩
          rw [MB.out]
          unfold getV Got.none
          replace k4 := Kept.trans (Kept.refl _) (HKP.out.trans k4)
          clear HKP HLP
          have K4 := Lib.hid (K3.out.trans k4)
          have P4 := Lib.hid (P3.out.kept k4)
          clear P3
          have Q4 := Lib.hid (Q3.out.kept k4)
          clear Q3
          clear k4
          go_wp2_with (first
            | (at_builtin
               refine wpList_bytes _ rfl (.const (.slice none 0 0)) (.tmp 65) rfl ((W4.alloc (.cells #[.int .i64 0, .int .i64 0, .int .u64 0, .int .u64 0, .int .u64 0] 26)).alloc (.cells #[.int .i64 0, .int .i64 0, .int .u64 0, .int .u64 0] 28)) [] (.slice none 0 0) rfl (Bytes.nil (Kept.refl _)) _ (some ⟨vg, 0, none⟩) 22 vc (voteL vm vn vp) rfl (by simp) (Q4.out.kept (((Kept.refl _).alloc _).alloc _)).cells (by simp) ?_
               intro aQ waQ baQ
               rw [List.nil_append] at baQ
               have HAQ := Lib.hid baQ
               clear baQ)
            | (at_builtin
               refine wpList_bytes _ rfl (.tmp 66) (.tmp 67) rfl ((W4.alloc (.cells #[.int .i64 0, .int .i64 0, .int .u64 0, .int .u64 0, .int .u64 0] 26)).alloc (.cells #[.int .i64 0, .int .i64 0, .int .u64 0, .int .u64 0] 28)) (voteL vm vn vp) aQ rfl (HAQ.out.alloc _) _ (some ⟨waQ.heap.size, 0, none⟩) 1 1 [0] rfl rfl (CellsAt.one waQ _ _ _ rfl) (by simp) ?_
               intro cQ wcQ bcQ
               have HCQ := Lib.hid bcQ
               clear bcQ HAQ))
          obtain ⟨AQ, xQ, eQ, lQ⟩ := HCQ.out.lies (fun b hb => by
            rcases List.mem_append.1 hb with h | h
            · exact Q4.out.2.1.2.2.1 b h
            · simp at h; omega)
          subst eQ
          have HLQ := Lib.hid lQ
          have HKQ := Lib.hid HCQ.out.2
          clear lQ HCQ
          refine (get_any _ _ _ _ _ (by simp) HLQ.out).mono ?_
          rintro e W5 ⟨rfl, k5⟩
          rw [MV.out]
          unfold getV Got.none
          replace k5 := Kept.trans (((Kept.refl _).alloc _).alloc _) (HKQ.out.trans k5)
          clear HKQ HLQ
          have K5 := Lib.hid (K4.out.trans k5)
          have P5 := Lib.hid (P4.out.kept k5)
          clear P4
          have Q5 := Lib.hid (Q4.out.kept k5)
          clear Q4
          clear k5
          have GW : Kept W5 ((W5.alloc (.cells #[.int .i64 0, .int .i64 0, .int .u64 0, .int .u64 0, .int .u64 0] 26)).alloc (.cells #[.int .i64 0, .int .i64 0, .int .u64 0, .int .u64 0] 28)) := ((Kept.refl _).alloc _).alloc _
          have sP := run_str (P5.out.kept GW).2.1
          have sQ := run_str (Q5.out.kept GW).2.1
          go_wp2_with fail
          clear sP sQ
          refine (get_any _ _ _ _ _ (by omega) ((P5.out.kept (((Kept.refl _).alloc _).alloc _)).2.1.cut k (by omega))).mono ?_
          rintro e W6 ⟨rfl, k6⟩
          rw [CB.out]
          unfold getV Got.none
          replace k6 := Kept.trans (((Kept.refl _).alloc _).alloc _) k6
          have K6 := Lib.hid (K5.out.trans k6)
          have Q6 := Lib.hid (Q5.out.kept k6)
          clear k6 Q5
          go_wp2_with fail
          refine (get_any _ _ _ _ _ (by omega) ((Q6.out.kept (((Kept.refl _).alloc _).alloc _)).2.1.cut k (by omega))).mono ?_
          rintro e W7 ⟨rfl, k7⟩
          rw [CV.out]
          unfold getV Got.none
          replace k7 := Kept.trans (((Kept.refl _).alloc _).alloc _) k7
          have K7 := Lib.hid (K6.out.trans k7)
          clear k7
          go_wp2_with fail
          go_ret
          exact ⟨rfl, (K7.out.alloc _).alloc _⟩
        · by_cases k2 : k < 30
          · obtain ⟨bm, bn, rfl, rfl, b1, b2, b3⟩ := made_nat hb
            obtain ⟨vm, vn, rfl, rfl, v1, v2, v3⟩ := made_nat hv
            have NE := put_apart (m := bm) (n := bn) (p := bp) (t := bt) (m' := vm) (n' := vn) (p' := vp) (by omega) (by omega)
            have MB := Lib.hid (more_block (m := bm) (n := bn) (p := bp) (t := bt)); have MV := Lib.hid (more_vote (m := vm) (n := vn) (p := vp))
            have CB := Lib.hid (cut_block (m := bm) (n := bn) (p := bp) (t := bt) (k := k) (by omega))
            clear hb hv
            go_enter Try.func5, Try.ntmps5
            go_wp2_with fail
            have B0 := Lib.hid (HasCells.new w #[.int .i64 (bm : Nat), .int .i64 (bn : Nat), .int .u64 bp.1, .int .u64 bp.2, .int .u64 bt] 26 (w.heap.size) (by simp))
            have V0 := Lib.hid (HasCells.new (w.alloc (.cells #[.int .i64 (bm : Nat), .int .i64 (bn : Nat), .int .u64 bp.1, .int .u64 bp.2, .int .u64 bt] 26)) #[.int .i64 (vn : Nat), .int .i64 (vm : Nat), .int .u64 vp.1, .int .u64 vp.2] 28 (w.heap.size + 1) (by simp))
            have B0 := Lib.hid (B0.out.alloc (.cells #[.int .i64 (vn : Nat), .int .i64 (vm : Nat), .int .u64 vp.1, .int .u64 vp.2] 28))
            have K0 := Lib.hid (show Kept w ((w.alloc (.cells #[.int .i64 (bm : Nat), .int .i64 (bn : Nat), .int .u64 bp.1, .int .u64 bp.2, .int .u64 bt] 26)).alloc (.cells #[.int .i64 (vn : Nat), .int .i64 (vm : Nat), .int .u64 vp.1, .int .u64 vp.2] 28)) from ((Kept.refl w).alloc _).alloc _)
            generalize ((w.alloc (.cells #[.int .i64 (bm : Nat), .int .i64 (bn : Nat), .int .u64 bp.1, .int .u64 bp.2, .int .u64 bt] 26)).alloc (.cells #[.int .i64 (vn : Nat), .int .i64 (vm : Nat), .int .u64 vp.1, .int .u64 vp.2] 28)) = W0 at *
            generalize w.heap.size = z at *
            have HZ := Lib.hid True.intro
            refine (awake_any _).mono ?_
            rintro e W1 ⟨rfl, k1⟩
            have K1 := Lib.hid (K0.out.trans k1)
            have B1 := Lib.hid (B0.out.kept k1)
            clear B0 
            obtain ⟨b1a, b1b, b1c, b1d, b1e⟩ := B1.out.five
            have b1l := B1.out.1
            have V1 := Lib.hid (V0.out.kept k1)
            clear V0 
            obtain ⟨v1a, v1b, v1c, v1d⟩ := V1.out.four
            have v1l := V1.out.1
            clear k1
            go_wp2_with fail
            refine (block_made bm bn bp bt _ b1 b2 b3).mono ?_
            rintro e W2 ⟨bg, bc, rfl, br, k2⟩
            have K2 := Lib.hid (K1.out.trans k2)
            have B2 := Lib.hid (B1.out.kept k2)
            clear B1 b1a b1b b1c b1d b1e b1l
            obtain ⟨b2a, b2b, b2c, b2d, b2e⟩ := B2.out.five
            have b2l := B2.out.1
            have V2 := Lib.hid (V1.out.kept k2)
            clear V1 v1a v1b v1c v1d v1l
            obtain ⟨v2a, v2b, v2c, v2d⟩ := V2.out.four
            have v2l := V2.out.1
            clear k2
            have P2 := Lib.hid br
            clear br
            have bcl := P2.out.2.1.2.1
            go_wp2_with fail
            refine (vote_made vm vn vp _ v1 v2 v3).mono ?_
            rintro e W3 ⟨vg, vc, rfl, vr, k3⟩
            have K3 := Lib.hid (K2.out.trans k3)
            have B3 := Lib.hid (B2.out.kept k3)
            clear B2 b2a b2b b2c b2d b2e b2l
            obtain ⟨b3a, b3b, b3c, b3d, b3e⟩ := B3.out.five
            have b3l := B3.out.1
            have V3 := Lib.hid (V2.out.kept k3)
            clear V2 v2a v2b v2c v2d v2l
            obtain ⟨v3a, v3b, v3c, v3d⟩ := V3.out.four
            have v3l := V3.out.1
            have P3 := Lib.hid (P2.out.kept k3)
            clear P2
            clear k3
            have Q3 := Lib.hid vr
            clear vr
            have vcl := Q3.out.2.1.2.1
            go_wp2_with (first
              | (at_builtin
                 refine wpList_bytes _ rfl (.const (.slice none 0 0)) (.tmp 55) rfl W3 [] (.slice none 0 0) rfl (Bytes.nil (Kept.refl _)) _ (some ⟨bg, 0, none⟩) 30 bc (blockL bm bn bp bt) rfl (by simp) (P3.out.kept (Kept.refl _)).cells (by simp) ?_
                 intro aP waP baP
                 rw [List.nil_append] at baP
                 have HAP := Lib.hid baP
                 clear baP)
              | (at_builtin
                 refine wpList_bytes _ rfl (.tmp 56) (.tmp 57) rfl W3 (blockL bm bn bp bt) aP rfl (HAP.out.alloc _) _ (some ⟨waP.heap.size, 0, none⟩) 1 1 [0] rfl rfl (CellsAt.one waP _ _ _ rfl) (by simp) ?_
                 intro cP wcP bcP
                 have HCP := Lib.hid bcP
                 clear bcP HAP))
            obtain ⟨AP, xP, eP, lP⟩ := HCP.out.lies (fun b hb => by
              rcases List.mem_append.1 hb with h | h
              · exact P3.out.2.1.2.2.1 b h
              · simp at h; omega)
            subst eP
            have HLP := Lib.hid lP
            have HKP := Lib.hid HCP.out.2
            clear lP HCP
            clear B3 V3 b3a b3b b3c b3d b3e b3l v3a v3b v3c v3d v3l
            refine (get_any _ _ _ _ _ (by simp) HLP.out).mono ?_
            rintro e W4 ⟨rfl, k4⟩
            rw [MB.out]
            unfold getV Got.none
            replace k4 := Kept.trans (Kept.refl _) (HKP.out.trans k4)
            clear HKP HLP
            have K4 := Lib.hid (K3.out.trans k4)
            have P4 := Lib.hid (P3.out.kept k4)
            clear P3
            have Q4 := Lib.hid (Q3.out.kept k4)
            clear Q3
            clear k4
            go_wp2_with (first
              | (at_builtin
                 refine wpList_bytes _ rfl (.const (.slice none 0 0)) (.tmp 65) rfl ((W4.alloc (.cells #[.int .i64 0, .int .i64 0, .int .u64 0, .int .u64 0, .int .u64 0] 26)).alloc (.cells #[.int .i64 0, .int .i64 0, .int .u64 0, .int .u64 0] 28)) [] (.slice none 0 0) rfl (Bytes.nil (Kept.refl _)) _ (some ⟨vg, 0, none⟩) 22 vc (voteL vm vn vp) rfl (by simp) (Q4.out.kept (((Kept.refl _).alloc _).alloc _)).cells (by simp) ?_
                 intro aQ waQ baQ
                 rw [List.nil_append] at baQ
                 have HAQ := Lib.hid baQ
                 clear baQ)
              | (at_builtin
                 refine wpList_bytes _ rfl (.tmp 66) (.tmp 67) rfl ((W4.alloc (.cells #[.int .i64 0, .int .i64 0, .int .u64 0, .int .u64 0, .int .u64 0] 26)).alloc (.cells #[.int .i64 0, .int .i64 0, .int .u64 0, .int .u64 0] 28)) (voteL vm vn vp) aQ rfl (HAQ.out.alloc _) _ (some ⟨waQ.heap.size, 0, none⟩) 1 1 [0] rfl rfl (CellsAt.one waQ _ _ _ rfl) (by simp) ?_
                 intro cQ wcQ bcQ
                 have HCQ := Lib.hid bcQ
                 clear bcQ HAQ))
            obtain ⟨AQ, xQ, eQ, lQ⟩ := HCQ.out.lies (fun b hb => by
              rcases List.mem_append.1 hb with h | h
              · exact Q4.out.2.1.2.2.1 b h
              · simp at h; omega)
            subst eQ
            have HLQ := Lib.hid lQ
            have HKQ := Lib.hid HCQ.out.2
            clear lQ HCQ
            refine (get_any _ _ _ _ _ (by simp) HLQ.out).mono ?_
            rintro e W5 ⟨rfl, k5⟩
            rw [MV.out]
            unfold getV Got.none
            replace k5 := Kept.trans (((Kept.refl _).alloc _).alloc _) (HKQ.out.trans k5)
            clear HKQ HLQ
            have K5 := Lib.hid (K4.out.trans k5)
            have P5 := Lib.hid (P4.out.kept k5)
            clear P4
            have Q5 := Lib.hid (Q4.out.kept k5)
            clear Q4
            clear k5
            have GW : Kept W5 ((W5.alloc (.cells #[.int .i64 0, .int .i64 0, .int .u64 0, .int .u64 0, .int .u64 0] 26)).alloc (.cells #[.int .i64 0, .int .i64 0, .int .u64 0, .int .u64 0] 28)) := ((Kept.refl _).alloc _).alloc _
            have sP := run_str (P5.out.kept GW).2.1
            have sQ := run_str (Q5.out.kept GW).2.1
            go_wp2_with fail
            clear sP sQ
            refine (get_any _ _ _ _ _ (by omega) ((P5.out.kept (((Kept.refl _).alloc _).alloc _)).2.1.cut k (by omega))).mono ?_
            rintro e W6 ⟨rfl, k6⟩
            rw [CB.out]
            unfold getV Got.none
            replace k6 := Kept.trans (((Kept.refl _).alloc _).alloc _) k6
            have K6 := Lib.hid (K5.out.trans k6)
            have Q6 := Lib.hid (Q5.out.kept k6)
            clear k6 Q5
            go_wp2_with fail
            go_ret
            exact ⟨rfl, (K6.out.alloc _).alloc _⟩
          · obtain ⟨bm, bn, rfl, rfl, b1, b2, b3⟩ := made_nat hb
            obtain ⟨vm, vn, rfl, rfl, v1, v2, v3⟩ := made_nat hv
            have NE := put_apart (m := bm) (n := bn) (p := bp) (t := bt) (m' := vm) (n' := vn) (p' := vp) (by omega) (by omega)
            have MB := Lib.hid (more_block (m := bm) (n := bn) (p := bp) (t := bt)); have MV := Lib.hid (more_vote (m := vm) (n := vn) (p := vp))
            clear hb hv
            go_enter Try.func5, Try.ntmps5
            go_wp2_with fail
            have B0 := Lib.hid (HasCells.new w #[.int .i64 (bm : Nat), .int .i64 (bn : Nat), .int .u64 bp.1, .int .u64 bp.2, .int .u64 bt] 26 (w.heap.size) (by simp))
            have V0 := Lib.hid (HasCells.new (w.alloc (.cells #[.int .i64 (bm : Nat), .int .i64 (bn : Nat), .int .u64 bp.1, .int .u64 bp.2, .int .u64 bt] 26)) #[.int .i64 (vn : Nat), .int .i64 (vm : Nat), .int .u64 vp.1, .int .u64 vp.2] 28 (w.heap.size + 1) (by simp))
            have B0 := Lib.hid (B0.out.alloc (.cells #[.int .i64 (vn : Nat), .int .i64 (vm : Nat), .int .u64 vp.1, .int .u64 vp.2] 28))
            have K0 := Lib.hid (show Kept w ((w.alloc (.cells #[.int .i64 (bm : Nat), .int .i64 (bn : Nat), .int .u64 bp.1, .int .u64 bp.2, .int .u64 bt] 26)).alloc (.cells #[.int .i64 (vn : Nat), .int .i64 (vm : Nat), .int .u64 vp.1, .int .u64 vp.2] 28)) from ((Kept.refl w).alloc _).alloc _)
            generalize ((w.alloc (.cells #[.int .i64 (bm : Nat), .int .i64 (bn : Nat), .int .u64 bp.1, .int .u64 bp.2, .int .u64 bt] 26)).alloc (.cells #[.int .i64 (vn : Nat), .int .i64 (vm : Nat), .int .u64 vp.1, .int .u64 vp.2] 28)) = W0 at *
            generalize w.heap.size = z at *
            have HZ := Lib.hid True.intro
            refine (awake_any _).mono ?_
            rintro e W1 ⟨rfl, k1⟩
            have K1 := Lib.hid (K0.out.trans k1)
            have B1 := Lib.hid (B0.out.kept k1)
            clear B0 
            obtain ⟨b1a, b1b, b1c, b1d, b1e⟩ := B1.out.five
            have b1l := B1.out.1
            have V1 := Lib.hid (V0.out.kept k1)
            clear V0 
            obtain ⟨v1a, v1b, v1c, v1d⟩ := V1.out.four
            have v1l := V1.out.1
            clear k1
            go_wp2_with fail
            refine (block_made bm bn bp bt _ b1 b2 b3).mono ?_
            rintro e W2 ⟨bg, bc, rfl, br, k2⟩
            have K2 := Lib.hid (K1.out.trans k2)
            have B2 := Lib.hid (B1.out.kept k2)
            clear B1 b1a b1b b1c b1d b1e b1l
            obtain ⟨b2a, b2b, b2c, b2d, b2e⟩ := B2.out.five
            have b2l := B2.out.1
            have V2 := Lib.hid (V1.out.kept k2)
            clear V1 v1a v1b v1c v1d v1l
            obtain ⟨v2a, v2b, v2c, v2d⟩ := V2.out.four
            have v2l := V2.out.1
            clear k2
            have P2 := Lib.hid br
            clear br
            have bcl := P2.out.2.1.2.1
            go_wp2_with fail
            refine (vote_made vm vn vp _ v1 v2 v3).mono ?_
            rintro e W3 ⟨vg, vc, rfl, vr, k3⟩
            have K3 := Lib.hid (K2.out.trans k3)
            have B3 := Lib.hid (B2.out.kept k3)
            clear B2 b2a b2b b2c b2d b2e b2l
            obtain ⟨b3a, b3b, b3c, b3d, b3e⟩ := B3.out.five
            have b3l := B3.out.1
            have V3 := Lib.hid (V2.out.kept k3)
            clear V2 v2a v2b v2c v2d v2l
            obtain ⟨v3a, v3b, v3c, v3d⟩ := V3.out.four
            have v3l := V3.out.1
            have P3 := Lib.hid (P2.out.kept k3)
            clear P2
            clear k3
            have Q3 := Lib.hid vr
            clear vr
            have vcl := Q3.out.2.1.2.1
            go_wp2_with (first
              | (at_builtin
                 refine wpList_bytes _ rfl (.const (.slice none 0 0)) (.tmp 55) rfl W3 [] (.slice none 0 0) rfl (Bytes.nil (Kept.refl _)) _ (some ⟨bg, 0, none⟩) 30 bc (blockL bm bn bp bt) rfl (by simp) (P3.out.kept (Kept.refl _)).cells (by simp) ?_
                 intro aP waP baP
                 rw [List.nil_append] at baP
                 have HAP := Lib.hid baP
                 clear baP)
              | (at_builtin
                 refine wpList_bytes _ rfl (.tmp 56) (.tmp 57) rfl W3 (blockL bm bn bp bt) aP rfl (HAP.out.alloc _) _ (some ⟨waP.heap.size, 0, none⟩) 1 1 [0] rfl rfl (CellsAt.one waP _ _ _ rfl) (by simp) ?_
                 intro cP wcP bcP
                 have HCP := Lib.hid bcP
                 clear bcP HAP))
            obtain ⟨AP, xP, eP, lP⟩ := HCP.out.lies (fun b hb => by
              rcases List.mem_append.1 hb with h | h
              · exact P3.out.2.1.2.2.1 b h
              · simp at h; omega)
            subst eP
            have HLP := Lib.hid lP
            have HKP := Lib.hid HCP.out.2
            clear lP HCP
            clear B3 V3 b3a b3b b3c b3d b3e b3l v3a v3b v3c v3d v3l
            refine (get_any _ _ _ _ _ (by simp) HLP.out).mono ?_
            rintro e W4 ⟨rfl, k4⟩
            rw [MB.out]
            unfold getV Got.none
            replace k4 := Kept.trans (Kept.refl _) (HKP.out.trans k4)
            clear HKP HLP
            have K4 := Lib.hid (K3.out.trans k4)
            have P4 := Lib.hid (P3.out.kept k4)
            clear P3
            have Q4 := Lib.hid (Q3.out.kept k4)
            clear Q3
            clear k4
            go_wp2_with (first
              | (at_builtin
                 refine wpList_bytes _ rfl (.const (.slice none 0 0)) (.tmp 65) rfl ((W4.alloc (.cells #[.int .i64 0, .int .i64 0, .int .u64 0, .int .u64 0, .int .u64 0] 26)).alloc (.cells #[.int .i64 0, .int .i64 0, .int .u64 0, .int .u64 0] 28)) [] (.slice none 0 0) rfl (Bytes.nil (Kept.refl _)) _ (some ⟨vg, 0, none⟩) 22 vc (voteL vm vn vp) rfl (by simp) (Q4.out.kept (((Kept.refl _).alloc _).alloc _)).cells (by simp) ?_
                 intro aQ waQ baQ
                 rw [List.nil_append] at baQ
                 have HAQ := Lib.hid baQ
                 clear baQ)
              | (at_builtin
                 refine wpList_bytes _ rfl (.tmp 66) (.tmp 67) rfl ((W4.alloc (.cells #[.int .i64 0, .int .i64 0, .int .u64 0, .int .u64 0, .int .u64 0] 26)).alloc (.cells #[.int .i64 0, .int .i64 0, .int .u64 0, .int .u64 0] 28)) (voteL vm vn vp) aQ rfl (HAQ.out.alloc _) _ (some ⟨waQ.heap.size, 0, none⟩) 1 1 [0] rfl rfl (CellsAt.one waQ _ _ _ rfl) (by simp) ?_
                 intro cQ wcQ bcQ
                 have HCQ := Lib.hid bcQ
                 clear bcQ HAQ))
            obtain ⟨AQ, xQ, eQ, lQ⟩ := HCQ.out.lies (fun b hb => by
              rcases List.mem_append.1 hb with h | h
              · exact Q4.out.2.1.2.2.1 b h
              · simp at h; omega)
            subst eQ
            have HLQ := Lib.hid lQ
            have HKQ := Lib.hid HCQ.out.2
            clear lQ HCQ
            refine (get_any _ _ _ _ _ (by simp) HLQ.out).mono ?_
            rintro e W5 ⟨rfl, k5⟩
            rw [MV.out]
            unfold getV Got.none
            replace k5 := Kept.trans (((Kept.refl _).alloc _).alloc _) (HKQ.out.trans k5)
            clear HKQ HLQ
            have K5 := Lib.hid (K4.out.trans k5)
            have P5 := Lib.hid (P4.out.kept k5)
            clear P4
            have Q5 := Lib.hid (Q4.out.kept k5)
            clear Q4
            clear k5
            have GW : Kept W5 ((W5.alloc (.cells #[.int .i64 0, .int .i64 0, .int .u64 0, .int .u64 0, .int .u64 0] 26)).alloc (.cells #[.int .i64 0, .int .i64 0, .int .u64 0, .int .u64 0] 28)) := ((Kept.refl _).alloc _).alloc _
            have sP := run_str (P5.out.kept GW).2.1
            have sQ := run_str (Q5.out.kept GW).2.1
            go_wp2_with fail
            go_ret
            exact ⟨rfl, (K5.out.alloc _).alloc _⟩

/-! ### The row's step -/
set_option maxRecDepth 100000 in
theorem lifted (os : Os) (started : os.Started) (H : Type) (enc : TypeId × Value → H) :
    ReturnsInHanded {} Try.checked os 5 .any (Rows.wireCutSpec.pre6 enc Try.prog Try.f5 Rows.wireCutRow.domain false) (Rows.wireCutSpec.post enc Try.prog Try.f5 false true false false) := by
  refine returnsInHanded_of_change (C := Try.checked) own started (by kernel_rfl) Try.func5
    (ChangeSpec.witness6 (enc := enc) (C := Try.checked) false ⟨#[], #[.agg #[.int .i64 0, .int .i64 0, .int .u64 0, .int .u64 0, .int .u64 0], .agg #[.int .i64 0, .int .i64 0, .int .u64 0, .int .u64 0], .int .i64 0], []⟩ 8 (by kernel_rfl) (by kernel_rfl) (by kernel_rfl) (by kernel_rfl)) ?_
  intro W base args ds gs before hval0 hW hcnd _
  have hval : ∀ (j : Nat) t v, Try.f5.params[j]? = some t → args[j]? = some v → Value.okWide Try.prog W .any base t v := hval0
  have hW' := hW
  obtain ⟨p, q, hA0, hV, rfl, hfz, hnd⟩ := hW
  have hA : DataW.TrodAll enc Try.prog W 0 (fun _ => true) true Try.f5.params.toList args.toList ds p := hA0
  rw [Try.params5] at hA hval
  obtain ⟨v0, vs0, d0, ds0, p0, q0, hargs, rfl, rfl, h0, r0⟩ := trodAll_cons hA
  obtain ⟨v1, vs1, d1, ds1, p1, q1, rfl, rfl, rfl, h1, r1⟩ := trodAll_cons r0
  obtain ⟨v2, vs2, d2, ds2, p2, q2, rfl, rfl, rfl, h2, r2⟩ := trodAll_cons r1
  obtain ⟨rfl, rfl, rfl⟩ := trodAll_nil r2
  obtain rfl : args = #[v0, v1, v2] := by cases args; simp_all
  obtain ⟨rfl, rfl⟩ := trodVars_none hV
  obtain ⟨bs, bf, bp, bt, rfl, hb1, hb2, hb3⟩ := open_block (hval 0 _ v0 rfl rfl) h0
  obtain ⟨vf, vs, vp, rfl, hv1, hv2⟩ := open_vote (hval 1 _ v1 rfl rfl) h1
  obtain ⟨at', rfl, hat'1, hat'2⟩ := open_num (hval 2 _ v2 rfl rfl) h2
  clear hA0 hval0
  refine (walk W bs bf bp bt hb1 hb2 hb3 vf vs vp hv1 hv2 at' hat'1 hat'2).mono fun e W' ⟨he, hb⟩ => ?_
  subst he
  exact ⟨_, rfl, law_post rfl (by kernel_rfl) rfl hW' rfl hb⟩

theorem over : Rows.wireCutRow.holds Try.pinned (OpenSpec.ofChange Rows.wireCutSpec) :=
  OpenClaim.holds_of_wide 5 Try.f5 rfl rfl rfl rfl rfl rfl rfl ⟨rfl, rfl, rfl, rfl, rfl⟩ rfl rfl rfl rfl rfl (by kernel_rfl) Try.func5 (by kernel_rfl)
    (of_decide_eq_true (by kernel_rfl)) (by unfold Func.isWrapper; first | (rw [if_pos (by decide +kernel)]; kernel_rfl) | (rw [if_neg (by decide +kernel)]; exact ⟨rfl, rfl⟩))
    (fun os started H enc _ => lifted os started H enc)

/-- The statement. -/
theorem proved : Rows.WireCutSaid :=
  over
#print axioms proved
end Go.Proofs.Ytfbjiepnhfgmfaa.wireCut
