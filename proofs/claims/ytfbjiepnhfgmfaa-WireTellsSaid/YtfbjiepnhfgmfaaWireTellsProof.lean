/-
  For all blocks b, votes v and lists of bytes x marigoldlaw03.WireTells returns true and leaves its arguments as they were: no further condition.
-/
import Derived.Test.YtfbjiepnhfgmfaaWireRefGot
namespace Go.Proofs.Ytfbjiepnhfgmfaa.wireTells
open Go.ChangeShapes Go.WideShapes Go.ChangeAt Go.RowKit
set_option linter.unusedVariables false

/-- A call that returns bytes, wherever they lie, and an error's number. -/
def PutLies (W : World) (k n : Nat) (l : List Nat) (e : Ending) (w : World) : Prop := ∃ (A : Option Addr) (c : Nat), e = .returned (.tuple #[.slice A n c, .int .i64 k]) ∧ Lies w l A n c ∧ Kept W w
theorem PutEnd.any {W w : World} {r : Nat × List Nat} {e : Ending} {k n : Nat} {l : List Nat} (h : PutEnd W r e w) (hr : r = (k, l)) (hn : l.length = n) (hb : ∀ b ∈ r.2, b < 256) : PutLies W k n l e w := by
  subst hr hn
  obtain ⟨v, rfl, B⟩ := h
  obtain ⟨A, c, rfl, L⟩ := B.lies hb
  exact ⟨A, c, rfl, L, B.2⟩
/-! ### The walk: the call returns true, and of what was there nothing has changed. -/
attribute [local go_sem high] eqBlock eqVote in
set_option maxRecDepth 100000 in
set_option maxHeartbeats 4000000 in
theorem walk (w : World) (bs bf : Int) (bp : Nat × Nat) (bt : Nat) (hb1 : bp.1 < 18446744073709551616) (hb2 : bp.2 < 18446744073709551616) (hb3 : bt < 18446744073709551616) (vf vs : Int) (vp : Nat × Nat) (hv1 : vp.1 < 18446744073709551616) (hv2 : vp.2 < 18446744073709551616) (xA : Option Addr) (xn xc : Nat) (x : List Nat) (xhm : xn ≤ maxLen) (xhl : Lies w x xA xn xc) :
    Calls Try.prog 3 #[.agg #[.int .i64 bs, .int .i64 bf, .int .u64 bp.1, .int .u64 bp.2, .int .u64 bt], .agg #[.int .i64 vf, .int .i64 vs, .int .u64 vp.1, .int .u64 vp.2], .slice xA xn xc] w fun e w' => e = .returned (.bool true) ∧ Kept w w' := by
  unfold maxLen at xhm
  by_cases hn : xn ≤ 100
  · obtain ⟨k1, l1, r1⟩ : ∃ k l, blockPut bs bf bp bt = (k, l) := ⟨_, _, rfl⟩
    obtain ⟨k2, l2, r2⟩ : ∃ k l, votePut vs vf vp = (k, l) := ⟨_, _, rfl⟩
    obtain ⟨n1, hn1⟩ : ∃ n, l1.length = n := ⟨_, rfl⟩
    obtain ⟨n2, hn2⟩ : ∃ n, l2.length = n := ⟨_, rfl⟩
    have p1 := blockPut_lt bs bf bp bt
    have p2 := votePut_lt vs vf vp
    have q1 := p1.2; have q2 := p2.2
    rw [r1] at q1; rw [r2] at q2
    simp only [hn1] at q1; simp only [hn2] at q2
    have R1 := Lib.hid r1; have R2 := Lib.hid r2; have N1 := Lib.hid hn1; have N2 := Lib.hid hn2; have P1 := Lib.hid p1.1; have P2 := Lib.hid p2.1
    obtain ⟨G, hG⟩ : ∃ G, getN x = G := ⟨_, rfl⟩
    have HG := Lib.hid hG
    have XL := Lib.hid xhl
    clear r1 r2 hn1 hn2 p1 p2 hG xhl xhm
    obtain ⟨g1, g2, g3, g4, g5, g6, g7, g8, g9⟩ := G
    go_enter Try.func3, Try.ntmps3
    go_wp2_with fail
    have B0 := Lib.hid (HasCells.new w #[.int .i64 bs, .int .i64 bf, .int .u64 bp.1, .int .u64 bp.2, .int .u64 bt] 26 (w.heap.size) (by simp))
    have V0 := Lib.hid (HasCells.new (w.alloc (.cells #[.int .i64 bs, .int .i64 bf, .int .u64 bp.1, .int .u64 bp.2, .int .u64 bt] 26)) #[.int .i64 vf, .int .i64 vs, .int .u64 vp.1, .int .u64 vp.2] 28 (w.heap.size + 1) (by simp))
    have B0 := Lib.hid (B0.out.alloc (.cells #[.int .i64 vf, .int .i64 vs, .int .u64 vp.1, .int .u64 vp.2] 28))
    have K0 := Lib.hid (show Kept w ((w.alloc (.cells #[.int .i64 bs, .int .i64 bf, .int .u64 bp.1, .int .u64 bp.2, .int .u64 bt] 26)).alloc (.cells #[.int .i64 vf, .int .i64 vs, .int .u64 vp.1, .int .u64 vp.2] 28)) from ((Kept.refl w).alloc _).alloc _)
    have X0 := Lib.hid (XL.out.kept K0.out)
    clear XL
    generalize ((w.alloc (.cells #[.int .i64 bs, .int .i64 bf, .int .u64 bp.1, .int .u64 bp.2, .int .u64 bt] 26)).alloc (.cells #[.int .i64 vf, .int .i64 vs, .int .u64 vp.1, .int .u64 vp.2] 28)) = W0 at *
    generalize w.heap.size = z at *
    have HZ := Lib.hid True.intro
    refine (awake_any _).mono ?_
    rintro e W1 ⟨rfl, k1⟩
    have K1 := Lib.hid (K0.out.trans k1)
    have B1 := Lib.hid (B0.out.kept k1)
    clear B0 
    obtain ⟨b1a, b1b, b1c, b1d, b1e⟩ := B1.out.five
    have b1l := B1.out.1
    have V1 := Lib.hid (V0.out.kept k1)
    clear V0 
    obtain ⟨v1a, v1b, v1c, v1d⟩ := V1.out.four
    have v1l := V1.out.1
    have X1 := Lib.hid (X0.out.kept k1)
    clear X0
    clear k1
    go_wp2_with fail
    refine ((block_any bs bf bp bt _).mono fun e w' h => PutEnd.any h R1.out N1.out P1.out).mono ?_
    rintro e W2 ⟨pA, pc, rfl, pL, k2⟩
    have K2 := Lib.hid (K1.out.trans k2)
    have B2 := Lib.hid (B1.out.kept k2)
    clear B1 b1a b1b b1c b1d b1e b1l
    obtain ⟨b2a, b2b, b2c, b2d, b2e⟩ := B2.out.five
    have b2l := B2.out.1
    have V2 := Lib.hid (V1.out.kept k2)
    clear V1 v1a v1b v1c v1d v1l
    obtain ⟨v2a, v2b, v2c, v2d⟩ := V2.out.four
    have v2l := V2.out.1
    have X2 := Lib.hid (X1.out.kept k2)
    clear X1
    clear k2
    have P2 := Lib.hid pL
    clear pL
    go_wp2_with fail
    refine ((refBlock_any bs bf bp bt _ hb1 hb2 hb3).mono fun e w' h => PutEnd.any h R1.out N1.out P1.out).mono ?_
    rintro e W3 ⟨qA, qc, rfl, qL, k3⟩
    have K3 := Lib.hid (K2.out.trans k3)
    have B3 := Lib.hid (B2.out.kept k3)
    clear B2 b2a b2b b2c b2d b2e b2l
    obtain ⟨b3a, b3b, b3c, b3d, b3e⟩ := B3.out.five
    have b3l := B3.out.1
    have V3 := Lib.hid (V2.out.kept k3)
    clear V2 v2a v2b v2c v2d v2l
    obtain ⟨v3a, v3b, v3c, v3d⟩ := V3.out.four
    have v3l := V3.out.1
    have X3 := Lib.hid (X2.out.kept k3)
    clear X2
    have P3 := Lib.hid (P2.out.kept k3)
    clear P2
    clear k3
    have Q3 := Lib.hid qL
    clear qL
    go_wp2_with fail
    refine ((vote_any vs vf vp _).mono fun e w' h => PutEnd.any h R2.out N2.out P2.out).mono ?_
    rintro e W4 ⟨rA, rc, rfl, rL, k4⟩
    have K4 := Lib.hid (K3.out.trans k4)
    have B4 := Lib.hid (B3.out.kept k4)
    clear B3 b3a b3b b3c b3d b3e b3l
    obtain ⟨b4a, b4b, b4c, b4d, b4e⟩ := B4.out.five
    have b4l := B4.out.1
    have V4 := Lib.hid (V3.out.kept k4)
    clear V3 v3a v3b v3c v3d v3l
    obtain ⟨v4a, v4b, v4c, v4d⟩ := V4.out.four
    have v4l := V4.out.1
    have X4 := Lib.hid (X3.out.kept k4)
    clear X3
    have P4 := Lib.hid (P3.out.kept k4)
    clear P3
    have Q4 := Lib.hid (Q3.out.kept k4)
    clear Q3
    clear k4
    have R4 := Lib.hid rL
    clear rL
    go_wp2_with fail
    refine ((refVote_any vs vf vp _ hv1 hv2).mono fun e w' h => PutEnd.any h R2.out N2.out P2.out).mono ?_
    rintro e W5 ⟨sA, sc, rfl, sL, k5⟩
    have K5 := Lib.hid (K4.out.trans k5)
    have B5 := Lib.hid (B4.out.kept k5)
    clear B4 b4a b4b b4c b4d b4e b4l
    obtain ⟨b5a, b5b, b5c, b5d, b5e⟩ := B5.out.five
    have b5l := B5.out.1
    have V5 := Lib.hid (V4.out.kept k5)
    clear V4 v4a v4b v4c v4d v4l
    obtain ⟨v5a, v5b, v5c, v5d⟩ := V5.out.four
    have v5l := V5.out.1
    have X5 := Lib.hid (X4.out.kept k5)
    clear X4
    have P5 := Lib.hid (P4.out.kept k5)
    clear P4
    have Q5 := Lib.hid (Q4.out.kept k5)
    clear Q4
    have R5 := Lib.hid (R4.out.kept k5)
    clear R4
    clear k5
    have S5 := Lib.hid sL
    clear sL
    go_wp2_with fail
    refine (get_any _ _ _ _ _ (by omega) X5.out).mono ?_
    rintro e W6 ⟨rfl, k6⟩
    rw [HG.out]
    unfold getV
    have K6 := Lib.hid (K5.out.trans k6)
    have B6 := Lib.hid (B5.out.kept k6)
    clear B5 b5a b5b b5c b5d b5e b5l
    obtain ⟨b6a, b6b, b6c, b6d, b6e⟩ := B6.out.five
    have b6l := B6.out.1
    have V6 := Lib.hid (V5.out.kept k6)
    clear V5 v5a v5b v5c v5d v5l
    obtain ⟨v6a, v6b, v6c, v6d⟩ := V6.out.four
    have v6l := V6.out.1
    have X6 := Lib.hid (X5.out.kept k6)
    clear X5
    have P6 := Lib.hid (P5.out.kept k6)
    clear P5
    have Q6 := Lib.hid (Q5.out.kept k6)
    clear Q5
    have R6 := Lib.hid (R5.out.kept k6)
    clear R5
    have S6 := Lib.hid (S5.out.kept k6)
    clear S5
    clear k6
    have C0 := Lib.hid ((HasCells.new W6 #[.int .i64 (g1 : Nat), .int .i64 (g2 : Nat), .int .u64 g3.1, .int .u64 g3.2, .int .u64 (g4 : Nat)] 26 W6.heap.size rfl).alloc (.cells #[.int .i64 (g5 : Nat), .int .i64 (g6 : Nat), .int .u64 g7.1, .int .u64 g7.2] 28))
    have D0 := Lib.hid (HasCells.new (W6.alloc (.cells #[.int .i64 (g1 : Nat), .int .i64 (g2 : Nat), .int .u64 g3.1, .int .u64 g3.2, .int .u64 (g4 : Nat)] 26)) #[.int .i64 (g5 : Nat), .int .i64 (g6 : Nat), .int .u64 g7.1, .int .u64 g7.2] 28 (W6.heap.size + 1) (by simp))
    clear B6 V6 b6a b6b b6c b6d b6e b6l v6a v6b v6c v6d v6l
    go_wp2_with fail
    refine (refGet_any _ _ _ _ _ (by omega) (X6.out.kept (((Kept.refl _).alloc _).alloc _))).mono ?_
    rintro e W7 ⟨rfl, k7⟩
    rw [HG.out]
    unfold getV
    have C1 := Lib.hid (C0.out.kept k7)
    have D1 := Lib.hid (D0.out.kept k7)
    replace k7 := Kept.trans (((Kept.refl _).alloc _).alloc _) k7
    have K7 := Lib.hid (K6.out.trans k7)
    clear C0 D0
    obtain ⟨c0, c1, c2, c3, c4⟩ := C1.out.five
    obtain ⟨d0, d1, d2, d3⟩ := D1.out.four
    have cl := C1.out.1
    have dl := D1.out.1
    have strP := run_str ((P6.out.kept k7).kept (((Kept.refl W7).alloc (.cells #[.int .i64 (g1 : Nat), .int .i64 (g2 : Nat), .int .u64 g3.1, .int .u64 g3.2, .int .u64 (g4 : Nat)] 26)).alloc (.cells #[.int .i64 (g5 : Nat), .int .i64 (g6 : Nat), .int .u64 g7.1, .int .u64 g7.2] 28)))
    clear P6
    have strQ := run_str ((Q6.out.kept k7).kept (((Kept.refl W7).alloc (.cells #[.int .i64 (g1 : Nat), .int .i64 (g2 : Nat), .int .u64 g3.1, .int .u64 g3.2, .int .u64 (g4 : Nat)] 26)).alloc (.cells #[.int .i64 (g5 : Nat), .int .i64 (g6 : Nat), .int .u64 g7.1, .int .u64 g7.2] 28)))
    clear Q6
    have strR := run_str ((R6.out.kept k7).kept (((Kept.refl W7).alloc (.cells #[.int .i64 (g1 : Nat), .int .i64 (g2 : Nat), .int .u64 g3.1, .int .u64 g3.2, .int .u64 (g4 : Nat)] 26)).alloc (.cells #[.int .i64 (g5 : Nat), .int .i64 (g6 : Nat), .int .u64 g7.1, .int .u64 g7.2] 28)))
    clear R6
    have strS := run_str ((S6.out.kept k7).kept (((Kept.refl W7).alloc (.cells #[.int .i64 (g1 : Nat), .int .i64 (g2 : Nat), .int .u64 g3.1, .int .u64 g3.2, .int .u64 (g4 : Nat)] 26)).alloc (.cells #[.int .i64 (g5 : Nat), .int .i64 (g6 : Nat), .int .u64 g7.1, .int .u64 g7.2] 28)))
    clear S6
    clear k7
    go_wp2_with fail
    go_ret
    exact ⟨rfl, (K7.out.alloc _).alloc _⟩
  · clear xhl
    go_enter Try.func3, Try.ntmps3
    go_wp2_with fail
    refine (awake_any _).mono ?_
    rintro e w1 ⟨rfl, k1⟩
    go_wp2_with fail
    go_ret
    exact ⟨rfl, (((Kept.refl w).alloc _).alloc _).trans k1⟩

/-! ### The row's step -/
set_option maxRecDepth 100000 in
theorem lifted (os : Os) (started : os.Started) (H : Type) (enc : TypeId × Value → H) :
    ReturnsInHanded {} Try.checked os 3 .any (Rows.wireTellsSpec.pre6 enc Try.prog Try.f3 Rows.wireTellsRow.domain false) (Rows.wireTellsSpec.post enc Try.prog Try.f3 false true false false) := by
  refine returnsInHanded_of_change (C := Try.checked) own started (by kernel_rfl) Try.func3
    (ChangeSpec.witness6 (enc := enc) (C := Try.checked) false ⟨#[], #[.agg #[.int .i64 0, .int .i64 0, .int .u64 0, .int .u64 0, .int .u64 0], .agg #[.int .i64 0, .int .i64 0, .int .u64 0, .int .u64 0], .slice none 0 0], []⟩ 8 (by kernel_rfl) (by kernel_rfl) (by kernel_rfl) (by kernel_rfl)) ?_
  intro W base args ds gs before hval0 hW hcnd _
  have hval : ∀ (j : Nat) t v, Try.f3.params[j]? = some t → args[j]? = some v → Value.okWide Try.prog W .any base t v := hval0
  have hW' := hW
  obtain ⟨p, q, hA0, hV, rfl, hfz, hnd⟩ := hW
  have hA : DataW.TrodAll enc Try.prog W 0 (fun _ => true) true Try.f3.params.toList args.toList ds p := hA0
  rw [Try.params3] at hA hval
  obtain ⟨v0, vs0, d0, ds0, p0, q0, hargs, rfl, rfl, h0, r0⟩ := trodAll_cons hA
  obtain ⟨v1, vs1, d1, ds1, p1, q1, rfl, rfl, rfl, h1, r1⟩ := trodAll_cons r0
  obtain ⟨v2, vs2, d2, ds2, p2, q2, rfl, rfl, rfl, h2, r2⟩ := trodAll_cons r1
  obtain ⟨rfl, rfl, rfl⟩ := trodAll_nil r2
  obtain rfl : args = #[v0, v1, v2] := by cases args; simp_all
  obtain ⟨rfl, rfl⟩ := trodVars_none hV
  obtain ⟨bs, bf, bp, bt, rfl, hb1, hb2, hb3⟩ := open_block (hval 0 _ v0 rfl rfl) h0
  obtain ⟨vf, vs, vp, rfl, hv1, hv2⟩ := open_vote (hval 1 _ v1 rfl rfl) h1
  obtain ⟨xA, xn, xc, x, rfl, xhm, xhl⟩ := open_bytes (hval 2 _ v2 rfl rfl) h2
  clear hA0 hval0
  refine (walk W bs bf bp bt hb1 hb2 hb3 vf vs vp hv1 hv2 xA xn xc x xhm xhl).mono fun e W' ⟨he, hb⟩ => ?_
  subst he
  exact ⟨_, rfl, law_post rfl (by kernel_rfl) rfl hW' rfl hb⟩

theorem over : Rows.wireTellsRow.holds Try.pinned (OpenSpec.ofChange Rows.wireTellsSpec) :=
  OpenClaim.holds_of_wide 3 Try.f3 rfl rfl rfl rfl rfl rfl rfl ⟨rfl, rfl, rfl, rfl, rfl⟩ rfl rfl rfl rfl rfl (by kernel_rfl) Try.func3 (by kernel_rfl)
    (of_decide_eq_true (by kernel_rfl)) (by unfold Func.isWrapper; first | (rw [if_pos (by decide +kernel)]; kernel_rfl) | (rw [if_neg (by decide +kernel)]; exact ⟨rfl, rfl⟩))
    (fun os started H enc _ => lifted os started H enc)

/-- The statement. -/
theorem proved : Rows.WireTellsSaid :=
  over
#print axioms proved
end Go.Proofs.Ytfbjiepnhfgmfaa.wireTells
