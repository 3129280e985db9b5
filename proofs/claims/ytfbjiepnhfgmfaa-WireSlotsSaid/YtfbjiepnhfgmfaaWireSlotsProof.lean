/-
  For all lists of bytes x marigoldlaw03.WireSlots returns true and leaves its argument as it was: no further condition.
-/
import Derived.Test.YtfbjiepnhfgmfaaWireAwake
namespace Go.Proofs.Ytfbjiepnhfgmfaa.wireSlots
open Go.ChangeShapes Go.WideShapes Go.ChangeAt Go.RowKit
set_option linter.unusedVariables false

/-! ### The walk: the call returns true, and of what was there nothing has changed. -/
set_option maxRecDepth 100000 in
set_option maxHeartbeats 4000000 in
theorem walk (w : World) (xA : Option Addr) (xn xc : Nat) (x : List Nat) (xhm : xn ≤ maxLen) (xhl : Lies w x xA xn xc) :
    Calls Try.prog 7 #[.slice xA xn xc] w fun e w' => e = .returned (.bool true) ∧ Kept w w' := by
  unfold maxLen at xhm
  by_cases hn : xn ≤ 100
  · rcases getN_cases x with hg | ⟨hv, hm, hg⟩ | ⟨hv, hm, hg⟩
    · have HG := Lib.hid hg; have HL := Lib.hid xhl
      clear hg xhl
      go_enter Try.func7, Try.ntmps7
      go_wp2_with fail
      refine (awake_any _).mono ?_
      rintro e w1 ⟨rfl, k1⟩
      go_wp2_with fail
      refine (get_any _ _ _ _ _ (by omega) (HL.out.kept k1)).mono ?_
      rintro e w2 ⟨rfl, k2⟩
      rw [HG.out]
      unfold getV Got.none
      go_wp2_with fail
      go_ret
      exact ⟨rfl, ((k1.trans k2).alloc _).alloc _⟩
    · obtain ⟨hl, h0⟩ := of_decide_eq_true hv
      have hxn := xhl.1
      obtain rfl : xn = 22 := by omega
      clear hxn hn hv
      obtain ⟨x1, x2, x3, x4, l1, l2, l3, l4, e4⟩ := seg_four (l := x) (by omega)
      obtain ⟨x5, l5, e5⟩ := seg_five (l := x) (by omega)
      obtain ⟨xa, rfl⟩ := xhl.some (by omega)
      have y1 := xhl.byte l1
      have y2 := xhl.byte l2
      have y3 := xhl.byte l3
      have y4 := xhl.byte l4
      have y5 := xhl.byte l5
      rw [e4, e5] at hg hm
      obtain ⟨m1, m2, m3, m4⟩ := made_yes hm
      obtain ⟨p, hp⟩ : ∃ p, seg x 6 8 = p := ⟨_, rfl⟩
      obtain ⟨q, hq⟩ : ∃ q, seg x 14 8 = q := ⟨_, rfl⟩
      obtain ⟨t, ht⟩ : ∃ t, seg x 22 8 = t := ⟨_, rfl⟩
      rw [hp, hq] at hg
      have HG := Lib.hid hg; have HL := Lib.hid xhl
      have L0 := Lib.hid h0; have L1 := Lib.hid l1; have L2 := Lib.hid l2; have L3 := Lib.hid l3; have L4 := Lib.hid l4; have L5 := Lib.hid l5
      clear hg hm xhl h0 l1 l2 l3 l4 l5 e4 e5 hp hq ht hl xhm
      go_enter Try.func7, Try.ntmps7
      go_wp2_with fail
      refine (awake_any _).mono ?_
      rintro e w1 ⟨rfl, k1⟩
      have H1 := Lib.hid (HL.out.kept k1)
      have K1 := Lib.hid k1
      clear k1
      go_wp2_with fail
      refine (get_any _ _ _ _ _ (by omega) H1.out).mono ?_
      rintro e w2 ⟨rfl, k2⟩
      rw [HG.out]
      unfold getV Got.vote
      have KW : Kept w2 ((w2.alloc (.cells #[.int .i64 0, .int .i64 0, .int .u64 0, .int .u64 0, .int .u64 0] 26)).alloc (.cells #[.int .i64 (x5 : Nat), .int .i64 ((x1 : Int) + 256 * (x2 : Int) + 65536 * (x3 : Int) + 16777216 * (x4 : Int)), .int .u64 (p : Nat), .int .u64 (q : Nat)] 28)) := ((Kept.refl w2).alloc _).alloc _
      have H2 := Lib.hid (H1.out.kept (k2.trans KW))
      have K2 := Lib.hid ((K1.out.trans k2).trans KW)
      clear k2 KW
      go_wp2_with fail
      generalize ((w2.alloc (.cells #[.int .i64 0, .int .i64 0, .int .u64 0, .int .u64 0, .int .u64 0] 26)).alloc (.cells #[.int .i64 (x5 : Nat), .int .i64 ((x1 : Int) + 256 * (x2 : Int) + 65536 * (x3 : Int) + 16777216 * (x4 : Int)), .int .u64 (p : Nat), .int .u64 (q : Nat)] 28)) = W at *
      have c0 := H2.out.cell0 L0.out
      have c1 := H2.out.cell (by omega) L1.out
      have c2 := H2.out.cell (by omega) L2.out
      have c3 := H2.out.cell (by omega) L3.out
      have c4 := H2.out.cell (by omega) L4.out
      have c5 := H2.out.cell (by omega) L5.out
      go_quiet (fail)
      go_wp2_with fail
      go_ret
      exact ⟨rfl, K2.out.drewN _⟩
    · obtain ⟨hl, h0⟩ := of_decide_eq_true hv
      have hxn := xhl.1
      obtain rfl : xn = 30 := by omega
      clear hxn hn hv
      obtain ⟨x1, x2, x3, x4, l1, l2, l3, l4, e4⟩ := seg_four (l := x) (by omega)
      obtain ⟨x5, l5, e5⟩ := seg_five (l := x) (by omega)
      obtain ⟨xa, rfl⟩ := xhl.some (by omega)
      have y1 := xhl.byte l1
      have y2 := xhl.byte l2
      have y3 := xhl.byte l3
      have y4 := xhl.byte l4
      have y5 := xhl.byte l5
      rw [e4, e5] at hg hm
      obtain ⟨m1, m2, m3, m4⟩ := made_yes hm
      obtain ⟨p, hp⟩ : ∃ p, seg x 6 8 = p := ⟨_, rfl⟩
      obtain ⟨q, hq⟩ : ∃ q, seg x 14 8 = q := ⟨_, rfl⟩
      obtain ⟨t, ht⟩ : ∃ t, seg x 22 8 = t := ⟨_, rfl⟩
      rw [hp, hq, ht] at hg
      have HG := Lib.hid hg; have HL := Lib.hid xhl
      have L0 := Lib.hid h0; have L1 := Lib.hid l1; have L2 := Lib.hid l2; have L3 := Lib.hid l3; have L4 := Lib.hid l4; have L5 := Lib.hid l5
      clear hg hm xhl h0 l1 l2 l3 l4 l5 e4 e5 hp hq ht hl xhm
      go_enter Try.func7, Try.ntmps7
      go_wp2_with fail
      refine (awake_any _).mono ?_
      rintro e w1 ⟨rfl, k1⟩
      have H1 := Lib.hid (HL.out.kept k1)
      have K1 := Lib.hid k1
      clear k1
      go_wp2_with fail
      refine (get_any _ _ _ _ _ (by omega) H1.out).mono ?_
      rintro e w2 ⟨rfl, k2⟩
      rw [HG.out]
      unfold getV Got.block
      have KW : Kept w2 ((w2.alloc (.cells #[.int .i64 ((x1 : Int) + 256 * (x2 : Int) + 65536 * (x3 : Int) + 16777216 * (x4 : Int)), .int .i64 (x5 : Nat), .int .u64 (p : Nat), .int .u64 (q : Nat), .int .u64 (t : Nat)] 26)).alloc (.cells #[.int .i64 0, .int .i64 0, .int .u64 0, .int .u64 0] 28)) := ((Kept.refl w2).alloc _).alloc _
      have H2 := Lib.hid (H1.out.kept (k2.trans KW))
      have K2 := Lib.hid ((K1.out.trans k2).trans KW)
      clear k2 KW
      go_wp2_with fail
      generalize ((w2.alloc (.cells #[.int .i64 ((x1 : Int) + 256 * (x2 : Int) + 65536 * (x3 : Int) + 16777216 * (x4 : Int)), .int .i64 (x5 : Nat), .int .u64 (p : Nat), .int .u64 (q : Nat), .int .u64 (t : Nat)] 26)).alloc (.cells #[.int .i64 0, .int .i64 0, .int .u64 0, .int .u64 0] 28)) = W at *
      have c0 := H2.out.cell0 L0.out
      have c1 := H2.out.cell (by omega) L1.out
      have c2 := H2.out.cell (by omega) L2.out
      have c3 := H2.out.cell (by omega) L3.out
      have c4 := H2.out.cell (by omega) L4.out
      have c5 := H2.out.cell (by omega) L5.out
      go_quiet (fail)
      go_wp2_with fail
      go_ret
      exact ⟨rfl, K2.out.drewN _⟩
  · clear xhl
    go_enter Try.func7, Try.ntmps7
    go_wp2_with fail
    refine (awake_any _).mono ?_
    rintro e w1 ⟨rfl, k1⟩
    go_wp2_with fail
    go_ret
    exact ⟨rfl, k1⟩

/-! ### The row's step -/
set_option maxRecDepth 100000 in
theorem lifted (os : Os) (started : os.Started) (H : Type) (enc : TypeId × Value → H) :
    ReturnsInHanded {} Try.checked os 7 .any (Rows.wireSlotsSpec.pre6 enc Try.prog Try.f7 Rows.wireSlotsRow.domain false) (Rows.wireSlotsSpec.post enc Try.prog Try.f7 false true false false) := by
  refine returnsInHanded_of_change (C := Try.checked) own started (by kernel_rfl) Try.func7
    (ChangeSpec.witness6 (enc := enc) (C := Try.checked) false ⟨#[], #[.slice none 0 0], []⟩ 8 (by kernel_rfl) (by kernel_rfl) (by kernel_rfl) (by kernel_rfl)) ?_
  intro W base args ds gs before hval0 hW hcnd _
  have hval : ∀ (j : Nat) t v, Try.f7.params[j]? = some t → args[j]? = some v → Value.okWide Try.prog W .any base t v := hval0
  have hW' := hW
  obtain ⟨p, q, hA0, hV, rfl, hfz, hnd⟩ := hW
  have hA : DataW.TrodAll enc Try.prog W 0 (fun _ => true) true Try.f7.params.toList args.toList ds p := hA0
  rw [Try.params7] at hA hval
  obtain ⟨v0, vs0, d0, ds0, p0, q0, hargs, rfl, rfl, h0, r0⟩ := trodAll_cons hA
  obtain ⟨rfl, rfl, rfl⟩ := trodAll_nil r0
  obtain rfl : args = #[v0] := by cases args; simp_all
  obtain ⟨rfl, rfl⟩ := trodVars_none hV
  obtain ⟨xA, xn, xc, x, rfl, xhm, xhl⟩ := open_bytes (hval 0 _ v0 rfl rfl) h0
  clear hA0 hval0
  refine (walk W xA xn xc x xhm xhl).mono fun e W' ⟨he, hb⟩ => ?_
  subst he
  exact ⟨_, rfl, law_post rfl (by kernel_rfl) rfl hW' rfl hb⟩

theorem over : Rows.wireSlotsRow.holds Try.pinned (OpenSpec.ofChange Rows.wireSlotsSpec) :=
  OpenClaim.holds_of_wide 7 Try.f7 rfl rfl rfl rfl rfl rfl rfl ⟨rfl, rfl, rfl, rfl, rfl⟩ rfl rfl rfl rfl rfl (by kernel_rfl) Try.func7 (by kernel_rfl)
    (of_decide_eq_true (by kernel_rfl)) (by unfold Func.isWrapper; first | (rw [if_pos (by decide +kernel)]; kernel_rfl) | (rw [if_neg (by decide +kernel)]; exact ⟨rfl, rfl⟩))
    (fun os started H enc _ => lifted os started H enc)

/-- The statement. -/
theorem proved : Rows.WireSlotsSaid :=
  over
#print axioms proved
end Go.Proofs.Ytfbjiepnhfgmfaa.wireSlots
