/-
  For all words h and x, lists of words l and ids a and b marigoldlaw02.MixTells returns true and leaves its arguments as they were: no further condition.
-/
import Derived.Test.YtaldldplpefobaaMixAwake
import Derived.Test.YtaldldplpefobaaMixOpen
import Derived.Test.YtaldldplpefobaaMixRef
namespace Go.Proofs.Ytaldldplpefobaa.mixTells
open Go.ChangeShapes Go.WideShapes Go.ChangeAt Go.RowKit
set_option linter.unusedVariables false

/-! ### The walk: the call returns true, and of what was there nothing has changed. -/
attribute [local go_sem] idEq in
set_option maxHeartbeats 1000000 in
theorem walk (w : World) (h : Nat) (hh : h < 18446744073709551616) (x : Nat) (hx : x < 18446744073709551616) (lA : Option Addr) (ln lc : Nat) (l : List Nat) (lhl : l.length = ln) (lhm : ln ≤ maxLen) (lhx : ∀ x ∈ l, x < 18446744073709551616) (lhw : WordsAt w w.heap.size lA l) (a : Nat × Nat) (ha1 : a.1 < 18446744073709551616) (ha2 : a.2 < 18446744073709551616) (b : Nat × Nat) (hb1 : b.1 < 18446744073709551616) (hb2 : b.2 < 18446744073709551616) :
    Calls Try.prog 3 #[.int .u64 h, .int .u64 x, .slice lA ln lc, .agg #[.int .u64 a.1, .int .u64 a.2], .agg #[.int .u64 b.1, .int .u64 b.2]] w fun e w' => e = .returned (.bool true) ∧ Kept w w' := by
  have LX := Lib.hid lhx
  have LC := Lib.hid (WordsAt.cells lhw)
  have LN := Lib.hid lhl
  clear lhx lhw lhl lhm
  obtain ⟨p, hP⟩ : ∃ p, idOf l = p := ⟨_, rfl⟩
  have HP := Lib.hid hP
  clear hP
  by_cases h40 : ln ≤ 40
  · go_enter Try.func3, Try.ntmps3
    go_wp2_with fail
    have A0 := Lib.hid ((HasId.new w w.heap.size a rfl).alloc (.cells #[.int .u64 b.1, .int .u64 b.2] 25))
    have B0 := Lib.hid (HasId.new (w.alloc (.cells #[.int .u64 a.1, .int .u64 a.2] 25)) (w.heap.size + 1) b (by simp))
    have K0 : Kept w ((w.alloc (.cells #[.int .u64 a.1, .int .u64 a.2] 25)).alloc (.cells #[.int .u64 b.1, .int .u64 b.2] 25)) := ((Kept.refl w).alloc _).alloc _
    have L0 := Lib.hid (LC.out.kept K0)
    clear LC
    generalize ((w.alloc (.cells #[.int .u64 a.1, .int .u64 a.2] 25)).alloc (.cells #[.int .u64 b.1, .int .u64 b.2] 25)) = W0 at *
    generalize w.heap.size = z at *
    refine (awake_any _).mono ?_
    rintro e W1 ⟨rfl, k1⟩
    have A1 := Lib.hid (A0.out.kept k1)
    obtain ⟨A1a, A1b, _⟩ := A1.out
    have B1 := Lib.hid (B0.out.kept k1)
    obtain ⟨B1a, B1b, _⟩ := B1.out
    have K1 := K0.trans k1
    have L1 := Lib.hid (L0.out.kept k1)
    go_wp2_with fail
    refine (refLess_any a b _).mono ?_
    rintro e W2 ⟨rfl, k2⟩
    have A2 := Lib.hid (A1.out.kept k2)
    obtain ⟨A2a, A2b, _⟩ := A2.out
    have B2 := Lib.hid (B1.out.kept k2)
    obtain ⟨B2a, B2b, _⟩ := B2.out
    have K2 := K1.trans k2
    have L2 := Lib.hid (L1.out.kept k2)
    go_wp2_with fail
    refine (word_any _ (by assumption) _).mono ?_
    rintro e w' ⟨rfl, rfl⟩
    go_wp2_with fail
    refine (refWord_any _ (by assumption) _).mono ?_
    rintro e w' ⟨rfl, rfl⟩
    go_wp2_with fail
    refine (step_any _ _ (by assumption) (by assumption) _).mono ?_
    rintro e w' ⟨rfl, rfl⟩
    go_wp2_with fail
    refine (refStep_any _ _ (by assumption) (by assumption) _).mono ?_
    rintro e w' ⟨rfl, rfl⟩
    go_wp2_with fail
    refine (of_any lA ln lc l LN.out (by omega) _ LX.out (WordsAt.of_cells L2.out)).mono ?_
    rintro e W3 ⟨rfl, k3⟩
    rw [HP.out]
    have A3 := Lib.hid (A2.out.kept k3)
    obtain ⟨A3a, A3b, _⟩ := A3.out
    have B3 := Lib.hid (B2.out.kept k3)
    obtain ⟨B3a, B3b, _⟩ := B3.out
    have K3 := K2.trans k3
    have L3 := Lib.hid (L2.out.kept k3)
    go_wp2_with fail
    refine (refOf_any lA ln lc l LN.out (by omega) _ LX.out (WordsAt.of_cells L3.out)).mono ?_
    rintro e W4 ⟨rfl, k4⟩
    rw [HP.out]
    have A4 := Lib.hid (A3.out.kept k4)
    obtain ⟨A4a, A4b, _⟩ := A4.out
    have B4 := Lib.hid (B3.out.kept k4)
    obtain ⟨B4a, B4b, _⟩ := B4.out
    have K4 := K3.trans k4
    have L4 := Lib.hid (L3.out.kept k4)
    go_wp2_with fail
    refine (less_any a b _).mono ?_
    rintro e W5 ⟨rfl, k5⟩
    have A5 := Lib.hid (A4.out.kept k5)
    obtain ⟨A5a, A5b, _⟩ := A5.out
    have B5 := Lib.hid (B4.out.kept k5)
    obtain ⟨B5a, B5b, _⟩ := B5.out
    have K5 := K4.trans k5
    have L5 := Lib.hid (L4.out.kept k5)
    go_wp2_with fail
    go_ret
    exact ⟨rfl, K5⟩
  · go_enter Try.func3, Try.ntmps3
    go_wp2_with fail
    have A0 := Lib.hid ((HasId.new w w.heap.size a rfl).alloc (.cells #[.int .u64 b.1, .int .u64 b.2] 25))
    have B0 := Lib.hid (HasId.new (w.alloc (.cells #[.int .u64 a.1, .int .u64 a.2] 25)) (w.heap.size + 1) b (by simp))
    have K0 : Kept w ((w.alloc (.cells #[.int .u64 a.1, .int .u64 a.2] 25)).alloc (.cells #[.int .u64 b.1, .int .u64 b.2] 25)) := ((Kept.refl w).alloc _).alloc _
    have L0 := Lib.hid (LC.out.kept K0)
    clear LC
    generalize ((w.alloc (.cells #[.int .u64 a.1, .int .u64 a.2] 25)).alloc (.cells #[.int .u64 b.1, .int .u64 b.2] 25)) = W0 at *
    generalize w.heap.size = z at *
    refine (awake_any _).mono ?_
    rintro e W1 ⟨rfl, k1⟩
    have A1 := Lib.hid (A0.out.kept k1)
    obtain ⟨A1a, A1b, _⟩ := A1.out
    have B1 := Lib.hid (B0.out.kept k1)
    obtain ⟨B1a, B1b, _⟩ := B1.out
    have K1 := K0.trans k1
    go_wp2_with fail
    go_ret
    exact ⟨rfl, K1⟩

/-! ### The row's step -/
set_option maxRecDepth 100000 in
theorem lifted (os : Os) (started : os.Started) (H : Type) (enc : TypeId × Value → H) :
    ReturnsInHanded {} Try.checked os 3 .any (Rows.mixTellsSpec.pre6 enc Try.prog Try.f3 Rows.mixTellsRow.domain false) (Rows.mixTellsSpec.post enc Try.prog Try.f3 false true false false) := by
  refine returnsInHanded_of_change (C := Try.checked) own started (by kernel_rfl) Try.func3
    (ChangeSpec.witness6 (enc := enc) (C := Try.checked) false ⟨#[], #[.int .u64 0, .int .u64 0, .slice none 0 0, .agg #[.int .u64 0, .int .u64 0], .agg #[.int .u64 0, .int .u64 0]], []⟩ 8 (by kernel_rfl) (by kernel_rfl) (by kernel_rfl) (by kernel_rfl)) ?_
  intro W base args ds gs before hval0 hW hcnd _
  have hval : ∀ (j : Nat) t v, Try.f3.params[j]? = some t → args[j]? = some v → Value.okWide Try.prog W .any base t v := hval0
  have hW' := hW
  obtain ⟨p, q, hA0, hV, rfl, hfz, hnd⟩ := hW
  have hA : DataW.TrodAll enc Try.prog W 0 (fun _ => true) true Try.f3.params.toList args.toList ds p := hA0
  rw [Try.params3] at hA hval
  obtain ⟨v0, vs0, d0, ds0, p0, q0, hargs, rfl, rfl, h0, r0⟩ := trodAll_cons hA
  obtain ⟨v1, vs1, d1, ds1, p1, q1, rfl, rfl, rfl, h1, r1⟩ := trodAll_cons r0
  obtain ⟨v2, vs2, d2, ds2, p2, q2, rfl, rfl, rfl, h2, r2⟩ := trodAll_cons r1
  obtain ⟨v3, vs3, d3, ds3, p3, q3, rfl, rfl, rfl, h3, r3⟩ := trodAll_cons r2
  obtain ⟨v4, vs4, d4, ds4, p4, q4, rfl, rfl, rfl, h4, r4⟩ := trodAll_cons r3
  obtain ⟨rfl, rfl, rfl⟩ := trodAll_nil r4
  obtain rfl : args = #[v0, v1, v2, v3, v4] := by cases args; simp_all
  obtain ⟨rfl, rfl⟩ := trodVars_none hV
  obtain ⟨h, rfl, hh⟩ := open_u64 (hval 0 _ v0 rfl rfl) h0
  obtain ⟨x, rfl, hx⟩ := open_u64 (hval 1 _ v1 rfl rfl) h1
  obtain ⟨lA, ln, lc, l, rfl, lhl, lhm, lhx, lhw⟩ := open_words (hval 2 _ v2 rfl rfl) h2
  obtain ⟨a, rfl, ha1, ha2⟩ := open_id (hval 3 _ v3 rfl rfl) h3
  obtain ⟨b, rfl, hb1, hb2⟩ := open_id (hval 4 _ v4 rfl rfl) h4
  clear hA0 hval0
  refine (walk W h hh x hx lA ln lc l lhl lhm lhx lhw a ha1 ha2 b hb1 hb2).mono fun e W' ⟨he, hb⟩ => ?_
  subst he
  exact ⟨_, rfl, law_post rfl (by kernel_rfl) rfl hW' rfl hb⟩

theorem over : Rows.mixTellsRow.holds Try.pinned (OpenSpec.ofChange Rows.mixTellsSpec) :=
  OpenClaim.holds_of_wide 3 Try.f3 rfl rfl rfl rfl rfl rfl rfl ⟨rfl, rfl, rfl, rfl, rfl⟩ rfl rfl rfl rfl rfl (by kernel_rfl) Try.func3 (by kernel_rfl)
    (of_decide_eq_true (by kernel_rfl)) (by unfold Func.isWrapper; first | (rw [if_pos (by decide +kernel)]; kernel_rfl) | (rw [if_neg (by decide +kernel)]; exact ⟨rfl, rfl⟩))
    (fun os started H enc _ => lifted os started H enc)

/-- The statement. -/
theorem proved : Rows.MixTellsSaid :=
  over
#print axioms proved
end Go.Proofs.Ytaldldplpefobaa.mixTells
