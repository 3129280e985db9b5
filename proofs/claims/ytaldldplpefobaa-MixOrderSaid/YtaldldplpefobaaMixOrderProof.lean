/-
  For all ids a, b and c marigoldlaw02.MixOrder returns true and leaves its arguments as they were: no further condition.
-/
import Derived.Test.YtaldldplpefobaaMixAwake
import Derived.Test.YtaldldplpefobaaMixOpen
namespace Go.Proofs.Ytaldldplpefobaa.mixOrder
open Go.ChangeShapes Go.WideShapes Go.ChangeAt Go.RowKit
set_option linter.unusedVariables false

/-! ### The walk: the call returns true, and of what was there nothing has changed. -/
attribute [local go_sem] idEq in
set_option maxHeartbeats 1000000 in
theorem walk (w : World) (a : Nat × Nat) (ha1 : a.1 < 18446744073709551616) (ha2 : a.2 < 18446744073709551616) (b : Nat × Nat) (hb1 : b.1 < 18446744073709551616) (hb2 : b.2 < 18446744073709551616) (c : Nat × Nat) (hc1 : c.1 < 18446744073709551616) (hc2 : c.2 < 18446744073709551616) :
    Calls Try.prog 5 #[.agg #[.int .u64 a.1, .int .u64 a.2], .agg #[.int .u64 b.1, .int .u64 b.2], .agg #[.int .u64 c.1, .int .u64 c.2]] w fun e w' => e = .returned (.bool true) ∧ Kept w w' := by
  rcases lessN_tri a b with rfl | ⟨ab, ba⟩ | ⟨ab, ba⟩
  · have AB := Lib.hid (lessN_self a)
    go_enter Try.func5, Try.ntmps5
    go_wp2_with fail
    have A0 := Lib.hid (((HasId.new w w.heap.size a rfl).alloc (.cells #[.int .u64 a.1, .int .u64 a.2] 25)).alloc (.cells #[.int .u64 c.1, .int .u64 c.2] 25))
    have B0 := Lib.hid ((HasId.new (w.alloc (.cells #[.int .u64 a.1, .int .u64 a.2] 25)) (w.heap.size + 1) a (by simp)).alloc (.cells #[.int .u64 c.1, .int .u64 c.2] 25))
    have C0 := Lib.hid (HasId.new ((w.alloc (.cells #[.int .u64 a.1, .int .u64 a.2] 25)).alloc (.cells #[.int .u64 a.1, .int .u64 a.2] 25)) (w.heap.size + 2) c (by simp))
    have K0 : Kept w (((w.alloc (.cells #[.int .u64 a.1, .int .u64 a.2] 25)).alloc (.cells #[.int .u64 a.1, .int .u64 a.2] 25)).alloc (.cells #[.int .u64 c.1, .int .u64 c.2] 25)) := (((Kept.refl w).alloc _).alloc _).alloc _
    generalize (((w.alloc (.cells #[.int .u64 a.1, .int .u64 a.2] 25)).alloc (.cells #[.int .u64 a.1, .int .u64 a.2] 25)).alloc (.cells #[.int .u64 c.1, .int .u64 c.2] 25)) = W0 at *
    generalize w.heap.size = z at *
    refine (awake_any _).mono ?_
    rintro e W1 ⟨rfl, k1⟩
    have A1 := Lib.hid (A0.out.kept k1)
    obtain ⟨A1a, A1b, _⟩ := A1.out
    have B1 := Lib.hid (B0.out.kept k1)
    obtain ⟨B1a, B1b, _⟩ := B1.out
    have C1 := Lib.hid (C0.out.kept k1)
    obtain ⟨C1a, C1b, _⟩ := C1.out
    have K1 := K0.trans k1
    go_wp2_with fail
    refine (less_any a a _).mono ?_
    rintro e W2 ⟨rfl, k2⟩
    rw [AB.out]
    have A2 := Lib.hid (A1.out.kept k2)
    obtain ⟨A2a, A2b, _⟩ := A2.out
    have B2 := Lib.hid (B1.out.kept k2)
    obtain ⟨B2a, B2b, _⟩ := B2.out
    have C2 := Lib.hid (C1.out.kept k2)
    obtain ⟨C2a, C2b, _⟩ := C2.out
    have K2 := K1.trans k2
    go_wp2_with fail
    refine (less_any a a _).mono ?_
    rintro e W3 ⟨rfl, k3⟩
    rw [AB.out]
    have A3 := Lib.hid (A2.out.kept k3)
    obtain ⟨A3a, A3b, _⟩ := A3.out
    have B3 := Lib.hid (B2.out.kept k3)
    obtain ⟨B3a, B3b, _⟩ := B3.out
    have C3 := Lib.hid (C2.out.kept k3)
    obtain ⟨C3a, C3b, _⟩ := C3.out
    have K3 := K2.trans k3
    go_wp2_with fail
    go_ret
    exact ⟨rfl, K3⟩
  · have NE := id_ne (lessN_ne ab)
    cases bc : lessN b c
    · have AB := Lib.hid ab; have BA := Lib.hid ba; have BC := Lib.hid bc
      clear ab ba bc
      go_enter Try.func5, Try.ntmps5
      go_wp2_with fail
      have A0 := Lib.hid (((HasId.new w w.heap.size a rfl).alloc (.cells #[.int .u64 b.1, .int .u64 b.2] 25)).alloc (.cells #[.int .u64 c.1, .int .u64 c.2] 25))
      have B0 := Lib.hid ((HasId.new (w.alloc (.cells #[.int .u64 a.1, .int .u64 a.2] 25)) (w.heap.size + 1) b (by simp)).alloc (.cells #[.int .u64 c.1, .int .u64 c.2] 25))
      have C0 := Lib.hid (HasId.new ((w.alloc (.cells #[.int .u64 a.1, .int .u64 a.2] 25)).alloc (.cells #[.int .u64 b.1, .int .u64 b.2] 25)) (w.heap.size + 2) c (by simp))
      have K0 : Kept w (((w.alloc (.cells #[.int .u64 a.1, .int .u64 a.2] 25)).alloc (.cells #[.int .u64 b.1, .int .u64 b.2] 25)).alloc (.cells #[.int .u64 c.1, .int .u64 c.2] 25)) := (((Kept.refl w).alloc _).alloc _).alloc _
      generalize (((w.alloc (.cells #[.int .u64 a.1, .int .u64 a.2] 25)).alloc (.cells #[.int .u64 b.1, .int .u64 b.2] 25)).alloc (.cells #[.int .u64 c.1, .int .u64 c.2] 25)) = W0 at *
      generalize w.heap.size = z at *
      refine (awake_any _).mono ?_
      rintro e W1 ⟨rfl, k1⟩
      have A1 := Lib.hid (A0.out.kept k1)
      obtain ⟨A1a, A1b, _⟩ := A1.out
      have B1 := Lib.hid (B0.out.kept k1)
      obtain ⟨B1a, B1b, _⟩ := B1.out
      have C1 := Lib.hid (C0.out.kept k1)
      obtain ⟨C1a, C1b, _⟩ := C1.out
      have K1 := K0.trans k1
      go_wp2_with fail
      refine (less_any a b _).mono ?_
      rintro e W2 ⟨rfl, k2⟩
      rw [AB.out]
      have A2 := Lib.hid (A1.out.kept k2)
      obtain ⟨A2a, A2b, _⟩ := A2.out
      have B2 := Lib.hid (B1.out.kept k2)
      obtain ⟨B2a, B2b, _⟩ := B2.out
      have C2 := Lib.hid (C1.out.kept k2)
      obtain ⟨C2a, C2b, _⟩ := C2.out
      have K2 := K1.trans k2
      go_wp2_with fail
      refine (less_any b a _).mono ?_
      rintro e W3 ⟨rfl, k3⟩
      rw [BA.out]
      have A3 := Lib.hid (A2.out.kept k3)
      obtain ⟨A3a, A3b, _⟩ := A3.out
      have B3 := Lib.hid (B2.out.kept k3)
      obtain ⟨B3a, B3b, _⟩ := B3.out
      have C3 := Lib.hid (C2.out.kept k3)
      obtain ⟨C3a, C3b, _⟩ := C3.out
      have K3 := K2.trans k3
      go_wp2_with fail
      refine (less_any b c _).mono ?_
      rintro e W4 ⟨rfl, k4⟩
      rw [BC.out]
      have A4 := Lib.hid (A3.out.kept k4)
      obtain ⟨A4a, A4b, _⟩ := A4.out
      have B4 := Lib.hid (B3.out.kept k4)
      obtain ⟨B4a, B4b, _⟩ := B4.out
      have C4 := Lib.hid (C3.out.kept k4)
      obtain ⟨C4a, C4b, _⟩ := C4.out
      have K4 := K3.trans k4
      go_wp2_with fail
      go_ret
      exact ⟨rfl, K4⟩
    · have AB := Lib.hid ab; have BA := Lib.hid ba; have BC := Lib.hid bc; have AC := Lib.hid (lessN_trans ab bc)
      clear ab ba bc
      go_enter Try.func5, Try.ntmps5
      go_wp2_with fail
      have A0 := Lib.hid (((HasId.new w w.heap.size a rfl).alloc (.cells #[.int .u64 b.1, .int .u64 b.2] 25)).alloc (.cells #[.int .u64 c.1, .int .u64 c.2] 25))
      have B0 := Lib.hid ((HasId.new (w.alloc (.cells #[.int .u64 a.1, .int .u64 a.2] 25)) (w.heap.size + 1) b (by simp)).alloc (.cells #[.int .u64 c.1, .int .u64 c.2] 25))
      have C0 := Lib.hid (HasId.new ((w.alloc (.cells #[.int .u64 a.1, .int .u64 a.2] 25)).alloc (.cells #[.int .u64 b.1, .int .u64 b.2] 25)) (w.heap.size + 2) c (by simp))
      have K0 : Kept w (((w.alloc (.cells #[.int .u64 a.1, .int .u64 a.2] 25)).alloc (.cells #[.int .u64 b.1, .int .u64 b.2] 25)).alloc (.cells #[.int .u64 c.1, .int .u64 c.2] 25)) := (((Kept.refl w).alloc _).alloc _).alloc _
      generalize (((w.alloc (.cells #[.int .u64 a.1, .int .u64 a.2] 25)).alloc (.cells #[.int .u64 b.1, .int .u64 b.2] 25)).alloc (.cells #[.int .u64 c.1, .int .u64 c.2] 25)) = W0 at *
      generalize w.heap.size = z at *
      refine (awake_any _).mono ?_
      rintro e W1 ⟨rfl, k1⟩
      have A1 := Lib.hid (A0.out.kept k1)
      obtain ⟨A1a, A1b, _⟩ := A1.out
      have B1 := Lib.hid (B0.out.kept k1)
      obtain ⟨B1a, B1b, _⟩ := B1.out
      have C1 := Lib.hid (C0.out.kept k1)
      obtain ⟨C1a, C1b, _⟩ := C1.out
      have K1 := K0.trans k1
      go_wp2_with fail
      refine (less_any a b _).mono ?_
      rintro e W2 ⟨rfl, k2⟩
      rw [AB.out]
      have A2 := Lib.hid (A1.out.kept k2)
      obtain ⟨A2a, A2b, _⟩ := A2.out
      have B2 := Lib.hid (B1.out.kept k2)
      obtain ⟨B2a, B2b, _⟩ := B2.out
      have C2 := Lib.hid (C1.out.kept k2)
      obtain ⟨C2a, C2b, _⟩ := C2.out
      have K2 := K1.trans k2
      go_wp2_with fail
      refine (less_any b a _).mono ?_
      rintro e W3 ⟨rfl, k3⟩
      rw [BA.out]
      have A3 := Lib.hid (A2.out.kept k3)
      obtain ⟨A3a, A3b, _⟩ := A3.out
      have B3 := Lib.hid (B2.out.kept k3)
      obtain ⟨B3a, B3b, _⟩ := B3.out
      have C3 := Lib.hid (C2.out.kept k3)
      obtain ⟨C3a, C3b, _⟩ := C3.out
      have K3 := K2.trans k3
      go_wp2_with fail
      refine (less_any b c _).mono ?_
      rintro e W4 ⟨rfl, k4⟩
      rw [BC.out]
      have A4 := Lib.hid (A3.out.kept k4)
      obtain ⟨A4a, A4b, _⟩ := A4.out
      have B4 := Lib.hid (B3.out.kept k4)
      obtain ⟨B4a, B4b, _⟩ := B4.out
      have C4 := Lib.hid (C3.out.kept k4)
      obtain ⟨C4a, C4b, _⟩ := C4.out
      have K4 := K3.trans k4
      go_wp2_with fail
      refine (less_any a c _).mono ?_
      rintro e W5 ⟨rfl, k5⟩
      rw [AC.out]
      have A5 := Lib.hid (A4.out.kept k5)
      obtain ⟨A5a, A5b, _⟩ := A5.out
      have B5 := Lib.hid (B4.out.kept k5)
      obtain ⟨B5a, B5b, _⟩ := B5.out
      have C5 := Lib.hid (C4.out.kept k5)
      obtain ⟨C5a, C5b, _⟩ := C5.out
      have K5 := K4.trans k5
      go_wp2_with fail
      go_ret
      exact ⟨rfl, K5⟩
  · have NE := id_ne (Ne.symm (lessN_ne ba))
    have AB := Lib.hid ab; have BA := Lib.hid ba
    clear ab ba
    go_enter Try.func5, Try.ntmps5
    go_wp2_with fail
    have A0 := Lib.hid (((HasId.new w w.heap.size a rfl).alloc (.cells #[.int .u64 b.1, .int .u64 b.2] 25)).alloc (.cells #[.int .u64 c.1, .int .u64 c.2] 25))
    have B0 := Lib.hid ((HasId.new (w.alloc (.cells #[.int .u64 a.1, .int .u64 a.2] 25)) (w.heap.size + 1) b (by simp)).alloc (.cells #[.int .u64 c.1, .int .u64 c.2] 25))
    have C0 := Lib.hid (HasId.new ((w.alloc (.cells #[.int .u64 a.1, .int .u64 a.2] 25)).alloc (.cells #[.int .u64 b.1, .int .u64 b.2] 25)) (w.heap.size + 2) c (by simp))
    have K0 : Kept w (((w.alloc (.cells #[.int .u64 a.1, .int .u64 a.2] 25)).alloc (.cells #[.int .u64 b.1, .int .u64 b.2] 25)).alloc (.cells #[.int .u64 c.1, .int .u64 c.2] 25)) := (((Kept.refl w).alloc _).alloc _).alloc _
    generalize (((w.alloc (.cells #[.int .u64 a.1, .int .u64 a.2] 25)).alloc (.cells #[.int .u64 b.1, .int .u64 b.2] 25)).alloc (.cells #[.int .u64 c.1, .int .u64 c.2] 25)) = W0 at *
    generalize w.heap.size = z at *
    refine (awake_any _).mono ?_
    rintro e W1 ⟨rfl, k1⟩
    have A1 := Lib.hid (A0.out.kept k1)
    obtain ⟨A1a, A1b, _⟩ := A1.out
    have B1 := Lib.hid (B0.out.kept k1)
    obtain ⟨B1a, B1b, _⟩ := B1.out
    have C1 := Lib.hid (C0.out.kept k1)
    obtain ⟨C1a, C1b, _⟩ := C1.out
    have K1 := K0.trans k1
    go_wp2_with fail
    refine (less_any a b _).mono ?_
    rintro e W2 ⟨rfl, k2⟩
    rw [AB.out]
    have A2 := Lib.hid (A1.out.kept k2)
    obtain ⟨A2a, A2b, _⟩ := A2.out
    have B2 := Lib.hid (B1.out.kept k2)
    obtain ⟨B2a, B2b, _⟩ := B2.out
    have C2 := Lib.hid (C1.out.kept k2)
    obtain ⟨C2a, C2b, _⟩ := C2.out
    have K2 := K1.trans k2
    go_wp2_with fail
    refine (less_any b a _).mono ?_
    rintro e W3 ⟨rfl, k3⟩
    rw [BA.out]
    have A3 := Lib.hid (A2.out.kept k3)
    obtain ⟨A3a, A3b, _⟩ := A3.out
    have B3 := Lib.hid (B2.out.kept k3)
    obtain ⟨B3a, B3b, _⟩ := B3.out
    have C3 := Lib.hid (C2.out.kept k3)
    obtain ⟨C3a, C3b, _⟩ := C3.out
    have K3 := K2.trans k3
    go_wp2_with fail
    go_ret
    exact ⟨rfl, K3⟩

/-! ### The row's step -/
set_option maxRecDepth 100000 in
theorem lifted (os : Os) (started : os.Started) (H : Type) (enc : TypeId × Value → H) :
    ReturnsInHanded {} Try.checked os 5 .any (Rows.mixOrderSpec.pre6 enc Try.prog Try.f5 Rows.mixOrderRow.domain false) (Rows.mixOrderSpec.post enc Try.prog Try.f5 false true false false) := by
  refine returnsInHanded_of_change (C := Try.checked) own started (by kernel_rfl) Try.func5
    (ChangeSpec.witness6 (enc := enc) (C := Try.checked) false ⟨#[], #[.agg #[.int .u64 0, .int .u64 0], .agg #[.int .u64 0, .int .u64 0], .agg #[.int .u64 0, .int .u64 0]], []⟩ 8 (by kernel_rfl) (by kernel_rfl) (by kernel_rfl) (by kernel_rfl)) ?_
  intro W base args ds gs before hval0 hW hcnd _
  have hval : ∀ (j : Nat) t v, Try.f5.params[j]? = some t → args[j]? = some v → Value.okWide Try.prog W .any base t v := hval0
  have hW' := hW
  obtain ⟨p, q, hA0, hV, rfl, hfz, hnd⟩ := hW
  have hA : DataW.TrodAll enc Try.prog W 0 (fun _ => true) true Try.f5.params.toList args.toList ds p := hA0
  rw [Try.params5] at hA hval
  obtain ⟨v0, vs0, d0, ds0, p0, q0, hargs, rfl, rfl, h0, r0⟩ := trodAll_cons hA
  obtain ⟨v1, vs1, d1, ds1, p1, q1, rfl, rfl, rfl, h1, r1⟩ := trodAll_cons r0
  obtain ⟨v2, vs2, d2, ds2, p2, q2, rfl, rfl, rfl, h2, r2⟩ := trodAll_cons r1
  obtain ⟨rfl, rfl, rfl⟩ := trodAll_nil r2
  obtain rfl : args = #[v0, v1, v2] := by cases args; simp_all
  obtain ⟨rfl, rfl⟩ := trodVars_none hV
  obtain ⟨a, rfl, ha1, ha2⟩ := open_id (hval 0 _ v0 rfl rfl) h0
  obtain ⟨b, rfl, hb1, hb2⟩ := open_id (hval 1 _ v1 rfl rfl) h1
  obtain ⟨c, rfl, hc1, hc2⟩ := open_id (hval 2 _ v2 rfl rfl) h2
  clear hA0 hval0
  refine (walk W a ha1 ha2 b hb1 hb2 c hc1 hc2).mono fun e W' ⟨he, hb⟩ => ?_
  subst he
  exact ⟨_, rfl, law_post rfl (by kernel_rfl) rfl hW' rfl hb⟩

theorem over : Rows.mixOrderRow.holds Try.pinned (OpenSpec.ofChange Rows.mixOrderSpec) :=
  OpenClaim.holds_of_wide 5 Try.f5 rfl rfl rfl rfl rfl rfl rfl ⟨rfl, rfl, rfl, rfl, rfl⟩ rfl rfl rfl rfl rfl (by kernel_rfl) Try.func5 (by kernel_rfl)
    (of_decide_eq_true (by kernel_rfl)) (by unfold Func.isWrapper; first | (rw [if_pos (by decide +kernel)]; kernel_rfl) | (rw [if_neg (by decide +kernel)]; exact ⟨rfl, rfl⟩))
    (fun os started H enc _ => lifted os started H enc)

/-- The statement. -/
theorem proved : Rows.MixOrderSaid :=
  over
#print axioms proved
end Go.Proofs.Ytaldldplpefobaa.mixOrder
