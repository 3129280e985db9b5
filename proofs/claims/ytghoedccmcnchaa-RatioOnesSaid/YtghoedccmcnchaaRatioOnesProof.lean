/-
  For all two numbers marigoldlaw01.RatioOnes returns true and leaves its arguments as they were: no further condition.
-/
import Derived.Test.YtghoedccmcnchaaMore
import Derived.WalkKit
import Derived.ProofKit
import Derived.OpenShut
namespace Go.Proofs.Ytghoedccmcnchaa.ratioOnes
open Go.ChangeShapes Go.WideShapes Go.ChangeAt Go.RowKit
set_option linter.unusedVariables false      -- a walk need not use every 'w<i>' (that an integer argument fits its kind)

theorem own : ownKnob Try.prog.godebug = none := by kernel_rfl

theorem one_may : mayB 1 = true := by decide
/-! ### The walk: the call returns true, and of what was there nothing has changed. -/
set_option maxHeartbeats 1000000 in
theorem walk (a0 : Int) (a1 : Int) (w0 : (Lit.int .i64 a0).wf = true) (w1 : (Lit.int .i64 a1).wf = true) (w : World) :
    Calls Try.prog 8 #[.int .i64 a0, .int .i64 a1] w fun e w' => e = .returned (.bool true) ∧ Grown w w' := by
  cases ha : mayB a0
  · have h1 : moreB a0 1 a1 1 = false := by simp [moreB, ha]
    have h2 : moreB a1 1 a0 1 = false := by simp [moreB, ha]
    have HA := Lib.hid ha
    have H1 := Lib.hid h1
    have H2 := Lib.hid h2
    clear ha h1 h2
    go_enter Try.func8, Try.ntmps8
    go_wp2_with fail
    refine (awake_any _).mono ?_
    rintro e x1 ⟨rfl, gx1⟩
    go_wp2_with fail
    refine (more_any _ _ _ _ _).mono ?_
    rintro e x2 ⟨rfl, gx2⟩
    rw [H1.out]
    go_wp2_with fail
    refine (may_any _ _).mono ?_
    rintro e w' ⟨rfl, rfl⟩
    rw [HA.out]
    go_wp2_with fail
    refine (more_any _ _ _ _ _).mono ?_
    rintro e x3 ⟨rfl, gx3⟩
    rw [H2.out]
    go_wp2_with fail
    go_ret
    exact ⟨rfl, (Grown_trans gx1 (Grown_trans gx2 gx3))⟩
  cases hb : mayB a1
  · have h1 : moreB a0 1 a1 1 = false := by simp [moreB, hb]
    have h2 : moreB a1 1 a0 1 = false := by simp [moreB, hb]
    have HA := Lib.hid ha
    have HB := Lib.hid hb
    have H1 := Lib.hid h1
    have H2 := Lib.hid h2
    clear ha hb h1 h2
    go_enter Try.func8, Try.ntmps8
    go_wp2_with fail
    refine (awake_any _).mono ?_
    rintro e x1 ⟨rfl, gx1⟩
    go_wp2_with fail
    refine (more_any _ _ _ _ _).mono ?_
    rintro e x2 ⟨rfl, gx2⟩
    rw [H1.out]
    go_wp2_with fail
    refine (may_any _ _).mono ?_
    rintro e w' ⟨rfl, rfl⟩
    rw [HA.out]
    go_wp2_with fail
    refine (may_any _ _).mono ?_
    rintro e w' ⟨rfl, rfl⟩
    rw [HB.out]
    go_wp2_with fail
    refine (more_any _ _ _ _ _).mono ?_
    rintro e x3 ⟨rfl, gx3⟩
    rw [H2.out]
    go_wp2_with fail
    go_ret
    exact ⟨rfl, (Grown_trans gx1 (Grown_trans gx2 gx3))⟩
  obtain ⟨p0, p1⟩ := mayB_yes ha
  have m1 : mulB a0 1 = true := by simp [mulB, ha, one_may]; omega
  have m2 : mulN a0 1 = a0 := by rw [mulN_yes m1]; omega
  by_cases hlt : a1 < a0
  · have h1 : moreB a0 1 a1 1 = true := by simp [moreB, ha, hb, one_may]; omega
    have h2 : moreB 1 a0 a1 1 = true := by simp [moreB, ha, hb, one_may]; omega
    have HA := Lib.hid ha
    have HB := Lib.hid hb
    have H1 := Lib.hid h1
    have H2 := Lib.hid h2
    have M1 := Lib.hid m1
    have M2 := Lib.hid m2
    clear ha hb h1 h2 m1 m2
    go_enter Try.func8, Try.ntmps8
    go_wp2_with fail
    refine (awake_any _).mono ?_
    rintro e x1 ⟨rfl, gx1⟩
    go_wp2_with fail
    refine (more_any _ _ _ _ _).mono ?_
    rintro e x2 ⟨rfl, gx2⟩
    rw [H1.out]
    go_wp2_with fail
    refine (may_any _ _).mono ?_
    rintro e w' ⟨rfl, rfl⟩
    rw [HA.out]
    go_wp2_with fail
    refine (may_any _ _).mono ?_
    rintro e w' ⟨rfl, rfl⟩
    rw [HB.out]
    go_wp2_with fail
    refine (mul_any _ _ _).mono ?_
    rintro e x3 ⟨rfl, gx3⟩
    rw [M1.out, M2.out]
    go_wp2_with fail
    refine (more_any _ _ _ _ _).mono ?_
    rintro e x4 ⟨rfl, gx4⟩
    rw [H2.out]
    go_wp2_with fail
    go_ret
    exact ⟨rfl, (Grown_trans gx1 (Grown_trans gx2 (Grown_trans gx3 gx4)))⟩
  · have hle : decide (a1 < a0) = false := decide_eq_false hlt
    have h1 : moreB a0 1 a1 1 = false := by simp [moreB, ha, hb, one_may]; omega
    have h2 : moreB 1 a0 a1 1 = false := by simp [moreB, ha, hb, one_may]; omega
    have HA := Lib.hid ha
    have HB := Lib.hid hb
    have H1 := Lib.hid h1
    have H2 := Lib.hid h2
    have M1 := Lib.hid m1
    have M2 := Lib.hid m2
    clear ha hb h1 h2 m1 m2
    go_enter Try.func8, Try.ntmps8
    go_wp2_with fail
    refine (awake_any _).mono ?_
    rintro e x1 ⟨rfl, gx1⟩
    go_wp2_with fail
    refine (more_any _ _ _ _ _).mono ?_
    rintro e x2 ⟨rfl, gx2⟩
    rw [H1.out]
    go_wp2_with fail
    refine (may_any _ _).mono ?_
    rintro e w' ⟨rfl, rfl⟩
    rw [HA.out]
    go_wp2_with fail
    refine (may_any _ _).mono ?_
    rintro e w' ⟨rfl, rfl⟩
    rw [HB.out]
    go_wp2_with fail
    refine (mul_any _ _ _).mono ?_
    rintro e x3 ⟨rfl, gx3⟩
    rw [M1.out, M2.out]
    go_wp2_with fail
    refine (more_any _ _ _ _ _).mono ?_
    rintro e x4 ⟨rfl, gx4⟩
    rw [H2.out]
    go_wp2_with fail
    go_ret
    exact ⟨rfl, (Grown_trans gx1 (Grown_trans gx2 (Grown_trans gx3 gx4)))⟩

/-! ### The row's step -/
set_option maxRecDepth 100000 in
theorem lifted (os : Os) (started : os.Started) (H : Type) (enc : TypeId × Value → H) :
    ReturnsInHanded {} Try.checked os 8 .any (Rows.ratioOnesSpec.pre6 enc Try.prog Try.f8 Rows.ratioOnesRow.domain false) (Rows.ratioOnesSpec.post enc Try.prog Try.f8 false true false false) := by
  refine returnsInHanded_of_change (C := Try.checked) own started (by kernel_rfl) Try.func8
    (ChangeSpec.witness6 (enc := enc) (C := Try.checked) false ⟨#[], #[.int .i64 0, .int .i64 0], []⟩ 8 (by kernel_rfl) (by kernel_rfl) (by kernel_rfl) (by kernel_rfl)) ?_
  intro W base args ds gs before hval0 hW hcnd _
  have hval : ∀ (j : Nat) t v, Try.f8.params[j]? = some t → args[j]? = some v → Value.okWide Try.prog W .any base t v := hval0
  have hW' := hW
  obtain ⟨p, q, hA0, hV, rfl, hfz, hnd⟩ := hW
  have hA : DataW.TrodAll enc Try.prog W 0 (fun _ => true) true Try.f8.params.toList args.toList ds p := hA0
  rw [Try.params8] at hA hval
  obtain ⟨v0, vs0, d0, ds0, p0, q0, hargs, rfl, rfl, h0, r0⟩ := trodAll_cons hA
  obtain ⟨v1, vs1, d1, ds1, p1, q1, rfl, rfl, rfl, h1, r1⟩ := trodAll_cons r0
  obtain ⟨rfl, rfl, rfl⟩ := trodAll_nil r1
  obtain rfl : args = #[v0, v1] := by cases args; simp_all
  obtain ⟨rfl, rfl⟩ := trodVars_none hV
  obtain ⟨a0, rfl, rfl, rfl, w0⟩ := open_int Try.underlying3 (hval 0 3 v0 rfl rfl) h0
  obtain ⟨a1, rfl, rfl, rfl, w1⟩ := open_int Try.underlying3 (hval 1 3 v1 rfl rfl) h1
  clear hA0 hval0
  simp only [List.append_nil] at hW'
  refine (walk a0 a1 w0 w1 W).mono fun e W' ⟨he, hg⟩ => ?_
  subst he
  exact ⟨_, rfl, post_of_same (pa := []) (pv := []) hW' (fun _ _ _ => (trodAll_cons_mk (shut_bool Try.underlying4 _) trodAll_mk0)) (fun sp _ => (trodAll_cons_mk (shut_int Try.underlying3 w0) (trodAll_cons_mk (shut_int Try.underlying3 w1) trodAll_mk0))) (fun _ _ => rfl) rfl
    (hg.frame _) hg.2.1 (ok_one (by kernel_rfl) rfl (okWide_bool_mk Try.underlying4 _))⟩

theorem over : Rows.ratioOnesRow.holds Try.pinned (OpenSpec.ofChange Rows.ratioOnesSpec) :=
  OpenClaim.holds_of_wide 8 Try.f8 rfl rfl rfl rfl rfl rfl rfl ⟨rfl, rfl, rfl, rfl, rfl⟩ rfl rfl rfl rfl rfl (by kernel_rfl) Try.func8 (by kernel_rfl)
    (of_decide_eq_true (by kernel_rfl)) (by unfold Func.isWrapper; first | (rw [if_pos (by decide +kernel)]; kernel_rfl) | (rw [if_neg (by decide +kernel)]; exact ⟨rfl, rfl⟩))
    (fun os started H enc _ => lifted os started H enc)

/-- The statement. -/
theorem proved : Rows.RatioOnesSaid :=
  over
#print axioms proved
end Go.Proofs.Ytghoedccmcnchaa.ratioOnes
