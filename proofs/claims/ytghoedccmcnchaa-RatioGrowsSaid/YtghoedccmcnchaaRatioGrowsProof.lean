/-
  For all five numbers marigoldlaw01.RatioGrows returns true and leaves its arguments as they were: no further condition.
-/
import Derived.Test.YtghoedccmcnchaaMore
import Derived.WalkKit
import Derived.ProofKit
import Derived.OpenShut
namespace Go.Proofs.Ytghoedccmcnchaa.ratioGrows
open Go.ChangeShapes Go.WideShapes Go.ChangeAt Go.RowKit
set_option linter.unusedVariables false      -- a walk need not use every 'w<i>' (that an integer argument fits its kind)

theorem own : ownKnob Try.prog.godebug = none := by kernel_rfl

theorem moreB_zero {b c d : Int} (hc : mayB c = true) (hd : mayB d = true) : moreB 0 b c d = false := by
  have p := Int.mul_nonneg (mayB_yes hc).1 (mayB_yes hd).1
  simp only [moreB, Bool.and_eq_false_iff, decide_eq_false_iff_not]
  right
  rw [Int.zero_mul]
  omega
theorem moreB_grows {a b c d m : Int} (h : moreB a b c d = true) (hm : 0 ≤ m) (hs : mayB (a + m) = true) : moreB (a + m) b c d = true := by
  simp only [moreB, Bool.and_eq_true, decide_eq_true_eq] at h ⊢
  obtain ⟨⟨⟨⟨_, hb⟩, hc⟩, hd⟩, hl⟩ := h
  have p := Int.mul_nonneg hm (mayB_yes hb).1
  refine ⟨⟨⟨⟨hs, hb⟩, hc⟩, hd⟩, ?_⟩
  rw [Int.add_mul]
  omega
theorem moreB_none {a b d : Int} (ha : mayB a = true) (hb : mayB b = true) (hd : mayB d = true) : moreB a b 0 d = decide (0 < a * b) := by
  have h0 : mayB 0 = true := by decide
  simp [moreB, ha, hb, hd, h0]

/-! ### The walk: the call returns true, and of what was there nothing has changed. -/
set_option maxHeartbeats 1000000 in
theorem walk (a0 : Int) (a1 : Int) (a2 : Int) (a3 : Int) (a4 : Int) (w0 : (Lit.int .i64 a0).wf = true) (w1 : (Lit.int .i64 a1).wf = true) (w2 : (Lit.int .i64 a2).wf = true) (w3 : (Lit.int .i64 a3).wf = true) (w4 : (Lit.int .i64 a4).wf = true) (w : World) :
    Calls Try.prog 5 #[.int .i64 a0, .int .i64 a1, .int .i64 a2, .int .i64 a3, .int .i64 a4] w fun e w' => e = .returned (.bool true) ∧ Grown w w' := by
  by_cases t1 : a4 < 0
  · go_enter Try.func5, Try.ntmps5
    go_wp2_with fail
    refine (awake_any _).mono ?_
    rintro e x1 ⟨rfl, gx1⟩
    go_wp2_with fail
    go_ret
    exact ⟨rfl, gx1⟩
  have t1' : 0 ≤ a4 := by omega
  have d1 : decide (a4 < 0) = false := decide_eq_false t1
  clear t1
  by_cases t2 : 1099511627776 < a4
  · go_enter Try.func5, Try.ntmps5
    go_wp2_with fail
    refine (awake_any _).mono ?_
    rintro e x1 ⟨rfl, gx1⟩
    go_wp2_with fail
    go_ret
    exact ⟨rfl, gx1⟩
  have t2' : a4 ≤ 1099511627776 := by omega
  have d2 : decide (1099511627776 < a4) = false := decide_eq_false t2
  clear t2
  by_cases t3 : a0 < 0
  · go_enter Try.func5, Try.ntmps5
    go_wp2_with fail
    refine (awake_any _).mono ?_
    rintro e x1 ⟨rfl, gx1⟩
    go_wp2_with fail
    go_ret
    exact ⟨rfl, gx1⟩
  have t3' : 0 ≤ a0 := by omega
  have d3 : decide (a0 < 0) = false := decide_eq_false t3
  clear t3
  by_cases t4 : 2305843009213693952 < a0
  · go_enter Try.func5, Try.ntmps5
    go_wp2_with fail
    refine (awake_any _).mono ?_
    rintro e x1 ⟨rfl, gx1⟩
    go_wp2_with fail
    go_ret
    exact ⟨rfl, gx1⟩
  have t4' : a0 ≤ 2305843009213693952 := by omega
  have d4 : decide (2305843009213693952 < a0) = false := decide_eq_false t4
  clear t4
  cases hb : mayB a1
  · have HB := Lib.hid hb
    clear hb
    go_enter Try.func5, Try.ntmps5
    go_wp2_with fail
    refine (awake_any _).mono ?_
    rintro e x1 ⟨rfl, gx1⟩
    go_wp2_with fail
    refine (may_any _ _).mono ?_
    rintro e w' ⟨rfl, rfl⟩
    rw [HB.out]
    go_wp2_with fail
    go_ret
    exact ⟨rfl, gx1⟩
  cases hc : mayB a2
  · have HB := Lib.hid hb
    have HC := Lib.hid hc
    clear hb hc
    go_enter Try.func5, Try.ntmps5
    go_wp2_with fail
    refine (awake_any _).mono ?_
    rintro e x1 ⟨rfl, gx1⟩
    go_wp2_with fail
    refine (may_any _ _).mono ?_
    rintro e w' ⟨rfl, rfl⟩
    rw [HB.out]
    go_wp2_with fail
    refine (may_any _ _).mono ?_
    rintro e w' ⟨rfl, rfl⟩
    rw [HC.out]
    go_wp2_with fail
    go_ret
    exact ⟨rfl, gx1⟩
  cases hd : mayB a3
  · have HB := Lib.hid hb
    have HC := Lib.hid hc
    have HD := Lib.hid hd
    clear hb hc hd
    go_enter Try.func5, Try.ntmps5
    go_wp2_with fail
    refine (awake_any _).mono ?_
    rintro e x1 ⟨rfl, gx1⟩
    go_wp2_with fail
    refine (may_any _ _).mono ?_
    rintro e w' ⟨rfl, rfl⟩
    rw [HB.out]
    go_wp2_with fail
    refine (may_any _ _).mono ?_
    rintro e w' ⟨rfl, rfl⟩
    rw [HC.out]
    go_wp2_with fail
    refine (may_any _ _).mono ?_
    rintro e w' ⟨rfl, rfl⟩
    rw [HD.out]
    go_wp2_with fail
    go_ret
    exact ⟨rfl, gx1⟩
  have ha : mayB a0 = true := mayB_mk (by omega)
  have hs : mayB (a0 + a4) = true := mayB_mk (by omega)
  have z1 : moreB 0 a1 a2 a3 = false := moreB_zero hc hd
  have z2 := moreB_none ha hb hd
  obtain ⟨b0, b1⟩ := mayB_yes hb
  by_cases q1 : 0 < a0
  · by_cases q2 : 0 < a1
    · have z3 : 0 < a0 * a1 := Int.mul_pos q1 q2
      rw [decide_eq_true z3] at z2
      clear z3
      cases m1 : moreB a0 a1 a2 a3
      · clear ha hs
        have HB := Lib.hid hb
        have HC := Lib.hid hc
        have HD := Lib.hid hd
        have Z1 := Lib.hid z1
        have Z2 := Lib.hid z2
        have M1 := Lib.hid m1
        clear hb hc hd z1 z2 m1
        go_enter Try.func5, Try.ntmps5
        go_wp2_with fail
        refine (awake_any _).mono ?_
        rintro e x1 ⟨rfl, gx1⟩
        go_wp2_with fail
        refine (may_any _ _).mono ?_
        rintro e w' ⟨rfl, rfl⟩
        rw [HB.out]
        go_wp2_with fail
        refine (may_any _ _).mono ?_
        rintro e w' ⟨rfl, rfl⟩
        rw [HC.out]
        go_wp2_with fail
        refine (may_any _ _).mono ?_
        rintro e w' ⟨rfl, rfl⟩
        rw [HD.out]
        go_wp2_with fail
        refine (more_any _ _ _ _ _).mono ?_
        rintro e x2 ⟨rfl, gx2⟩
        rw [Z1.out]
        go_wp2_with fail
        refine (more_any _ _ _ _ _).mono ?_
        rintro e x3 ⟨rfl, gx3⟩
        rw [M1.out]
        go_wp2_with fail
        refine (more_any _ _ _ _ _).mono ?_
        rintro e x5 ⟨rfl, gx5⟩
        rw [Z2.out]
        go_wp2_with fail
        go_ret
        exact ⟨rfl, (Grown_trans gx1 (Grown_trans gx2 (Grown_trans gx3 gx5)))⟩
      · have m2 := moreB_grows m1 t1' hs
        clear ha hs
        have HB := Lib.hid hb
        have HC := Lib.hid hc
        have HD := Lib.hid hd
        have Z1 := Lib.hid z1
        have Z2 := Lib.hid z2
        have M1 := Lib.hid m1
        have M2 := Lib.hid m2
        clear hb hc hd z1 z2 m1 m2
        go_enter Try.func5, Try.ntmps5
        go_wp2_with fail
        refine (awake_any _).mono ?_
        rintro e x1 ⟨rfl, gx1⟩
        go_wp2_with fail
        refine (may_any _ _).mono ?_
        rintro e w' ⟨rfl, rfl⟩
        rw [HB.out]
        go_wp2_with fail
        refine (may_any _ _).mono ?_
        rintro e w' ⟨rfl, rfl⟩
        rw [HC.out]
        go_wp2_with fail
        refine (may_any _ _).mono ?_
        rintro e w' ⟨rfl, rfl⟩
        rw [HD.out]
        go_wp2_with fail
        refine (more_any _ _ _ _ _).mono ?_
        rintro e x2 ⟨rfl, gx2⟩
        rw [Z1.out]
        go_wp2_with fail
        refine (more_any _ _ _ _ _).mono ?_
        rintro e x3 ⟨rfl, gx3⟩
        rw [M1.out]
        go_wp2_with fail
        refine (more_any _ _ _ _ _).mono ?_
        rintro e x4 ⟨rfl, gx4⟩
        rw [M2.out]
        go_wp2_with fail
        refine (more_any _ _ _ _ _).mono ?_
        rintro e x5 ⟨rfl, gx5⟩
        rw [Z2.out]
        go_wp2_with fail
        go_ret
        exact ⟨rfl, (Grown_trans gx1 (Grown_trans gx2 (Grown_trans gx3 (Grown_trans gx4 gx5))))⟩
    · have z3 : ¬ 0 < a0 * a1 := by rw [show a1 = 0 by omega, Int.mul_zero]; omega
      rw [decide_eq_false z3] at z2
      have q3 : decide (0 < a1) = false := decide_eq_false q2
      clear z3 q2
      cases m1 : moreB a0 a1 a2 a3
      · clear ha hs
        have HB := Lib.hid hb
        have HC := Lib.hid hc
        have HD := Lib.hid hd
        have Z1 := Lib.hid z1
        have Z2 := Lib.hid z2
        have M1 := Lib.hid m1
        clear hb hc hd z1 z2 m1
        go_enter Try.func5, Try.ntmps5
        go_wp2_with fail
        refine (awake_any _).mono ?_
        rintro e x1 ⟨rfl, gx1⟩
        go_wp2_with fail
        refine (may_any _ _).mono ?_
        rintro e w' ⟨rfl, rfl⟩
        rw [HB.out]
        go_wp2_with fail
        refine (may_any _ _).mono ?_
        rintro e w' ⟨rfl, rfl⟩
        rw [HC.out]
        go_wp2_with fail
        refine (may_any _ _).mono ?_
        rintro e w' ⟨rfl, rfl⟩
        rw [HD.out]
        go_wp2_with fail
        refine (more_any _ _ _ _ _).mono ?_
        rintro e x2 ⟨rfl, gx2⟩
        rw [Z1.out]
        go_wp2_with fail
        refine (more_any _ _ _ _ _).mono ?_
        rintro e x3 ⟨rfl, gx3⟩
        rw [M1.out]
        go_wp2_with fail
        refine (more_any _ _ _ _ _).mono ?_
        rintro e x5 ⟨rfl, gx5⟩
        rw [Z2.out]
        go_wp2_with fail
        go_ret
        exact ⟨rfl, (Grown_trans gx1 (Grown_trans gx2 (Grown_trans gx3 gx5)))⟩
      · have m2 := moreB_grows m1 t1' hs
        clear ha hs
        have HB := Lib.hid hb
        have HC := Lib.hid hc
        have HD := Lib.hid hd
        have Z1 := Lib.hid z1
        have Z2 := Lib.hid z2
        have M1 := Lib.hid m1
        have M2 := Lib.hid m2
        clear hb hc hd z1 z2 m1 m2
        go_enter Try.func5, Try.ntmps5
        go_wp2_with fail
        refine (awake_any _).mono ?_
        rintro e x1 ⟨rfl, gx1⟩
        go_wp2_with fail
        refine (may_any _ _).mono ?_
        rintro e w' ⟨rfl, rfl⟩
        rw [HB.out]
        go_wp2_with fail
        refine (may_any _ _).mono ?_
        rintro e w' ⟨rfl, rfl⟩
        rw [HC.out]
        go_wp2_with fail
        refine (may_any _ _).mono ?_
        rintro e w' ⟨rfl, rfl⟩
        rw [HD.out]
        go_wp2_with fail
        refine (more_any _ _ _ _ _).mono ?_
        rintro e x2 ⟨rfl, gx2⟩
        rw [Z1.out]
        go_wp2_with fail
        refine (more_any _ _ _ _ _).mono ?_
        rintro e x3 ⟨rfl, gx3⟩
        rw [M1.out]
        go_wp2_with fail
        refine (more_any _ _ _ _ _).mono ?_
        rintro e x4 ⟨rfl, gx4⟩
        rw [M2.out]
        go_wp2_with fail
        refine (more_any _ _ _ _ _).mono ?_
        rintro e x5 ⟨rfl, gx5⟩
        rw [Z2.out]
        go_wp2_with fail
        go_ret
        exact ⟨rfl, (Grown_trans gx1 (Grown_trans gx2 (Grown_trans gx3 (Grown_trans gx4 gx5))))⟩
  · have z3 : ¬ 0 < a0 * a1 := by rw [show a0 = 0 by omega, Int.zero_mul]; omega
    rw [decide_eq_false z3] at z2
    have q3 : decide (0 < a0) = false := decide_eq_false q1
    clear z3 q1
    cases m1 : moreB a0 a1 a2 a3
    · clear ha hs
      have HB := Lib.hid hb
      have HC := Lib.hid hc
      have HD := Lib.hid hd
      have Z1 := Lib.hid z1
      have Z2 := Lib.hid z2
      have M1 := Lib.hid m1
      clear hb hc hd z1 z2 m1
      go_enter Try.func5, Try.ntmps5
      go_wp2_with fail
      refine (awake_any _).mono ?_
      rintro e x1 ⟨rfl, gx1⟩
      go_wp2_with fail
      refine (may_any _ _).mono ?_
      rintro e w' ⟨rfl, rfl⟩
      rw [HB.out]
      go_wp2_with fail
      refine (may_any _ _).mono ?_
      rintro e w' ⟨rfl, rfl⟩
      rw [HC.out]
      go_wp2_with fail
      refine (may_any _ _).mono ?_
      rintro e w' ⟨rfl, rfl⟩
      rw [HD.out]
      go_wp2_with fail
      refine (more_any _ _ _ _ _).mono ?_
      rintro e x2 ⟨rfl, gx2⟩
      rw [Z1.out]
      go_wp2_with fail
      refine (more_any _ _ _ _ _).mono ?_
      rintro e x3 ⟨rfl, gx3⟩
      rw [M1.out]
      go_wp2_with fail
      refine (more_any _ _ _ _ _).mono ?_
      rintro e x5 ⟨rfl, gx5⟩
      rw [Z2.out]
      go_wp2_with fail
      go_ret
      exact ⟨rfl, (Grown_trans gx1 (Grown_trans gx2 (Grown_trans gx3 gx5)))⟩
    · have m2 := moreB_grows m1 t1' hs
      clear ha hs
      have HB := Lib.hid hb
      have HC := Lib.hid hc
      have HD := Lib.hid hd
      have Z1 := Lib.hid z1
      have Z2 := Lib.hid z2
      have M1 := Lib.hid m1
      have M2 := Lib.hid m2
      clear hb hc hd z1 z2 m1 m2
      go_enter Try.func5, Try.ntmps5
      go_wp2_with fail
      refine (awake_any _).mono ?_
      rintro e x1 ⟨rfl, gx1⟩
      go_wp2_with fail
      refine (may_any _ _).mono ?_
      rintro e w' ⟨rfl, rfl⟩
      rw [HB.out]
      go_wp2_with fail
      refine (may_any _ _).mono ?_
      rintro e w' ⟨rfl, rfl⟩
      rw [HC.out]
      go_wp2_with fail
      refine (may_any _ _).mono ?_
      rintro e w' ⟨rfl, rfl⟩
      rw [HD.out]
      go_wp2_with fail
      refine (more_any _ _ _ _ _).mono ?_
      rintro e x2 ⟨rfl, gx2⟩
      rw [Z1.out]
      go_wp2_with fail
      refine (more_any _ _ _ _ _).mono ?_
      rintro e x3 ⟨rfl, gx3⟩
      rw [M1.out]
      go_wp2_with fail
      refine (more_any _ _ _ _ _).mono ?_
      rintro e x4 ⟨rfl, gx4⟩
      rw [M2.out]
      go_wp2_with fail
      refine (more_any _ _ _ _ _).mono ?_
      rintro e x5 ⟨rfl, gx5⟩
      rw [Z2.out]
      go_wp2_with fail
      go_ret
      exact ⟨rfl, (Grown_trans gx1 (Grown_trans gx2 (Grown_trans gx3 (Grown_trans gx4 gx5))))⟩

/-! ### The row's step -/
set_option maxRecDepth 100000 in
theorem lifted (os : Os) (started : os.Started) (H : Type) (enc : TypeId × Value → H) :
    ReturnsInHanded {} Try.checked os 5 .any (Rows.ratioGrowsSpec.pre6 enc Try.prog Try.f5 Rows.ratioGrowsRow.domain false) (Rows.ratioGrowsSpec.post enc Try.prog Try.f5 false true false false) := by
  refine returnsInHanded_of_change (C := Try.checked) own started (by kernel_rfl) Try.func5
    (ChangeSpec.witness6 (enc := enc) (C := Try.checked) false ⟨#[], #[.int .i64 0, .int .i64 0, .int .i64 0, .int .i64 0, .int .i64 0], []⟩ 8 (by kernel_rfl) (by kernel_rfl) (by kernel_rfl) (by kernel_rfl)) ?_
  intro W base args ds gs before hval0 hW hcnd _
  have hval : ∀ (j : Nat) t v, Try.f5.params[j]? = some t → args[j]? = some v → Value.okWide Try.prog W .any base t v := hval0
  have hW' := hW
  obtain ⟨p, q, hA0, hV, rfl, hfz, hnd⟩ := hW
  have hA : DataW.TrodAll enc Try.prog W 0 (fun _ => true) true Try.f5.params.toList args.toList ds p := hA0
  rw [Try.params5] at hA hval
  obtain ⟨v0, vs0, d0, ds0, p0, q0, hargs, rfl, rfl, h0, r0⟩ := trodAll_cons hA
  obtain ⟨v1, vs1, d1, ds1, p1, q1, rfl, rfl, rfl, h1, r1⟩ := trodAll_cons r0
  obtain ⟨v2, vs2, d2, ds2, p2, q2, rfl, rfl, rfl, h2, r2⟩ := trodAll_cons r1
  obtain ⟨v3, vs3, d3, ds3, p3, q3, rfl, rfl, rfl, h3, r3⟩ := trodAll_cons r2
  obtain ⟨v4, vs4, d4, ds4, p4, q4, rfl, rfl, rfl, h4, r4⟩ := trodAll_cons r3
  obtain ⟨rfl, rfl, rfl⟩ := trodAll_nil r4
  obtain rfl : args = #[v0, v1, v2, v3, v4] := by cases args; simp_all
  obtain ⟨rfl, rfl⟩ := trodVars_none hV
  obtain ⟨a0, rfl, rfl, rfl, w0⟩ := open_int Try.underlying3 (hval 0 3 v0 rfl rfl) h0
  obtain ⟨a1, rfl, rfl, rfl, w1⟩ := open_int Try.underlying3 (hval 1 3 v1 rfl rfl) h1
  obtain ⟨a2, rfl, rfl, rfl, w2⟩ := open_int Try.underlying3 (hval 2 3 v2 rfl rfl) h2
  obtain ⟨a3, rfl, rfl, rfl, w3⟩ := open_int Try.underlying3 (hval 3 3 v3 rfl rfl) h3
  obtain ⟨a4, rfl, rfl, rfl, w4⟩ := open_int Try.underlying3 (hval 4 3 v4 rfl rfl) h4
  clear hA0 hval0
  simp only [List.append_nil] at hW'
  refine (walk a0 a1 a2 a3 a4 w0 w1 w2 w3 w4 W).mono fun e W' ⟨he, hg⟩ => ?_
  subst he
  exact ⟨_, rfl, post_of_same (pa := []) (pv := []) hW' (fun _ _ _ => (trodAll_cons_mk (shut_bool Try.underlying4 _) trodAll_mk0)) (fun sp _ => (trodAll_cons_mk (shut_int Try.underlying3 w0) (trodAll_cons_mk (shut_int Try.underlying3 w1) (trodAll_cons_mk (shut_int Try.underlying3 w2) (trodAll_cons_mk (shut_int Try.underlying3 w3) (trodAll_cons_mk (shut_int Try.underlying3 w4) trodAll_mk0)))))) (fun _ _ => rfl) rfl
    (hg.frame _) hg.2.1 (ok_one (by kernel_rfl) rfl (okWide_bool_mk Try.underlying4 _))⟩

theorem over : Rows.ratioGrowsRow.holds Try.pinned (OpenSpec.ofChange Rows.ratioGrowsSpec) :=
  OpenClaim.holds_of_wide 5 Try.f5 rfl rfl rfl rfl rfl rfl rfl ⟨rfl, rfl, rfl, rfl, rfl⟩ rfl rfl rfl rfl rfl (by kernel_rfl) Try.func5 (by kernel_rfl)
    (of_decide_eq_true (by kernel_rfl)) (by unfold Func.isWrapper; first | (rw [if_pos (by decide +kernel)]; kernel_rfl) | (rw [if_neg (by decide +kernel)]; exact ⟨rfl, rfl⟩))
    (fun os started H enc _ => lifted os started H enc)

/-- The statement. -/
theorem proved : Rows.RatioGrowsSaid :=
  over
#print axioms proved
end Go.Proofs.Ytghoedccmcnchaa.ratioGrows
