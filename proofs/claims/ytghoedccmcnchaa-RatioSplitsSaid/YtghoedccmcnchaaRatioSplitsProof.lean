/-
  For all three numbers marigoldlaw01.RatioSplits returns true and leaves its arguments as they were: no further condition.
-/
import Derived.Test.YtghoedccmcnchaaMore
import Derived.WalkKit
import Derived.ProofKit
import Derived.OpenShut
namespace Go.Proofs.Ytghoedccmcnchaa.ratioSplits
open Go.ChangeShapes Go.WideShapes Go.ChangeAt Go.RowKit
set_option linter.unusedVariables false      -- a walk need not use every 'w<i>' (that an integer argument fits its kind)

theorem own : ownKnob Try.prog.godebug = none := by kernel_rfl

theorem mulB_yes {a b : Int} (h : mulB a b = true) : mayB a = true ∧ mayB b = true ∧ a * b ≤ 4611686018427387904 := by
  simp only [mulB, Bool.and_eq_true, decide_eq_true_eq] at h
  exact ⟨h.1.1, h.1.2, h.2⟩
theorem mulB_mk {a b : Int} (ha : mayB a = true) (hb : mayB b = true) (h : a * b ≤ 4611686018427387904) : mulB a b = true := by
  simp only [mulB, Bool.and_eq_true, decide_eq_true_eq]
  exact ⟨⟨ha, hb⟩, h⟩

/-! ### The walk: the call returns true, and of what was there nothing has changed. -/
set_option maxHeartbeats 1000000 in
theorem walk (a0 : Int) (a1 : Int) (a2 : Int) (w0 : (Lit.int .i64 a0).wf = true) (w1 : (Lit.int .i64 a1).wf = true) (w2 : (Lit.int .i64 a2).wf = true) (w : World) :
    Calls Try.prog 7 #[.int .i64 a0, .int .i64 a1, .int .i64 a2] w fun e w' => e = .returned (.bool true) ∧ Grown w w' := by
  cases hs : addB a0 a1
  · have HS := Lib.hid hs
    clear hs
    go_enter Try.func7, Try.ntmps7
    go_wp2_with fail
    refine (awake_any _).mono ?_
    rintro e x1 ⟨rfl, gx1⟩
    go_wp2_with fail
    refine (add_any _ _ _).mono ?_
    rintro e w' ⟨rfl, rfl⟩
    rw [HS.out]
    go_wp2_with fail
    refine (mul_any _ _ _).mono ?_
    rintro e x2 ⟨rfl, gx2⟩
    go_wp2_with fail
    refine (mul_any _ _ _).mono ?_
    rintro e x3 ⟨rfl, gx3⟩
    go_wp2_with fail
    refine (add_any _ _ _).mono ?_
    rintro e w' ⟨rfl, rfl⟩
    go_wp2_with fail
    refine (mul_any _ _ _).mono ?_
    rintro e x4 ⟨rfl, gx4⟩
    go_wp2_with fail
    go_ret
    exact ⟨rfl, (Grown_trans gx1 (Grown_trans gx2 (Grown_trans gx3 gx4)))⟩
  obtain ⟨p0, p1, p2, hn⟩ := addB_yes hs
  cases hc : mayB a2
  · have HS := Lib.hid hs
    have HN := Lib.hid hn
    have HC := Lib.hid hc
    clear hs hn hc
    go_enter Try.func7, Try.ntmps7
    go_wp2_with fail
    refine (awake_any _).mono ?_
    rintro e x1 ⟨rfl, gx1⟩
    go_wp2_with fail
    refine (add_any _ _ _).mono ?_
    rintro e w' ⟨rfl, rfl⟩
    rw [HS.out, HN.out]
    go_wp2_with fail
    refine (mul_any _ _ _).mono ?_
    rintro e x2 ⟨rfl, gx2⟩
    go_wp2_with fail
    refine (mul_any _ _ _).mono ?_
    rintro e x3 ⟨rfl, gx3⟩
    go_wp2_with fail
    refine (add_any _ _ _).mono ?_
    rintro e w' ⟨rfl, rfl⟩
    go_wp2_with fail
    refine (mul_any _ _ _).mono ?_
    rintro e x4 ⟨rfl, gx4⟩
    go_wp2_with fail
    refine (may_any _ _).mono ?_
    rintro e w' ⟨rfl, rfl⟩
    rw [HC.out]
    go_wp2_with fail
    go_ret
    exact ⟨rfl, (Grown_trans gx1 (Grown_trans gx2 (Grown_trans gx3 gx4)))⟩
  obtain ⟨c0, c1⟩ := mayB_yes hc
  have hma : mayB a0 = true := mayB_mk (by omega)
  have hmb : mayB a1 = true := mayB_mk (by omega)
  have hms : mayB (a0 + a1) = true := mayB_mk (by omega)
  have e : (a0 + a1) * a2 = a0 * a2 + a1 * a2 := Int.add_mul a0 a1 a2
  have n0 : 0 ≤ a0 * a2 := Int.mul_nonneg p0 c0
  have n1 : 0 ≤ a1 * a2 := Int.mul_nonneg p1 c0
  cases hu : mulB (a0 + a1) a2
  · have hbig : 4611686018427387904 < a0 * a2 + a1 * a2 := by
      rw [← e]
      apply Int.not_le.1
      intro k
      rw [mulB_mk hms hc k] at hu
      cases hu
    have h0 := mulN_no hu
    cases h1 : mulB a0 a2
    · have k1 := mulN_no h1
      clear hma hmb hms e
      have HS := Lib.hid hs
      have HN := Lib.hid hn
      have HC := Lib.hid hc
      have HU := Lib.hid hu
      have H0 := Lib.hid h0
      have H1 := Lib.hid h1
      have K1 := Lib.hid k1
      clear hs hn hc hu h0 h1 k1
      go_enter Try.func7, Try.ntmps7
      go_wp2_with fail
      refine (awake_any _).mono ?_
      rintro e x1 ⟨rfl, gx1⟩
      go_wp2_with fail
      refine (add_any _ _ _).mono ?_
      rintro e w' ⟨rfl, rfl⟩
      rw [HS.out, HN.out]
      go_wp2_with fail
      refine (mul_any _ _ _).mono ?_
      rintro e x2 ⟨rfl, gx2⟩
      rw [H1.out, K1.out]
      go_wp2_with fail
      refine (mul_any _ _ _).mono ?_
      rintro e x3 ⟨rfl, gx3⟩
      go_wp2_with fail
      refine (add_any _ _ _).mono ?_
      rintro e w' ⟨rfl, rfl⟩
      go_wp2_with fail
      refine (mul_any _ _ _).mono ?_
      rintro e x4 ⟨rfl, gx4⟩
      rw [HU.out, H0.out]
      go_wp2_with fail
      refine (may_any _ _).mono ?_
      rintro e w' ⟨rfl, rfl⟩
      rw [HC.out]
      go_wp2_with fail
      go_ret
      exact ⟨rfl, (Grown_trans gx1 (Grown_trans gx2 (Grown_trans gx3 gx4)))⟩
    have k1 := mulN_yes h1
    cases h2 : mulB a1 a2
    · have k2 := mulN_no h2
      clear hma hmb hms e
      have HS := Lib.hid hs
      have HN := Lib.hid hn
      have HC := Lib.hid hc
      have HU := Lib.hid hu
      have H0 := Lib.hid h0
      have H1 := Lib.hid h1
      have K1 := Lib.hid k1
      have H2 := Lib.hid h2
      have K2 := Lib.hid k2
      clear hs hn hc hu h0 h1 k1 h2 k2
      go_enter Try.func7, Try.ntmps7
      go_wp2_with fail
      refine (awake_any _).mono ?_
      rintro e x1 ⟨rfl, gx1⟩
      go_wp2_with fail
      refine (add_any _ _ _).mono ?_
      rintro e w' ⟨rfl, rfl⟩
      rw [HS.out, HN.out]
      go_wp2_with fail
      refine (mul_any _ _ _).mono ?_
      rintro e x2 ⟨rfl, gx2⟩
      rw [H1.out, K1.out]
      go_wp2_with fail
      refine (mul_any _ _ _).mono ?_
      rintro e x3 ⟨rfl, gx3⟩
      rw [H2.out, K2.out]
      go_wp2_with fail
      refine (add_any _ _ _).mono ?_
      rintro e w' ⟨rfl, rfl⟩
      go_wp2_with fail
      refine (mul_any _ _ _).mono ?_
      rintro e x4 ⟨rfl, gx4⟩
      rw [HU.out, H0.out]
      go_wp2_with fail
      refine (may_any _ _).mono ?_
      rintro e w' ⟨rfl, rfl⟩
      rw [HC.out]
      go_wp2_with fail
      go_ret
      exact ⟨rfl, (Grown_trans gx1 (Grown_trans gx2 (Grown_trans gx3 gx4)))⟩
    have k2 := mulN_yes h2
    have h3 : addB (a0 * a2) (a1 * a2) = false := by simp [addB]; intro _ _; omega
    clear hma hmb hms e
    have HS := Lib.hid hs
    have HN := Lib.hid hn
    have HC := Lib.hid hc
    have HU := Lib.hid hu
    have H0 := Lib.hid h0
    have H1 := Lib.hid h1
    have K1 := Lib.hid k1
    have H2 := Lib.hid h2
    have K2 := Lib.hid k2
    have H3 := Lib.hid h3
    clear hs hn hc hu h0 h1 k1 h2 k2 h3
    go_enter Try.func7, Try.ntmps7
    go_wp2_with fail
    refine (awake_any _).mono ?_
    rintro e x1 ⟨rfl, gx1⟩
    go_wp2_with fail
    refine (add_any _ _ _).mono ?_
    rintro e w' ⟨rfl, rfl⟩
    rw [HS.out, HN.out]
    go_wp2_with fail
    refine (mul_any _ _ _).mono ?_
    rintro e x2 ⟨rfl, gx2⟩
    rw [H1.out, K1.out]
    go_wp2_with fail
    refine (mul_any _ _ _).mono ?_
    rintro e x3 ⟨rfl, gx3⟩
    rw [H2.out, K2.out]
    go_wp2_with fail
    refine (add_any _ _ _).mono ?_
    rintro e w' ⟨rfl, rfl⟩
    rw [H3.out]
    go_wp2_with fail
    refine (mul_any _ _ _).mono ?_
    rintro e x4 ⟨rfl, gx4⟩
    rw [HU.out, H0.out]
    go_wp2_with fail
    refine (may_any _ _).mono ?_
    rintro e w' ⟨rfl, rfl⟩
    rw [HC.out]
    go_wp2_with fail
    go_ret
    exact ⟨rfl, (Grown_trans gx1 (Grown_trans gx2 (Grown_trans gx3 gx4)))⟩
  obtain ⟨_, _, hle⟩ := mulB_yes hu
  have h0 := mulN_yes hu
  rw [e] at h0 hle
  have h1 : mulB a0 a2 = true := mulB_mk hma hc (by omega)
  have h2 : mulB a1 a2 = true := mulB_mk hmb hc (by omega)
  have k1 := mulN_yes h1
  have k2 := mulN_yes h2
  have h3 : addB (a0 * a2) (a1 * a2) = true := addB_mk n0 n1 hle
  have k3 := addN_yes h3
  clear hma hmb hms e
  have HS := Lib.hid hs
  have HN := Lib.hid hn
  have HC := Lib.hid hc
  have HU := Lib.hid hu
  have H0 := Lib.hid h0
  have H1 := Lib.hid h1
  have K1 := Lib.hid k1
  have H2 := Lib.hid h2
  have K2 := Lib.hid k2
  have H3 := Lib.hid h3
  have K3 := Lib.hid k3
  clear hs hn hc hu h0 h1 k1 h2 k2 h3 k3
  go_enter Try.func7, Try.ntmps7
  go_wp2_with fail
  refine (awake_any _).mono ?_
  rintro e x1 ⟨rfl, gx1⟩
  go_wp2_with fail
  refine (add_any _ _ _).mono ?_
  rintro e w' ⟨rfl, rfl⟩
  rw [HS.out, HN.out]
  go_wp2_with fail
  refine (mul_any _ _ _).mono ?_
  rintro e x2 ⟨rfl, gx2⟩
  rw [H1.out, K1.out]
  go_wp2_with fail
  refine (mul_any _ _ _).mono ?_
  rintro e x3 ⟨rfl, gx3⟩
  rw [H2.out, K2.out]
  go_wp2_with fail
  refine (add_any _ _ _).mono ?_
  rintro e w' ⟨rfl, rfl⟩
  rw [H3.out, K3.out]
  go_wp2_with fail
  refine (mul_any _ _ _).mono ?_
  rintro e x4 ⟨rfl, gx4⟩
  rw [HU.out, H0.out]
  go_wp2_with fail
  refine (may_any _ _).mono ?_
  rintro e w' ⟨rfl, rfl⟩
  rw [HC.out]
  go_wp2_with fail
  go_ret
  exact ⟨rfl, (Grown_trans gx1 (Grown_trans gx2 (Grown_trans gx3 gx4)))⟩

/-! ### The row's step -/
set_option maxRecDepth 100000 in
theorem lifted (os : Os) (started : os.Started) (H : Type) (enc : TypeId × Value → H) :
    ReturnsInHanded {} Try.checked os 7 .any (Rows.ratioSplitsSpec.pre6 enc Try.prog Try.f7 Rows.ratioSplitsRow.domain false) (Rows.ratioSplitsSpec.post enc Try.prog Try.f7 false true false false) := by
  refine returnsInHanded_of_change (C := Try.checked) own started (by kernel_rfl) Try.func7
    (ChangeSpec.witness6 (enc := enc) (C := Try.checked) false ⟨#[], #[.int .i64 0, .int .i64 0, .int .i64 0], []⟩ 8 (by kernel_rfl) (by kernel_rfl) (by kernel_rfl) (by kernel_rfl)) ?_
  intro W base args ds gs before hval0 hW hcnd _
  have hval : ∀ (j : Nat) t v, Try.f7.params[j]? = some t → args[j]? = some v → Value.okWide Try.prog W .any base t v := hval0
  have hW' := hW
  obtain ⟨p, q, hA0, hV, rfl, hfz, hnd⟩ := hW
  have hA : DataW.TrodAll enc Try.prog W 0 (fun _ => true) true Try.f7.params.toList args.toList ds p := hA0
  rw [Try.params7] at hA hval
  obtain ⟨v0, vs0, d0, ds0, p0, q0, hargs, rfl, rfl, h0, r0⟩ := trodAll_cons hA
  obtain ⟨v1, vs1, d1, ds1, p1, q1, rfl, rfl, rfl, h1, r1⟩ := trodAll_cons r0
  obtain ⟨v2, vs2, d2, ds2, p2, q2, rfl, rfl, rfl, h2, r2⟩ := trodAll_cons r1
  obtain ⟨rfl, rfl, rfl⟩ := trodAll_nil r2
  obtain rfl : args = #[v0, v1, v2] := by cases args; simp_all
  obtain ⟨rfl, rfl⟩ := trodVars_none hV
  obtain ⟨a0, rfl, rfl, rfl, w0⟩ := open_int Try.underlying3 (hval 0 3 v0 rfl rfl) h0
  obtain ⟨a1, rfl, rfl, rfl, w1⟩ := open_int Try.underlying3 (hval 1 3 v1 rfl rfl) h1
  obtain ⟨a2, rfl, rfl, rfl, w2⟩ := open_int Try.underlying3 (hval 2 3 v2 rfl rfl) h2
  clear hA0 hval0
  simp only [List.append_nil] at hW'
  refine (walk a0 a1 a2 w0 w1 w2 W).mono fun e W' ⟨he, hg⟩ => ?_
  subst he
  exact ⟨_, rfl, post_of_same (pa := []) (pv := []) hW' (fun _ _ _ => (trodAll_cons_mk (shut_bool Try.underlying4 _) trodAll_mk0)) (fun sp _ => (trodAll_cons_mk (shut_int Try.underlying3 w0) (trodAll_cons_mk (shut_int Try.underlying3 w1) (trodAll_cons_mk (shut_int Try.underlying3 w2) trodAll_mk0)))) (fun _ _ => rfl) rfl
    (hg.frame _) hg.2.1 (ok_one (by kernel_rfl) rfl (okWide_bool_mk Try.underlying4 _))⟩

theorem over : Rows.ratioSplitsRow.holds Try.pinned (OpenSpec.ofChange Rows.ratioSplitsSpec) :=
  OpenClaim.holds_of_wide 7 Try.f7 rfl rfl rfl rfl rfl rfl rfl ⟨rfl, rfl, rfl, rfl, rfl⟩ rfl rfl rfl rfl rfl (by kernel_rfl) Try.func7 (by kernel_rfl)
    (of_decide_eq_true (by kernel_rfl)) (by unfold Func.isWrapper; first | (rw [if_pos (by decide +kernel)]; kernel_rfl) | (rw [if_neg (by decide +kernel)]; exact ⟨rfl, rfl⟩))
    (fun os started H enc _ => lifted os started H enc)

/-- The statement. -/
theorem proved : Rows.RatioSplitsSaid :=
  over
#print axioms proved
end Go.Proofs.Ytghoedccmcnchaa.ratioSplits
