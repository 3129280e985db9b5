/-
  For all three numbers marigoldlaw01.RatioSums returns true and leaves its arguments as they were: no further condition.
-/
import Derived.Test.YtghoedccmcnchaaMore
import Derived.WalkKit
import Derived.ProofKit
import Derived.OpenShut
namespace Go.Proofs.Ytghoedccmcnchaa.ratioSums
open Go.ChangeShapes Go.WideShapes Go.ChangeAt Go.RowKit
set_option linter.unusedVariables false      -- a walk need not use every 'w<i>' (that an integer argument fits its kind)

theorem own : ownKnob Try.prog.godebug = none := by kernel_rfl

theorem addB_comm (a b : Int) : addB b a = addB a b := by
  simp only [addB, Int.add_comm b a, Bool.and_comm (mayB b) (mayB a)]
theorem addN_comm (a b : Int) : addN b a = addN a b := by
  simp only [addN, addB_comm a b, Int.add_comm b a]
theorem mulB_comm (a b : Int) : mulB b a = mulB a b := by
  simp only [mulB, Int.mul_comm b a, Bool.and_comm (mayB b) (mayB a)]
theorem mulN_comm (a b : Int) : mulN b a = mulN a b := by
  simp only [mulN, mulB_comm a b, Int.mul_comm b a]

/-! ### The walk: the call returns true, and of what was there nothing has changed. -/
set_option maxHeartbeats 1000000 in
theorem walk (a0 : Int) (a1 : Int) (a2 : Int) (w0 : (Lit.int .i64 a0).wf = true) (w1 : (Lit.int .i64 a1).wf = true) (w2 : (Lit.int .i64 a2).wf = true) (w : World) :
    Calls Try.prog 6 #[.int .i64 a0, .int .i64 a1, .int .i64 a2] w fun e w' => e = .returned (.bool true) ∧ Grown w w' := by
  have c1 := addB_comm a0 a1
  have c2 := addN_comm a0 a1
  have c3 := mulB_comm a0 a1
  have c4 := mulN_comm a0 a1
  cases hs : addB a0 a1
  · have hn := addN_no hs
    rw [hs] at c1
    rw [hn] at c2
    have HS := Lib.hid hs
    have HN := Lib.hid hn
    have C1 := Lib.hid c1
    have C2 := Lib.hid c2
    have C3 := Lib.hid c3
    have C4 := Lib.hid c4
    clear hs hn c1 c2 c3 c4
    go_enter Try.func6, Try.ntmps6
    go_wp2_with fail
    refine (awake_any _).mono ?_
    rintro e x1 ⟨rfl, gx1⟩
    go_wp2_with fail
    refine (add_any _ _ _).mono ?_
    rintro e w' ⟨rfl, rfl⟩
    rw [HS.out, HN.out]
    go_wp2_with fail
    refine (add_any _ _ _).mono ?_
    rintro e w' ⟨rfl, rfl⟩
    rw [C1.out, C2.out]
    go_wp2_with fail
    refine (mul_any _ _ _).mono ?_
    rintro e x2 ⟨rfl, gx2⟩
    go_wp2_with fail
    refine (mul_any _ _ _).mono ?_
    rintro e x3 ⟨rfl, gx3⟩
    rw [C3.out, C4.out]
    go_wp2_with fail
    refine (add_any _ _ _).mono ?_
    rintro e w' ⟨rfl, rfl⟩
    go_wp2_with fail
    refine (add_any _ _ _).mono ?_
    rintro e w' ⟨rfl, rfl⟩
    go_wp2_with fail
    refine (add_any _ _ _).mono ?_
    rintro e w' ⟨rfl, rfl⟩
    go_wp2_with fail
    go_ret
    exact ⟨rfl, (Grown_trans gx1 (Grown_trans gx2 gx3))⟩
  obtain ⟨p0, p1, p2, hn⟩ := addB_yes hs
  rw [hs] at c1
  rw [hn] at c2
  have hm : mayB (a0 + a1) = true := mayB_mk (by omega)
  have l1 : decide (a0 + a1 < a0) = false := decide_eq_false (by omega)
  have l2 : decide (a0 + a1 < a1) = false := decide_eq_false (by omega)
  have l3 : a0 ≤ a0 + a1 := by omega
  have l4 : a1 ≤ a0 + a1 := by omega
  cases ho : addB (a0 + a1) a2
  · have HS := Lib.hid hs
    have HN := Lib.hid hn
    have HM := Lib.hid hm
    have C1 := Lib.hid c1
    have C2 := Lib.hid c2
    have C3 := Lib.hid c3
    have C4 := Lib.hid c4
    have HO := Lib.hid ho
    clear hs hn hm c1 c2 c3 c4 ho
    go_enter Try.func6, Try.ntmps6
    go_wp2_with fail
    refine (awake_any _).mono ?_
    rintro e x1 ⟨rfl, gx1⟩
    go_wp2_with fail
    refine (add_any _ _ _).mono ?_
    rintro e w' ⟨rfl, rfl⟩
    rw [HS.out, HN.out]
    go_wp2_with fail
    refine (add_any _ _ _).mono ?_
    rintro e w' ⟨rfl, rfl⟩
    rw [C1.out, C2.out]
    go_wp2_with fail
    refine (mul_any _ _ _).mono ?_
    rintro e x2 ⟨rfl, gx2⟩
    go_wp2_with fail
    refine (mul_any _ _ _).mono ?_
    rintro e x3 ⟨rfl, gx3⟩
    rw [C3.out, C4.out]
    go_wp2_with fail
    refine (may_any _ _).mono ?_
    rintro e w' ⟨rfl, rfl⟩
    rw [HM.out]
    go_wp2_with fail
    refine (add_any _ _ _).mono ?_
    rintro e w' ⟨rfl, rfl⟩
    rw [HO.out]
    go_wp2_with fail
    refine (add_any _ _ _).mono ?_
    rintro e w' ⟨rfl, rfl⟩
    go_wp2_with fail
    refine (add_any _ _ _).mono ?_
    rintro e w' ⟨rfl, rfl⟩
    go_wp2_with fail
    go_ret
    exact ⟨rfl, (Grown_trans gx1 (Grown_trans gx2 gx3))⟩
  obtain ⟨q0, q1, q2, hx⟩ := addB_yes ho
  have d1 : addB a1 a2 = true := addB_mk p1 q1 (by omega)
  have d2 := addN_yes d1
  have d3 : addB a0 (a1 + a2) = true := addB_mk p0 (by omega) (by omega)
  have d4 : addN a0 (a1 + a2) = a0 + a1 + a2 := by rw [addN_yes d3]; omega
  have HS := Lib.hid hs
  have HN := Lib.hid hn
  have HM := Lib.hid hm
  have C1 := Lib.hid c1
  have C2 := Lib.hid c2
  have C3 := Lib.hid c3
  have C4 := Lib.hid c4
  have HO := Lib.hid ho
  have HX := Lib.hid hx
  have D1 := Lib.hid d1
  have D2 := Lib.hid d2
  have D3 := Lib.hid d3
  have D4 := Lib.hid d4
  clear hs hn hm c1 c2 c3 c4 ho hx d1 d2 d3 d4
  go_enter Try.func6, Try.ntmps6
  go_wp2_with fail
  refine (awake_any _).mono ?_
  rintro e x1 ⟨rfl, gx1⟩
  go_wp2_with fail
  refine (add_any _ _ _).mono ?_
  rintro e w' ⟨rfl, rfl⟩
  rw [HS.out, HN.out]
  go_wp2_with fail
  refine (add_any _ _ _).mono ?_
  rintro e w' ⟨rfl, rfl⟩
  rw [C1.out, C2.out]
  go_wp2_with fail
  refine (mul_any _ _ _).mono ?_
  rintro e x2 ⟨rfl, gx2⟩
  go_wp2_with fail
  refine (mul_any _ _ _).mono ?_
  rintro e x3 ⟨rfl, gx3⟩
  rw [C3.out, C4.out]
  go_wp2_with fail
  refine (may_any _ _).mono ?_
  rintro e w' ⟨rfl, rfl⟩
  rw [HM.out]
  go_wp2_with fail
  refine (add_any _ _ _).mono ?_
  rintro e w' ⟨rfl, rfl⟩
  rw [HO.out, HX.out]
  go_wp2_with fail
  refine (add_any _ _ _).mono ?_
  rintro e w' ⟨rfl, rfl⟩
  rw [D1.out, D2.out]
  go_wp2_with fail
  refine (add_any _ _ _).mono ?_
  rintro e w' ⟨rfl, rfl⟩
  rw [D3.out, D4.out]
  go_wp2_with fail
  go_ret
  exact ⟨rfl, (Grown_trans gx1 (Grown_trans gx2 gx3))⟩

/-! ### The row's step -/
set_option maxRecDepth 100000 in
theorem lifted (os : Os) (started : os.Started) (H : Type) (enc : TypeId × Value → H) :
    ReturnsInHanded {} Try.checked os 6 .any (Rows.ratioSumsSpec.pre6 enc Try.prog Try.f6 Rows.ratioSumsRow.domain false) (Rows.ratioSumsSpec.post enc Try.prog Try.f6 false true false false) := by
  refine returnsInHanded_of_change (C := Try.checked) own started (by kernel_rfl) Try.func6
    (ChangeSpec.witness6 (enc := enc) (C := Try.checked) false ⟨#[], #[.int .i64 0, .int .i64 0, .int .i64 0], []⟩ 8 (by kernel_rfl) (by kernel_rfl) (by kernel_rfl) (by kernel_rfl)) ?_
  intro W base args ds gs before hval0 hW hcnd _
  have hval : ∀ (j : Nat) t v, Try.f6.params[j]? = some t → args[j]? = some v → Value.okWide Try.prog W .any base t v := hval0
  have hW' := hW
  obtain ⟨p, q, hA0, hV, rfl, hfz, hnd⟩ := hW
  have hA : DataW.TrodAll enc Try.prog W 0 (fun _ => true) true Try.f6.params.toList args.toList ds p := hA0
  rw [Try.params6] at hA hval
  obtain ⟨v0, vs0, d0, ds0, p0, q0, hargs, rfl, rfl, h0, r0⟩ := trodAll_cons hA
  obtain ⟨v1, vs1, d1, ds1, p1, q1, rfl, rfl, rfl, h1, r1⟩ := trodAll_cons r0
  obtain ⟨v2, vs2, d2, ds2, p2, q2, rfl, rfl, rfl, h2, r2⟩ := trodAll_cons r1
  obtain ⟨rfl, rfl, rfl⟩ := trodAll_nil r2
  obtain rfl : args = #[v0, v1, v2] := by cases args; simp_all
  obtain ⟨rfl, rfl⟩ := trodVars_none hV
  obtain ⟨a0, rfl, rfl, rfl, w0⟩ := open_int Try.underlying3 (hval 0 3 v0 rfl rfl) h0
  obtain ⟨a1, rfl, rfl, rfl, w1⟩ := open_int Try.underlying3 (hval 1 3 v1 rfl rfl) h1
  obtain ⟨a2, rfl, rfl, rfl, w2⟩ := open_int Try.underlying3 (hval 2 3 v2 rfl rfl) h2
  clear hA0 hval0
  simp only [List.append_nil] at hW'
  refine (walk a0 a1 a2 w0 w1 w2 W).mono fun e W' ⟨he, hg⟩ => ?_
  subst he
  exact ⟨_, rfl, post_of_same (pa := []) (pv := []) hW' (fun _ _ _ => (trodAll_cons_mk (shut_bool Try.underlying4 _) trodAll_mk0)) (fun sp _ => (trodAll_cons_mk (shut_int Try.underlying3 w0) (trodAll_cons_mk (shut_int Try.underlying3 w1) (trodAll_cons_mk (shut_int Try.underlying3 w2) trodAll_mk0)))) (fun _ _ => rfl) rfl
    (hg.frame _) hg.2.1 (ok_one (by kernel_rfl) rfl (okWide_bool_mk Try.underlying4 _))⟩

theorem over : Rows.ratioSumsRow.holds Try.pinned (OpenSpec.ofChange Rows.ratioSumsSpec) :=
  OpenClaim.holds_of_wide 6 Try.f6 rfl rfl rfl rfl rfl rfl rfl ⟨rfl, rfl, rfl, rfl, rfl⟩ rfl rfl rfl rfl rfl (by kernel_rfl) Try.func6 (by kernel_rfl)
    (of_decide_eq_true (by kernel_rfl)) (by unfold Func.isWrapper; first | (rw [if_pos (by decide +kernel)]; kernel_rfl) | (rw [if_neg (by decide +kernel)]; exact ⟨rfl, rfl⟩))
    (fun os started H enc _ => lifted os started H enc)

/-- The statement. -/
theorem proved : Rows.RatioSumsSaid :=
  over
#print axioms proved
end Go.Proofs.Ytghoedccmcnchaa.ratioSums
