/-
  For all words x and y marigoldlaw02.MixFirst returns true and leaves its arguments as they were: no further condition.
-/
import Derived.Test.YtaldldplpefobaaMixAwake
import Derived.Test.YtaldldplpefobaaMixOpen
namespace Go.Proofs.Ytaldldplpefobaa.mixFirst
open Go.ChangeShapes Go.WideShapes Go.ChangeAt Go.RowKit
set_option linter.unusedVariables false

theorem idOf_one (x : Nat) : idOf [x] = (stepN (stepN 1 x) 1, stepN (stepN 2 (notN x)) (notN 1)) := by simp only [idOf, idFold, List.foldl, idStep, List.length_singleton]
theorem one_apart {x y : Nat} (hx : x < 18446744073709551616) (hy : y < 18446744073709551616) (h : x ≠ y) : (idOf [x]).1 ≠ (idOf [y]).1 ∧ (idOf [x]).2 ≠ (idOf [y]).2 := by
  rw [idOf_one, idOf_one]
  refine ⟨fun e => h ?_, fun e => h ?_⟩
  · have e1 : stepN 1 (stepN 1 x) = stepN 1 (stepN 1 y) := by rw [stepN_comm 1 (stepN 1 x), stepN_comm 1 (stepN 1 y)]; exact e
    exact stepN_inj (by decide) hx hy (stepN_inj (by decide) (stepN_lt _ _) (stepN_lt _ _) e1)
  · have e1 : stepN (notN 1) (stepN 2 (notN x)) = stepN (notN 1) (stepN 2 (notN y)) := by rw [stepN_comm (notN 1) (stepN 2 (notN x)), stepN_comm (notN 1) (stepN 2 (notN y))]; exact e
    exact notN_inj hx hy (stepN_inj (by decide) (notN_lt _) (notN_lt _) (stepN_inj (notN_lt _) (stepN_lt _ _) (stepN_lt _ _) e1))
theorem idOf_none : idOf [] = (stepN 1 0, stepN 2 18446744073709551615) := by simp only [idOf, idFold, List.foldl, idStep, List.length_nil, notN]
theorem step_10 (w : World) : Calls Try.prog 13 #[.int .u64 1, .int .u64 0] w fun e w' => e = .returned (.int .u64 (idOf []).1) ∧ w = w' := by
  rw [idOf_none]
  exact step_any 1 0 (by decide) (by decide) w
theorem step_2n (w : World) : Calls Try.prog 13 #[.int .u64 2, .int .u64 18446744073709551615] w fun e w' => e = .returned (.int .u64 (idOf []).2) ∧ w = w' := by
  rw [idOf_none]
  exact step_any 2 18446744073709551615 (by decide) (by decide) w
theorem three_keep {W : World} {a b c : Nat} {p q r : Nat × Nat} (A : HasId W a p) (B : HasId W b q) (C : HasId W c r) :
    W.drew.cell? ⟨a, 0, none⟩ = some (.int .u64 p.1) ∧ W.drew.cell? ⟨a, 1, none⟩ = some (.int .u64 p.2) ∧ W.drew.cell? ⟨b, 0, none⟩ = some (.int .u64 q.1) ∧ W.drew.cell? ⟨b, 1, none⟩ = some (.int .u64 q.2) ∧
      W.drew.cell? ⟨c, 0, none⟩ = some (.int .u64 r.1) ∧ W.drew.cell? ⟨c, 1, none⟩ = some (.int .u64 r.2) ∧ Kept W W.drew :=
  ⟨A.1, A.2.1, B.1, B.2.1, C.1, C.2.1, (Kept.refl _).drew⟩

/-! ### The walk: the call returns true, and of what was there nothing has changed. -/
set_option maxHeartbeats 1000000 in
theorem walk (w : World) (x : Nat) (hx : x < 18446744073709551616) (y : Nat) (hy : y < 18446744073709551616) :
    Calls Try.prog 8 #[.int .u64 x, .int .u64 y] w fun e w' => e = .returned (.bool true) ∧ Kept w w' := by
  obtain ⟨r, hR⟩ : ∃ r, idOf [] = r := ⟨_, rfl⟩
  obtain ⟨p, hP⟩ : ∃ p, idOf [x] = p := ⟨_, rfl⟩
  have HR := Lib.hid hR
  by_cases hxy : x = y
  · subst hxy
    have HP := Lib.hid hP
    clear hP hR
    go_enter Try.func8, Try.ntmps8
    go_wp2_with fail
    refine (awake_any _).mono ?_
    rintro e w1 ⟨rfl, k1⟩
    go_wp2_with fail
    refine (of_any _ 1 _ [x] rfl (by omega) _ (by simpa using hx) (WordsAt.one _ x _ (by simp))).mono ?_
    rintro e w2 ⟨rfl, k2⟩
    rw [HP.out]
    go_wp2_with fail
    refine (of_any _ 1 _ [x] rfl (by omega) _ (by simpa using hx) (WordsAt.one _ x _ (by simp))).mono ?_
    rintro e w3 ⟨rfl, k3⟩
    rw [HP.out]
    go_wp2_with fail
    refine (of_any none 0 0 [] rfl (by omega) _ (by simp) (fun j y hy => by simp at hy)).mono ?_
    rintro e w4 ⟨rfl, k4⟩
    rw [HR.out]
    go_wp2_with fail
    have A0 := Lib.hid ((((HasId.new w2 w2.heap.size p rfl).alloc _).kept k3 |>.alloc _).kept k4 |>.alloc (.cells #[.int .u64 r.1, .int .u64 r.2] 25))
    have B0 := Lib.hid ((HasId.new w3 w3.heap.size p rfl).kept k4 |>.alloc (.cells #[.int .u64 r.1, .int .u64 r.2] 25))
    have C0 := Lib.hid (HasId.new w4 w4.heap.size r rfl)
    have K : Kept w (w4.alloc (.cells #[.int .u64 r.1, .int .u64 r.2] 25)) := (((((k1.alloc _).trans k2).alloc _).alloc _ |>.trans k3).alloc _ |>.trans k4).alloc _
    clear k1 k2 k3 k4
    generalize (w4.alloc (.cells #[.int .u64 r.1, .int .u64 r.2] 25)) = W at *
    generalize w2.heap.size = z2 at *
    generalize w3.heap.size = z3 at *
    generalize w4.heap.size = z4 at *
    have a1 := A0.out.1; have a2 := A0.out.2.1; have b1 := B0.out.1; have b2 := B0.out.2.1; have c1 := C0.out.1; have c2 := C0.out.2.1
    go_region_held3 (fun w' => w'.cell? ⟨z2, 0, none⟩ = some (.int .u64 p.1) ∧ w'.cell? ⟨z2, 1, none⟩ = some (.int .u64 p.2) ∧ w'.cell? ⟨z3, 0, none⟩ = some (.int .u64 p.1) ∧ w'.cell? ⟨z3, 1, none⟩ = some (.int .u64 p.2) ∧ w'.cell? ⟨z4, 0, none⟩ = some (.int .u64 r.1) ∧ w'.cell? ⟨z4, 1, none⟩ = some (.int .u64 r.2) ∧ Kept W w')
      (first | exact three_keep A0.out B0.out C0.out | assumption)
      (first
        | (go_at_call 13; ((with_reducible refine (step_10 _).mono ?_); rintro e w' ⟨rfl, rfl⟩; rw [HR.out]))
        | (go_at_call 13; ((with_reducible refine (step_2n _).mono ?_); rintro e w' ⟨rfl, rfl⟩; rw [HR.out])))
    all_goals
      rename_i hh
      have hk := K.trans hh.2.2.2.2.2.2
      clear hh
      go_wp2_with fail
      go_ret
      exact ⟨rfl, hk⟩
  · obtain ⟨q, hQ⟩ : ∃ q, idOf [y] = q := ⟨_, rfl⟩
    have ne := one_apart hx hy hxy
    rw [hP, hQ] at ne
    have n0 : ((x : Int) == (y : Int)) = false := beq_eq_false_iff_ne.2 (by omega)
    have n1 : ((p.1 : Int) == (q.1 : Int)) = false := beq_eq_false_iff_ne.2 (by omega)
    have n2 : ((p.2 : Int) == (q.2 : Int)) = false := beq_eq_false_iff_ne.2 (by omega)
    have HP := Lib.hid hP; have HQ := Lib.hid hQ
    clear hP hQ hR ne hxy
    go_enter Try.func8, Try.ntmps8
    go_wp2_with fail
    refine (awake_any _).mono ?_
    rintro e w1 ⟨rfl, k1⟩
    go_wp2_with fail
    refine (of_any _ 1 _ [x] rfl (by omega) _ (by simpa using hx) (WordsAt.one _ x _ (by simp))).mono ?_
    rintro e w2 ⟨rfl, k2⟩
    rw [HP.out]
    go_wp2_with fail
    refine (of_any _ 1 _ [y] rfl (by omega) _ (by simpa using hy) (WordsAt.one _ y _ (by simp))).mono ?_
    rintro e w3 ⟨rfl, k3⟩
    rw [HQ.out]
    go_wp2_with fail
    refine (of_any none 0 0 [] rfl (by omega) _ (by simp) (fun j y hy => by simp at hy)).mono ?_
    rintro e w4 ⟨rfl, k4⟩
    rw [HR.out]
    go_wp2_with fail
    have A0 := Lib.hid ((((HasId.new w2 w2.heap.size p rfl).alloc _).kept k3 |>.alloc _).kept k4 |>.alloc (.cells #[.int .u64 r.1, .int .u64 r.2] 25))
    have B0 := Lib.hid ((HasId.new w3 w3.heap.size q rfl).kept k4 |>.alloc (.cells #[.int .u64 r.1, .int .u64 r.2] 25))
    have C0 := Lib.hid (HasId.new w4 w4.heap.size r rfl)
    have K : Kept w (w4.alloc (.cells #[.int .u64 r.1, .int .u64 r.2] 25)) := (((((k1.alloc _).trans k2).alloc _).alloc _ |>.trans k3).alloc _ |>.trans k4).alloc _
    clear k1 k2 k3 k4
    generalize (w4.alloc (.cells #[.int .u64 r.1, .int .u64 r.2] 25)) = W at *
    generalize w2.heap.size = z2 at *
    generalize w3.heap.size = z3 at *
    generalize w4.heap.size = z4 at *
    have a1 := A0.out.1; have a2 := A0.out.2.1; have b1 := B0.out.1; have b2 := B0.out.2.1; have c1 := C0.out.1; have c2 := C0.out.2.1
    go_region_held3 (fun w' => w'.cell? ⟨z2, 0, none⟩ = some (.int .u64 p.1) ∧ w'.cell? ⟨z2, 1, none⟩ = some (.int .u64 p.2) ∧ w'.cell? ⟨z3, 0, none⟩ = some (.int .u64 q.1) ∧ w'.cell? ⟨z3, 1, none⟩ = some (.int .u64 q.2) ∧ w'.cell? ⟨z4, 0, none⟩ = some (.int .u64 r.1) ∧ w'.cell? ⟨z4, 1, none⟩ = some (.int .u64 r.2) ∧ Kept W w')
      (first | exact three_keep A0.out B0.out C0.out | assumption)
      (first
        | (go_at_call 13; ((with_reducible refine (step_10 _).mono ?_); rintro e w' ⟨rfl, rfl⟩; rw [HR.out]))
        | (go_at_call 13; ((with_reducible refine (step_2n _).mono ?_); rintro e w' ⟨rfl, rfl⟩; rw [HR.out])))
    all_goals
      rename_i hh
      have hk := K.trans hh.2.2.2.2.2.2
      clear hh
      go_wp2_with fail
      go_ret
      exact ⟨rfl, hk⟩

/-! ### The row's step -/
set_option maxRecDepth 100000 in
theorem lifted (os : Os) (started : os.Started) (H : Type) (enc : TypeId × Value → H) :
    ReturnsInHanded {} Try.checked os 8 .any (Rows.mixFirstSpec.pre6 enc Try.prog Try.f8 Rows.mixFirstRow.domain false) (Rows.mixFirstSpec.post enc Try.prog Try.f8 false true false false) := by
  refine returnsInHanded_of_change (C := Try.checked) own started (by kernel_rfl) Try.func8
    (ChangeSpec.witness6 (enc := enc) (C := Try.checked) false ⟨#[], #[.int .u64 0, .int .u64 0], []⟩ 8 (by kernel_rfl) (by kernel_rfl) (by kernel_rfl) (by kernel_rfl)) ?_
  intro W base args ds gs before hval0 hW hcnd _
  have hval : ∀ (j : Nat) t v, Try.f8.params[j]? = some t → args[j]? = some v → Value.okWide Try.prog W .any base t v := hval0
  have hW' := hW
  obtain ⟨p, q, hA0, hV, rfl, hfz, hnd⟩ := hW
  have hA : DataW.TrodAll enc Try.prog W 0 (fun _ => true) true Try.f8.params.toList args.toList ds p := hA0
  rw [Try.params8] at hA hval
  obtain ⟨v0, vs0, d0, ds0, p0, q0, hargs, rfl, rfl, h0, r0⟩ := trodAll_cons hA
  obtain ⟨v1, vs1, d1, ds1, p1, q1, rfl, rfl, rfl, h1, r1⟩ := trodAll_cons r0
  obtain ⟨rfl, rfl, rfl⟩ := trodAll_nil r1
  obtain rfl : args = #[v0, v1] := by cases args; simp_all
  obtain ⟨rfl, rfl⟩ := trodVars_none hV
  obtain ⟨x, rfl, hx⟩ := open_u64 (hval 0 _ v0 rfl rfl) h0
  obtain ⟨y, rfl, hy⟩ := open_u64 (hval 1 _ v1 rfl rfl) h1
  clear hA0 hval0
  refine (walk W x hx y hy).mono fun e W' ⟨he, hb⟩ => ?_
  subst he
  exact ⟨_, rfl, law_post rfl (by kernel_rfl) rfl hW' rfl hb⟩

theorem over : Rows.mixFirstRow.holds Try.pinned (OpenSpec.ofChange Rows.mixFirstSpec) :=
  OpenClaim.holds_of_wide 8 Try.f8 rfl rfl rfl rfl rfl rfl rfl ⟨rfl, rfl, rfl, rfl, rfl⟩ rfl rfl rfl rfl rfl (by kernel_rfl) Try.func8 (by kernel_rfl)
    (of_decide_eq_true (by kernel_rfl)) (by unfold Func.isWrapper; first | (rw [if_pos (by decide +kernel)]; kernel_rfl) | (rw [if_neg (by decide +kernel)]; exact ⟨rfl, rfl⟩))
    (fun os started H enc _ => lifted os started H enc)

/-- The statement. -/
theorem proved : Rows.MixFirstSaid :=
  over
#print axioms proved
end Go.Proofs.Ytaldldplpefobaa.mixFirst
