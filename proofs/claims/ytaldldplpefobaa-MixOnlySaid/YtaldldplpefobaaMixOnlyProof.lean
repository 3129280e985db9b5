/-
  For all words x, y and h marigoldlaw02.MixOnly returns true and leaves its arguments as they were: no further condition.
-/
import Derived.Test.YtaldldplpefobaaMixAwake
import Derived.Test.YtaldldplpefobaaMixOpen
namespace Go.Proofs.Ytaldldplpefobaa.mixOnly
open Go.ChangeShapes Go.WideShapes Go.ChangeAt Go.RowKit
set_option linter.unusedVariables false

/-! ### The walk: the call returns true, and of what was there nothing has changed. -/
set_option maxHeartbeats 1000000 in
theorem walk (w : World) (x : Nat) (hx : x < 18446744073709551616) (y : Nat) (hy : y < 18446744073709551616) (h : Nat) (hh : h < 18446744073709551616) :
    Calls Try.prog 4 #[.int .u64 x, .int .u64 y, .int .u64 h] w fun e w' => e = .returned (.bool true) ∧ Kept w w' := by
  by_cases hxy : x = y
  · subst hxy
    go_enter Try.func4, Try.ntmps4
    go_wp2_with fail
    refine (awake_any _).mono ?_
    rintro e w1 ⟨rfl, k1⟩
    go_wp2_with fail
    refine (word_any _ (by assumption) _).mono ?_
    rintro e w' ⟨rfl, rfl⟩
    go_wp2_with fail
    refine (word_any _ (by assumption) _).mono ?_
    rintro e w' ⟨rfl, rfl⟩
    go_wp2_with fail
    refine (step_any _ _ (by assumption) (by assumption) _).mono ?_
    rintro e w' ⟨rfl, rfl⟩
    go_wp2_with fail
    refine (step_any _ _ (by assumption) (by assumption) _).mono ?_
    rintro e w' ⟨rfl, rfl⟩
    go_wp2_with fail
    refine (step_any _ _ (by assumption) (by assumption) _).mono ?_
    rintro e w' ⟨rfl, rfl⟩
    go_wp2_with fail
    refine (step_any _ _ (by assumption) (by assumption) _).mono ?_
    rintro e w' ⟨rfl, rfl⟩
    go_wp2_with fail
    go_ret
    exact ⟨rfl, k1⟩
  · have b0 : ((x : Int) == (y : Int)) = false := beq_eq_false_iff_ne.2 (by omega)
    have b1 : ((wordN x : Int) == (wordN y : Int)) = false := beq_eq_false_iff_ne.2 (fun e => hxy (wordN_inj hx hy (by omega)))
    have b2 : ((stepN h x : Int) == (stepN h y : Int)) = false := beq_eq_false_iff_ne.2 (fun e => hxy (stepN_inj hh hx hy (by omega)))
    have b3 : ((stepN x h : Int) == (stepN y h : Int)) = false := beq_eq_false_iff_ne.2 (fun e => hxy (stepN_inj hh hx hy (by rw [stepN_comm h x, stepN_comm h y]; omega)))
    go_enter Try.func4, Try.ntmps4
    go_wp2_with fail
    refine (awake_any _).mono ?_
    rintro e w1 ⟨rfl, k1⟩
    go_wp2_with fail
    refine (word_any _ (by assumption) _).mono ?_
    rintro e w' ⟨rfl, rfl⟩
    go_wp2_with fail
    refine (word_any _ (by assumption) _).mono ?_
    rintro e w' ⟨rfl, rfl⟩
    go_wp2_with fail
    refine (step_any _ _ (by assumption) (by assumption) _).mono ?_
    rintro e w' ⟨rfl, rfl⟩
    go_wp2_with fail
    refine (step_any _ _ (by assumption) (by assumption) _).mono ?_
    rintro e w' ⟨rfl, rfl⟩
    go_wp2_with fail
    refine (step_any _ _ (by assumption) (by assumption) _).mono ?_
    rintro e w' ⟨rfl, rfl⟩
    go_wp2_with fail
    refine (step_any _ _ (by assumption) (by assumption) _).mono ?_
    rintro e w' ⟨rfl, rfl⟩
    go_wp2_with fail
    go_ret
    exact ⟨rfl, k1⟩

/-! ### The row's step -/
set_option maxRecDepth 100000 in
theorem lifted (os : Os) (started : os.Started) (H : Type) (enc : TypeId × Value → H) :
    ReturnsInHanded {} Try.checked os 4 .any (Rows.mixOnlySpec.pre6 enc Try.prog Try.f4 Rows.mixOnlyRow.domain false) (Rows.mixOnlySpec.post enc Try.prog Try.f4 false true false false) := by
  refine returnsInHanded_of_change (C := Try.checked) own started (by kernel_rfl) Try.func4
    (ChangeSpec.witness6 (enc := enc) (C := Try.checked) false ⟨#[], #[.int .u64 0, .int .u64 0, .int .u64 0], []⟩ 8 (by kernel_rfl) (by kernel_rfl) (by kernel_rfl) (by kernel_rfl)) ?_
  intro W base args ds gs before hval0 hW hcnd _
  have hval : ∀ (j : Nat) t v, Try.f4.params[j]? = some t → args[j]? = some v → Value.okWide Try.prog W .any base t v := hval0
  have hW' := hW
  obtain ⟨p, q, hA0, hV, rfl, hfz, hnd⟩ := hW
  have hA : DataW.TrodAll enc Try.prog W 0 (fun _ => true) true Try.f4.params.toList args.toList ds p := hA0
  rw [Try.params4] at hA hval
  obtain ⟨v0, vs0, d0, ds0, p0, q0, hargs, rfl, rfl, h0, r0⟩ := trodAll_cons hA
  obtain ⟨v1, vs1, d1, ds1, p1, q1, rfl, rfl, rfl, h1, r1⟩ := trodAll_cons r0
  obtain ⟨v2, vs2, d2, ds2, p2, q2, rfl, rfl, rfl, h2, r2⟩ := trodAll_cons r1
  obtain ⟨rfl, rfl, rfl⟩ := trodAll_nil r2
  obtain rfl : args = #[v0, v1, v2] := by cases args; simp_all
  obtain ⟨rfl, rfl⟩ := trodVars_none hV
  obtain ⟨x, rfl, hx⟩ := open_u64 (hval 0 _ v0 rfl rfl) h0
  obtain ⟨y, rfl, hy⟩ := open_u64 (hval 1 _ v1 rfl rfl) h1
  obtain ⟨h, rfl, hh⟩ := open_u64 (hval 2 _ v2 rfl rfl) h2
  clear hA0 hval0
  refine (walk W x hx y hy h hh).mono fun e W' ⟨he, hb⟩ => ?_
  subst he
  exact ⟨_, rfl, law_post rfl (by kernel_rfl) rfl hW' rfl hb⟩

theorem over : Rows.mixOnlyRow.holds Try.pinned (OpenSpec.ofChange Rows.mixOnlySpec) :=
  OpenClaim.holds_of_wide 4 Try.f4 rfl rfl rfl rfl rfl rfl rfl ⟨rfl, rfl, rfl, rfl, rfl⟩ rfl rfl rfl rfl rfl (by kernel_rfl) Try.func4 (by kernel_rfl)
    (of_decide_eq_true (by kernel_rfl)) (by unfold Func.isWrapper; first | (rw [if_pos (by decide +kernel)]; kernel_rfl) | (rw [if_neg (by decide +kernel)]; exact ⟨rfl, rfl⟩))
    (fun os started H enc _ => lifted os started H enc)

/-- The statement. -/
theorem proved : Rows.MixOnlySaid :=
  over
#print axioms proved
end Go.Proofs.Ytaldldplpefobaa.mixOnly
