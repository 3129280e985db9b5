/-
  For all words h and x and all ids a marigoldlaw02.MixBoth returns true and leaves its arguments as they were: no further condition.
-/
import Derived.Test.YtaldldplpefobaaMixAwake
import Derived.Test.YtaldldplpefobaaMixOpen
namespace Go.Proofs.Ytaldldplpefobaa.mixBoth
open Go.ChangeShapes Go.WideShapes Go.ChangeAt Go.RowKit
set_option linter.unusedVariables false

theorem less_a0 (a : Nat × Nat) (w : World) :
    Calls Try.prog 17 #[.agg #[.int .u64 a.1, .int .u64 a.2], .agg #[.int .u64 0, .int .u64 0]] w fun e w' => e = .returned (.bool false) ∧ Kept w w' := by
  have h := less_any a (0, 0) w
  rw [show lessN a (0, 0) = false from decide_eq_false (by simp)] at h
  exact h
theorem less_0a (a : Nat × Nat) (w : World) :
    Calls Try.prog 17 #[.agg #[.int .u64 0, .int .u64 0], .agg #[.int .u64 a.1, .int .u64 a.2]] w fun e w' => e = .returned (.bool (lessN (0, 0) a)) ∧ Kept w w' :=
  less_any (0, 0) a w
theorem less_aa (a : Nat × Nat) (w : World) :
    Calls Try.prog 17 #[.agg #[.int .u64 a.1, .int .u64 a.2], .agg #[.int .u64 a.1, .int .u64 a.2]] w fun e w' => e = .returned (.bool false) ∧ Kept w w' := by
  have h := less_any a a w
  rw [lessN_self] at h
  exact h
theorem one_keep {W u v : World} {b : Nat} {p : Nat × Nat} (hb : b < W.heap.size)
    (h : u.cell? ⟨b, 0, none⟩ = some (.int .u64 p.1) ∧ u.cell? ⟨b, 1, none⟩ = some (.int .u64 p.2) ∧ Kept W u) (k : Kept u v) :
    v.cell? ⟨b, 0, none⟩ = some (.int .u64 p.1) ∧ v.cell? ⟨b, 1, none⟩ = some (.int .u64 p.2) ∧ Kept W v := by
  have g : HasId u b p := ⟨h.1, h.2.1, Nat.lt_of_lt_of_le hb h.2.2.size_le⟩
  have := g.kept k
  exact ⟨this.1, this.2.1, h.2.2.trans k⟩

/-! ### The walk: the call returns true, and of what was there nothing has changed. -/
attribute [local go_sem] idEq in
set_option maxHeartbeats 1000000 in
theorem walk (w : World) (h : Nat) (hh : h < 18446744073709551616) (x : Nat) (hx : x < 18446744073709551616) (a : Nat × Nat) (ha1 : a.1 < 18446744073709551616) (ha2 : a.2 < 18446744073709551616) :
    Calls Try.prog 7 #[.int .u64 h, .int .u64 x, .agg #[.int .u64 a.1, .int .u64 a.2]] w fun e w' => e = .returned (.bool true) ∧ Kept w w' := by
  have CM := Lib.hid (stepN_comm x h)
  by_cases h0 : a = (0, 0)
  · have LA := Lib.hid (show lessN (0, 0) a = false by subst h0; rfl)
    have N1 : ((a.1 : Int) == 0) = true := by subst h0; rfl
    have N2 : ((a.2 : Int) == 0) = true := by subst h0; rfl
    clear h0
    go_enter Try.func7, Try.ntmps7
    go_wp2_with fail
    have A0 := Lib.hid (HasId.new w w.heap.size a rfl)
    have K0 : Kept w (w.alloc (.cells #[.int .u64 a.1, .int .u64 a.2] 25)) := (Kept.refl w).alloc _
    generalize (w.alloc (.cells #[.int .u64 a.1, .int .u64 a.2] 25)) = W0 at *
    generalize w.heap.size = z at *
    refine (awake_any _).mono ?_
    rintro e W ⟨rfl, k1⟩
    have K1 := K0.trans k1
    have A1 := Lib.hid (A0.out.kept k1)
    clear A0 K0 k1
    obtain ⟨c0, c1, hz⟩ := A1.out
    go_wp2_with fail
    go_region_held3 (fun w' => w'.cell? ⟨z, 0, none⟩ = some (.int .u64 a.1) ∧ w'.cell? ⟨z, 1, none⟩ = some (.int .u64 a.2) ∧ Kept W w')
      (first | exact ⟨c0, c1, Kept.refl _⟩ | exact ⟨c0, c1, (Kept.refl _).drew⟩ | assumption | exact one_keep hz (by assumption) (by assumption))
      (first
        | (go_at_call 13; ((with_reducible refine (step_any h x hh hx _).mono ?_); rintro e w' ⟨rfl, rfl⟩))
        | (go_at_call 13; ((with_reducible refine (step_any x h hx hh _).mono ?_); rintro e w' ⟨rfl, rfl⟩; rw [CM.out]))
        | (go_at_call 17; ((with_reducible refine (less_aa a _).mono ?_); rintro e w' ⟨rfl, kk⟩))
        | (go_at_call 17; ((with_reducible refine (less_a0 a _).mono ?_); rintro e w' ⟨rfl, kk⟩))
        | (go_at_call 17; ((with_reducible refine (less_0a a _).mono ?_); rintro e w' ⟨rfl, kk⟩; rw [LA.out])))
    all_goals
      rename_i hh
      have hk := K1.trans hh.2.2
      clear hh
      go_wp2_with fail
      go_ret
      exact ⟨rfl, hk⟩
  · have LA := Lib.hid (show lessN (0, 0) a = true from decide_eq_true (by obtain ⟨a0, a1⟩ := a; simp at h0 ⊢; omega))
    have NE : (((a.1 : Int) == 0) && ((a.2 : Int) == 0)) = false := id_ne (a := a) (b := (0, 0)) h0
    clear h0
    go_enter Try.func7, Try.ntmps7
    go_wp2_with fail
    have A0 := Lib.hid (HasId.new w w.heap.size a rfl)
    have K0 : Kept w (w.alloc (.cells #[.int .u64 a.1, .int .u64 a.2] 25)) := (Kept.refl w).alloc _
    generalize (w.alloc (.cells #[.int .u64 a.1, .int .u64 a.2] 25)) = W0 at *
    generalize w.heap.size = z at *
    refine (awake_any _).mono ?_
    rintro e W ⟨rfl, k1⟩
    have K1 := K0.trans k1
    have A1 := Lib.hid (A0.out.kept k1)
    clear A0 K0 k1
    obtain ⟨c0, c1, hz⟩ := A1.out
    go_wp2_with fail
    go_region_held3 (fun w' => w'.cell? ⟨z, 0, none⟩ = some (.int .u64 a.1) ∧ w'.cell? ⟨z, 1, none⟩ = some (.int .u64 a.2) ∧ Kept W w')
      (first | exact ⟨c0, c1, Kept.refl _⟩ | exact ⟨c0, c1, (Kept.refl _).drew⟩ | assumption | exact one_keep hz (by assumption) (by assumption))
      (first
        | (go_at_call 13; ((with_reducible refine (step_any h x hh hx _).mono ?_); rintro e w' ⟨rfl, rfl⟩))
        | (go_at_call 13; ((with_reducible refine (step_any x h hx hh _).mono ?_); rintro e w' ⟨rfl, rfl⟩; rw [CM.out]))
        | (go_at_call 17; ((with_reducible refine (less_aa a _).mono ?_); rintro e w' ⟨rfl, kk⟩))
        | (go_at_call 17; ((with_reducible refine (less_a0 a _).mono ?_); rintro e w' ⟨rfl, kk⟩))
        | (go_at_call 17; ((with_reducible refine (less_0a a _).mono ?_); rintro e w' ⟨rfl, kk⟩; rw [LA.out])))
    all_goals
      rename_i hh
      have hk := K1.trans hh.2.2
      clear hh
      go_wp2_with fail
      go_ret
      exact ⟨rfl, hk⟩

/-! ### The row's step -/
set_option maxRecDepth 100000 in
theorem lifted (os : Os) (started : os.Started) (H : Type) (enc : TypeId × Value → H) :
    ReturnsInHanded {} Try.checked os 7 .any (Rows.mixBothSpec.pre6 enc Try.prog Try.f7 Rows.mixBothRow.domain false) (Rows.mixBothSpec.post enc Try.prog Try.f7 false true false false) := by
  refine returnsInHanded_of_change (C := Try.checked) own started (by kernel_rfl) Try.func7
    (ChangeSpec.witness6 (enc := enc) (C := Try.checked) false ⟨#[], #[.int .u64 0, .int .u64 0, .agg #[.int .u64 0, .int .u64 0]], []⟩ 8 (by kernel_rfl) (by kernel_rfl) (by kernel_rfl) (by kernel_rfl)) ?_
  intro W base args ds gs before hval0 hW hcnd _
  have hval : ∀ (j : Nat) t v, Try.f7.params[j]? = some t → args[j]? = some v → Value.okWide Try.prog W .any base t v := hval0
  have hW' := hW
  obtain ⟨p, q, hA0, hV, rfl, hfz, hnd⟩ := hW
  have hA : DataW.TrodAll enc Try.prog W 0 (fun _ => true) true Try.f7.params.toList args.toList ds p := hA0
  rw [Try.params7] at hA hval
  obtain ⟨v0, vs0, d0, ds0, p0, q0, hargs, rfl, rfl, h0, r0⟩ := trodAll_cons hA
  obtain ⟨v1, vs1, d1, ds1, p1, q1, rfl, rfl, rfl, h1, r1⟩ := trodAll_cons r0
  obtain ⟨v2, vs2, d2, ds2, p2, q2, rfl, rfl, rfl, h2, r2⟩ := trodAll_cons r1
  obtain ⟨rfl, rfl, rfl⟩ := trodAll_nil r2
  obtain rfl : args = #[v0, v1, v2] := by cases args; simp_all
  obtain ⟨rfl, rfl⟩ := trodVars_none hV
  obtain ⟨h, rfl, hh⟩ := open_u64 (hval 0 _ v0 rfl rfl) h0
  obtain ⟨x, rfl, hx⟩ := open_u64 (hval 1 _ v1 rfl rfl) h1
  obtain ⟨a, rfl, ha1, ha2⟩ := open_id (hval 2 _ v2 rfl rfl) h2
  clear hA0 hval0
  refine (walk W h hh x hx a ha1 ha2).mono fun e W' ⟨he, hb⟩ => ?_
  subst he
  exact ⟨_, rfl, law_post rfl (by kernel_rfl) rfl hW' rfl hb⟩

theorem over : Rows.mixBothRow.holds Try.pinned (OpenSpec.ofChange Rows.mixBothSpec) :=
  OpenClaim.holds_of_wide 7 Try.f7 rfl rfl rfl rfl rfl rfl rfl ⟨rfl, rfl, rfl, rfl, rfl⟩ rfl rfl rfl rfl rfl (by kernel_rfl) Try.func7 (by kernel_rfl)
    (of_decide_eq_true (by kernel_rfl)) (by unfold Func.isWrapper; first | (rw [if_pos (by decide +kernel)]; kernel_rfl) | (rw [if_neg (by decide +kernel)]; exact ⟨rfl, rfl⟩))
    (fun os started H enc _ => lifted os started H enc)

/-- The statement. -/
theorem proved : Rows.MixBothSaid :=
  over
#print axioms proved
end Go.Proofs.Ytaldldplpefobaa.mixBoth
