/-
  For every seed and all numbers n and i marigoldlaw04.ShuffleAll returns true and leaves its arguments as they were: no further condition.
-/
import Derived.Test.YtigngppmiaejjaaShufAwake
import Derived.Test.YtigngppmiaejjaaNumOpen
namespace Go.Proofs.Ytigngppmiaejjaa.shuffleAll
open Go.ChangeShapes Go.WideShapes Go.ChangeAt Go.RowKit
set_option linter.unusedVariables false

theorem cell_keep {W w w' : World} {g j : Nat} {u : Value} (hz : g < W.heap.size) (h : w.cell? ⟨g, j, none⟩ = some u ∧ Kept W w) (k : Kept w w') : w'.cell? ⟨g, j, none⟩ = some u ∧ Kept W w' :=
  ⟨(k.cell (p := ⟨g, j, none⟩) (Nat.lt_of_lt_of_le hz h.2.size_le)).trans h.1, h.2.trans k⟩

/-! ### The walk: the call returns true, and of what was there nothing has changed. -/
set_option maxRecDepth 100000 in
set_option maxHeartbeats 1600000 in
theorem walk (w : World) (seed : Nat) (hseed : seed < 18446744073709551616) (n : Int) (hn1 : -9223372036854775808 ≤ n) (hn2 : n ≤ 9223372036854775807) (i : Int) (hi1 : -9223372036854775808 ≤ i) (hi2 : i ≤ 9223372036854775807) :
    Calls Try.prog 7 #[.int .u64 seed, .int .i64 n, .int .i64 i] w fun e w' => e = .returned (.bool true) ∧ Kept w w' := by
  by_cases hm : (1 ≤ n ∧ n ≤ 60) ∧ 0 ≤ i ∧ i < n
  · obtain ⟨m, j, rfl, rfl, h1, h2, h3⟩ := mayN_yes (n := n) (i := i) (decide_eq_true (by omega))
    have h60 : m ≤ 60 := by omega
    clear hm hn1 hn2 hi1 hi2
    have ha := atN_lt (seed := seed) h3
    have HA := Lib.hid (backAtN_atN (seed := seed) h3)
    go_enter Try.func7, Try.ntmps7
    go_wp2_with fail
    refine (shufAwake _).mono ?_
    rintro e W1 ⟨rfl, k1⟩
    have K1 := Lib.hid (k1)
    clear k1
    go_wp2_with fail
    refine (perm_yes seed m W1 hseed h1 h2).mono ?_
    rintro e W2 ⟨g, rfl, hL, hg, k2⟩
    have K2 := Lib.hid (K1.out.trans k2)
    have c0 : W2.cell? ⟨g, j, none⟩ = some (.int .i64 (atN seed m j)) := hL.cell h3
    have hz : g < W2.heap.size := hL.lt
    have HAT := Lib.hid (fun w' => at_yes seed m j w' hseed h1 h2 h3)
    have HBT := Lib.hid (fun w' => back_yes seed m (atN seed m j) w' hseed h1 h2 ha)
    clear hL k2 hg K1
    generalize atN seed m j = x at *
    go_wp2_with fail
    go_region_held3 (fun w' => w'.cell? ⟨g, j, none⟩ = some (.int .i64 x) ∧ Kept W2 w')
      (first | exact ⟨c0, Kept.refl _⟩ | exact ⟨c0, (Kept.refl _).drew⟩ | assumption | exact cell_keep hz (by assumption) (by assumption))
      (first
        | (go_at_call 9; ((with_reducible refine (HAT.out _).mono ?_); rintro e w' ⟨rfl, kk⟩))
        | (go_at_call 11; ((with_reducible refine (HBT.out _).mono ?_); rintro e w' ⟨rfl, kk⟩; rw [HA.out])))
    all_goals
      rename_i hh
      have hk := K2.out.trans hh.2
      clear hh
      go_wp2_with fail
      go_ret
      exact ⟨rfl, hk⟩
  · by_cases c1 : n < 1
    · go_enter Try.func7, Try.ntmps7
      go_wp2_with fail
      refine (shufAwake _).mono ?_
      rintro e W1 ⟨rfl, k1⟩
      have K1 := Lib.hid (k1)
      clear k1
      go_wp2_with fail
      go_ret
      exact ⟨rfl, K1.out⟩
    · by_cases c2 : n > 60
      · go_enter Try.func7, Try.ntmps7
        go_wp2_with fail
        refine (shufAwake _).mono ?_
        rintro e W1 ⟨rfl, k1⟩
        have K1 := Lib.hid (k1)
        clear k1
        go_wp2_with fail
        go_ret
        exact ⟨rfl, K1.out⟩
      · by_cases c3 : i < 0
        · go_enter Try.func7, Try.ntmps7
          go_wp2_with fail
          refine (shufAwake _).mono ?_
          rintro e W1 ⟨rfl, k1⟩
          have K1 := Lib.hid (k1)
          clear k1
          go_wp2_with fail
          go_ret
          exact ⟨rfl, K1.out⟩
        · have c4 : n ≤ i := by omega
          go_enter Try.func7, Try.ntmps7
          go_wp2_with fail
          refine (shufAwake _).mono ?_
          rintro e W1 ⟨rfl, k1⟩
          have K1 := Lib.hid (k1)
          clear k1
          go_wp2_with fail
          go_ret
          exact ⟨rfl, K1.out⟩

/-! ### The row's step -/
set_option maxRecDepth 100000 in
theorem lifted (os : Os) (started : os.Started) (H : Type) (enc : TypeId × Value → H) :
    ReturnsInHanded {} Try.checked os 7 .any (Rows.shuffleAllSpec.pre6 enc Try.prog Try.f7 Rows.shuffleAllRow.domain false) (Rows.shuffleAllSpec.post enc Try.prog Try.f7 false true false false) := by
  refine returnsInHanded_of_change (C := Try.checked) own started (by kernel_rfl) Try.func7
    (ChangeSpec.witness6 (enc := enc) (C := Try.checked) false ⟨#[], #[.int .u64 0, .int .i64 0, .int .i64 0], []⟩ 8 (by kernel_rfl) (by kernel_rfl) (by kernel_rfl) (by kernel_rfl)) ?_
  intro W base args ds gs before hval0 hW hcnd _
  have hval : ∀ (j : Nat) t v, Try.f7.params[j]? = some t → args[j]? = some v → Value.okWide Try.prog W .any base t v := hval0
  have hW' := hW
  obtain ⟨p, q, hA0, hV, rfl, hfz, hnd⟩ := hW
  have hA : DataW.TrodAll enc Try.prog W 0 (fun _ => true) true Try.f7.params.toList args.toList ds p := hA0
  rw [Try.params7] at hA hval
  obtain ⟨v0, vs0, d0, ds0, p0, q0, hargs, rfl, rfl, h0, r0⟩ := trodAll_cons hA
  obtain ⟨v1, vs1, d1, ds1, p1, q1, rfl, rfl, rfl, h1, r1⟩ := trodAll_cons r0
  obtain ⟨v2, vs2, d2, ds2, p2, q2, rfl, rfl, rfl, h2, r2⟩ := trodAll_cons r1
  obtain ⟨rfl, rfl, rfl⟩ := trodAll_nil r2
  obtain rfl : args = #[v0, v1, v2] := by cases args; simp_all
  obtain ⟨rfl, rfl⟩ := trodVars_none hV
  obtain ⟨seed, rfl, hseed⟩ := open_u64 (hval 0 _ v0 rfl rfl) h0
  obtain ⟨n, rfl, hn1, hn2⟩ := open_num (hval 1 _ v1 rfl rfl) h1
  obtain ⟨i, rfl, hi1, hi2⟩ := open_num (hval 2 _ v2 rfl rfl) h2
  clear hA0 hval0
  refine (walk W seed hseed n hn1 hn2 i hi1 hi2).mono fun e W' ⟨he, hb⟩ => ?_
  subst he
  exact ⟨_, rfl, law_post rfl (by kernel_rfl) rfl hW' rfl hb⟩

theorem over : Rows.shuffleAllRow.holds Try.pinned (OpenSpec.ofChange Rows.shuffleAllSpec) :=
  OpenClaim.holds_of_wide 7 Try.f7 rfl rfl rfl rfl rfl rfl rfl ⟨rfl, rfl, rfl, rfl, rfl⟩ rfl rfl rfl rfl rfl (by kernel_rfl) Try.func7 (by kernel_rfl)
    (of_decide_eq_true (by kernel_rfl)) (by unfold Func.isWrapper; first | (rw [if_pos (by decide +kernel)]; kernel_rfl) | (rw [if_neg (by decide +kernel)]; exact ⟨rfl, rfl⟩))
    (fun os started H enc _ => lifted os started H enc)

/-- The statement. -/
theorem proved : Rows.ShuffleAllSaid :=
  over
#print axioms proved
end Go.Proofs.Ytigngppmiaejjaa.shuffleAll
