/-
  For every seed and all numbers n and i marigoldlaw04.ShuffleBack returns true and leaves its arguments as they were: no further condition.
-/
import Derived.Test.YtigngppmiaejjaaShufAwake
import Derived.Test.YtigngppmiaejjaaNumOpen
namespace Go.Proofs.Ytigngppmiaejjaa.shuffleBack
open Go.ChangeShapes Go.WideShapes Go.ChangeAt Go.RowKit
set_option linter.unusedVariables false

/-! ### The walk: the call returns true, and of what was there nothing has changed. -/
set_option maxHeartbeats 1000000 in
theorem walk (w : World) (seed : Nat) (hseed : seed < 18446744073709551616) (n : Int) (hn1 : -9223372036854775808 ≤ n) (hn2 : n ≤ 9223372036854775807) (i : Int) (hi1 : -9223372036854775808 ≤ i) (hi2 : i ≤ 9223372036854775807) :
    Calls Try.prog 4 #[.int .u64 seed, .int .i64 n, .int .i64 i] w fun e w' => e = .returned (.bool true) ∧ Kept w w' := by
  by_cases hm : (1 ≤ n ∧ n ≤ 1000) ∧ 0 ≤ i ∧ i < n
  · obtain ⟨m, j, rfl, rfl, h1, h2, h3⟩ := mayN_yes (decide_eq_true hm)
    clear hm hn1 hn2 hi1 hi2
    have ha := atN_lt (seed := seed) h3
    have hb := backAtN_lt (seed := seed) h3
    have HA := Lib.hid (backAtN_atN (seed := seed) h3)
    have HB := Lib.hid (atN_backAtN (seed := seed) h3)
    go_enter Try.func4, Try.ntmps4
    go_wp2_with fail
    refine (shufAwake _).mono ?_
    rintro e W1 ⟨rfl, k1⟩
    have K1 := Lib.hid (k1)
    clear k1
    go_wp2_with fail
    refine (at_yes seed m j W1 hseed h1 h2 h3).mono ?_
    rintro e W2 ⟨rfl, k2⟩
    have K2 := Lib.hid (K1.out.trans k2)
    clear k2
    go_wp2_with fail
    refine (back_yes seed m j W2 hseed h1 h2 h3).mono ?_
    rintro e W3 ⟨rfl, k3⟩
    have K3 := Lib.hid (K2.out.trans k3)
    clear k3
    generalize atN seed m j = x at *
    generalize backAtN seed m j = y at *
    go_wp2_with fail
    refine (back_yes seed m x W3 hseed h1 h2 ha).mono ?_
    rintro e W4 ⟨rfl, k4⟩
    have K4 := Lib.hid (K3.out.trans k4)
    clear k4
    rw [HA.out]
    go_wp2_with fail
    refine (at_yes seed m y W4 hseed h1 h2 hb).mono ?_
    rintro e W5 ⟨rfl, k5⟩
    have K5 := Lib.hid (K4.out.trans k5)
    clear k5
    rw [HB.out]
    go_wp2_with fail
    go_ret
    exact ⟨rfl, K5.out⟩
  · have HM := Lib.hid (mayN_no hm)
    have HH := Lib.hid hm
    clear hm
    by_cases c1 : n < 1
    · go_enter Try.func4, Try.ntmps4
      go_wp2_with fail
      refine (shufAwake _).mono ?_
      rintro e W1 ⟨rfl, k1⟩
      have K1 := Lib.hid (k1)
      clear k1
      go_wp2_with fail
      refine (at_no seed n i W1 HM.out).mono ?_
      rintro e W2 ⟨rfl, k2⟩
      have K2 := Lib.hid (K1.out.trans k2)
      clear k2
      go_wp2_with fail
      refine (back_no seed n i W2 HM.out).mono ?_
      rintro e W3 ⟨rfl, k3⟩
      have K3 := Lib.hid (K2.out.trans k3)
      clear k3
      go_wp2_with fail
      go_ret
      exact ⟨rfl, K3.out⟩
    · by_cases c2 : n > 1000
      · go_enter Try.func4, Try.ntmps4
        go_wp2_with fail
        refine (shufAwake _).mono ?_
        rintro e W1 ⟨rfl, k1⟩
        have K1 := Lib.hid (k1)
        clear k1
        go_wp2_with fail
        refine (at_no seed n i W1 HM.out).mono ?_
        rintro e W2 ⟨rfl, k2⟩
        have K2 := Lib.hid (K1.out.trans k2)
        clear k2
        go_wp2_with fail
        refine (back_no seed n i W2 HM.out).mono ?_
        rintro e W3 ⟨rfl, k3⟩
        have K3 := Lib.hid (K2.out.trans k3)
        clear k3
        go_wp2_with fail
        go_ret
        exact ⟨rfl, K3.out⟩
      · by_cases c3 : i < 0
        · go_enter Try.func4, Try.ntmps4
          go_wp2_with fail
          refine (shufAwake _).mono ?_
          rintro e W1 ⟨rfl, k1⟩
          have K1 := Lib.hid (k1)
          clear k1
          go_wp2_with fail
          refine (at_no seed n i W1 HM.out).mono ?_
          rintro e W2 ⟨rfl, k2⟩
          have K2 := Lib.hid (K1.out.trans k2)
          clear k2
          go_wp2_with fail
          refine (back_no seed n i W2 HM.out).mono ?_
          rintro e W3 ⟨rfl, k3⟩
          have K3 := Lib.hid (K2.out.trans k3)
          clear k3
          go_wp2_with fail
          go_ret
          exact ⟨rfl, K3.out⟩
        · have c4 : n ≤ i := by have := HH.out; omega
          go_enter Try.func4, Try.ntmps4
          go_wp2_with fail
          refine (shufAwake _).mono ?_
          rintro e W1 ⟨rfl, k1⟩
          have K1 := Lib.hid (k1)
          clear k1
          go_wp2_with fail
          refine (at_no seed n i W1 HM.out).mono ?_
          rintro e W2 ⟨rfl, k2⟩
          have K2 := Lib.hid (K1.out.trans k2)
          clear k2
          go_wp2_with fail
          refine (back_no seed n i W2 HM.out).mono ?_
          rintro e W3 ⟨rfl, k3⟩
          have K3 := Lib.hid (K2.out.trans k3)
          clear k3
          go_wp2_with fail
          go_ret
          exact ⟨rfl, K3.out⟩

/-! ### The row's step -/
set_option maxRecDepth 100000 in
theorem lifted (os : Os) (started : os.Started) (H : Type) (enc : TypeId × Value → H) :
    ReturnsInHanded {} Try.checked os 4 .any (Rows.shuffleBackSpec.pre6 enc Try.prog Try.f4 Rows.shuffleBackRow.domain false) (Rows.shuffleBackSpec.post enc Try.prog Try.f4 false true false false) := by
  refine returnsInHanded_of_change (C := Try.checked) own started (by kernel_rfl) Try.func4
    (ChangeSpec.witness6 (enc := enc) (C := Try.checked) false ⟨#[], #[.int .u64 0, .int .i64 0, .int .i64 0], []⟩ 8 (by kernel_rfl) (by kernel_rfl) (by kernel_rfl) (by kernel_rfl)) ?_
  intro W base args ds gs before hval0 hW hcnd _
  have hval : ∀ (j : Nat) t v, Try.f4.params[j]? = some t → args[j]? = some v → Value.okWide Try.prog W .any base t v := hval0
  have hW' := hW
  obtain ⟨p, q, hA0, hV, rfl, hfz, hnd⟩ := hW
  have hA : DataW.TrodAll enc Try.prog W 0 (fun _ => true) true Try.f4.params.toList args.toList ds p := hA0
  rw [Try.params4] at hA hval
  obtain ⟨v0, vs0, d0, ds0, p0, q0, hargs, rfl, rfl, h0, r0⟩ := trodAll_cons hA
  obtain ⟨v1, vs1, d1, ds1, p1, q1, rfl, rfl, rfl, h1, r1⟩ := trodAll_cons r0
  obtain ⟨v2, vs2, d2, ds2, p2, q2, rfl, rfl, rfl, h2, r2⟩ := trodAll_cons r1
  obtain ⟨rfl, rfl, rfl⟩ := trodAll_nil r2
  obtain rfl : args = #[v0, v1, v2] := by cases args; simp_all
  obtain ⟨rfl, rfl⟩ := trodVars_none hV
  obtain ⟨seed, rfl, hseed⟩ := open_u64 (hval 0 _ v0 rfl rfl) h0
  obtain ⟨n, rfl, hn1, hn2⟩ := open_num (hval 1 _ v1 rfl rfl) h1
  obtain ⟨i, rfl, hi1, hi2⟩ := open_num (hval 2 _ v2 rfl rfl) h2
  clear hA0 hval0
  refine (walk W seed hseed n hn1 hn2 i hi1 hi2).mono fun e W' ⟨he, hb⟩ => ?_
  subst he
  exact ⟨_, rfl, law_post rfl (by kernel_rfl) rfl hW' rfl hb⟩

theorem over : Rows.shuffleBackRow.holds Try.pinned (OpenSpec.ofChange Rows.shuffleBackSpec) :=
  OpenClaim.holds_of_wide 4 Try.f4 rfl rfl rfl rfl rfl rfl rfl ⟨rfl, rfl, rfl, rfl, rfl⟩ rfl rfl rfl rfl rfl (by kernel_rfl) Try.func4 (by kernel_rfl)
    (of_decide_eq_true (by kernel_rfl)) (by unfold Func.isWrapper; first | (rw [if_pos (by decide +kernel)]; kernel_rfl) | (rw [if_neg (by decide +kernel)]; exact ⟨rfl, rfl⟩))
    (fun os started H enc _ => lifted os started H enc)

/-- The statement. -/
theorem proved : Rows.ShuffleBackSaid :=
  over
#print axioms proved
end Go.Proofs.Ytigngppmiaejjaa.shuffleBack
