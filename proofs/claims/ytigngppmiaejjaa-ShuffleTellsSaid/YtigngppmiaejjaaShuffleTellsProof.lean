/-
  For every seed and all numbers n and i marigoldlaw04.ShuffleTells returns true and leaves its arguments as they were: no further condition.
-/
import Derived.Test.YtigngppmiaejjaaShufAwake
import Derived.Test.YtigngppmiaejjaaShufRefPerm
import Derived.Test.YtigngppmiaejjaaNumOpen
namespace Go.Proofs.Ytigngppmiaejjaa.shuffleTells
open Go.ChangeShapes Go.WideShapes Go.ChangeAt Go.RowKit
set_option linter.unusedVariables false

/-! ### The walk: the call returns true, and of what was there nothing has changed. -/
set_option maxRecDepth 100000 in
set_option maxHeartbeats 1600000 in
theorem walk (w : World) (seed : Nat) (hseed : seed < 18446744073709551616) (n : Int) (hn1 : -9223372036854775808 ≤ n) (hn2 : n ≤ 9223372036854775807) (i : Int) (hi1 : -9223372036854775808 ≤ i) (hi2 : i ≤ 9223372036854775807) :
    Calls Try.prog 3 #[.int .u64 seed, .int .i64 n, .int .i64 i] w fun e w' => e = .returned (.bool true) ∧ Kept w w' := by
  by_cases hm : 1 ≤ n ∧ n ≤ 60
  · obtain ⟨m, rfl⟩ := Int.eq_ofNat_of_zero_le (show 0 ≤ n by omega)
    have h1 : 1 ≤ m := by omega
    have h2 : m ≤ 60 := by omega
    clear hm hn1 hn2
    go_enter Try.func3, Try.ntmps3
    go_wp2_with fail
    refine (shufAwake _).mono ?_
    rintro e W1 ⟨rfl, k1⟩
    have K1 := Lib.hid (k1)
    clear k1
    go_wp2_with fail
    refine (at_any seed m i W1 hseed).mono ?_
    rintro e W2 ⟨rfl, k2⟩
    have K2 := Lib.hid (K1.out.trans k2)
    clear k2
    go_wp2_with fail
    refine (refAt_any seed m i W2 hseed).mono ?_
    rintro e w' ⟨rfl, rfl⟩
    generalize atI seed m i = x at *
    go_wp2_with fail
    refine (back_all seed m i W2 hseed).mono ?_
    rintro e W3 ⟨rfl, k3⟩
    have K3 := Lib.hid (K2.out.trans k3)
    clear k3
    go_wp2_with fail
    refine (refBack_any seed m i W3 hseed).mono ?_
    rintro e w' ⟨rfl, rfl⟩
    generalize backI seed m i = y at *
    go_wp2_with fail
    refine (perm_yes seed m W3 hseed h1 (by omega)).mono ?_
    rintro e W4 ⟨g, rfl, hL, hg, k4⟩
    have K4 := Lib.hid (K3.out.trans k4)
    have HL := Lib.hid hL
    clear hL k4 hg
    go_wp2_with fail
    refine (refPerm_yes seed m W4 hseed h1 (by omega)).mono ?_
    rintro e W5 ⟨q, c, rfl, hq, hc, k5⟩
    have K5 := Lib.hid (K4.out.trans k5)
    have HL5 := Lib.hid (rowIs_kept HL.out k5)
    have HC := Lib.hid hc
    clear HL hc k5 hq
    go_wp2_with fail
    go_loopw [10] (fun c w' => ∃ j : Nat, j ≤ m ∧ c = .int .i64 j ∧ w'.rowIs g 3 m (atV seed m) ∧ (∀ j, j < m → w'.cell? ⟨q, j, none⟩ = some (atV seed m j)) ∧ Kept w w') (fun c _ => m - (intOf c).toNat)
    case atStart => exact ⟨0, by omega, rfl, HL5.out, HC.out, K5.out⟩
    case round =>
      obtain ⟨j, hj, rfl, hL, hC, hK⟩ := hrel
      have HL := Lib.hid hL
      have HC := Lib.hid hC
      have HK := Lib.hid hK
      clear hL hC hK
      by_cases hlt : j < m
      · have c0 : wr.cell? ⟨g, j, none⟩ = some (.int .i64 (atN seed m j)) := HL.out.cell hlt
        have c1 : wr.cell? ⟨q, j, none⟩ = some (.int .i64 (atN seed m j)) := HC.out j hlt
        generalize atN seed m j = u at *
        go_wp2_with fail
        go_quiet (fail)
        go_wp2_with fail
        go_roundw
        case rel => exact ⟨j + 1, by omega, by go_num, rowIs_kept HL.out ((Kept.refl _).drewN _), HC.out, HK.out.drewN _⟩
        case measure => simp [intOf]; omega
      · have hjm : j = m := by omega
        subst hjm
        go_wp2_with fail
        go_ret
        exact ⟨rfl, HK.out⟩
  · by_cases c1 : n < 1
    · have c2 : ¬ n > 60 := by omega
      have HM := Lib.hid (show sizeN n = false from decide_eq_false (by omega))
      go_enter Try.func3, Try.ntmps3
      go_wp2_with fail
      refine (shufAwake _).mono ?_
      rintro e W1 ⟨rfl, k1⟩
      have K1 := Lib.hid (k1)
      clear k1
      go_wp2_with fail
      refine (at_any seed n i W1 hseed).mono ?_
      rintro e W2 ⟨rfl, k2⟩
      have K2 := Lib.hid (K1.out.trans k2)
      clear k2
      go_wp2_with fail
      refine (refAt_any seed n i W2 hseed).mono ?_
      rintro e w' ⟨rfl, rfl⟩
      generalize atI seed n i = x at *
      go_wp2_with fail
      refine (back_all seed n i W2 hseed).mono ?_
      rintro e W3 ⟨rfl, k3⟩
      have K3 := Lib.hid (K2.out.trans k3)
      clear k3
      go_wp2_with fail
      refine (refBack_any seed n i W3 hseed).mono ?_
      rintro e w' ⟨rfl, rfl⟩
      generalize backI seed n i = y at *
      go_wp2_with fail
      refine (perm_no seed n W3 HM.out).mono ?_
      rintro e W4 ⟨rfl, k4⟩
      have K4 := Lib.hid (K3.out.trans k4)
      clear k4
      go_wp2_with fail
      refine (refPerm_no seed n W4 HM.out).mono ?_
      rintro e w' ⟨rfl, rfl⟩
      go_wp2_with fail
      go_loop [10] (fun c => c = .int .i64 0) (fun _ => 0)
      case atStart => exact rfl
      case round =>
        obtain rfl := hrel
        go_wp2_with fail
        go_ret
        exact ⟨rfl, K4.out⟩
    · by_cases c3 : n ≤ 1000
      · have c2 : n > 60 := by omega
        go_enter Try.func3, Try.ntmps3
        go_wp2_with fail
        refine (shufAwake _).mono ?_
        rintro e W1 ⟨rfl, k1⟩
        have K1 := Lib.hid (k1)
        clear k1
        go_wp2_with fail
        refine (at_any seed n i W1 hseed).mono ?_
        rintro e W2 ⟨rfl, k2⟩
        have K2 := Lib.hid (K1.out.trans k2)
        clear k2
        go_wp2_with fail
        refine (refAt_any seed n i W2 hseed).mono ?_
        rintro e w' ⟨rfl, rfl⟩
        generalize atI seed n i = x at *
        go_wp2_with fail
        refine (back_all seed n i W2 hseed).mono ?_
        rintro e W3 ⟨rfl, k3⟩
        have K3 := Lib.hid (K2.out.trans k3)
        clear k3
        go_wp2_with fail
        refine (refBack_any seed n i W3 hseed).mono ?_
        rintro e w' ⟨rfl, rfl⟩
        generalize backI seed n i = y at *
        go_wp2_with fail
        go_ret
        exact ⟨rfl, K3.out⟩
      · have c2 : n > 60 := by omega
        have HM := Lib.hid (show sizeN n = false from decide_eq_false (by omega))
        go_enter Try.func3, Try.ntmps3
        go_wp2_with fail
        refine (shufAwake _).mono ?_
        rintro e W1 ⟨rfl, k1⟩
        have K1 := Lib.hid (k1)
        clear k1
        go_wp2_with fail
        refine (at_any seed n i W1 hseed).mono ?_
        rintro e W2 ⟨rfl, k2⟩
        have K2 := Lib.hid (K1.out.trans k2)
        clear k2
        go_wp2_with fail
        refine (refAt_any seed n i W2 hseed).mono ?_
        rintro e w' ⟨rfl, rfl⟩
        generalize atI seed n i = x at *
        go_wp2_with fail
        refine (back_all seed n i W2 hseed).mono ?_
        rintro e W3 ⟨rfl, k3⟩
        have K3 := Lib.hid (K2.out.trans k3)
        clear k3
        go_wp2_with fail
        refine (refBack_any seed n i W3 hseed).mono ?_
        rintro e w' ⟨rfl, rfl⟩
        generalize backI seed n i = y at *
        go_wp2_with fail
        refine (perm_no seed n W3 HM.out).mono ?_
        rintro e W4 ⟨rfl, k4⟩
        have K4 := Lib.hid (K3.out.trans k4)
        clear k4
        go_wp2_with fail
        refine (refPerm_no seed n W4 HM.out).mono ?_
        rintro e w' ⟨rfl, rfl⟩
        go_wp2_with fail
        go_loop [10] (fun c => c = .int .i64 0) (fun _ => 0)
        case atStart => exact rfl
        case round =>
          obtain rfl := hrel
          go_wp2_with fail
          go_ret
          exact ⟨rfl, K4.out⟩

/-! ### The row's step -/
set_option maxRecDepth 100000 in
theorem lifted (os : Os) (started : os.Started) (H : Type) (enc : TypeId × Value → H) :
    ReturnsInHanded {} Try.checked os 3 .any (Rows.shuffleTellsSpec.pre6 enc Try.prog Try.f3 Rows.shuffleTellsRow.domain false) (Rows.shuffleTellsSpec.post enc Try.prog Try.f3 false true false false) := by
  refine returnsInHanded_of_change (C := Try.checked) own started (by kernel_rfl) Try.func3
    (ChangeSpec.witness6 (enc := enc) (C := Try.checked) false ⟨#[], #[.int .u64 0, .int .i64 0, .int .i64 0], []⟩ 8 (by kernel_rfl) (by kernel_rfl) (by kernel_rfl) (by kernel_rfl)) ?_
  intro W base args ds gs before hval0 hW hcnd _
  have hval : ∀ (j : Nat) t v, Try.f3.params[j]? = some t → args[j]? = some v → Value.okWide Try.prog W .any base t v := hval0
  have hW' := hW
  obtain ⟨p, q, hA0, hV, rfl, hfz, hnd⟩ := hW
  have hA : DataW.TrodAll enc Try.prog W 0 (fun _ => true) true Try.f3.params.toList args.toList ds p := hA0
  rw [Try.params3] at hA hval
  obtain ⟨v0, vs0, d0, ds0, p0, q0, hargs, rfl, rfl, h0, r0⟩ := trodAll_cons hA
  obtain ⟨v1, vs1, d1, ds1, p1, q1, rfl, rfl, rfl, h1, r1⟩ := trodAll_cons r0
  obtain ⟨v2, vs2, d2, ds2, p2, q2, rfl, rfl, rfl, h2, r2⟩ := trodAll_cons r1
  obtain ⟨rfl, rfl, rfl⟩ := trodAll_nil r2
  obtain rfl : args = #[v0, v1, v2] := by cases args; simp_all
  obtain ⟨rfl, rfl⟩ := trodVars_none hV
  obtain ⟨seed, rfl, hseed⟩ := open_u64 (hval 0 _ v0 rfl rfl) h0
  obtain ⟨n, rfl, hn1, hn2⟩ := open_num (hval 1 _ v1 rfl rfl) h1
  obtain ⟨i, rfl, hi1, hi2⟩ := open_num (hval 2 _ v2 rfl rfl) h2
  clear hA0 hval0
  refine (walk W seed hseed n hn1 hn2 i hi1 hi2).mono fun e W' ⟨he, hb⟩ => ?_
  subst he
  exact ⟨_, rfl, law_post rfl (by kernel_rfl) rfl hW' rfl hb⟩

theorem over : Rows.shuffleTellsRow.holds Try.pinned (OpenSpec.ofChange Rows.shuffleTellsSpec) :=
  OpenClaim.holds_of_wide 3 Try.f3 rfl rfl rfl rfl rfl rfl rfl ⟨rfl, rfl, rfl, rfl, rfl⟩ rfl rfl rfl rfl rfl (by kernel_rfl) Try.func3 (by kernel_rfl)
    (of_decide_eq_true (by kernel_rfl)) (by unfold Func.isWrapper; first | (rw [if_pos (by decide +kernel)]; kernel_rfl) | (rw [if_neg (by decide +kernel)]; exact ⟨rfl, rfl⟩))
    (fun os started H enc _ => lifted os started H enc)

/-- The statement. -/
theorem proved : Rows.ShuffleTellsSaid :=
  over
#print axioms proved
end Go.Proofs.Ytigngppmiaejjaa.shuffleTells
