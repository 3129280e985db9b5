/-
  For every seed and every number n marigoldlaw04.ShuffleSums returns true and leaves its arguments as they were: no further condition.
-/
import Derived.Test.YtigngppmiaejjaaShufAwake
import Derived.Test.YtigngppmiaejjaaNumOpen
namespace Go.Proofs.Ytigngppmiaejjaa.shuffleSums
open Go.ChangeShapes Go.WideShapes Go.ChangeAt Go.RowKit
set_option linter.unusedVariables false

theorem sum_le (seed n : Nat) : ∀ k, k ≤ n → n ≤ 60 → sumN (atN seed n) k ≤ 60 * k
  | 0, _, _ => Nat.le_refl _
  | k + 1, hk, hn => by
    have h := sum_le seed n k (by omega) hn
    have h2 := atN_lt (seed := seed) (show k < n by omega)
    show sumN (atN seed n) k + atN seed n k ≤ _
    omega

/-! ### The walk: the call returns true, and of what was there nothing has changed. -/
set_option maxRecDepth 100000 in
set_option maxHeartbeats 1600000 in
theorem walk (w : World) (seed : Nat) (hseed : seed < 18446744073709551616) (n : Int) (hn1 : -9223372036854775808 ≤ n) (hn2 : n ≤ 9223372036854775807) :
    Calls Try.prog 6 #[.int .u64 seed, .int .i64 n] w fun e w' => e = .returned (.bool true) ∧ Kept w w' := by
  by_cases hm : 1 ≤ n ∧ n ≤ 60
  · obtain ⟨m, rfl⟩ := Int.eq_ofNat_of_zero_le (show 0 ≤ n by omega)
    have h1 : 1 ≤ m := by omega
    have h2 : m ≤ 60 := by omega
    clear hm hn1 hn2
    go_enter Try.func6, Try.ntmps6
    go_wp2_with fail
    refine (shufAwake _).mono ?_
    rintro e W1 ⟨rfl, k1⟩
    have K1 := Lib.hid (k1)
    clear k1
    go_wp2_with fail
    refine (perm_yes seed m W1 hseed h1 (by omega)).mono ?_
    rintro e W2 ⟨g, rfl, hL, hg, k2⟩
    have K2 := Lib.hid (K1.out.trans k2)
    have HL := Lib.hid hL
    clear hL k2 hg K1
    go_wp2_with fail
    go_loop [7, 8] (fun s c => ∃ j : Nat, j ≤ m ∧ c = .int .i64 j ∧ s = .int .i64 (sumN (atN seed m) j)) (fun _ c => m - (intOf c).toNat)
    case atStart => exact ⟨0, by omega, rfl, rfl⟩
    case round =>
      obtain ⟨j, hj, rfl, rfl⟩ := hrel
      have hb := sum_le seed m j hj h2
      by_cases hlt : j < m
      · have hx := atN_lt (seed := seed) hlt
        have HN := Lib.hid (show sumN (atN seed m) (j + 1) = sumN (atN seed m) j + atN seed m j from rfl)
        have c0 : W2.cell? ⟨g, j, none⟩ = some (.int .i64 (atN seed m j)) := HL.out.cell hlt
        generalize sumN (atN seed m) j = s at *
        generalize atN seed m j = x at *
        go_wp2_with fail
        go_round
        case rel => exact ⟨j + 1, by omega, by go_num, by rw [HN.out]; go_num⟩
        case measure => simp [intOf]; omega
      · have hjm : j = m := by omega
        subst hjm
        have hp : (j : Int) * ((j : Int) - 1) = 2 * ((sumN (atN seed j) j : Nat) : Int) := by
          have h := sum_at seed j
          rw [show (j : Int) - 1 = ((j - 1 : Nat) : Int) by omega, ← Int.natCast_mul, ← h, Int.natCast_mul]; rfl
        have HAB := Lib.hid (at_two seed)
        have HA0 := Lib.hid (fun w' => at_yes seed 2 0 w' hseed (by omega) (by omega) (by omega))
        have HA1 := Lib.hid (fun w' => at_yes seed 2 1 w' hseed (by omega) (by omega) (by omega))
        generalize sumN (atN seed j) j = s at *
        generalize atN seed 2 0 = a0 at *
        generalize atN seed 2 1 = a1 at *
        clear HL
        go_wp2_with fail
        refine (HA0.out W2).mono ?_
        rintro e W3 ⟨rfl, k3⟩
        have K3 := Lib.hid (K2.out.trans k3)
        clear k3
        go_wp2_with fail
        refine (HA1.out W3).mono ?_
        rintro e W4 ⟨rfl, k4⟩
        have K4 := Lib.hid (K3.out.trans k4)
        clear k4
        have hab : (a0 : Int) + (a1 : Int) = 1 := by have := HAB.out; omega
        go_wp2_with fail
        go_ret
        exact ⟨rfl, K4.out⟩
  · by_cases c1 : n < 1
    · have HM := Lib.hid (show sizeN n = false from decide_eq_false (by omega))
      have c2 : n ≤ 60 := by omega
      go_enter Try.func6, Try.ntmps6
      go_wp2_with fail
      refine (shufAwake _).mono ?_
      rintro e W1 ⟨rfl, k1⟩
      have K1 := Lib.hid (k1)
      clear k1
      go_wp2_with fail
      refine (perm_no seed n W1 HM.out).mono ?_
      rintro e W2 ⟨rfl, k2⟩
      have K2 := Lib.hid (K1.out.trans k2)
      clear k2
      go_wp2_with fail
      go_loop [7, 8] (fun s c => s = .int .i64 0 ∧ c = .int .i64 0) (fun _ _ => 0)
      case atStart => exact ⟨rfl, rfl⟩
      case round =>
        obtain ⟨rfl, rfl⟩ := hrel
        go_wp2_with fail
        go_ret
        exact ⟨rfl, K2.out⟩
    · have c2 : n > 60 := by omega
      go_enter Try.func6, Try.ntmps6
      go_wp2_with fail
      refine (shufAwake _).mono ?_
      rintro e W1 ⟨rfl, k1⟩
      have K1 := Lib.hid (k1)
      clear k1
      go_wp2_with fail
      go_ret
      exact ⟨rfl, K1.out⟩

/-! ### The row's step -/
set_option maxRecDepth 100000 in
theorem lifted (os : Os) (started : os.Started) (H : Type) (enc : TypeId × Value → H) :
    ReturnsInHanded {} Try.checked os 6 .any (Rows.shuffleSumsSpec.pre6 enc Try.prog Try.f6 Rows.shuffleSumsRow.domain false) (Rows.shuffleSumsSpec.post enc Try.prog Try.f6 false true false false) := by
  refine returnsInHanded_of_change (C := Try.checked) own started (by kernel_rfl) Try.func6
    (ChangeSpec.witness6 (enc := enc) (C := Try.checked) false ⟨#[], #[.int .u64 0, .int .i64 0], []⟩ 8 (by kernel_rfl) (by kernel_rfl) (by kernel_rfl) (by kernel_rfl)) ?_
  intro W base args ds gs before hval0 hW hcnd _
  have hval : ∀ (j : Nat) t v, Try.f6.params[j]? = some t → args[j]? = some v → Value.okWide Try.prog W .any base t v := hval0
  have hW' := hW
  obtain ⟨p, q, hA0, hV, rfl, hfz, hnd⟩ := hW
  have hA : DataW.TrodAll enc Try.prog W 0 (fun _ => true) true Try.f6.params.toList args.toList ds p := hA0
  rw [Try.params6] at hA hval
  obtain ⟨v0, vs0, d0, ds0, p0, q0, hargs, rfl, rfl, h0, r0⟩ := trodAll_cons hA
  obtain ⟨v1, vs1, d1, ds1, p1, q1, rfl, rfl, rfl, h1, r1⟩ := trodAll_cons r0
  obtain ⟨rfl, rfl, rfl⟩ := trodAll_nil r1
  obtain rfl : args = #[v0, v1] := by cases args; simp_all
  obtain ⟨rfl, rfl⟩ := trodVars_none hV
  obtain ⟨seed, rfl, hseed⟩ := open_u64 (hval 0 _ v0 rfl rfl) h0
  obtain ⟨n, rfl, hn1, hn2⟩ := open_num (hval 1 _ v1 rfl rfl) h1
  clear hA0 hval0
  refine (walk W seed hseed n hn1 hn2).mono fun e W' ⟨he, hb⟩ => ?_
  subst he
  exact ⟨_, rfl, law_post rfl (by kernel_rfl) rfl hW' rfl hb⟩

theorem over : Rows.shuffleSumsRow.holds Try.pinned (OpenSpec.ofChange Rows.shuffleSumsSpec) :=
  OpenClaim.holds_of_wide 6 Try.f6 rfl rfl rfl rfl rfl rfl rfl ⟨rfl, rfl, rfl, rfl, rfl⟩ rfl rfl rfl rfl rfl (by kernel_rfl) Try.func6 (by kernel_rfl)
    (of_decide_eq_true (by kernel_rfl)) (by unfold Func.isWrapper; first | (rw [if_pos (by decide +kernel)]; kernel_rfl) | (rw [if_neg (by decide +kernel)]; exact ⟨rfl, rfl⟩))
    (fun os started H enc _ => lifted os started H enc)

/-- The statement. -/
theorem proved : Rows.ShuffleSumsSaid :=
  over
#print axioms proved
end Go.Proofs.Ytigngppmiaejjaa.shuffleSums
