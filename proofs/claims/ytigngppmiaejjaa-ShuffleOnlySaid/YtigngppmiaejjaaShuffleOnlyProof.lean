/-
  For every seed and every number n marigoldlaw04.ShuffleOnly returns true and leaves its arguments as they were: no further condition.
-/
import Derived.Test.YtigngppmiaejjaaShufAwake
import Derived.Test.YtigngppmiaejjaaNumOpen
namespace Go.Proofs.Ytigngppmiaejjaa.shuffleOnly
open Go.ChangeShapes Go.WideShapes Go.ChangeAt Go.RowKit
set_option linter.unusedVariables false

/-- What is seen when k places were gone through. -/
def seenV (seed n k x : Nat) : Value := .bool (decide (backAtN seed n x < k))
theorem seenV_next (seed n k : Nat) (hk : k < n) : ∀ i, i < n → (if i = atN seed n k then Value.bool true else seenV seed n k i) = seenV seed n (k + 1) i := fun i hi => by
  by_cases e : i = atN seed n k
  · subst e
    rw [if_pos rfl]
    simp [seenV, backAtN_atN hk]
  · rw [if_neg e]
    have h : ¬ backAtN seed n i = k := fun h => e (by rw [← h, atN_backAtN hi])
    unfold seenV
    congr 1
    exact decide_eq_decide.2 (by omega)
theorem makeBools (n : Nat) (hn : n ≤ 60) (w : World) : (Instr.makeSlice 28 (.int .i64 (n : Int)) (.int .i64 (n : Int))).run Try.prog w = .ok (.slice (some ⟨w.heap.size, 0, none⟩) n n) (w.alloc (.cells (madeCells #[.bool false] n) 4)) :=
  run_make_row' 28 4 (.bool false) 1 Try.underlying28 (by kernel_rfl) rfl .i64 .i64 n (by omega) (by omega) w

/-! ### The walk: the call returns true, and of what was there nothing has changed. -/
set_option maxRecDepth 100000 in
set_option maxHeartbeats 1600000 in
theorem walk (w : World) (seed : Nat) (hseed : seed < 18446744073709551616) (n : Int) (hn1 : -9223372036854775808 ≤ n) (hn2 : n ≤ 9223372036854775807) :
    Calls Try.prog 5 #[.int .u64 seed, .int .i64 n] w fun e w' => e = .returned (.bool true) ∧ Kept w w' := by
  by_cases hm : 1 ≤ n ∧ n ≤ 60
  · obtain ⟨m, rfl⟩ := Int.eq_ofNat_of_zero_le (show 0 ≤ n by omega)
    have h1 : 1 ≤ m := by omega
    have h2 : m ≤ 60 := by omega
    clear hm hn1 hn2
    have hmk := makeBools m h2
    go_enter Try.func5, Try.ntmps5
    go_wp2_with fail
    refine (shufAwake _).mono ?_
    rintro e W1 ⟨rfl, k1⟩
    have K1 := Lib.hid (k1)
    clear k1
    go_wp2_with fail
    refine (perm_yes seed m W1 hseed h1 (by omega)).mono ?_
    rintro e W2 ⟨g, rfl, hL, hg, k2⟩
    have K2 := Lib.hid (K1.out.trans k2)
    have HL := Lib.hid hL
    have HS := Lib.hid K2.out.size_le
    clear hL k2 hg K1
    go_wp2_with fail
    have HL3 := Lib.hid (rowIs_kept HL.out ((Kept.refl W2).alloc (.cells (madeCells #[.bool false] m) 4)))
    have HG := Lib.hid HL.out.lt
    have HT3 := Lib.hid ((World.rowIs_made W2 (.bool false) m 4).congr (g := seenV seed m 0) (fun i _ => by simp [seenV]))
    have K3 := Lib.hid (K2.out.alloc (.cells (madeCells #[.bool false] m) 4))
    clear HL
    generalize W2.alloc (.cells (madeCells #[.bool false] m) 4) = W3 at *
    generalize W2.heap.size = z at *
    clear K2 hmk
    go_loopw [8] (fun c w' => ∃ j : Nat, j ≤ m ∧ c = .int .i64 j ∧ w'.rowIs g 3 m (atV seed m) ∧ w'.rowIs z 4 m (seenV seed m j) ∧ Kept w w') (fun c _ => m - (intOf c).toNat)
    case atStart => exact ⟨0, by omega, rfl, HL3.out, HT3.out, K3.out⟩
    case round =>
      obtain ⟨j, hj, rfl, hL, hT, hK⟩ := hrel
      have HL := Lib.hid hL
      have HT := Lib.hid hT
      have HK := Lib.hid hK
      clear hL hT hK
      by_cases hlt : j < m
      · have hx := atN_lt (seed := seed) hlt
        have HB := Lib.hid (backAtN_atN (seed := seed) hlt)
        have HN := Lib.hid (seenV_next seed m j hlt)
        have c0 : wr.cell? ⟨g, j, none⟩ = some (.int .i64 (atN seed m j)) := HL.out.cell hlt
        have c1 : wr.cell? ⟨z, atN seed m j, none⟩ = some (.bool false) := by
          rw [HT.out.cell hx]; simp [seenV, HB.out]
        have z1 := HT.out.frozen (atN seed m j)
        generalize atN seed m j = x at *
        obtain ⟨X, hX⟩ : ∃ X : Int, (x : Int) = X := ⟨_, rfl⟩
        have hX0 : ¬ X < 0 := by omega
        have hX2 : 0 ≤ X := by omega
        have hX1 : ¬ X ≥ (m : Int) := by omega
        have hX3 : X < (m : Int) := by omega
        have HE := Lib.hid (show x = X.toNat by omega)
        rw [hX] at c0
        rw [HE.out] at c1 z1
        clear hX
        go_wp2_with fail
        go_roundw
        case rel => rw [← HE.out]; exact ⟨j + 1, by omega, by go_num, HL.out.setOther (by have := HG.out; simp; omega) _, (HT.out.set x (.bool true)).congr HN.out, HK.out.setCell (p := ⟨z, x, none⟩) HS.out _⟩
        case measure => simp [intOf]; omega
      · have hjm : j = m := by omega
        subst hjm
        go_wp2_with fail
        go_ret
        exact ⟨rfl, HK.out⟩
  · by_cases c1 : n < 1
    · go_enter Try.func5, Try.ntmps5
      go_wp2_with fail
      refine (shufAwake _).mono ?_
      rintro e W1 ⟨rfl, k1⟩
      have K1 := Lib.hid (k1)
      clear k1
      go_wp2_with fail
      go_ret
      exact ⟨rfl, K1.out⟩
    · have c2 : n > 60 := by omega
      go_enter Try.func5, Try.ntmps5
      go_wp2_with fail
      refine (shufAwake _).mono ?_
      rintro e W1 ⟨rfl, k1⟩
      have K1 := Lib.hid (k1)
      clear k1
      go_wp2_with fail
      go_ret
      exact ⟨rfl, K1.out⟩

/-! ### The row's step -/
set_option maxRecDepth 100000 in
theorem lifted (os : Os) (started : os.Started) (H : Type) (enc : TypeId × Value → H) :
    ReturnsInHanded {} Try.checked os 5 .any (Rows.shuffleOnlySpec.pre6 enc Try.prog Try.f5 Rows.shuffleOnlyRow.domain false) (Rows.shuffleOnlySpec.post enc Try.prog Try.f5 false true false false) := by
  refine returnsInHanded_of_change (C := Try.checked) own started (by kernel_rfl) Try.func5
    (ChangeSpec.witness6 (enc := enc) (C := Try.checked) false ⟨#[], #[.int .u64 0, .int .i64 0], []⟩ 8 (by kernel_rfl) (by kernel_rfl) (by kernel_rfl) (by kernel_rfl)) ?_
  intro W base args ds gs before hval0 hW hcnd _
  have hval : ∀ (j : Nat) t v, Try.f5.params[j]? = some t → args[j]? = some v → Value.okWide Try.prog W .any base t v := hval0
  have hW' := hW
  obtain ⟨p, q, hA0, hV, rfl, hfz, hnd⟩ := hW
  have hA : DataW.TrodAll enc Try.prog W 0 (fun _ => true) true Try.f5.params.toList args.toList ds p := hA0
  rw [Try.params5] at hA hval
  obtain ⟨v0, vs0, d0, ds0, p0, q0, hargs, rfl, rfl, h0, r0⟩ := trodAll_cons hA
  obtain ⟨v1, vs1, d1, ds1, p1, q1, rfl, rfl, rfl, h1, r1⟩ := trodAll_cons r0
  obtain ⟨rfl, rfl, rfl⟩ := trodAll_nil r1
  obtain rfl : args = #[v0, v1] := by cases args; simp_all
  obtain ⟨rfl, rfl⟩ := trodVars_none hV
  obtain ⟨seed, rfl, hseed⟩ := open_u64 (hval 0 _ v0 rfl rfl) h0
  obtain ⟨n, rfl, hn1, hn2⟩ := open_num (hval 1 _ v1 rfl rfl) h1
  clear hA0 hval0
  refine (walk W seed hseed n hn1 hn2).mono fun e W' ⟨he, hb⟩ => ?_
  subst he
  exact ⟨_, rfl, law_post rfl (by kernel_rfl) rfl hW' rfl hb⟩

theorem over : Rows.shuffleOnlyRow.holds Try.pinned (OpenSpec.ofChange Rows.shuffleOnlySpec) :=
  OpenClaim.holds_of_wide 5 Try.f5 rfl rfl rfl rfl rfl rfl rfl ⟨rfl, rfl, rfl, rfl, rfl⟩ rfl rfl rfl rfl rfl (by kernel_rfl) Try.func5 (by kernel_rfl)
    (of_decide_eq_true (by kernel_rfl)) (by unfold Func.isWrapper; first | (rw [if_pos (by decide +kernel)]; kernel_rfl) | (rw [if_neg (by decide +kernel)]; exact ⟨rfl, rfl⟩))
    (fun os started H enc _ => lifted os started H enc)

/-- The statement. -/
theorem proved : Rows.ShuffleOnlySaid :=
  over
#print axioms proved
end Go.Proofs.Ytigngppmiaejjaa.shuffleOnly
