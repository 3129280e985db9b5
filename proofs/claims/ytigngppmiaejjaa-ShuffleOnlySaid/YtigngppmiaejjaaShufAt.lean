/-
  The contracts of package shuffle's calls At, Back and next.
-/
import Derived.Test.YtigngppmiaejjaaShufFresh
namespace Go.Proofs.Ytigngppmiaejjaa
open Go.ChangeShapes Go.WideShapes Go.ChangeAt Go.RowKit

set_option maxRecDepth 100000 in
set_option maxHeartbeats 1600000 in
theorem at_yes (seed n i : Nat) (w : World) (hs : seed < 18446744073709551616) (hn0 : 1 ≤ n) (hn : n ≤ 1000) (hi : i < n) :
    Calls Try.prog 9 #[.int .u64 seed, .int .i64 n, .int .i64 i] w fun e w' => e = .returned (.int .i64 (atN seed n i)) ∧ Kept w w' := by
  have HD := Lib.hid (show mayN n i = true from decide_eq_true (by omega))
  go_enter Try.func9, Try.ntmps9
  go_wp2_with fail
  refine (isPlace_any _ _ _).mono ?_
  rintro e w' ⟨rfl, rfl⟩
  rw [HD.out]
  go_wp2_with (first
    | refine wpList_build_eq rfl _ _ rfl (freshC seed n) (freshC_built seed n) ?_
    | refine wpList_store_new rfl _ _ _ rfl _ (freshC seed n) rfl rfl freshC_info rfl (freshC_one seed n) ?_)
  have HR := Lib.hid (fresh_rnds seed n w 50)
  have HK : Kept w (w.alloc (.cells (freshC seed n) 50)) := (Kept.refl w).alloc _
  generalize w.alloc (.cells (freshC seed n) 50) = W1 at *
  refine (forth_any w.heap.size seed n 0 i W1 hs hn0 hn hi HR.out).mono ?_
  rintro e W2 ⟨rfl, hR, hB⟩
  have HB := Lib.hid (hB.kept HK (Nat.le_refl _))
  clear hR hB HR HK
  go_wp2_with fail
  go_ret
  exact ⟨rfl, HB.out⟩

set_option maxRecDepth 100000 in
set_option maxHeartbeats 1600000 in
theorem back_yes (seed n i : Nat) (w : World) (hs : seed < 18446744073709551616) (hn0 : 1 ≤ n) (hn : n ≤ 1000) (hi : i < n) :
    Calls Try.prog 11 #[.int .u64 seed, .int .i64 n, .int .i64 i] w fun e w' => e = .returned (.int .i64 (backAtN seed n i)) ∧ Kept w w' := by
  have HD := Lib.hid (show mayN n i = true from decide_eq_true (by omega))
  go_enter Try.func11, Try.ntmps11
  go_wp2_with fail
  refine (isPlace_any _ _ _).mono ?_
  rintro e w' ⟨rfl, rfl⟩
  rw [HD.out]
  go_wp2_with (first
    | refine wpList_build_eq rfl _ _ rfl (freshC seed n) (freshC_built seed n) ?_
    | refine wpList_store_new rfl _ _ _ rfl _ (freshC seed n) rfl rfl freshC_info rfl (freshC_one seed n) ?_)
  have HR := Lib.hid (fresh_rnds seed n w 50)
  have HK : Kept w (w.alloc (.cells (freshC seed n) 50)) := (Kept.refl w).alloc _
  generalize w.alloc (.cells (freshC seed n) 50) = W1 at *
  refine (back_any w.heap.size seed n 0 i W1 hs hn0 hn hi HR.out).mono ?_
  rintro e W2 ⟨rfl, hR, hB⟩
  have HB := Lib.hid (hB.kept HK (Nat.le_refl _))
  clear hR hB HR HK
  go_wp2_with fail
  go_ret
  exact ⟨rfl, HB.out⟩

set_option maxHeartbeats 800000 in
theorem at_no (seed : Nat) (n i : Int) (w : World) (h : mayN n i = false) :
    Calls Try.prog 9 #[.int .u64 seed, .int .i64 n, .int .i64 i] w fun e w' => e = .returned (.int .i64 (-1)) ∧ Kept w w' := by
  have HD := Lib.hid h
  clear h
  go_enter Try.func9, Try.ntmps9
  go_wp2_with fail
  refine (isPlace_any _ _ _).mono ?_
  rintro e w' ⟨rfl, rfl⟩
  rw [HD.out]
  go_wp2_with fail
  go_ret
  exact ⟨rfl, Kept.refl _⟩

set_option maxHeartbeats 800000 in
theorem back_no (seed : Nat) (n i : Int) (w : World) (h : mayN n i = false) :
    Calls Try.prog 11 #[.int .u64 seed, .int .i64 n, .int .i64 i] w fun e w' => e = .returned (.int .i64 (-1)) ∧ Kept w w' := by
  have HD := Lib.hid h
  clear h
  go_enter Try.func11, Try.ntmps11
  go_wp2_with fail
  refine (isPlace_any _ _ _).mono ?_
  rintro e w' ⟨rfl, rfl⟩
  rw [HD.out]
  go_wp2_with fail
  go_ret
  exact ⟨rfl, Kept.refl _⟩

/-! ### Whatever is asked -/
def atI (seed : Nat) (n i : Int) : Int := if mayN n i = true then ((atN seed n.toNat i.toNat : Nat) : Int) else -1
def backI (seed : Nat) (n i : Int) : Int := if mayN n i = true then ((backAtN seed n.toNat i.toNat : Nat) : Int) else -1
theorem mayN_yes {n i : Int} (h : mayN n i = true) : ∃ m j : Nat, n = m ∧ i = j ∧ 1 ≤ m ∧ m ≤ 1000 ∧ j < m := by
  have h' := of_decide_eq_true h
  exact ⟨n.toNat, i.toNat, by omega, by omega, by omega, by omega, by omega⟩
theorem mayN_nat {n i : Nat} (hn0 : 1 ≤ n) (hn : n ≤ 1000) (hi : i < n) : mayN n i = true := decide_eq_true (by omega)
theorem mayN_no {n i : Int} (h : ¬ ((1 ≤ n ∧ n ≤ 1000) ∧ 0 ≤ i ∧ i < n)) : mayN n i = false := decide_eq_false h
theorem atI_yes {seed n i : Nat} (hn0 : 1 ≤ n) (hn : n ≤ 1000) (hi : i < n) : atI seed n i = ((atN seed n i : Nat) : Int) := by unfold atI; rw [if_pos (mayN_nat hn0 hn hi)]; rfl
theorem backI_yes {seed n i : Nat} (hn0 : 1 ≤ n) (hn : n ≤ 1000) (hi : i < n) : backI seed n i = ((backAtN seed n i : Nat) : Int) := by unfold backI; rw [if_pos (mayN_nat hn0 hn hi)]; rfl
theorem atI_no {seed : Nat} {n i : Int} (h : mayN n i = false) : atI seed n i = -1 := by unfold atI; rw [if_neg (by rw [h]; decide)]
theorem backI_no {seed : Nat} {n i : Int} (h : mayN n i = false) : backI seed n i = -1 := by unfold backI; rw [if_neg (by rw [h]; decide)]
theorem at_any (seed : Nat) (n i : Int) (w : World) (hs : seed < 18446744073709551616) :
    Calls Try.prog 9 #[.int .u64 seed, .int .i64 n, .int .i64 i] w fun e w' => e = .returned (.int .i64 (atI seed n i)) ∧ Kept w w' := by
  cases h : mayN n i with
  | true =>
    obtain ⟨m, j, rfl, rfl, h1, h2, h3⟩ := mayN_yes h
    rw [atI_yes h1 h2 h3]
    exact at_yes seed m j w hs h1 h2 h3
  | false => rw [atI_no h]; exact at_no seed n i w h
theorem back_all (seed : Nat) (n i : Int) (w : World) (hs : seed < 18446744073709551616) :
    Calls Try.prog 11 #[.int .u64 seed, .int .i64 n, .int .i64 i] w fun e w' => e = .returned (.int .i64 (backI seed n i)) ∧ Kept w w' := by
  cases h : mayN n i with
  | true =>
    obtain ⟨m, j, rfl, rfl, h1, h2, h3⟩ := mayN_yes h
    rw [backI_yes h1 h2 h3]
    exact back_yes seed m j w hs h1 h2 h3
  | false => rw [backI_no h]; exact back_no seed n i w h

/-! ### next -/
theorem Rnds.asks {b seed n k : Nat} {w : World} (h : Rnds b seed n k w) : Rnds b seed n (k + 1) (w.setCell ⟨b, 52, none⟩ (.int .i64 ((k + 1 : Nat) : Int))) := by
  have c : ∀ o, ¬ o = 52 → (w.setCell ⟨b, 52, none⟩ (.int .i64 ((k + 1 : Nat) : Int))).cell? ⟨b, o, none⟩ = w.cell? ⟨b, o, none⟩ := fun o ho => World.cell?_setCell_other _ _ _ _ (by intro e; injection e; omega)
  refine ⟨by simpa using h.lt, by rw [c 0 (by omega)]; exact h.cseed, by rw [c 1 (by omega)]; exact h.cn, fun r hr => ?_, World.cell?_setCell_same _ _ _ h.asked, fun o => by simpa using h.froze o⟩
  have := h.round r hr
  unfold RoundAt at this ⊢
  rw [c _ (by omega), c _ (by omega), c _ (by omega), c _ (by omega)]
  exact this
set_option maxHeartbeats 800000 in
theorem next_any (b seed n k : Nat) (w : World) (hk : k ≤ 1000000) (H : Rnds b seed n k w) :
    Calls Try.prog 21 #[.pointer (some ⟨b, 0, none⟩)] w fun e w' => e = .returned (.int .i64 k) ∧ Rnds b seed n (k + 1) w' ∧ But b w w' := by
  have HS := Lib.hid H.asks
  have hc := H.asked
  have hz := H.froze 52
  have hadd := run_call_add (P := Try.prog) Try.func28 (by kernel_rfl) (by kernel_rfl) (by kernel_rfl) .i64 (by kernel_rfl) (y := 1) (s := ((k + 1 : Nat) : Int)) hc hz (by simp [go_sem]; rw [IntKind.wrap_i64]; omega)
  have HB := Lib.hid ((But.refl b w).setCell 52 (.int .i64 ((k + 1 : Nat) : Int)))
  have H1 := Lib.hid (show ((k + 1 : Nat) : Int) - 1 = (k : Int) by omega)
  clear H hc hz
  go_enter Try.func21, Try.ntmps21
  go_wp2
  go_ret
  exact ⟨by rw [← H1.out]; rfl, HS.out, HB.out⟩

end Go.Proofs.Ytigngppmiaejjaa
