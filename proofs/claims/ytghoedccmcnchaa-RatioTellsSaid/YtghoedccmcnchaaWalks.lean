/-
  The contracts of package ratio's calls and of the given package's calls that the laws of layer 1 go through.
-/
import Derived.Test.YtghoedccmcnchaaLay
import Derived.WalkKit
import Derived.ProofKit
import Derived.OpenShut
import Derived.Lib.Hide
namespace Go.Proofs.Ytghoedccmcnchaa
open Go.ChangeShapes Go.WideShapes Go.ChangeAt Go.RowKit

/-! ### Worlds -/
theorem Grown_trans {a b c : World} (h : Grown a b) (k : Grown b c) : Grown a c :=
  ⟨World.keptBut_trans h.1 k.1, fun x => (k.2.1 x).trans (h.2.1 x), Nat.le_trans h.2.2 k.2.2⟩

theorem Grown_block {W w' : World} (h : Grown W w') {i : Nat} (hi : i < W.heap.size) : w'.heap[i]? = W.heap[i]? := by
  obtain ⟨⟨_, _, h3⟩, hf, hs⟩ := h
  have h4 := h3 i hi
  split at h4
  · rename_i c t fr c' t' fr' e1 e2
    obtain ⟨rfl, rfl, hz, hj⟩ := h4
    rw [e1, e2]
    have : c' = c := Array.ext_getElem? fun j => hj j (by simp)
    rw [this]
  · rename_i es cl es' cl' e1 e2
    rcases h4 with h4 | ⟨rfl, rfl⟩
    · exact h4.elim
    · rw [e1, e2]
  · exact h4

theorem Grown_cell {W w' : World} (h : Grown W w') {p : Addr} (hp : p.block < W.heap.size) : w'.cell? p = W.cell? p :=
  World.cell?_of_block (w := W) (Grown_block h hp)

/-! ### Numbers -/
def mayB (n : Int) : Bool := decide (0 ≤ n ∧ n ≤ 4611686018427387904)
theorem mayB_yes {n : Int} (h : mayB n = true) : 0 ≤ n ∧ n ≤ 4611686018427387904 := of_decide_eq_true h
theorem mayB_no {n : Int} (h : mayB n = false) : n < 0 ∨ 4611686018427387904 < n := by
  have := of_decide_eq_false h; omega
theorem mayB_mk {n : Int} (h : 0 ≤ n ∧ n ≤ 4611686018427387904) : mayB n = true := decide_eq_true h
theorem mayB_not {n : Int} (h : n < 0 ∨ 4611686018427387904 < n) : mayB n = false := decide_eq_false (by omega)

/-! ### May -/
set_option maxHeartbeats 400000 in
theorem may_any (n : Int) (w : World) : Calls Try.prog 17 #[.int .i64 n] w fun e w' => e = .returned (.bool (mayB n)) ∧ w = w' := by
  by_cases h0 : 0 ≤ n
  · by_cases h1 : n ≤ 4611686018427387904
    · have H := Lib.hid (mayB_mk ⟨h0, h1⟩)
      go_enter Try.func17, Try.ntmps17
      go_wp2
      go_ret
      exact ⟨by rw [H.out]; rfl, rfl⟩
    · have H := Lib.hid (mayB_not (n := n) (by omega))
      go_enter Try.func17, Try.ntmps17
      go_wp2
      go_ret
      exact ⟨by rw [H.out]; rfl, rfl⟩
  · have H := Lib.hid (mayB_not (n := n) (by omega))
    go_enter Try.func17, Try.ntmps17
    go_wp2
    go_ret
    exact ⟨by rw [H.out]; rfl, rfl⟩

/-! ### Mul64 -/
def hiI (p : Int) : Int := p / 18446744073709551616
def loI (p : Int) : Int := p % 18446744073709551616

theorem mul64_int (x y : Int) (hx0 : 0 ≤ x) (hx : x < 18446744073709551616) (hy0 : 0 ≤ y) (hy : y < 18446744073709551616) (w : World) :
    Calls Try.prog 22 #[.int .u64 x, .int .u64 y] w fun e w' => e = .returned (.tuple #[.int .u64 (hiI (x * y)), .int .u64 (loI (x * y))]) ∧ w = w' := by
  obtain ⟨a, rfl⟩ := Int.eq_ofNat_of_zero_le hx0
  obtain ⟨b, rfl⟩ := Int.eq_ofNat_of_zero_le hy0
  have h := mul64_nat a b (by omega) (by omega) w
  have e1 : hiI ((a : Int) * b) = ((a * b / 18446744073709551616 : Nat) : Int) := by unfold hiI; rw [← Int.natCast_mul]; omega
  have e2 : loI ((a : Int) * b) = ((a * b % 18446744073709551616 : Nat) : Int) := by unfold loI; rw [← Int.natCast_mul]; omega
  rw [e1, e2]; exact h.mono fun _ _ ⟨he, hw⟩ => ⟨he, hw.symm⟩

/-! ### times -/
set_option maxHeartbeats 400000 in
theorem times_any (a b : Int) (ha : 0 ≤ a) (ha' : a ≤ 4611686018427387904) (hb : 0 ≤ b) (hb' : b ≤ 4611686018427387904) (w : World) :
    Calls Try.prog 19 #[.int .i64 a, .int .i64 b] w fun e w' => e = .returned (.agg #[.int .u64 (hiI (a * b)), .int .u64 (loI (a * b))]) ∧ Grown w w' := by
  go_enter Try.func19, Try.ntmps19
  go_wp2_with fail
  refine (mul64_int _ _ (by omega) (by omega) (by omega) (by omega) _).mono ?_
  rintro e w' ⟨rfl, rfl⟩
  go_wp2_with fail
  exact bodyPost_ret (v := .agg #[.int .u64 (hiI (a * b)), .int .u64 (loI (a * b))]) (by simp [results, Try.results19, go_sem]) rfl ⟨rfl, (Grown.refl _).alloc _ _⟩

/-! ### above -/
theorem Try.cells31 : Try.prog.cellsOf 31 = 1 := by kernel_rfl
theorem eq33 (h1 l1 h2 l2 : Int) (w : World) :
    Sem.run Try.prog (Op.equalIn 10000 33 (.agg #[.int .u64 h1, .int .u64 l1]) (.agg #[.int .u64 h2, .int .u64 l2])) w = .ok ((h1 == h2) && (l1 == l2)) w := by
  obtain ⟨i, hi⟩ := info_of_underlying Try.underlying31
  rw [show (10000 : Nat) = 9998 + 1 + 1 from rfl, run_equalIn_array w (9998 + 1) _ _ Try.underlying33 hi, Try.cells31]
  have e2 : List.range 2 = [0, 1] := rfl
  rw [e2]
  simp only [Op.eqItems, Sem.run_bind]
  go_simp
  by_cases h : h1 = h2 <;> by_cases k : l1 = l2 <;> simp [h, k]

def aboveB (h1 l1 h2 l2 : Int) : Bool := decide (h2 < h1 ∨ (h1 = h2 ∧ l2 < l1))
theorem aboveB_yes {h1 l1 h2 l2 : Int} (h : h2 < h1 ∨ (h1 = h2 ∧ l2 < l1)) : aboveB h1 l1 h2 l2 = true := decide_eq_true h
theorem aboveB_no {h1 l1 h2 l2 : Int} (h : ¬ (h2 < h1 ∨ (h1 = h2 ∧ l2 < l1))) : aboveB h1 l1 h2 l2 = false := decide_eq_false h

attribute [local go_sem] eq33 in
set_option maxHeartbeats 400000 in
theorem above_any (h1 l1 h2 l2 : Int) (w : World) :
    Calls Try.prog 20 #[.agg #[.int .u64 h1, .int .u64 l1], .agg #[.int .u64 h2, .int .u64 l2]] w fun e w' => e = .returned (.bool (aboveB h1 l1 h2 l2)) ∧ Grown w w' := by
  by_cases hh : h1 = h2
  · subst hh
    by_cases hl : l2 < l1
    · have H := Lib.hid (aboveB_yes (h1 := h1) (h2 := h1) (Or.inr ⟨rfl, hl⟩))
      have b1 : (l1 == l2) = false := beq_eq_false_iff_ne.2 (by omega)
      go_enter Try.func20, Try.ntmps20
      go_wp2
      go_ret
      exact ⟨by rw [H.out]; rfl, by repeat (first | exact Grown.refl _ | apply Grown.drew | apply Grown.alloc)⟩
    · have H := Lib.hid (aboveB_no (h1 := h1) (l1 := l1) (h2 := h1) (l2 := l2) (by omega))
      by_cases he : l1 = l2
      · subst he
        go_enter Try.func20, Try.ntmps20
        go_wp2
        go_ret
        exact ⟨by rw [H.out]; rfl, by repeat (first | exact Grown.refl _ | apply Grown.drew | apply Grown.alloc)⟩
      · have b1 : (l1 == l2) = false := beq_eq_false_iff_ne.2 he
        go_enter Try.func20, Try.ntmps20
        go_wp2
        go_ret
        exact ⟨by rw [H.out]; rfl, by repeat (first | exact Grown.refl _ | apply Grown.drew | apply Grown.alloc)⟩
  · have b1 : (h1 == h2) = false := beq_eq_false_iff_ne.2 hh
    have b2 : (h1 != h2) = true := by rw [bne_iff_ne]; exact hh
    by_cases hl : h2 < h1
    · have H := Lib.hid (aboveB_yes (h1 := h1) (l1 := l1) (h2 := h2) (l2 := l2) (Or.inl hl))
      go_enter Try.func20, Try.ntmps20
      go_wp2
      go_ret
      exact ⟨by rw [H.out]; rfl, by repeat (first | exact Grown.refl _ | apply Grown.drew | apply Grown.alloc)⟩
    · have H := Lib.hid (aboveB_no (h1 := h1) (l1 := l1) (h2 := h2) (l2 := l2) (by omega))
      go_enter Try.func20, Try.ntmps20
      go_wp2
      go_ret
      exact ⟨by rw [H.out]; rfl, by repeat (first | exact Grown.refl _ | apply Grown.drew | apply Grown.alloc)⟩

/-! ### Add -/
def addB (a b : Int) : Bool := mayB a && mayB b && decide (a + b ≤ 4611686018427387904)
def addN (a b : Int) : Int := if addB a b then a + b else 0
theorem addB_yes {a b : Int} (h : addB a b = true) : 0 ≤ a ∧ 0 ≤ b ∧ a + b ≤ 4611686018427387904 ∧ addN a b = a + b := by
  have h' := h
  simp only [addB, Bool.and_eq_true, decide_eq_true_eq] at h'
  obtain ⟨⟨h1, h2⟩, h3⟩ := h'
  have := mayB_yes h1; have := mayB_yes h2
  exact ⟨by omega, by omega, h3, by rw [addN, if_pos h]⟩
theorem addB_mk {a b : Int} (h1 : 0 ≤ a) (h2 : 0 ≤ b) (h3 : a + b ≤ 4611686018427387904) : addB a b = true := by
  simp only [addB, Bool.and_eq_true, decide_eq_true_eq]
  exact ⟨⟨mayB_mk (by omega), mayB_mk (by omega)⟩, h3⟩
theorem addN_yes {a b : Int} (h : addB a b = true) : addN a b = a + b := by rw [addN, if_pos h]
theorem addN_no {a b : Int} (h : addB a b = false) : addN a b = 0 := by rw [addN, if_neg (by simp [h])]

set_option maxHeartbeats 400000 in
theorem add_any (a b : Int) (w : World) :
    Calls Try.prog 11 #[.int .i64 a, .int .i64 b] w fun e w' => e = .returned (.tuple #[.int .i64 (addN a b), .bool (addB a b)]) ∧ w = w' := by
  cases hA : mayB a
  · have hs : addB a b = false := by simp [addB, hA]
    rw [hs, addN_no hs]
    clear hs
    go_enter Try.func11, Try.ntmps11
    go_wp2_with (go_at_call 17; refine (may_any _ _).mono ?_; rintro e w' ⟨rfl, rfl⟩)
    go_ret2
    exact ⟨rfl, rfl⟩
  · cases hB : mayB b
    · have hs : addB a b = false := by simp [addB, hA, hB]
      rw [hs, addN_no hs]
      clear hs
      go_enter Try.func11, Try.ntmps11
      go_wp2_with (go_at_call 17; refine (may_any _ _).mono ?_; rintro e w' ⟨rfl, rfl⟩)
      go_ret2
      exact ⟨rfl, rfl⟩
    · obtain ⟨a0, a1⟩ := mayB_yes hA
      obtain ⟨b0, b1⟩ := mayB_yes hB
      by_cases hc : a + b ≤ 4611686018427387904
      · have hs : addB a b = true := addB_mk a0 b0 hc
        rw [hs, addN_yes hs]
        clear hs
        have d1 : b ≤ 4611686018427387904 - a := by omega
        go_enter Try.func11, Try.ntmps11
        go_wp2_with (go_at_call 17; refine (may_any _ _).mono ?_; rintro e w' ⟨rfl, rfl⟩)
        go_ret2
        exact ⟨rfl, rfl⟩
      · have hs : addB a b = false := by simp [addB, hA, hB, hc]
        rw [hs, addN_no hs]
        clear hs
        have d1 : 4611686018427387904 - a < b := by omega
        go_enter Try.func11, Try.ntmps11
        go_wp2_with (go_at_call 17; refine (may_any _ _).mono ?_; rintro e w' ⟨rfl, rfl⟩)
        go_ret2
        exact ⟨rfl, rfl⟩

end Go.Proofs.Ytghoedccmcnchaa
