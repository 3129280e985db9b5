/-
  Plain mathematics of package array: an array as it is settled, place by place, from behind; how much may be on a place.
-/
import Derived.Test.YtabmdilhfiembaaArrayKids
namespace Go.Proofs.Ytabmdilhfiembaa
set_option maxRecDepth 100000
set_option linter.unusedVariables false
set_option linter.unusedSimpArgs false
set_option linter.unusedVariables false
set_option linter.unusedSectionVars false

/-! ### Sums -/
theorem sum_nonneg {f : Nat → Int} : ∀ {l : List Nat}, (∀ k ∈ l, 0 ≤ f k) → 0 ≤ (l.map f).sum
  | [], _ => Int.le_refl 0
  | x :: l, h => by
    have h1 := h x (by simp)
    have h2 := sum_nonneg (l := l) fun k hk => h k (by simp [hk])
    rw [List.map_cons, List.sum_cons]; omega
theorem mem_le_sum {f : Nat → Int} : ∀ {l : List Nat} {i : Nat}, (∀ k ∈ l, 0 ≤ f k) → i ∈ l → f i ≤ (l.map f).sum
  | x :: l, i, h, hi => by
    have h1 := h x (by simp)
    have h2 := sum_nonneg (l := l) fun k hk => h k (by simp [hk])
    rw [List.map_cons, List.sum_cons]
    rcases List.mem_cons.1 hi with rfl | hi
    · omega
    · have := mem_le_sum (fun k hk => h k (by simp [hk])) hi
      omega
theorem sum_take_le {f : Nat → Int} {l : List Nat} (h : ∀ k ∈ l, 0 ≤ f k) (m : Nat) : 0 ≤ ((l.take m).map f).sum ∧ ((l.take m).map f).sum ≤ (l.map f).sum := by
  have h1 : 0 ≤ ((l.take m).map f).sum := sum_nonneg fun k hk => h k (List.mem_of_mem_take hk)
  have h2 : 0 ≤ ((l.drop m).map f).sum := sum_nonneg fun k hk => h k (List.mem_of_mem_drop hk)
  have h3 : (l.map f).sum = ((l.take m).map f).sum + ((l.drop m).map f).sum := by
    rw [← List.sum_append, ← List.map_append, List.take_append_drop]
  omega
theorem sum_le_mul {f : Nat → Int} {M : Int} : ∀ {l : List Nat}, (∀ k ∈ l, f k ≤ M) → (l.map f).sum ≤ l.length * M
  | [], _ => by simp
  | x :: l, h => by
    have h1 := h x (by simp)
    have h2 := sum_le_mul (l := l) fun k hk => h k (by simp [hk])
    rw [List.map_cons, List.sum_cons, List.length_cons]
    have : ((l.length + 1 : Nat) : Int) * M = l.length * M + M := by rw [Int.natCast_add, Int.add_mul]; simp
    omega

/-! ### How much may be on a place -/
section
variable {a : List It} (ho : ∀ i, i < a.length → 0 ≤ (itA a i).o)
include ho
theorem wC_nonneg : ∀ (n i : Nat), a.length ≤ n + i → i < a.length → 0 ≤ wC a i
  | n, i, hn, hi => by
    rw [wC_eq]
    have h1 := ho i hi
    have h2 : 0 ≤ ((kidsI a i).map (wC a)).sum := sum_nonneg fun k hk => by
      have := mem_kidsI.1 hk
      match n, hn with
      | 0, hn => omega
      | n + 1, hn => exact wC_nonneg n k (by omega) this.1
    omega
theorem kids_nonneg (j : Int) : ∀ k ∈ kidsI a j, 0 ≤ wC a k := fun k hk => wC_nonneg ho a.length k (by omega) (mem_kidsI.1 hk).1
theorem wC_le (hr : AllRight a) : ∀ (n i : Nat), i < n → i < a.length → wC a i ≤ ((List.range a.length).map fun i => (itA a i).o).sum
  | n + 1, i, hn, hi => by
    have hb := hr i hi
    have hm : wC a i ≤ ((kidsI a (itA a i).p).map (wC a)).sum := mem_le_sum (kids_nonneg ho _) (mem_kidsI.2 ⟨hi, hb.2, rfl⟩)
    by_cases e : (itA a i).p = -1
    · rw [e, roots_sum hr] at hm; exact hm
    · obtain ⟨j, hj⟩ : ∃ j : Nat, (itA a i).p = (j : Int) := ⟨(itA a i).p.toNat, by omega⟩
      rw [hj] at hm
      have h1 := wC_eq a j
      have h2 := ho j (by omega)
      have h3 := wC_le hr n j (by omega) (by omega)
      omega
end
theorem wC_bounds {a : List It} (hr : AllRight a) {M : Int} (ho : ∀ i, i < a.length → 0 ≤ (itA a i).o ∧ (itA a i).o ≤ M) {i : Nat} (hi : i < a.length) : 0 ≤ wC a i ∧ wC a i ≤ a.length * M := by
  have h1 := wC_nonneg (fun i hi => (ho i hi).1) a.length i (by omega) hi
  have h2 := wC_le (fun i hi => (ho i hi).1) hr (i + 1) i (by omega) hi
  have h3 := sum_le_mul (f := fun i => (itA a i).o) (M := M) (l := List.range a.length) fun k hk => (ho k (List.mem_range.1 hk)).2
  rw [List.length_range] at h3
  exact ⟨h1, Int.le_trans h2 h3⟩

/-! ### As it is settled -/
/-- Places below k are as they were, the others are settled. -/
def partA (a : List It) (k : Nat) : List It := (List.range a.length).map fun i => if i < k then itA a i else nodeC a i
theorem partA_length (a : List It) (k : Nat) : (partA a k).length = a.length := by simp [partA]
theorem partA_low {a : List It} {k i : Nat} (h : i < k) (hi : i < a.length) : itA (partA a k) i = itA a i := by
  rw [itA_get (by rw [partA_length]; exact hi)]; simp [partA, h]
theorem partA_high {a : List It} {k i : Nat} (h : k ≤ i) (hi : i < a.length) : itA (partA a k) i = nodeC a i := by
  rw [itA_get (by rw [partA_length]; exact hi)]; simp [partA, Nat.not_lt.2 h]
theorem partA_all (a : List It) : partA a a.length = a := it_ext (partA_length a _) fun k hk => by
  rw [partA_length] at hk; exact partA_low hk hk
theorem partA_zero (a : List It) : partA a 0 = anewC a := it_ext (by rw [partA_length, anewC_length]) fun k hk => by
  rw [partA_length] at hk; rw [partA_high (Nat.zero_le _) hk, anewC_at hk]
theorem partA_p (a : List It) (k i : Nat) : (itA (partA a k) i).p = (itA a i).p := by
  by_cases hi : i < a.length
  · by_cases h : i < k
    · rw [partA_low h hi]
    · rw [partA_high (Nat.not_lt.1 h) hi]; rfl
  · rw [itA_out (by rw [partA_length]; omega), itA_out (by omega)]
/-- .. while place i is at work. -/
def stepA (a : List It) (i : Nat) (t : It) : List It := (partA a (i + 1)).set i t
theorem stepA_length (a : List It) (i : Nat) (t : It) : (stepA a i t).length = a.length := by rw [stepA, List.length_set, partA_length]
theorem stepA_own {a : List It} {i : Nat} (hi : i < a.length) (t : It) : itA (stepA a i t) i = t := by
  rw [itA_get (by rw [stepA_length]; exact hi)]; simp [stepA]
theorem stepA_other {a : List It} {i k : Nat} (h : k ≠ i) (t : It) : itA (stepA a i t) k = itA (partA a (i + 1)) k := by
  unfold itA stepA; rw [List.getElem?_set_ne (fun e => h e.symm)]
theorem stepA_up {a : List It} {i k : Nat} (h : i < k) (hk : k < a.length) (t : It) : itA (stepA a i t) k = nodeC a k := by
  rw [stepA_other (by omega), partA_high (by omega) hk]
theorem stepA_first {a : List It} {i : Nat} (hi : i < a.length) : stepA a i (itA a i) = partA a (i + 1) := it_ext (by rw [stepA_length, partA_length]) fun k hk => by
  rw [stepA_length] at hk
  by_cases e : k = i
  · subst e; rw [stepA_own hk, partA_low (by omega) hk]
  · rw [stepA_other e]
theorem stepA_last {a : List It} {i : Nat} (hi : i < a.length) : stepA a i (nodeC a i) = partA a i := it_ext (by rw [stepA_length, partA_length]) fun k hk => by
  rw [stepA_length] at hk
  by_cases e : k = i
  · subst e; rw [stepA_own hk, partA_high (Nat.le_refl _) hk]
  · rw [stepA_other e]
    by_cases h : k < i
    · rw [partA_low (by omega) hk, partA_low h hk]
    · rw [partA_high (by omega) hk, partA_high (by omega) hk]
theorem stepA_twice (a : List It) (i : Nat) (t u : It) : (stepA a i t).set i u = stepA a i u := by unfold stepA; rw [List.set_set]
theorem kidsE_congr {a b : List It} (hl : a.length = b.length) (h : ∀ k, (itA a k).p = (itA b k).p) (j : Int) : kidsE a j = kidsE b j := by
  unfold kidsE kidsEto
  rw [hl]
  refine List.filter_congr fun k _ => ?_
  rw [h]
section
variable {a : List It} (hr : AllRight a) {i : Nat} (hi : i < a.length) {t : It} (ht : t.p = (itA a i).p)
include hr hi ht
theorem step_kids (j : Int) : kidsE (stepA a i t) j = kidsI a j := by
  rw [← kidsE_kids hr]
  refine kidsE_congr (stepA_length a i t) (fun k => ?_) j
  by_cases e : k = i
  · subst e; rw [stepA_own hi, ht]
  · rw [stepA_other e, partA_p]
omit hr ht in
theorem step_sumW {q : List Nat} (hq : ∀ k ∈ q, k ∈ kidsI a i) : sumW (stepA a i t) q = (q.map (wC a)).sum := by
  unfold sumW
  refine map_sum_congr fun k hk => ?_
  have := mem_kidsI.1 (hq k hk)
  rw [stepA_up (by omega) this.1]
  rfl
omit hr ht in
theorem step_best : bestE (stepA a i t) (kidsI a i) = bC a i := by
  unfold bestE bC
  refine bestX_congr (fun k hk => ?_) (fun k hk => ?_)
  · have := mem_kidsI.1 hk
    rw [stepA_up (by omega) this.1]; rfl
  · have := mem_kidsI.1 hk
    show (itA (stepA a i t) k).x = _
    rw [stepA_up (by omega) this.1]; rfl
omit hr ht in
theorem step_head {y : Nat} (h : bC a i = some y) : y < a.length ∧ i < y ∧ (itA (stepA a i t) y).h = (hC a i : Int) := by
  have hy := bC_mem h
  refine ⟨hy.1, by omega, ?_⟩
  rw [stepA_up (by omega) hy.1, hC_some h]; rfl
end
/-- A settled array's best one. -/
theorem anew_kidsE {a : List It} (hr : AllRight a) (j : Int) : kidsE (anewC a) j = kidsI a j := by
  rw [← kidsE_kids hr]; exact kidsE_congr (anewC_length a) (fun k => (anewC_alike a).p k) j
theorem anew_best {a : List It} (hr : AllRight a) (j : Int) : bestE (anewC a) (kidsE (anewC a) j) = bC a j := by
  rw [anew_kidsE hr]
  unfold bestE bC
  refine bestX_congr (fun k hk => ?_) (fun k hk => ?_)
  · rw [anewC_at (mem_kidsI.1 hk).1]; rfl
  · exact (anewC_alike a).x k

end Go.Proofs.Ytabmdilhfiembaa
