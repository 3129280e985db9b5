/-
  Plain mathematics of package array: the top, with weight put on it; what stands on the beginning weighs, together, what all do.
-/
import Derived.Test.YtabmdilhfiembaaArrayFacts
namespace Go.Proofs.Ytabmdilhfiembaa
set_option maxRecDepth 100000
set_option linter.unusedVariables false
set_option linter.unusedSimpArgs false
set_option linter.unusedVariables false

/-! ### The way from a place to its head is the way up from that -/
theorem head_way {a : List It} {t : Nat} : ∀ (n i : Nat), a.length ≤ n + i → i < a.length → hC a i = t → ∃ m, upI a t m = (i : Int) ∧ ∀ k, k < m → ∃ x : Nat, upI a t k = (x : Int) ∧ ∃ y : Nat, upI a t (k + 1) = (y : Int) ∧ bC a (y : Int) = some x
  | n, i, hn, hi, e => by
    cases q : bC a i with
    | none => rw [hC_none q] at e; subst e; exact ⟨0, rfl, fun k hk => by omega⟩
    | some x =>
      have hx := bC_mem q
      rw [hC_some q] at e
      match n, hn with
      | 0, hn => omega
      | n + 1, hn =>
        obtain ⟨m, h1, h2⟩ := head_way n x (by omega) hx.1 e
        have h3 : upI a t (m + 1) = (i : Int) := by
          show parI a (upI a t m) = _
          rw [h1, parI_nat, hx.2.2]
        refine ⟨m + 1, h3, fun k hk => ?_⟩
        by_cases ek : k = m
        · subst ek; exact ⟨x, h1, i, h3, q⟩
        · exact h2 k (by omega)
/-- Weight put on the head of the best one on the beginning leaves the best ones as they were. -/
theorem own_best {a : List It} (hr : AllRight a) (hd : ∀ i j, i < a.length → j < a.length → (itA a i).x = (itA a j).x → i = j) {r t : Nat} (hroot : bC a (-1) = some r) (ht : hC a r = t) {v : Int} (hv : (itA a t).o ≤ v) (j : Int) (hj : -1 ≤ j) : bC (ownI a t v) j = bC a j := by
  have hrm := bC_mem hroot
  have htl : t < a.length := by rw [← ht]; exact (hC_lt a.length r (by omega) hrm.1).2.1
  obtain ⟨m, hm, hway⟩ := head_way a.length r (by omega) hrm.1 ht
  have hend : upI a t (m + 1) = -1 := by show parI a (upI a t m) = _; rw [hm, parI_nat, hrm.2.2]
  have hpast : ∀ d, upI a t (m + 1 + d) = -1 := fun d => by
    induction d with
    | zero => exact hend
    | succ d ih => show parI a (upI a t (m + 1 + d)) = _; rw [ih, parI_neg (by omega)]
  -- whoever of j's children is on the way is j's best
  have hon : ∀ k, k ∈ kidsI a j → OnI a t k → bC a j = some k := by
    rintro k hk ⟨n, hn⟩
    have hkm := mem_kidsI.1 hk
    have hnm : n ≤ m := by
      rcases Nat.lt_or_ge m n with q | q
      · obtain ⟨d, rfl⟩ : ∃ d, n = m + 1 + d := ⟨n - m - 1, by omega⟩
        rw [hpast] at hn; omega
      · exact q
    by_cases e : n = m
    · subst e
      rw [hm] at hn
      have : r = k := by omega
      subst this
      rw [← hkm.2.2, hrm.2.2]; exact hroot
    · obtain ⟨x, hx, y, hy, hb⟩ := hway n (by omega)
      rw [hn] at hx
      have e2 : upI a t (n + 1) = j := by show parI a (upI a t n) = _; rw [hn, parI_nat, hkm.2.2]
      rw [e2] at hy
      have : k = x := by omega
      subst this
      rw [hy]; exact hb
  cases q : bC a j with
  | none =>
    unfold bC at q ⊢
    rw [own_kids, bestX_none q]; rfl
  | some y =>
    have hy := bestX_some q
    unfold bC
    rw [own_kids]
    refine bestX_of (fun x hx z hz e => ?_) ⟨hy.1, fun z hz => ?_⟩
    · simp only [ownI_x] at e
      exact hd x z (mem_kidsI.1 hx).1 (mem_kidsI.1 hz).1 e
    · have h0 : moreI (wC a z) (wC a y) (itA a z).x (itA a y).x = false := hy.2 z hz
      simp only [ownI_x]
      rw [own_w hr htl v a.length z (by omega), own_w hr htl v a.length y (by omega)]
      rw [moreI_no] at h0 ⊢
      by_cases hz' : OnI a t z
      · have := hon z hz hz'
        rw [q] at this
        injection this with this
        subst this
        rw [if_pos hz']
        omega
      · rw [if_neg hz']
        by_cases hy' : OnI a t y
        · rw [if_pos hy']; omega
        · rw [if_neg hy']; omega
theorem own_head {a : List It} (hr : AllRight a) (hd : ∀ i j, i < a.length → j < a.length → (itA a i).x = (itA a j).x → i = j) {r t : Nat} (hroot : bC a (-1) = some r) (ht : hC a r = t) {v : Int} (hv : (itA a t).o ≤ v) : ∀ (n i : Nat), a.length ≤ n + i → hC (ownI a t v) i = hC a i
  | n, i, hn => by
    have e := own_best hr hd hroot ht hv (i : Int) (by omega)
    cases q : bC a i with
    | none => rw [hC_none q, hC_none (e.trans q)]
    | some k =>
      have hk := bC_mem q
      rw [hC_some q, hC_some (e.trans q)]
      match n, hn with
      | 0, hn => omega
      | n + 1, hn => exact own_head hr hd hroot ht hv n k (by omega)

/-! ### What all weigh -/
theorem sum_range_succ (f : Nat → Int) (n : Nat) : ((List.range (n + 1)).map f).sum = ((List.range n).map f).sum + f n := by rw [List.range_succ, List.map_append, List.sum_append]; simp
theorem sum_filter (p : Nat → Bool) (f : Nat → Int) : ∀ (l : List Nat), ((l.filter p).map f).sum = (l.map fun k => if p k then f k else 0).sum
  | [] => rfl
  | x :: l => by
    rw [List.map_cons, List.sum_cons, ← sum_filter p f l]
    cases h : p x with
    | true => rw [List.filter_cons_of_pos h, List.map_cons, List.sum_cons]; simp
    | false => rw [List.filter_cons_of_neg (by simp [h])]; simp
theorem sum_swap (f : Nat → Nat → Int) : ∀ (l m : List Nat), (l.map fun i => (m.map (f i)).sum).sum = (m.map fun k => (l.map fun i => f i k).sum).sum
  | [], m => by
    simp only [List.map_nil, List.sum_nil]
    induction m with
    | nil => rfl
    | cons x m ih => rw [List.map_cons, List.sum_cons, ← ih]; rfl
  | x :: l, m => by
    rw [List.map_cons, List.sum_cons, sum_swap f l m, ← map_sum_add]
    rfl
theorem sum_here {d : Int} {p : Int} : ∀ (n : Nat), ((List.range n).map fun i : Nat => if p = (i : Int) then d else 0).sum = if 0 ≤ p ∧ p < (n : Int) then d else 0
  | 0 => by
    have h : ¬ (0 ≤ p ∧ p < ((0 : Nat) : Int)) := by omega
    rw [if_neg h]; rfl
  | n + 1 => by
    rw [sum_range_succ, sum_here n]
    by_cases e : p = (n : Int)
    · rw [if_neg (by omega), if_pos e, if_pos (by omega)]; omega
    · rw [if_neg e]
      by_cases q : 0 ≤ p ∧ p < (n : Int)
      · rw [if_pos q, if_pos (by omega)]; omega
      · rw [if_neg q, if_neg (by omega)]; omega
/-- What stands on the beginning weighs, together, what all items' own weights do. -/
theorem roots_sum {a : List It} (hr : AllRight a) : ((kidsI a (-1)).map (wC a)).sum = ((List.range a.length).map fun i => (itA a i).o).sum := by
  have h1 : ((List.range a.length).map (wC a)).sum = ((List.range a.length).map fun i => (itA a i).o).sum + ((List.range a.length).map fun i : Nat => ((kidsI a (i : Int)).map (wC a)).sum).sum := by
    rw [← map_sum_add]
    exact map_sum_congr fun i _ => wC_eq a i
  have h2 : ((List.range a.length).map fun i : Nat => ((kidsI a (i : Int)).map (wC a)).sum).sum = ((List.range a.length).map fun k => if 0 ≤ (itA a k).p then wC a k else 0).sum := by
    have : ∀ i : Nat, ((kidsI a (i : Int)).map (wC a)).sum = ((List.range a.length).map fun k => if (itA a k).p = (i : Int) then wC a k else 0).sum := fun i => by
      unfold kidsI kidsTo
      rw [sum_filter]
      refine map_sum_congr fun k hk => ?_
      have := hr k (List.mem_range.1 hk)
      by_cases e : (itA a k).p = (i : Int)
      · rw [if_pos e, if_pos (by simp [e]; omega)]
      · rw [if_neg e, if_neg (by simp [e])]
    simp only [this]
    rw [sum_swap]
    refine map_sum_congr fun k hk => ?_
    have := hr k (List.mem_range.1 hk)
    have hk' := List.mem_range.1 hk
    rw [sum_here]
    by_cases e : 0 ≤ (itA a k).p
    · rw [if_pos e, if_pos (by omega)]
    · rw [if_neg e, if_neg (by omega)]
  have h3 : ((kidsI a (-1)).map (wC a)).sum = ((List.range a.length).map fun k => if 0 ≤ (itA a k).p then 0 else wC a k).sum := by
    unfold kidsI kidsTo
    rw [sum_filter]
    refine map_sum_congr fun k hk => ?_
    have := hr k (List.mem_range.1 hk)
    by_cases e : 0 ≤ (itA a k).p
    · rw [if_pos e, if_neg (by simp; omega)]
    · rw [if_neg e, if_pos (by simp; omega)]
  have h4 : ((List.range a.length).map (wC a)).sum = ((List.range a.length).map fun k => if 0 ≤ (itA a k).p then wC a k else 0).sum + ((List.range a.length).map fun k => if 0 ≤ (itA a k).p then 0 else wC a k).sum := by
    rw [← map_sum_add]
    refine map_sum_congr fun k _ => ?_
    by_cases e : 0 ≤ (itA a k).p
    · rw [if_pos e, if_pos e]; omega
    · rw [if_neg e, if_neg e]; omega
  omega
theorem roots_some {a : List It} (hr : AllRight a) (h : 0 < a.length) : ∃ r, bC a (-1) = some r := by
  cases q : bC a (-1) with
  | some r => exact ⟨r, rfl⟩
  | none =>
    have h0 := hr 0 h
    have : (0 : Nat) ∈ kidsI a (-1) := mem_kidsI.2 ⟨h, by omega, by omega⟩
    rw [bestX_none q] at this
    cases this

end Go.Proofs.Ytabmdilhfiembaa
