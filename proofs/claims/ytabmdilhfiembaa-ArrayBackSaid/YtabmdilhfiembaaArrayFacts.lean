/-
  Plain mathematics of package array: what one item more, and weight moved, change; the top.
-/
import Derived.Test.YtabmdilhfiembaaArrayMath
namespace Go.Proofs.Ytabmdilhfiembaa
set_option maxRecDepth 100000
set_option linter.unusedVariables false
set_option linter.unusedSimpArgs false
set_option linter.unusedVariables false
set_option linter.unusedSectionVars false

/-! ### One item more -/
theorem putI_length (a : List It) (id : Id2) (p : Int) : (putI a id p).length = a.length + 1 := by simp [putI]
theorem putI_at {a : List It} {id : Id2} {p : Int} {k : Nat} (h : k < a.length) : itA (putI a id p) k = itA a k := by
  unfold itA putI; rw [List.getElem?_append_left h]
theorem putI_new (a : List It) (id : Id2) (p : Int) : itA (putI a id p) a.length = ⟨id, p, 0, 0, 0, 0⟩ := by
  unfold itA putI; simp
theorem put_kidsTo {a : List It} {id : Id2} {p j : Int} : ∀ {n : Nat}, n ≤ a.length → kidsTo (putI a id p) j n = kidsTo a j n
  | 0, _ => rfl
  | n + 1, h => by
    have e : itA (putI a id p) n = itA a n := putI_at (by omega)
    by_cases q : j < (n : Int) ∧ (itA a n).p = j
    · rw [kidsTo_hit q, kidsTo_hit (by rw [e]; exact q), put_kidsTo (by omega)]
    · rw [kidsTo_miss q, kidsTo_miss (by rw [e]; exact q), put_kidsTo (by omega)]
theorem put_kids_hit {a : List It} {id : Id2} {j : Int} (h : j < a.length) : kidsI (putI a id j) j = kidsI a j ++ [a.length] := by
  unfold kidsI
  rw [putI_length, kidsTo_hit ⟨h, by rw [putI_new]⟩, put_kidsTo (Nat.le_refl _)]
theorem put_kids_miss {a : List It} {id : Id2} {p j : Int} (h : p ≠ j) : kidsI (putI a id p) j = kidsI a j := by
  unfold kidsI
  rw [putI_length, kidsTo_miss (by rw [putI_new]; exact fun q => h q.2), put_kidsTo (Nat.le_refl _)]
theorem put_w_new (a : List It) (id : Id2) (p : Int) : wC (putI a id p) a.length = 0 := by
  rw [wC_eq, putI_new, kidsI_nil (by rw [putI_length]; omega)]; rfl
theorem put_w {a : List It} {id : Id2} {p : Int} : ∀ (n i : Nat), a.length ≤ n + i → i < a.length → wC (putI a id p) i = wC a i
  | n, i, hn, hi => by
    rw [wC_eq, wC_eq a, putI_at hi]
    have hk : ((kidsI a i).map (wC (putI a id p))).sum = ((kidsI a i).map (wC a)).sum := map_sum_congr fun k hk => by
      have := mem_kidsI.1 hk
      match n, hn with
      | 0, hn => omega
      | n + 1, hn => exact put_w n k (by omega) this.1
    by_cases e : p = (i : Int)
    · subst e
      rw [put_kids_hit (by omega), List.map_append, List.sum_append, hk, List.map_singleton, put_w_new]
      simp
    · rw [put_kids_miss e, hk]
theorem put_bC_miss {a : List It} {id : Id2} {p j : Int} (h : p ≠ j) : bC (putI a id p) j = bC a j := by
  unfold bC
  rw [put_kids_miss h]
  refine bestX_congr (fun k hk => ?_) (fun k hk => ?_)
  · exact put_w a.length k (by omega) (mem_kidsI.1 hk).1
  · show (itA (putI a id p) k).x = _; rw [putI_at (mem_kidsI.1 hk).1]
theorem put_bC_leaf {a : List It} {id : Id2} {j : Int} (hj : j < a.length) (h : bC a j = none) : bC (putI a id j) j = some a.length := by
  unfold bC at h ⊢
  rw [put_kids_hit hj, bestX_none h]
  rfl
theorem put_bC_new (a : List It) (id : Id2) (p : Int) : bC (putI a id p) a.length = none := by
  unfold bC; rw [kidsI_nil (by rw [putI_length]; omega)]; rfl
/-- One item more on the head of i is the head of i. -/
theorem put_head {a : List It} {id : Id2} {t : Nat} (ht : t < a.length) (hb : bC a t = none) : ∀ (n i : Nat), a.length ≤ n + i → i < a.length → hC a i = t → hC (putI a id (t : Int)) i = a.length
  | n, i, hn, hi, e => by
    cases q : bC a i with
    | none =>
      rw [hC_none q] at e
      subst e
      rw [hC_some (put_bC_leaf (by omega) q), hC_none (put_bC_new a id _)]
    | some k =>
      have hk := bC_mem q
      rw [hC_some q] at e
      have ne : (t : Int) ≠ (i : Int) := fun r => by
        have : t = i := by omega
        subst this; rw [hb] at q; cases q
      rw [hC_some ((put_bC_miss ne).trans q)]
      match n, hn with
      | 0, hn => omega
      | n + 1, hn => exact put_head ht hb n k (by omega) hk.1 e

/-! ### Weight moved -/
theorem ownI_length (a : List It) (i : Nat) (v : Int) : (ownI a i v).length = a.length := by simp [ownI]
theorem ownI_at {a : List It} {i : Nat} {v : Int} (h : i < a.length) : itA (ownI a i v) i = { itA a i with o := v } := by
  unfold ownI
  rw [itA_get (by simpa using h)]; simp
theorem ownI_other {a : List It} {i k : Nat} {v : Int} (h : k ≠ i) : itA (ownI a i v) k = itA a k := by
  unfold ownI itA; rw [List.getElem?_set_ne (fun e => h e.symm)]
theorem ownI_x {a : List It} {i : Nat} {v : Int} (k : Nat) : (itA (ownI a i v) k).x = (itA a k).x := by
  by_cases e : k = i
  · subst e
    by_cases h : k < a.length
    · rw [ownI_at h]
    · rw [itA_out (by rw [ownI_length]; omega), itA_out (by omega)]
  · rw [ownI_other e]
theorem ownI_p {a : List It} {i : Nat} {v : Int} (k : Nat) : (itA (ownI a i v) k).p = (itA a k).p := by
  by_cases e : k = i
  · subst e
    by_cases h : k < a.length
    · rw [ownI_at h]
    · rw [itA_out (by rw [ownI_length]; omega), itA_out (by omega)]
  · rw [ownI_other e]
theorem own_kids (a : List It) (i : Nat) (v : Int) (j : Int) : kidsI (ownI a i v) j = kidsI a j := by
  unfold kidsI; rw [ownI_length]; exact kidsTo_congr (fun k => ownI_p k) j _
/-- Weight moved there and back. -/
theorem own_back {a : List It} {i : Nat} (h : i < a.length) (v : Int) : Alike (ownI (anewC (ownI a i v)) i (itA a i).o) a where
  len := by rw [ownI_length, anewC_length, ownI_length]
  x := fun k => by rw [ownI_x, (anewC_alike _).x, ownI_x]
  p := fun k => by rw [ownI_p, (anewC_alike _).p, ownI_p]
  o := fun k => by
    by_cases e : k = i
    · subst e
      rw [ownI_at (by rw [anewC_length, ownI_length]; exact h)]
    · rw [ownI_other e, (anewC_alike _).o, ownI_other e]

/-! ### The way up -/
def parI (a : List It) (i : Int) : Int := if i < 0 then -1 else (itA a i.toNat).p
def upI (a : List It) (t : Nat) : Nat → Int
  | 0 => (t : Int)
  | n + 1 => parI a (upI a t n)
def AllRight (a : List It) : Prop := ∀ i, i < a.length → -1 ≤ (itA a i).p ∧ (itA a i).p < (i : Int)
theorem parI_nat (a : List It) (i : Nat) : parI a (i : Int) = (itA a i).p := by unfold parI; rw [if_neg (by omega)]; rfl
theorem parI_neg {a : List It} {i : Int} (h : i < 0) : parI a i = -1 := by unfold parI; rw [if_pos h]
section
variable {a : List It} (hr : AllRight a) {t : Nat} (ht : t < a.length)
include hr ht
theorem upI_bounds : ∀ n, -1 ≤ upI a t n ∧ upI a t n < a.length
  | 0 => ⟨by unfold upI; omega, by unfold upI; omega⟩
  | n + 1 => by
    have ih := upI_bounds n
    show -1 ≤ parI a (upI a t n) ∧ parI a (upI a t n) < _
    by_cases h : upI a t n < 0
    · rw [parI_neg h]; omega
    · obtain ⟨m, hm⟩ : ∃ m : Nat, upI a t n = (m : Int) := ⟨(upI a t n).toNat, by omega⟩
      rw [hm, parI_nat]
      have := hr m (by omega)
      omega
theorem upI_down (n : Nat) (h : 0 ≤ upI a t n) : upI a t (n + 1) < upI a t n := by
  show parI a (upI a t n) < _
  have ih := upI_bounds hr ht n
  obtain ⟨m, hm⟩ : ∃ m : Nat, upI a t n = (m : Int) := ⟨(upI a t n).toNat, by omega⟩
  rw [hm, parI_nat]
  exact (hr m (by omega)).2
theorem upI_far : ∀ (d n : Nat), 0 ≤ upI a t (n + d) → upI a t (n + d) + d ≤ upI a t n ∧ 0 ≤ upI a t n
  | 0, n, h => ⟨by simp, h⟩
  | d + 1, n, h => by
    have hp : 0 ≤ upI a t (n + d) := by
      by_cases q : upI a t (n + d) < 0
      · have e : upI a t (n + (d + 1)) = -1 := parI_neg q
        omega
      · omega
    have h1 := upI_far d n hp
    have h2 := upI_down hr ht (n + d) hp
    have e : n + (d + 1) = n + d + 1 := rfl
    rw [e]
    omega
theorem upI_inj {m n : Nat} (h : upI a t m = upI a t n) (h0 : 0 ≤ upI a t m) : m = n := by
  rcases Nat.lt_trichotomy m n with q | q | q
  · obtain ⟨d, rfl⟩ : ∃ d, n = m + (d + 1) := ⟨n - m - 1, by omega⟩
    have := (upI_far hr ht (d + 1) m (by omega)).1
    omega
  · exact q
  · obtain ⟨d, rfl⟩ : ∃ d, m = n + (d + 1) := ⟨m - n - 1, by omega⟩
    have := (upI_far hr ht (d + 1) n (by omega)).1
    omega
end
/-- Place j is t, or stands below t. -/
def OnI (a : List It) (t j : Nat) : Prop := ∃ n, upI a t n = (j : Int)
section
variable {a : List It} (hr : AllRight a) {t : Nat} (ht : t < a.length)
include hr ht
theorem on_le {j : Nat} (h : OnI a t j) : j ≤ t := by
  obtain ⟨n, h⟩ := h
  have := (upI_far hr ht n 0 (by rw [Nat.zero_add]; omega)).1
  rw [Nat.zero_add] at this
  have e : upI a t 0 = (t : Int) := rfl
  omega
theorem on_lt {j : Nat} (h : OnI a t j) : j < a.length := Nat.lt_of_le_of_lt (on_le hr ht h) ht
theorem on_kid {j : Nat} : OnI a t j ↔ j = t ∨ ∃ k ∈ kidsI a j, OnI a t k := by
  constructor
  · rintro ⟨n, h⟩
    match n, h with
    | 0, h => exact Or.inl (by have e : upI a t 0 = (t : Int) := rfl; omega)
    | n + 1, h =>
      right
      have hb := upI_bounds hr ht n
      have h' : parI a (upI a t n) = (j : Int) := h
      have hp : ¬ upI a t n < 0 := fun q => by rw [parI_neg q] at h'; omega
      obtain ⟨m, hm⟩ : ∃ m : Nat, upI a t n = (m : Int) := ⟨(upI a t n).toNat, by omega⟩
      rw [hm, parI_nat] at h'
      have := hr m (by omega)
      exact ⟨m, mem_kidsI.2 ⟨by omega, by omega, h'⟩, n, hm⟩
  · rintro (rfl | ⟨k, hk, n, h⟩)
    · exact ⟨0, rfl⟩
    · refine ⟨n + 1, ?_⟩
      show parI a (upI a t n) = _
      rw [h, parI_nat]
      exact (mem_kidsI.1 hk).2.2
theorem on_one {j k : Int} {m n : Nat} (hj : j = k) (h1 : OnI a t m) (h2 : OnI a t n) (p1 : (itA a m).p = j) (p2 : (itA a n).p = k) (h0 : 0 ≤ j) : m = n := by
  obtain ⟨x, hx⟩ := h1
  obtain ⟨y, hy⟩ := h2
  have ex : upI a t (x + 1) = j := by show parI a (upI a t x) = _; rw [hx, parI_nat, p1]
  have ey : upI a t (y + 1) = k := by show parI a (upI a t y) = _; rw [hy, parI_nat, p2]
  have := upI_inj hr ht (m := x + 1) (n := y + 1) (by rw [ex, ey, hj]) (by omega)
  have e : x = y := by omega
  subst e
  omega
end
theorem sum_one {d : Int} {P : Nat → Prop} [DecidablePred P] : ∀ {l : List Nat}, l.Nodup → (∀ m ∈ l, ∀ n ∈ l, P m → P n → m = n) → (l.map fun k => if P k then d else 0).sum = if ∃ k ∈ l, P k then d else 0
  | [], _, _ => by simp
  | x :: l, hn, h1 => by
    rw [List.nodup_cons] at hn
    rw [List.map_cons, List.sum_cons, sum_one hn.2 (fun m hm n hn' => h1 m (by simp [hm]) n (by simp [hn']))]
    by_cases hx : P x
    · have h0 : ¬ ∃ k ∈ l, P k := fun ⟨k, hk, hp⟩ => hn.1 (by rw [h1 x (by simp) k (by simp [hk]) hx hp]; exact hk)
      rw [if_pos hx, if_neg h0, if_pos ⟨x, by simp, hx⟩]
      simp
    · rw [if_neg hx]
      by_cases q : ∃ k ∈ l, P k
      · rw [if_pos q, if_pos (by obtain ⟨k, hk, hp⟩ := q; exact ⟨k, by simp [hk], hp⟩)]; simp
      · rw [if_neg q, if_neg (by rintro ⟨k, hk, hp⟩; rcases List.mem_cons.1 hk with rfl | hk <;> first | exact hx hp | exact q ⟨k, hk, hp⟩)]; simp
theorem map_sum_add {f g : Nat → Int} : ∀ (l : List Nat), (l.map fun k => f k + g k).sum = (l.map f).sum + (l.map g).sum
  | [] => rfl
  | x :: l => by simp only [List.map_cons, List.sum_cons]; rw [map_sum_add l]; omega
open Classical in
/-- What is moved at t is on t, and on all that t stands on. -/
theorem own_w {a : List It} (hr : AllRight a) {t : Nat} (ht : t < a.length) (v : Int) : ∀ (n j : Nat), a.length ≤ n + j → wC (ownI a t v) j = wC a j + if OnI a t j then v - (itA a t).o else 0
  | n, j, hn => by
    rw [wC_eq, wC_eq a, own_kids]
    have hk : ((kidsI a j).map (wC (ownI a t v))).sum = ((kidsI a j).map fun k => wC a k + if OnI a t k then v - (itA a t).o else 0).sum := map_sum_congr fun k hk => by
      have := mem_kidsI.1 hk
      match n, hn with
      | 0, hn => omega
      | n + 1, hn => exact own_w hr ht v n k (by omega)
    rw [hk, map_sum_add, sum_one (l := kidsI a j) (kidsTo_nodup a j _) (fun m hm k hk h1 h2 => on_one hr ht rfl h1 h2 (mem_kidsI.1 hm).2.2 (mem_kidsI.1 hk).2.2 (by omega))]
    by_cases e : j = t
    · subst e
      have h0 : ¬ ∃ k ∈ kidsI a j, OnI a j k := fun ⟨k, hk, h⟩ => by have := on_le hr ht h; have := mem_kidsI.1 hk; omega
      rw [if_neg h0, if_pos ⟨0, rfl⟩, ownI_at ht]
      simp only
      omega
    · have hiff : (∃ k ∈ kidsI a j, OnI a t k) ↔ OnI a t j := by rw [on_kid hr ht]; simp [e]
      rw [ownI_other e]
      by_cases q : OnI a t j
      · rw [if_pos q, if_pos (hiff.2 q)]; omega
      · rw [if_neg q, if_neg (fun r => q (hiff.1 r))]; omega

end Go.Proofs.Ytabmdilhfiembaa
