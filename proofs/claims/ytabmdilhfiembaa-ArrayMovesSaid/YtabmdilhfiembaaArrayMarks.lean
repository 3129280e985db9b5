/-
  Plain mathematics of package array: weight that is moved is that place's, and that of what it stands on; marks of these places, set from behind on.
-/
import Derived.Deep.OwnRows
import Derived.Test.YtabmdilhfiembaaArrayGrow
namespace Go.Proofs.Ytabmdilhfiembaa
set_option maxRecDepth 100000
set_option linter.unusedVariables false
set_option linter.unusedSimpArgs false
set_option linter.unusedVariables false

open Classical in
noncomputable def onB (a : List It) (t j : Nat) : Bool := decide (OnI a t j)
open Classical in
/-- What is marked at place j when the places from n on are gone through. -/
noncomputable def markB (a : List It) (t n j : Nat) : Bool := if n ≤ j then onB a t j else decide (∃ k, n ≤ k ∧ k ∈ kidsI a (j : Int) ∧ OnI a t k)
theorem onB_iff {a : List It} {t j : Nat} : onB a t j = true ↔ OnI a t j := @decide_eq_true_iff _ (Classical.propDecidable _)
theorem mark_low {a : List It} {t n j : Nat} (h : j < n) : markB a t n j = true ↔ ∃ k, n ≤ k ∧ k ∈ kidsI a (j : Int) ∧ OnI a t k := by
  unfold markB; rw [if_neg (by omega)]; exact @decide_eq_true_iff _ (Classical.propDecidable _)
theorem mark_high {a : List It} {t n j : Nat} (h : n ≤ j) : markB a t n j = onB a t j := by unfold markB; rw [if_pos h]
theorem mark_start {a : List It} {t j : Nat} (h : j < a.length) : markB a t a.length j = false := by
  rw [Bool.eq_false_iff]
  intro e
  obtain ⟨k, h1, h2, _⟩ := (mark_low h).1 e
  have := mem_kidsI.1 h2
  omega
section
variable {a : List It} (h : MayI a) {t : Nat}
include h
theorem mark_here (ht : t < a.length) {n : Nat} (hn : n < a.length) : (markB a t (n + 1) n || sameI (itA a n).x (itA a t).x) = onB a t n := by
  have e : sameI (itA a n).x (itA a t).x = true ↔ n = t := by
    constructor
    · intro e
      unfold sameI at e
      rw [decide_eq_true_iff] at e
      exact place_one h hn ht e
    · rintro rfl; exact sameI_yes rfl
  rw [Bool.eq_iff_iff, Bool.or_eq_true, e, mark_low (by omega), onB_iff, on_kid h.stand.right ht]
  constructor
  · rintro (⟨k, _, h2, h3⟩ | rfl)
    · exact Or.inr ⟨k, h2, h3⟩
    · exact Or.inl rfl
  · rintro (rfl | ⟨k, h2, h3⟩)
    · exact Or.inr rfl
    · have := mem_kidsI.1 h2
      exact Or.inl ⟨k, by omega, h2, h3⟩
theorem mark_step {n j : Nat} (hn : n < a.length) : markB a t n j = if (itA a n).p = (j : Int) ∧ onB a t n = true then true else if j = n then onB a t n else markB a t (n + 1) j := by
  have hr := h.stand.right n hn
  by_cases hj : j = n
  · subst hj
    rw [mark_high (Nat.le_refl _), if_neg (by omega), if_pos rfl]
  · rw [if_neg hj]
    by_cases hlt : n < j
    · rw [mark_high (by omega), mark_high (by omega), if_neg (by omega)]
    · by_cases q : (itA a n).p = (j : Int) ∧ onB a t n = true
      · rw [if_pos q]
        exact (mark_low (by omega)).2 ⟨n, Nat.le_refl _, mem_kidsI.2 ⟨hn, by omega, q.1⟩, onB_iff.1 q.2⟩
      · rw [if_neg q, Bool.eq_iff_iff, mark_low (by omega), mark_low (by omega)]
        constructor
        · rintro ⟨k, h1, h2, h3⟩
          refine ⟨k, ?_, h2, h3⟩
          have := mem_kidsI.1 h2
          rcases Nat.lt_or_ge n k with g | g
          · omega
          · have : k = n := by omega
            subst this
            exact absurd ⟨by omega, onB_iff.2 h3⟩ q
        · rintro ⟨k, h1, h2, h3⟩
          exact ⟨k, by omega, h2, h3⟩
end
/-- Places marked, as values: place n is gone through. -/
theorem mark_up {a : List It} (h : MayI a) {t n pn : Nat} (hn : n < a.length) (hO : onB a t n = true) (hp : (itA a n).p = (pn : Int)) (j : Nat) :
    (if j = pn then Value.bool true else if j = n then Value.bool true else Value.bool (markB a t (n + 1) j)) = Value.bool (markB a t n j) := by
  rw [mark_step h hn, hp, hO]
  by_cases e : j = pn
  · subst e; rw [if_pos rfl, if_pos ⟨rfl, rfl⟩]
  · have hX : ¬ ((pn : Int) = (j : Int) ∧ true = true) := fun q => e (by have := q.1; omega)
    by_cases e2 : j = n
    · rw [if_neg e, if_pos e2, if_neg hX, if_pos e2]
    · rw [if_neg e, if_neg e2, if_neg hX, if_neg e2]
theorem mark_root {a : List It} (h : MayI a) {t n : Nat} (hn : n < a.length) (hO : onB a t n = true) (hp : ¬ 0 ≤ (itA a n).p) (j : Nat) :
    (if j = n then Value.bool true else Value.bool (markB a t (n + 1) j)) = Value.bool (markB a t n j) := by
  rw [mark_step h hn, hO]
  have hX : ¬ ((itA a n).p = (j : Int) ∧ true = true) := fun q => hp (by have := q.1; omega)
  by_cases e2 : j = n
  · rw [if_pos e2, if_neg hX, if_pos e2]
  · rw [if_neg e2, if_neg hX, if_neg e2]
theorem mark_off {a : List It} (h : MayI a) {t n : Nat} (hn : n < a.length) (hO : onB a t n = false) (j : Nat) :
    (if j = n then Value.bool false else Value.bool (markB a t (n + 1) j)) = Value.bool (markB a t n j) := by
  rw [mark_step h hn, hO]
  have hX : ¬ ((itA a n).p = (j : Int) ∧ false = true) := fun q => by cases q.2
  by_cases e2 : j = n
  · rw [if_pos e2, if_neg hX, if_pos e2]
  · rw [if_neg e2, if_neg hX, if_neg e2]
theorem mark_own {a : List It} {t n : Nat} {O : Bool} (hO : onB a t n = O) : Value.bool (markB a t n n) = Value.bool O := by rw [mark_high (Nat.le_refl n), hO]
/-- What moved weight leaves. -/
theorem move_w {a : List It} {id : Id2} {y : Int} (e : (movC a id y).2 = 0) : MayI a ∧ (movC a id y).1.length = a.length ∧ ∃ t, t < a.length ∧ (itA a t).x = id ∧
    ∀ k, k < a.length → (itA (movC a id y).1 k).x = (itA a k).x ∧ (itA (movC a id y).1 k).p = (itA a k).p ∧ (itA (movC a id y).1 k).w = (itA a k).w + (if onB a t k = true then y else 0) ∧ 0 ≤ (itA (movC a id y).1 k).w ∧ (itA (movC a id y).1 k).w ≤ 78812993478983680 := by
  cases hm : mayI a with
  | false => rw [movC_arg hm] at e; simp at e
  | true =>
    have hM := mayI_of hm
    rcases pos_cases a id with ⟨q, _⟩ | ⟨t, q, ht, hx⟩
    · rw [movC_none hm q] at e; simp at e
    · have hne : ¬ (posI a id < 0) := by omega
      have hmv : movC a id y = if ownB ((itA a t).o + y) then (anewC (ownI a t ((itA a t).o + y)), 0) else ([], 1) := by
        unfold movC
        rw [if_neg (by rw [hm]; simp), if_neg hne, q, Int.toNat_natCast]
      cases ho : ownB ((itA a t).o + y) with
      | false => rw [hmv, ho] at e; simp at e
      | true =>
        rw [hmv, ho]
        simp only [if_true]
        have hS := own_stand hM ht (ownB_yes ho)
        refine ⟨hM, by rw [anewC_length, ownI_length], t, ht, hx, fun k hk => ?_⟩
        have hk' : k < (ownI a t ((itA a t).o + y)).length := by rw [ownI_length]; exact hk
        rw [anewC_at hk', may_at hM hk]
        have hb := wC_bounds hS.right (M := 1125899906842624) hS.own hk'
        have hl60 := hS.1
        have hwe := own_w hM.stand.right ht ((itA a t).o + y) a.length k (by omega)
        refine ⟨?_, ?_, ?_, hb.1, ?_⟩
        · show (itA (ownI a t _) k).x = (itA a k).x; rw [ownI_x]
        · show (itA (ownI a t _) k).p = (itA a k).p; rw [ownI_p]
        · show wC (ownI a t _) k = wC a k + _
          rw [hwe]
          by_cases g : OnI a t k
          · rw [if_pos g, if_pos (onB_iff.2 g)]; omega
          · rw [if_neg g, if_neg (fun q => g (onB_iff.1 q))]
        · show wC (ownI a t _) k ≤ _
          have h1 := hb.2
          have h2 : ((ownI a t ((itA a t).o + y)).length : Int) * 1125899906842624 ≤ 60 * 1125899906842624 := Int.mul_le_mul_of_nonneg_right (by omega) (by decide)
          omega
theorem movC_fail {a : List It} {id : Id2} {y : Int} (e : (movC a id y).2 ≠ 0) : (movC a id y).1 = [] := by
  unfold movC at e ⊢
  split
  · rfl
  · rename_i h1
    rw [if_neg h1] at e
    split
    · rfl
    · rename_i h2
      rw [if_neg h2] at e
      split
      · rename_i h3; rw [if_pos h3] at e; simp at e
      · rfl

end Go.Proofs.Ytabmdilhfiembaa
