/-
  Plain mathematics of package array: the top behind one block more on it, and behind weight moved to it; weight moved there and back.
-/
import Derived.Test.YtabmdilhfiembaaArrayAwake
namespace Go.Proofs.Ytabmdilhfiembaa
set_option maxRecDepth 100000
set_option linter.unusedVariables false
set_option linter.unusedSimpArgs false
set_option linter.unusedVariables false

theorem place_one {a : List It} (h : MayI a) {i j : Nat} (hi : i < a.length) (hj : j < a.length) (e : (itA a i).x = (itA a j).x) : i = j := by
  rcases Nat.lt_trichotomy i j with q | q | q
  · exact absurd e ((h.2.1 j hj).2.1 i q)
  · exact q
  · exact absurd e.symm ((h.2.1 i hi).2.1 j q)
theorem pos_cases (a : List It) (x : Id2) : (posI a x = -1 ∧ ∀ j, j < a.length → (itA a j).x ≠ x) ∨ ∃ j : Nat, posI a x = (j : Int) ∧ j < a.length ∧ (itA a j).x = x := by
  have := pos_take (a := a) (k := a.length) (Nat.le_refl _) x
  rwa [List.take_length] at this
theorem pos_of {a : List It} (h : MayI a) {k : Nat} (hk : k < a.length) : posI a (itA a k).x = (k : Int) := by
  rcases pos_cases a (itA a k).x with ⟨_, q⟩ | ⟨j, q, hj, e⟩
  · exact absurd rfl (q k hk)
  · rw [q, place_one h hj hk e]
theorem pos_zid {a : List It} (h : MayI a) : posI a zid = -1 := by
  rcases pos_cases a zid with ⟨q, _⟩ | ⟨j, _, hj, e⟩
  · exact q
  · exact absurd e (h.2.1 j hj).1
theorem pos_bounds (a : List It) (x : Id2) : -1 ≤ posI a x ∧ posI a x < a.length := by
  rcases pos_cases a x with ⟨q, _⟩ | ⟨j, q, hj, _⟩ <;> omega
theorem top_root {a : List It} (h : MayI a) (h0 : 0 < a.length) : ∃ r, bC a (-1) = some r ∧ r < a.length ∧ hC a r < a.length ∧ bC a (hC a r) = none ∧ topC a = (itA a (hC a r)).x := by
  obtain ⟨r, hr⟩ := roots_some h.stand.right h0
  have hrl := (bC_mem hr).1
  obtain ⟨_, hl, hb⟩ := hC_lt a.length r (by omega) hrl
  exact ⟨r, hr, hrl, hl, hb, topC_some (mayI_yes h) hr⟩
theorem top_nil : topC [] = zid := topC_none (mayI_yes nil_may) rfl
theorem top_of_root {x : List It} (h : StandI x) {r : Nat} (hr : bC x (-1) = some r) : topC (anewC x) = (itA x (hC x r)).x := by
  have hA := anewC_alike x
  rw [topC_some (mayI_yes (anew_may h)) ((hA.best _).trans hr), hA.head, hA.x]
/-- One block more on the top is the top. -/
theorem grow_ins {a : List It} (h : MayI a) (id : Id2) (e : (insC a id (topC a)).2 = 0) : topC (insC a id (topC a)).1 = id := by
  by_cases c1 : mayI a = false ∨ id = zid
  · rw [insC_arg c1] at e; exact absurd e (by decide)
  by_cases c2 : 0 ≤ posI a id
  · rw [insC_have c1 c2] at e; exact absurd e (by decide)
  by_cases c3 : posI a (topC a) = -1 ∧ topC a ≠ zid
  · rw [insC_none c1 c2 c3] at e; exact absurd e (by decide)
  by_cases c4 : a.length = 60
  · rw [insC_full c1 c2 c3 c4] at e; exact absurd e (by decide)
  rw [insC_ok c1 c2 c3 c4]
  have hlen := h.1
  have hb := pos_bounds a (topC a)
  have hst : StandI (putI a id (posI a (topC a))) := put_stand h (fun q => c1 (Or.inr q)) (by omega) hb.1 hb.2 (by omega)
  show topC (anewC (putI a id (posI a (topC a)))) = id
  by_cases h0 : 0 < a.length
  · obtain ⟨r, hr, hrl, hl, hn, ht⟩ := top_root h h0
    have hp : posI a (topC a) = ((hC a r : Nat) : Int) := by rw [ht]; exact pos_of h hl
    rw [hp] at hst ⊢
    rw [top_of_root hst (r := r) ((put_bC_miss (by omega)).trans hr), put_head hl hn a.length r (by omega) hrl rfl, putI_new]
  · have ha : a = [] := List.eq_nil_of_length_eq_zero (by omega)
    subst ha
    have hp : posI [] (topC []) = -1 := by rw [top_nil]; exact pos_zid nil_may
    rw [hp] at hst ⊢
    have hr : bC (putI [] id (-1)) (-1) = some ([] : List It).length := put_bC_leaf (a := []) (j := -1) (by decide) rfl
    rw [top_of_root hst hr, hC_none (put_bC_new [] id (-1)), putI_new]
/-- Weight moved to the top leaves it the top. -/
theorem grow_mov {a : List It} (h : MayI a) {y : Int} (hy : 0 ≤ y) (e : (movC a (topC a) y).2 = 0) : topC (movC a (topC a) y).1 = topC a := by
  by_cases h0 : 0 < a.length
  · obtain ⟨r, hr, hrl, hl, hn, ht⟩ := top_root h h0
    have hp : posI a (topC a) = ((hC a r : Nat) : Int) := by rw [ht]; exact pos_of h hl
    cases hO : ownB ((itA a (hC a r)).o + y) with
    | false => rw [movC_own (mayI_yes h) hp hO] at e; exact absurd e (by decide)
    | true =>
      rw [movC_ok (mayI_yes h) hp hO]
      show topC (anewC (ownI a (hC a r) ((itA a (hC a r)).o + y))) = _
      have hb := own_best h.stand.right (fun i j hi hj e => place_one h hi hj e) hr rfl (v := (itA a (hC a r)).o + y) (by omega)
      have hh := own_head h.stand.right (fun i j hi hj e => place_one h hi hj e) hr rfl (v := (itA a (hC a r)).o + y) (by omega) a.length r (by omega)
      rw [top_of_root (own_stand h hl (ownB_yes hO)) ((hb (-1) (by omega)).trans hr), hh, ownI_x, ht]
  · have ha : a = [] := List.eq_nil_of_length_eq_zero (by omega)
    subst ha
    rw [top_nil, movC_none (mayI_yes nil_may) (pos_zid nil_may)] at e
    exact absurd e (by decide)
/-- Weight moved there and back. -/
theorem move_back {a : List It} {id : Id2} {y : Int} (e : (movC a id y).2 = 0) : movC (movC a id y).1 id (-y) = (a, 0) ∧ MayI a ∧ MayI (movC a id y).1 ∧ -9223372036854775808 < y ∧ (movC a id y).1.length = a.length := by
  cases hm : mayI a with
  | false => rw [movC_arg hm] at e; exact absurd e (by decide)
  | true =>
    have h := mayI_of hm
    rcases pos_cases a id with ⟨q, _⟩ | ⟨k, hp, hk, hx⟩
    · rw [movC_none hm q] at e; exact absurd e (by decide)
    · cases hO : ownB ((itA a k).o + y) with
      | false => rw [movC_own hm hp hO] at e; exact absurd e (by decide)
      | true =>
        rw [movC_ok hm hp hO]
        have hst := own_stand h hk (ownB_yes hO)
        have hM := anew_may hst
        have hb := h.stand.own k hk
        have hoy := ownB_yes hO
        refine ⟨?_, h, hM, by omega, by rw [anewC_length, ownI_length]⟩
        have hA := anewC_alike (ownI a k ((itA a k).o + y))
        have hk2 : k < (anewC (ownI a k ((itA a k).o + y))).length := by rw [anewC_length, ownI_length]; exact hk
        have hp2 : posI (anewC (ownI a k ((itA a k).o + y))) id = (k : Int) := by
          have := pos_of hM hk2
          rwa [hA.x, ownI_x, hx] at this
        have ho : (itA (anewC (ownI a k ((itA a k).o + y))) k).o + -y = (itA a k).o := by
          rw [hA.o, ownI_at hk]; simp only; omega
        show movC (anewC (ownI a k ((itA a k).o + y))) id (-y) = _
        rw [movC_ok (mayI_yes hM) hp2 (by rw [ho]; exact decide_eq_true hb), ho, (own_back hk _).anew, h.2.2]
theorem insC_fail {a : List It} {id par : Id2} (e : (insC a id par).2 ≠ 0) : (insC a id par).1 = [] := by
  unfold insC at e ⊢
  split at e <;> rename_i h1
  · rw [if_pos h1]
  rw [if_neg h1]
  split at e <;> rename_i h2
  · rw [if_pos h2]
  rw [if_neg h2]
  split at e <;> rename_i h3
  · rw [if_pos h3]
  rw [if_neg h3]
  split at e <;> rename_i h4
  · rw [if_pos h4]
  exact absurd rfl e
/-- What one block more leaves of the others. -/
theorem ins_keeps {a : List It} {id par : Id2} (e : (insC a id par).2 = 0) : MayI (insC a id par).1 ∧ (insC a id par).1.length = a.length + 1 ∧ a.length < 60 ∧ (itA (insC a id par).1 a.length).x = id ∧ (itA (insC a id par).1 a.length).o = 0 ∧ ∀ k, k < a.length → (itA (insC a id par).1 k).x = (itA a k).x ∧ (itA (insC a id par).1 k).p = (itA a k).p ∧ (itA (insC a id par).1 k).o = (itA a k).o ∧ (itA (insC a id par).1 k).w = (itA a k).w := by
  by_cases c1 : mayI a = false ∨ id = zid
  · rw [insC_arg c1] at e; exact absurd e (by decide)
  by_cases c2 : 0 ≤ posI a id
  · rw [insC_have c1 c2] at e; exact absurd e (by decide)
  by_cases c3 : posI a par = -1 ∧ par ≠ zid
  · rw [insC_none c1 c2 c3] at e; exact absurd e (by decide)
  by_cases c4 : a.length = 60
  · rw [insC_full c1 c2 c3 c4] at e; exact absurd e (by decide)
  rw [insC_ok c1 c2 c3 c4]
  have h : MayI a := mayI_of (by cases q : mayI a with
    | true => rfl
    | false => exact absurd (Or.inl q) c1)
  have hlen := h.1
  have hb := pos_bounds a par
  have hst : StandI (putI a id (posI a par)) := put_stand h (fun q => c1 (Or.inr q)) (by omega) hb.1 hb.2 (by omega)
  have hA := anewC_alike (putI a id (posI a par))
  refine ⟨anew_may hst, by show (anewC _).length = _; rw [anewC_length, putI_length], by omega, ?_, ?_, fun k hk => ⟨?_, ?_, ?_, ?_⟩⟩
  · show (itA (anewC _) _).x = _; rw [hA.x, putI_new]
  · show (itA (anewC _) _).o = _; rw [hA.o, putI_new]
  · show (itA (anewC _) _).x = _; rw [hA.x, putI_at hk]
  · show (itA (anewC _) _).p = _; rw [hA.p, putI_at hk]
  · show (itA (anewC _) _).o = _; rw [hA.o, putI_at hk]
  · show (itA (anewC _) _).w = _
    rw [anewC_at (by rw [putI_length]; omega), may_at h hk]
    exact put_w a.length k (by omega) hk

end Go.Proofs.Ytabmdilhfiembaa
