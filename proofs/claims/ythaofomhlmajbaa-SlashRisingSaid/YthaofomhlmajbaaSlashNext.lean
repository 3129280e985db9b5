/-
  Plain mathematics of package slash: links in order, held against their neighbours alone, tell who is guilty.
-/
import Derived.Test.YthaofomhlmajbaaSlashMath
namespace Go.Proofs.Ythaofomhlmajbaa
set_option maxRecDepth 100000
set_option linter.unusedVariables false
set_option linter.unusedSimpArgs false
set_option linter.unusedSimpArgs false
set_option linter.unusedVariables false

/-- The order: by who it is of, then by the Tgt's Epoch. -/
def LeqL (a b : Lk) : Prop := a.f < b.f ∨ (a.f = b.f ∧ a.t.e ≤ b.t.e)
/-- Of the first n links those who have one that is a pair with the one ahead of it. -/
def nextL (S : List Lk) : Nat → List Int
  | 0 => []
  | n + 1 => nextL S n ++ (if h : 0 < n ∧ n < S.length then (if pairL S[n - 1] S[n] then [(S[n]'h.2).f] else []) else [])
theorem nextL_len (S : List Lk) : ∀ n, (nextL S n).length ≤ n
  | 0 => Nat.le_refl _
  | n + 1 => by
    have ih := nextL_len S n
    show (nextL S n ++ _).length ≤ _
    rw [List.length_append]
    split
    · split <;> simp <;> omega
    · simp; omega
theorem nextL_first (S : List Lk) : nextL S 1 = [] := by simp [nextL]
theorem nextL_hit {S : List Lk} {n : Nat} (h0 : 0 < n) (h : n < S.length) (hp : pairL S[n - 1] S[n] = true) : nextL S (n + 1) = nextL S n ++ [S[n].f] := by
  show nextL S n ++ _ = _
  rw [dif_pos ⟨h0, h⟩, if_pos hp]
theorem nextL_miss {S : List Lk} {n : Nat} (h0 : 0 < n) (h : n < S.length) (hp : pairL S[n - 1] S[n] = false) : nextL S (n + 1) = nextL S n := by
  show nextL S n ++ _ = _
  rw [dif_pos ⟨h0, h⟩, hp]; simp
theorem mem_nextL {S : List Lk} {f : Int} : ∀ {n}, f ∈ nextL S n ↔ ∃ i, ∃ h : 0 < i ∧ i < S.length, i < n ∧ pairL S[i - 1] (S[i]'h.2) = true ∧ (S[i]'h.2).f = f
  | 0 => ⟨fun h => (by cases h), fun ⟨i, _, h, _⟩ => absurd h (Nat.not_lt_zero _)⟩
  | n + 1 => by
    show f ∈ nextL S n ++ _ ↔ _
    rw [List.mem_append, mem_nextL]
    constructor
    · rintro (⟨i, h, hi, r⟩ | h)
      · exact ⟨i, h, by omega, r⟩
      · split at h
        · rename_i hn
          split at h
          · rename_i hp
            exact ⟨n, hn, by omega, hp, (List.mem_singleton.1 h).symm⟩
          · cases h
        · cases h
    · rintro ⟨i, h, hi, hp, hf⟩
      by_cases e : i = n
      · subst e
        rw [dif_pos h, if_pos hp]
        exact Or.inr (List.mem_singleton.2 hf.symm)
      · exact Or.inl ⟨i, h, by omega, hp, hf⟩
theorem leq_get {S : List Lk} (hS : S.Pairwise LeqL) {i j : Nat} (hij : i ≤ j) (hj : j < S.length) : LeqL (S[i]'(by omega)) S[j] := by
  by_cases e : i = j
  · subst e; exact Or.inr ⟨rfl, Int.le_refl _⟩
  · exact List.pairwise_iff_getElem.1 hS i j (by omega) hj (by omega)
theorem nextL_rise {S : List Lk} (hS : S.Pairwise LeqL) : ∀ n, (nextL S n).Pairwise (fun a b => a ≤ b)
  | 0 => List.Pairwise.nil
  | n + 1 => by
    show (nextL S n ++ _).Pairwise _
    rw [List.pairwise_append]
    refine ⟨nextL_rise hS n, ?_, ?_⟩
    · split
      · split
        · exact List.pairwise_singleton _ _
        · exact List.Pairwise.nil
      · exact List.Pairwise.nil
    · intro a ha b hb
      obtain ⟨i, h, hi, _, hf⟩ := mem_nextL.1 ha
      split at hb
      · rename_i hn
        split at hb
        · rw [List.mem_singleton] at hb
          have := leq_get hS (show i ≤ n by omega) hn.2
          rcases this with q | q <;> omega
        · cases hb
      · cases hb
/-- Where no neighbours from i to j are a pair, the two at the ends are none. -/
theorem far_none {S : List Lk} (hS : S.Pairwise LeqL) {i : Nat} : ∀ {j : Nat} (hij : i ≤ j) (hj : j < S.length), (S[i]'(by omega)).f = S[j].f → (∀ k (h : k + 1 ≤ j), i ≤ k → pairL (S[k]'(by omega)) (S[k + 1]'(by omega)) = false) →
    S[i]'(by omega) = S[j] ∨ ((S[i]'(by omega)).t.e < S[j].t.e ∧ (S[i]'(by omega)).s.e ≤ S[j].s.e)
  | 0, hij, hj, hf, hp => by
    have : i = 0 := by omega
    subst this
    exact Or.inl rfl
  | j + 1, hij, hj, hf, hp => by
    by_cases e : i = j + 1
    · subst e; exact Or.inl rfl
    · have h1 := leq_get hS (show i ≤ j by omega) (show j < S.length by omega)
      have h2 := leq_get hS (show j ≤ j + 1 by omega) hj
      have hfj : S[j].f = S[j + 1].f := by rcases h1 with h1 | h1 <;> rcases h2 with h2 | h2 <;> omega
      have ih := far_none hS (show i ≤ j by omega) (by omega) (by omega) fun k h hk => hp k (by omega) hk
      have hn := hp j (by omega) (by omega)
      have hle : S[j].t.e ≤ S[j + 1].t.e := by rcases h2 with h2 | h2 <;> omega
      rw [Bool.eq_false_iff, ne_eq, pairL_iff] at hn
      have step : S[j] = S[j + 1] ∨ (S[j].t.e < S[j + 1].t.e ∧ S[j].s.e ≤ S[j + 1].s.e) := by
        by_cases q : S[j] = S[j + 1]
        · exact Or.inl q
        · refine Or.inr ?_
          have : ¬ S[j].t.e = S[j + 1].t.e := fun q2 => hn ⟨hfj, Or.inr (Or.inr ⟨q, q2⟩)⟩
          refine ⟨by omega, ?_⟩
          rcases Int.lt_or_le S[j + 1].s.e S[j].s.e with q3 | q3
          · exact absurd ⟨hfj, Or.inr (Or.inl ⟨q3, by omega⟩)⟩ hn
          · exact q3
      rcases ih with ih | ih
      · rw [ih]; exact step
      · rcases step with st | st
        · rw [← st]; exact Or.inr ih
        · exact Or.inr ⟨by omega, by omega⟩
/-- IN ORDER THE NEIGHBOURS TELL ALL. -/
theorem next_guil {S : List Lk} (hS : S.Pairwise LeqL) (f : Int) : f ∈ nextL S S.length ↔ Guil S f := by
  constructor
  · intro h
    obtain ⟨i, h, hi, hp, hf⟩ := mem_nextL.1 h
    exact ⟨S[i], List.getElem_mem _, hf, S[i - 1], List.getElem_mem _, by rw [pairL_comm]; exact hp⟩
  · rintro ⟨a, ha, hf, b, hb, hp⟩
    obtain ⟨i, hi, rfl⟩ := List.mem_iff_getElem.1 ha
    obtain ⟨j, hj, rfl⟩ := List.mem_iff_getElem.1 hb
    have key : ∀ (i j : Nat) (hij : i < j) (hj : j < S.length), (S[i]'(by omega)).f = f → pairL (S[i]'(by omega)) S[j] = true → f ∈ nextL S S.length := by
      intro i j hij hj hf hp
      have hfij := (pairL_iff.1 hp).1
      by_cases hall : ∀ k (h : k + 1 ≤ j), i ≤ k → pairL (S[k]'(by omega)) (S[k + 1]'(by omega)) = false
      · exfalso
        rcases far_none hS (Nat.le_of_lt hij) hj hfij hall with q | q
        · rw [q, pairL_self] at hp; cases hp
        · rcases (pairL_iff.1 hp).2 with r | r | r <;> omega
      · simp only [Classical.not_forall] at hall
        obtain ⟨k, hk, hik, hp2⟩ := hall
        have h1 := leq_get hS hik (show k < S.length by omega)
        have h2 := leq_get hS (show k ≤ k + 1 by omega) (show k + 1 < S.length by omega)
        have h3 := leq_get hS hk hj
        refine mem_nextL.2 ⟨k + 1, ⟨by omega, by omega⟩, by omega, ?_, ?_⟩
        · simpa using hp2
        · rcases h1 with h1 | h1 <;> rcases h2 with h2 | h2 <;> rcases h3 with h3 | h3 <;> omega
    rcases Nat.lt_trichotomy i j with h | h | h
    · exact key i j h hj hf hp
    · subst h; rw [pairL_self] at hp; cases hp
    · exact key j i h hi ((pairL_iff.1 hp).1.symm.trans hf) (by rw [pairL_comm]; exact hp)
theorem guil_perm {v S : List Lk} (h : S.Perm v) (f : Int) : Guil S f ↔ Guil v f := ⟨guil_more fun _ hx => h.mem_iff.1 hx, guil_more fun _ hx => h.mem_iff.2 hx⟩

end Go.Proofs.Ythaofomhlmajbaa
