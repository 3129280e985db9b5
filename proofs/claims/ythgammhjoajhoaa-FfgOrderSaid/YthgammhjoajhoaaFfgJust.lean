/-
  The contract of Just of the given package marigoldref11: gone through as often as there are links, nothing more comes.
-/
import Derived.Test.YthgammhjoajhoaaFfgPut
namespace Go.Proofs.Ythgammhjoajhoaa
set_option maxRecDepth 100000
set_option linter.unusedVariables false
set_option linter.unusedSimpArgs false
set_option linter.unusedSimpArgs false
set_option linter.unusedVariables false
open Go.ChangeShapes Go.WideShapes Go.ChangeAt Go.RowKit

/-- Nothing more comes, or there are n at least. -/
def Outer (k : Cf) (X : List Lk) (n : Nat) (R : List Ck) : Prop := Run k X R ∧ ((∀ x ∈ X, Shut k X R x) ∨ n + 1 ≤ R.length)
/-- .. when the links ahead of number j are gone through. -/
def Inner (k : Cf) (X : List Lk) (n j : Nat) (R : List Ck) : Prop := Run k X R ∧ ((∀ x ∈ X, Shut k X R x) ∨ ((∀ i (hi : i < X.length), i < j → Shut k X R X[i]) ∧ n + 1 ≤ R.length) ∨ n + 2 ≤ R.length)
theorem outer_start (k : Cf) (X : List Lk) : Outer k X 0 [firstK] := ⟨Run.start k X, Or.inr (by simp)⟩
theorem outer_end {k : Cf} {l : List Bk} {v : List Lk} {R : List Ck} (h : Outer k (fineC k l v) ((fineC k l v).length + 1) R) (hm : mayC k = true ∧ mayB l = true) : Justs k l v R := by
  rcases h.2 with h2 | h2
  · exact h.1.justs h2 hm
  · have := h.1.length_le; omega
theorem inner_start {k : Cf} {X : List Lk} {n : Nat} {R : List Ck} (h : Outer k X n R) : Inner k X n 0 R := ⟨h.1, h.2.elim Or.inl fun q => Or.inr (Or.inl ⟨fun i _ h => by omega, q⟩)⟩
theorem inner_end {k : Cf} {X : List Lk} {n : Nat} {R : List Ck} (h : Inner k X n X.length R) : Outer k X (n + 1) R := by
  refine ⟨h.1, ?_⟩
  rcases h.2 with q | ⟨q, _⟩ | q
  · exact Or.inl q
  · exact Or.inl fun x hx => by
      obtain ⟨i, hi, rfl⟩ := List.mem_iff_getElem.1 hx
      exact q i hi hi
  · exact Or.inr (by omega)
theorem inner_skip {k : Cf} {X : List Lk} {n j : Nat} {R : List Ck} (h : Inner k X n j R) (hj : j < X.length) (hs : Shut k X R X[j]) : Inner k X n (j + 1) R := by
  refine ⟨h.1, ?_⟩
  rcases h.2 with q | ⟨q, q2⟩ | q
  · exact Or.inl q
  · refine Or.inr (Or.inl ⟨fun i hi hij => ?_, q2⟩)
    by_cases e : i = j
    · subst e; exact hs
    · exact q i hi (by omega)
  · exact Or.inr (Or.inr q)
theorem inner_put {k : Cf} {X : List Lk} {n j : Nat} {R S : List Ck} (h : Inner k X n j R) (hj : j < X.length) (h1 : X[j].s ∈ R) (h2 : strongK k X X[j].s X[j].t = true) (h3 : X[j].t ∉ R) (hp : Put R X[j].t S) : Inner k X n (j + 1) S := by
  refine ⟨h.1.put (List.getElem_mem hj) h1 h2 hp, ?_⟩
  have hl := hp.len
  rcases h.2 with q | ⟨_, q⟩ | q
  · exact absurd (q _ (List.getElem_mem hj) h1 h2) h3
  · exact Or.inr (Or.inr (by omega))
  · exact Or.inr (Or.inr (by omega))
def JustNew (k : Cf) (l : List Bk) (v : List Lk) (w : World) (e : Ending) (w' : World) : Prop := ∃ R A' c', Justs k l v R ∧ R.length ≤ v.length + 1 ∧ e = .returned (.slice A' R.length c') ∧ CellsAt w' w'.heap.size A' (cksCells R) ∧ R.length ≤ c' ∧ Kept w w'
theorem JustNew.nil {k : Cf} {l : List Bk} {v : List Lk} {w w' : World} (h : ¬ (mayC k = true ∧ mayB l = true)) (q : Kept w w') : JustNew k l v w (.returned (.slice none 0 0)) w' := ⟨[], none, 0, justs_none v h, by simp, rfl, CellsAt.nil, by simp, q⟩

end Go.Proofs.Ythgammhjoajhoaa
