/-
  The contracts of final and Final of the given package marigoldref11.
-/
import Derived.Test.YthgammhjoajhoaaFfgJust
namespace Go.Proofs.Ythgammhjoajhoaa
set_option maxRecDepth 100000
set_option linter.unusedVariables false
set_option linter.unusedSimpArgs false
set_option linter.unusedSimpArgs false
set_option linter.unusedVariables false
open Go.ChangeShapes Go.WideShapes Go.ChangeAt Go.RowKit

/-- One of the next epoch that is over x, and under what t stands on. -/
def MidF (l : List Bk) (x t m : Ck) : Prop := m.e = x.e + 1 ∧ underC l x.r m.r = true ∧ underC l m.r t.r = true
/-- A strong link to t makes x final. -/
def HitF (k : Cf) (l : List Bk) (X : List Lk) (R : List Ck) (x t : Ck) : Prop := strongK k X x t = true ∧ (t.e = x.e + 1 ∨ (t.e = x.e + 2 ∧ ∃ m ∈ R, MidF l x t m))
def FinF (k : Cf) (l : List Bk) (X : List Lk) (R : List Ck) (x : Ck) : Prop := x = firstK ∨ ∃ y ∈ X, y.s = x ∧ HitF k l X R x y.t
open Classical in
noncomputable def finB (k : Cf) (l : List Bk) (X : List Lk) (R : List Ck) (x : Ck) : Bool := decide (FinF k l X R x)
theorem finB_iff {k : Cf} {l : List Bk} {X : List Lk} {R : List Ck} {x : Ck} : finB k l X R x = true ↔ FinF k l X R x := @decide_eq_true_iff _ (Classical.propDecidable _)
theorem finB_eq {k : Cf} {l : List Bk} {v : List Lk} {R : List Ck} (hR : Justs k l v R) {x : Ck} (hx : x ∈ R) : finB k l (fineC k l v) R x = finalB k l v x := by
  obtain ⟨m1, m2, _⟩ := (hR.2 x).1 hx
  rw [Bool.eq_iff_iff, finB_iff, finalB_iff]
  constructor
  · rintro (e | ⟨y, _, _, h1, h2⟩)
    · exact Or.inl e
    · refine Or.inr ⟨y.t, h1, ?_⟩
      rcases h2 with h2 | ⟨h2, m, hm, h3⟩
      · exact Or.inl h2
      · exact Or.inr ⟨h2, m, ((hR.2 m).1 hm).2.2, h3⟩
  · rintro (e | ⟨t, h1, h2⟩)
    · exact Or.inl e
    · obtain ⟨y, hy, e1, e2⟩ := strong_some h1
      refine Or.inr ⟨y, hy, e1, ?_⟩
      rw [e2]
      refine ⟨h1, ?_⟩
      rcases h2 with h2 | ⟨h2, m, hm, h3⟩
      · exact Or.inl h2
      · exact Or.inr ⟨h2, m, (hR.2 m).2 ⟨m1, m2, hm⟩, h3⟩
theorem fine_up {k : Cf} {l : List Bk} {v : List Lk} : ∀ y ∈ fineC k l v, y.s.e < y.t.e := fun y hy => (mayL_iff.1 (mem_fineC.1 hy).2).2.2.1.2.2.2.1
theorem just_range {k : Cf} {l : List Bk} {v : List Lk} {R : List Ck} (hR : Justs k l v R) : ∀ x ∈ R, 0 ≤ x.e ∧ x.e ≤ 1048576 := fun x hx => by
  rcases just_bounds ((hR.2 x).1 hx).2.2 with e | e
  · rw [e]; exact ⟨Int.le_refl 0, by decide⟩
  · omega

end Go.Proofs.Ythgammhjoajhoaa
