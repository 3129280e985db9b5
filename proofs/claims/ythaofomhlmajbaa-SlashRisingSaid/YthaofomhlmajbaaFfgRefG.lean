/-
  The contracts of less, has, Has, Same, May and Fine of the given package marigoldref11.
  The contracts of strong and Strong of the given package marigoldref11.
  The contract of put of the given package marigoldref11: a checkpoint put into its place.
  The contract of Just of the given package marigoldref11: gone through as often as there are links, nothing more comes.
  The contracts of final and Final of the given package marigoldref11.
  The contract of Final of the given package marigoldref11.
-/
import Derived.Test.YthaofomhlmajbaaCkRow
import Derived.Test.YthaofomhlmajbaaLkRow
import Derived.Test.YthaofomhlmajbaaFfgEq
import Derived.Test.YthaofomhlmajbaaMixLess
import Derived.Test.YthaofomhlmajbaaMixG
import Derived.Test.YthaofomhlmajbaaTreeRefG
import Derived.Test.YthaofomhlmajbaaDutyRefG
import Derived.Test.YthaofomhlmajbaaGround
namespace Go.Proofs.Ythaofomhlmajbaa
set_option maxRecDepth 100000
set_option linter.unusedVariables false
set_option linter.unusedSimpArgs false
section
set_option linter.unusedSimpArgs false
set_option linter.unusedVariables false
open Go.ChangeShapes Go.WideShapes Go.ChangeAt Go.RowKit

/-! ### Is one there? -/
def hasK (l : List Ck) (x : Ck) : Bool := decide (x ∈ l)
theorem hasK_iff {l : List Ck} {x : Ck} : hasK l x = true ↔ x ∈ l := decide_eq_true_iff
/-! ### Are two lists the same? -/
def sameKs (a b : List Ck) : Bool := decide (a = b)
theorem sameKs_iff {a b : List Ck} : sameKs a b = true ↔ a = b := decide_eq_true_iff
theorem sameKs_of {a b : List Ck} (hn : a.length = b.length) (h : ∀ j (h1 : j < a.length) (h2 : j < b.length), sameK a[j] b[j] = true) : sameKs a b = true :=
  sameKs_iff.2 (List.ext_getElem hn fun j h1 h2 => sameK_iff.1 (h j h1 h2))
/-! ### May -/
/-! ### Fine -/
theorem Lks.mono {W W' w : World} {l : List Lk} {v : Value} (h : Lks W' l v w) (k : Kept W W') : Lks W l v w :=
  ⟨⟨h.1.1, h.1.2.imp id fun ⟨g, cap, cur, h1, h2, h3⟩ => ⟨g, cap, cur, h1, Nat.le_trans k.size_le h2, h3⟩⟩, k.trans h.2⟩
theorem Cks.mono {W W' w : World} {l : List Ck} {v : Value} (h : Cks W' l v w) (k : Kept W W') : Cks W l v w :=
  ⟨⟨h.1.1, h.1.2.imp id fun ⟨g, cap, cur, h1, h2, h3⟩ => ⟨g, cap, cur, h1, Nat.le_trans k.size_le h2, h3⟩⟩, k.trans h.2⟩
theorem fine_hit {k : Cf} {l : List Bk} {v : List Lk} {j : Nat} (hj : j < v.length) (h : mayL k l v[j] = true) : fineC k l (v.take (j + 1)) = fineC k l (v.take j) ++ [v[j]] := by rw [List.take_succ_eq_append_getElem hj, fineC_hit _ h]
theorem fine_miss {k : Cf} {l : List Bk} {v : List Lk} {j : Nat} (hj : j < v.length) (h : mayL k l v[j] = false) : fineC k l (v.take (j + 1)) = fineC k l (v.take j) := by rw [List.take_succ_eq_append_getElem hj, fineC_miss _ h]
theorem fine_le (k : Cf) (l : List Bk) (v : List Lk) (j : Nat) : (fineC k l (v.take j)).length ≤ j := Nat.le_trans (fineC_length _ _ _) (by rw [List.length_take]; omega)
end

section
set_option linter.unusedSimpArgs false
set_option linter.unusedVariables false
open Go.ChangeShapes Go.WideShapes Go.ChangeAt Go.RowKit

theorem who_hit {v : List Lk} {s t : Ck} {j : Nat} (hj : j < v.length) (h1 : sameK v[j].s s = true) (h2 : sameK v[j].t t = true) : whoK (v.take (j + 1)) s t = whoK (v.take j) s t ++ [v[j].f] := by
  rw [List.take_succ_eq_append_getElem hj, whoK_hit _ (by unfold hitK; rw [h1, h2]; rfl)]
theorem who_miss {v : List Lk} {s t : Ck} {j : Nat} (hj : j < v.length) (h : sameK v[j].s s = false ∨ sameK v[j].t t = false) : whoK (v.take (j + 1)) s t = whoK (v.take j) s t := by
  rw [List.take_succ_eq_append_getElem hj, whoK_miss _ (by unfold hitK; rcases h with h | h <;> simp [h])]
theorem who_le (v : List Lk) (s t : Ck) (j : Nat) : (whoK (v.take j) s t).length ≤ j := Nat.le_trans (whoK_length _ _ _) (by rw [List.length_take]; omega)
theorem Ints.sliceW {W w : World} {l : List Int} {v : Value} (h : Ints W l v w) : ∃ A c, v = .slice A l.length c := by
  rcases h.1.2 with ⟨hv, h0⟩ | ⟨g, cap, cur, hv, _⟩
  · rw [h0]; exact ⟨_, _, hv⟩
  · exact ⟨_, _, hv⟩
end

section
set_option linter.unusedSimpArgs false
set_option linter.unusedVariables false
open Go.ChangeShapes Go.WideShapes Go.ChangeAt Go.RowKit

theorem Cks.cap {W w : World} {l : List Ck} {A : Option Addr} {n c : Nat} (h : Cks W l (.slice A n c) w) : n ≤ c := by
  rcases h.1.2 with ⟨hv, _⟩ | ⟨g, cap, cur, hv, _, _, hn, _⟩
  · injection hv with _ h1 h2; omega
  · injection hv with _ h1 h2; omega
theorem Lks.cap {W w : World} {l : List Lk} {A : Option Addr} {n c : Nat} (h : Lks W l (.slice A n c) w) : n ≤ c := by
  rcases h.1.2 with ⟨hv, _⟩ | ⟨g, cap, cur, hv, _, _, hn, _⟩
  · injection hv with _ h1 h2; omega
  · injection hv with _ h1 h2; omega
theorem upto_cks (A : Option Addr) (n c k : Nat) (hk : k ≤ c) (w : World) : (Instr.slice 42 (.slice A n c) none (some (.int .i64 (k : Int))) none).run Try.prog w = .ok (.slice A k c) w := by
  obtain ⟨i, hi, _⟩ := info_of Try.infoCk
  exact run_upto _ _ i Try.underlying42 hi A n c k hk w
theorem cells_cks_take {w : World} {B : Nat} {A : Option Addr} {l : List Ck} (h : CellsAt w B A (cksCells l)) (k : Nat) : CellsAt w B A (cksCells (l.take k)) := by
  have e : cksCells l = cksCells (l.take k) ++ cksCells (l.drop k) := by rw [cksCells_append, List.take_append_drop]
  rw [e] at h
  exact cells_prefix h
theorem from_cks {w : World} {B : Nat} {A : Option Addr} {l : List Ck} (h : CellsAt w B A (cksCells l)) (c k : Nat) (hk : k ≤ l.length) (hc : l.length ≤ c) :
    ∃ A', (∀ w', (Instr.slice 42 (.slice A l.length c) (some (.int .i64 (k : Int))) none none).run Try.prog w' = .ok (.slice A' (l.length - k) (c - k)) w') ∧ CellsAt w B A' (cksCells (l.drop k)) := by
  obtain ⟨i, hi, _, hs, _⟩ := info_of Try.infoCk
  refine ⟨_, fun w' => run_from _ _ i Try.underlying42 hi A l.length c k hk w', ?_⟩
  have e : cksCells l = cksCells (l.take k) ++ cksCells (l.drop k) := by rw [cksCells_append, List.take_append_drop]
  by_cases q : c = k
  · have : l.drop k = [] := List.drop_eq_nil_of_le (by omega)
    rw [this]
    exact CellsAt.nil
  · rw [if_neg q, hs]
    rw [e] at h
    have := cells_from h
    rw [cksCells_length, List.length_take, Nat.min_eq_left hk] at this
    exact this
def Putted (R : List Ck) (x : Ck) (w : World) (e : Ending) (w' : World) : Prop := ∃ S A' c', Put R x S ∧ e = .returned (.slice A' S.length c') ∧ Cks w S (.slice A' S.length c') w'
end

section
set_option linter.unusedSimpArgs false
set_option linter.unusedVariables false
open Go.ChangeShapes Go.WideShapes Go.ChangeAt Go.RowKit

/-- Nothing more comes, or there are n at least. -/
def Outer (k : Cf) (X : List Lk) (n : Nat) (R : List Ck) : Prop := Run k X R ∧ ((∀ x ∈ X, Shut k X R x) ∨ n + 1 ≤ R.length)
/-- .. when the links ahead of number j are gone through. -/
def Inner (k : Cf) (X : List Lk) (n j : Nat) (R : List Ck) : Prop := Run k X R ∧ ((∀ x ∈ X, Shut k X R x) ∨ ((∀ i (hi : i < X.length), i < j → Shut k X R X[i]) ∧ n + 1 ≤ R.length) ∨ n + 2 ≤ R.length)
theorem outer_start (k : Cf) (X : List Lk) : Outer k X 0 [firstK] := ⟨Run.start k X, Or.inr (by simp)⟩
theorem outer_end {k : Cf} {l : List Bk} {v : List Lk} {R : List Ck} (h : Outer k (fineC k l v) ((fineC k l v).length + 1) R) (hm : mayC k = true ∧ mayB l = true) : Justs k l v R := by
  rcases h.2 with h2 | h2
  · exact h.1.justs h2 hm
  · have := h.1.length_le; omega
theorem inner_start {k : Cf} {X : List Lk} {n : Nat} {R : List Ck} (h : Outer k X n R) : Inner k X n 0 R := ⟨h.1, h.2.elim Or.inl fun q => Or.inr (Or.inl ⟨fun i _ h => by omega, q⟩)⟩
theorem inner_end {k : Cf} {X : List Lk} {n : Nat} {R : List Ck} (h : Inner k X n X.length R) : Outer k X (n + 1) R := by
  refine ⟨h.1, ?_⟩
  rcases h.2 with q | ⟨q, _⟩ | q
  · exact Or.inl q
  · exact Or.inl fun x hx => by
      obtain ⟨i, hi, rfl⟩ := List.mem_iff_getElem.1 hx
      exact q i hi hi
  · exact Or.inr (by omega)
theorem inner_skip {k : Cf} {X : List Lk} {n j : Nat} {R : List Ck} (h : Inner k X n j R) (hj : j < X.length) (hs : Shut k X R X[j]) : Inner k X n (j + 1) R := by
  refine ⟨h.1, ?_⟩
  rcases h.2 with q | ⟨q, q2⟩ | q
  · exact Or.inl q
  · refine Or.inr (Or.inl ⟨fun i hi hij => ?_, q2⟩)
    by_cases e : i = j
    · subst e; exact hs
    · exact q i hi (by omega)
  · exact Or.inr (Or.inr q)
theorem inner_put {k : Cf} {X : List Lk} {n j : Nat} {R S : List Ck} (h : Inner k X n j R) (hj : j < X.length) (h1 : X[j].s ∈ R) (h2 : strongK k X X[j].s X[j].t = true) (h3 : X[j].t ∉ R) (hp : Put R X[j].t S) : Inner k X n (j + 1) S := by
  refine ⟨h.1.put (List.getElem_mem hj) h1 h2 hp, ?_⟩
  have hl := hp.len
  rcases h.2 with q | ⟨_, q⟩ | q
  · exact absurd (q _ (List.getElem_mem hj) h1 h2) h3
  · exact Or.inr (Or.inr (by omega))
  · exact Or.inr (Or.inr (by omega))
def JustNew (k : Cf) (l : List Bk) (v : List Lk) (w : World) (e : Ending) (w' : World) : Prop := ∃ R A' c', Justs k l v R ∧ R.length ≤ v.length + 1 ∧ e = .returned (.slice A' R.length c') ∧ CellsAt w' w'.heap.size A' (cksCells R) ∧ R.length ≤ c' ∧ Kept w w'
theorem JustNew.nil {k : Cf} {l : List Bk} {v : List Lk} {w w' : World} (h : ¬ (mayC k = true ∧ mayB l = true)) (q : Kept w w') : JustNew k l v w (.returned (.slice none 0 0)) w' := ⟨[], none, 0, justs_none v h, by simp, rfl, CellsAt.nil, by simp, q⟩
end

section
set_option linter.unusedSimpArgs false
set_option linter.unusedVariables false
open Go.ChangeShapes Go.WideShapes Go.ChangeAt Go.RowKit

/-- One of the next epoch that is over x, and under what t stands on. -/
def MidF (l : List Bk) (x t m : Ck) : Prop := m.e = x.e + 1 ∧ underC l x.r m.r = true ∧ underC l m.r t.r = true
/-- A strong link to t makes x final. -/
def HitF (k : Cf) (l : List Bk) (X : List Lk) (R : List Ck) (x t : Ck) : Prop := strongK k X x t = true ∧ (t.e = x.e + 1 ∨ (t.e = x.e + 2 ∧ ∃ m ∈ R, MidF l x t m))
def FinF (k : Cf) (l : List Bk) (X : List Lk) (R : List Ck) (x : Ck) : Prop := x = firstK ∨ ∃ y ∈ X, y.s = x ∧ HitF k l X R x y.t
open Classical in
noncomputable def finB (k : Cf) (l : List Bk) (X : List Lk) (R : List Ck) (x : Ck) : Bool := decide (FinF k l X R x)
theorem finB_iff {k : Cf} {l : List Bk} {X : List Lk} {R : List Ck} {x : Ck} : finB k l X R x = true ↔ FinF k l X R x := @decide_eq_true_iff _ (Classical.propDecidable _)
theorem finB_eq {k : Cf} {l : List Bk} {v : List Lk} {R : List Ck} (hR : Justs k l v R) {x : Ck} (hx : x ∈ R) : finB k l (fineC k l v) R x = finalB k l v x := by
  obtain ⟨m1, m2, _⟩ := (hR.2 x).1 hx
  rw [Bool.eq_iff_iff, finB_iff, finalB_iff]
  constructor
  · rintro (e | ⟨y, _, _, h1, h2⟩)
    · exact Or.inl e
    · refine Or.inr ⟨y.t, h1, ?_⟩
      rcases h2 with h2 | ⟨h2, m, hm, h3⟩
      · exact Or.inl h2
      · exact Or.inr ⟨h2, m, ((hR.2 m).1 hm).2.2, h3⟩
  · rintro (e | ⟨t, h1, h2⟩)
    · exact Or.inl e
    · obtain ⟨y, hy, e1, e2⟩ := strong_some h1
      refine Or.inr ⟨y, hy, e1, ?_⟩
      rw [e2]
      refine ⟨h1, ?_⟩
      rcases h2 with h2 | ⟨h2, m, hm, h3⟩
      · exact Or.inl h2
      · exact Or.inr ⟨h2, m, (hR.2 m).2 ⟨m1, m2, hm⟩, h3⟩
theorem fine_up {k : Cf} {l : List Bk} {v : List Lk} : ∀ y ∈ fineC k l v, y.s.e < y.t.e := fun y hy => (mayL_iff.1 (mem_fineC.1 hy).2).2.2.1.2.2.2.1
theorem just_range {k : Cf} {l : List Bk} {v : List Lk} {R : List Ck} (hR : Justs k l v R) : ∀ x ∈ R, 0 ≤ x.e ∧ x.e ≤ 1048576 := fun x hx => by
  rcases just_bounds ((hR.2 x).1 hx).2.2 with e | e
  · rw [e]; exact ⟨Int.le_refl 0, by decide⟩
  · omega
end

section
set_option linter.unusedSimpArgs false
set_option linter.unusedVariables false
open Go.ChangeShapes Go.WideShapes Go.ChangeAt Go.RowKit

def FinalNew (k : Cf) (l : List Bk) (v : List Lk) (w : World) (e : Ending) (w' : World) : Prop := ∃ F A' c', Finals k l v F ∧ F.length ≤ v.length + 1 ∧ e = .returned (.slice A' F.length c') ∧ CellsAt w' w'.heap.size A' (cksCells F) ∧ F.length ≤ c' ∧ Kept w w'
theorem filter_hit {p : Ck → Bool} {R : List Ck} {j : Nat} (hj : j < R.length) (h : p R[j] = true) : (R.take (j + 1)).filter p = (R.take j).filter p ++ [R[j]] := by
  rw [List.take_succ_eq_append_getElem hj, List.filter_append]; simp [h]
theorem filter_miss {p : Ck → Bool} {R : List Ck} {j : Nat} (hj : j < R.length) (h : p R[j] = false) : (R.take (j + 1)).filter p = (R.take j).filter p := by
  rw [List.take_succ_eq_append_getElem hj, List.filter_append, List.filter_cons_of_neg (by simp [h])]; simp
theorem filter_le (p : Ck → Bool) (R : List Ck) (j : Nat) : ((R.take j).filter p).length ≤ j := Nat.le_trans (List.length_filter_le _ _) (by rw [List.length_take]; omega)
end

end Go.Proofs.Ythaofomhlmajbaa
