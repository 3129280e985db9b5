/-
  The contracts of marigoldref07.Doubles and Of.
-/
import Derived.Test.YteamjjkmcomabaaVoteRefPut
import Derived.Test.YteamjjkmcomabaaVoteG
namespace Go.Proofs.Yteamjjkmcomabaa
set_option maxRecDepth 100000
set_option linter.unusedVariables false
set_option linter.unusedSimpArgs false
open Go.ChangeShapes Go.WideShapes Go.ChangeAt Go.RowKit

theorem take_num {N : List Int} {j : Nat} (h : j < N.length) : N.take (j + 1) = N.take j ++ [N[j]] := List.take_succ_eq_append_getElem h
theorem rise_below {N : List Int} (hN : N.Pairwise fun a b => a < b) {j : Nat} (h : j < N.length) : ∀ x ∈ N.take j, x < N[j] := fun x hx => by
  obtain ⟨i, hi, rfl⟩ := List.mem_iff_getElem.1 hx
  rw [List.length_take] at hi
  rw [List.getElem_take]
  exact List.pairwise_iff_getElem.1 hN i j (by omega) h (by omega)
/-- Who is double, of the first ones. -/
def DUp (l : List Vt) (s : Int) (N R : List Int) : Prop := (R.Pairwise fun a b => a < b) ∧ (∀ x, x ∈ R ↔ x ∈ N ∧ Dbl l s x)
theorem DUp.yes {l : List Vt} {s : Int} {M R : List Int} {f : Int} (h : DUp l s M R) (hb : ∀ x ∈ M, x < f) (hd : Dbl l s f) : DUp l s (M ++ [f]) (R ++ [f]) := by
  refine ⟨?_, fun x => ?_⟩
  · rw [List.pairwise_append]
    refine ⟨h.1, List.pairwise_singleton _ _, fun a ha b hb' => ?_⟩
    rw [show b = f by simpa using hb']
    exact hb a ((h.2 a).1 ha).1
  · rw [List.mem_append, h.2 x, List.mem_append]
    constructor
    · rintro (⟨h1, h2⟩ | h1)
      · exact ⟨Or.inl h1, h2⟩
      · have : x = f := by simpa using h1
        rw [this]; exact ⟨Or.inr (by simp), hd⟩
    · rintro ⟨h1 | h1, h2⟩
      · exact Or.inl ⟨h1, h2⟩
      · exact Or.inr h1
theorem DUp.no {l : List Vt} {s : Int} {M R : List Int} {f : Int} (h : DUp l s M R) (hd : ¬ Dbl l s f) : DUp l s (M ++ [f]) R := by
  refine ⟨h.1, fun x => ?_⟩
  rw [h.2 x, List.mem_append]
  constructor
  · rintro ⟨h1, h2⟩; exact ⟨Or.inl h1, h2⟩
  · rintro ⟨h1 | h1, h2⟩
    · exact ⟨h1, h2⟩
    · rw [show x = f by simpa using h1] at h2; exact absurd h2 hd
theorem DUp.done {l : List Vt} {s : Int} {N R : List Int} (h : DUp l s N R) (hN : ∀ x, x ∈ N ↔ ∃ a ∈ l, a.f = x) : Dbls l s R := by
  refine ⟨h.1, fun x => (h.2 x).trans ⟨fun k => k.2, fun d => ⟨(hN x).2 ?_, d⟩⟩⟩
  obtain ⟨a, ha, _, _, h1, _⟩ := d
  exact ⟨a, ha, h1⟩
/-- The votes that count, of the first ones. -/
def CUp (l : List Vt) (q : Int → Bool) (N : List Int) (R : List Vt) : Prop := (R.Pairwise fun a b => a.f < b.f) ∧ (∀ u, u ∈ R ↔ u.f ∈ N ∧ Cnt l q u)
theorem CUp.yes {l : List Vt} {q : Int → Bool} {M : List Int} {R : List Vt} {f : Int} (h : CUp l q M R) (hb : ∀ x ∈ M, x < f) {v : Vt} (hv : Cnt l q v) (hf : v.f = f) : CUp l q (M ++ [f]) (R ++ [v]) := by
  refine ⟨?_, fun u => ?_⟩
  · rw [List.pairwise_append]
    refine ⟨h.1, List.pairwise_singleton _ _, fun a ha b hb' => ?_⟩
    rw [show b = v by simpa using hb', hf]
    exact hb a.f ((h.2 a).1 ha).1
  · rw [List.mem_append, h.2 u, List.mem_append]
    constructor
    · rintro (⟨h1, h2⟩ | h1)
      · exact ⟨Or.inl h1, h2⟩
      · have : u = v := by simpa using h1
        rw [this]; exact ⟨Or.inr (by simp [hf]), hv⟩
    · rintro ⟨h1 | h1, h2⟩
      · exact Or.inl ⟨h1, h2⟩
      · right
        rw [cnt_one h2 hv ((show u.f = f by simpa using h1).trans hf.symm)]
        simp
theorem CUp.no {l : List Vt} {q : Int → Bool} {M : List Int} {R : List Vt} {f : Int} (h : CUp l q M R) (hd : ∀ u, Cnt l q u → u.f ≠ f) : CUp l q (M ++ [f]) R := by
  refine ⟨h.1, fun u => ?_⟩
  rw [h.2 u, List.mem_append]
  constructor
  · rintro ⟨h1, h2⟩; exact ⟨Or.inl h1, h2⟩
  · rintro ⟨h1 | h1, h2⟩
    · exact ⟨h1, h2⟩
    · exact absurd (show u.f = f by simpa using h1) (hd u h2)
theorem CUp.done {l : List Vt} {q : Int → Bool} {N : List Int} {R : List Vt} (h : CUp l q N R) (hN : ∀ x, x ∈ N ↔ ∃ a ∈ l, a.f = x) : Cnts l q R :=
  ⟨h.1, fun u => (h.2 u).trans ⟨fun k => k.2, fun c => ⟨(hN _).2 ⟨u, c.1, rfl⟩, c⟩⟩⟩

end Go.Proofs.Yteamjjkmcomabaa
