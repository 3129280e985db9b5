/-
  One more vote: what follows; append of votes at a step of a region that draws its order.
-/
import Derived.Test.YtlapcnfhnfkbmaaGreatVoteG
import Derived.Test.YtlapcnfhnfkbmaaGreatVoteThere
import Derived.Test.YtlapcnfhnfkbmaaGreatVoteStep
namespace Go.Proofs.YtlapcnfhnfkbmaaGreat
set_option maxRecDepth 100000
set_option linter.unusedVariables false
set_option linter.unusedSimpArgs false
open Go.ChangeShapes Go.WideShapes Go.ChangeAt Go.RowKit

theorem more_cnt {L : List Vt} {q : Int → Bool} {u v : Vt} (hf : u.f ≠ v.f) : Cnt (L ++ [v]) q u ↔ Cnt L q u := by
  have hm : u ∈ L ++ [v] ↔ u ∈ L := by
    rw [List.mem_append]
    constructor
    · rintro (h | h)
      · exact h
      · exact absurd (by rw [show u = v by simpa using h]) hf
    · exact Or.inl
  have hd : ∀ s, Dbl (L ++ [v]) s u.f ↔ Dbl L s u.f := fun s => dbl_snoc_other fun k => hf k.1.symm
  unfold Cnt
  rw [hm]
  constructor
  · rintro ⟨h1, h2, h3, h4⟩
    exact ⟨h1, h2, fun s hs d => h3 s hs ((hd s).2 d), fun a ha => h4 a (List.mem_append_left _ ha)⟩
  · rintro ⟨h1, h2, h3, h4⟩
    refine ⟨h1, h2, fun s hs d => h3 s hs ((hd s).1 d), fun a ha e => ?_⟩
    rcases List.mem_append.1 ha with h | h
    · exact h4 a h e
    · have : a = v := by simpa using h
      rw [this] at e
      exact absurd e.symm hf
theorem mem_wo {f : Int} {R : List Vt} {u : Vt} : u ∈ wo f R ↔ u ∈ R ∧ u.f ≠ f := by simp [wo, List.mem_filter]
theorem more_wo {L : List Vt} {q : Int → Bool} {v : Vt} {R S : List Vt} (hR : Cnts L q R) (hS : Cnts (L ++ [v]) q S) : wo v.f R = wo v.f S := by
  refine rise_eq Vt.f (hR.1.filter _) (hS.1.filter _) fun u => ?_
  rw [mem_wo, mem_wo]
  constructor
  · rintro ⟨h1, h2⟩; exact ⟨(hS.2 u).2 ((more_cnt h2).2 ((hR.2 u).1 h1)), h2⟩
  · rintro ⟨h1, h2⟩; exact ⟨(hR.2 u).2 ((more_cnt h2).1 ((hS.2 u).1 h1)), h2⟩
theorem count_le_one {α : Type} (k : α → Int) (f : Int) {R : List α} (h : R.Pairwise (fun a b => k a < k b)) : R.countP (fun a => decide (k a = f)) ≤ 1 := by
  by_cases e : ∃ v ∈ R, k v = f
  · obtain ⟨v, hv, e⟩ := e
    rw [count_one k h v hv e]; exact Nat.le_refl _
  · rw [count_none k fun v hv q => e ⟨v, hv, q⟩]; omega
theorem split_len {α : Type} (k : α → Int) (f : Int) (R : List α) : R.length = (R.filter fun a => decide (k a ≠ f)).length + R.countP (fun a => decide (k a = f)) := by
  induction R with
  | nil => rfl
  | cons a R ih =>
    rw [List.length_cons, List.filter_cons, List.countP_cons, ih]
    by_cases e : k a = f
    · simp [e]; omega
    · simp [e]; omega
theorem more_len {L : List Vt} {q : Int → Bool} {v : Vt} {R S : List Vt} (hR : Cnts L q R) (hS : Cnts (L ++ [v]) q S) : S.length ≤ R.length + 1 := by
  have h1 := split_len Vt.f v.f S
  have h2 := split_len Vt.f v.f R
  have h3 := count_le_one Vt.f v.f hS.1
  have h4 := more_wo hR hS
  unfold wo at h4
  rw [← h4] at h1
  omega
theorem more_dbls {L : List Vt} {s : Int} {v : Vt} {D E : List Int} (hD : Dbls L s D) (hE : Dbls (L ++ [v]) s E) : D.length ≤ E.length ∧ E.length ≤ D.length + 1 := by
  have h1 := split_len (fun x : Int => x) v.f D
  have h2 := split_len (fun x : Int => x) v.f E
  have h3 := count_le_one (fun x : Int => x) v.f hE.1
  have h4 : (D.filter fun a => decide (a ≠ v.f)) = E.filter fun a => decide (a ≠ v.f) := by
    refine rise_eq (fun x : Int => x) (hD.1.filter _) (hE.1.filter _) fun u => ?_
    simp only [List.mem_filter, decide_eq_true_eq]
    constructor
    · rintro ⟨a, b⟩; exact ⟨(hE.2 u).2 (Dbl.of (fun x hx => List.mem_append_left _ hx) ((hD.2 u).1 a)), b⟩
    · rintro ⟨a, b⟩; exact ⟨(hD.2 u).2 ((dbl_snoc_other fun k => b k.1.symm).1 ((hE.2 u).1 a)), b⟩
  have h5 : D.countP (fun a => decide (a = v.f)) ≤ E.countP (fun a => decide (a = v.f)) := by
    by_cases e : v.f ∈ D
    · rw [count_one (fun x : Int => x) hD.1 v.f e rfl, count_one (fun x : Int => x) hE.1 v.f ((hE.2 _).2 (Dbl.of (fun x hx => List.mem_append_left _ hx) ((hD.2 _).1 e))) rfl]
      exact Nat.le_refl _
    · rw [count_none (fun x : Int => x) fun x hx q => e (by rw [← show x = v.f from q]; exact hx)]
      exact Nat.zero_le _
  rw [h4] at h1
  omega

end Go.Proofs.YtlapcnfhnfkbmaaGreat
