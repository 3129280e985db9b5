/-
  The contracts of ffg's May, Strong and Just.
-/
import Derived.Test.YthaofomhlmajbaaGreatFfgKeys
import Derived.Test.YthaofomhlmajbaaGreatFfgReach
import Derived.Test.YthaofomhlmajbaaGreatFfgRefG
import Derived.Test.YthaofomhlmajbaaGreatKeepT
import Derived.Test.YthaofomhlmajbaaGreatGround
namespace Go.Proofs.YthaofomhlmajbaaGreat
set_option maxRecDepth 100000
set_option linter.unusedVariables false
set_option linter.unusedSimpArgs false
set_option linter.unusedSimpArgs false
set_option linter.unusedVariables false
open Go.ChangeShapes Go.WideShapes Go.ChangeAt Go.RowKit

theorem mayL_eq (k : Cf) (l : List Bk) (x : Lk) : mayL k l x = ((mayC k && mayB l) && (valK k x.f && (wayK x.s x.t && underC l x.s.r x.t.r))) := by
  unfold mayL valK wayK
  rw [Bool.eq_iff_iff]
  simp only [Bool.and_eq_true, decide_eq_true_iff]
  constructor
  · rintro ⟨⟨⟨a, b⟩, c⟩, d⟩
    exact ⟨⟨a, b⟩, ⟨c.1, c.2.1⟩, ⟨c.2.2.1, c.2.2.2.1, c.2.2.2.2⟩, d⟩
  · rintro ⟨⟨a, b⟩, ⟨c1, c2⟩, ⟨c3, c4, c5⟩, d⟩
    exact ⟨⟨⟨a, b⟩, c1, c2, c3, c4, c5⟩, d⟩
theorem whoK_fine (k : Cf) (l : List Bk) (v : List Lk) (s t : Ck) (h : (mayC k && mayB l) = true) : whoK (fineC k l v) s t = if (wayK s t && underC l s.r t.r) = true then whoW k v (s, t) else [] := by
  unfold whoW whoK fineC goodC
  rw [List.filter_filter, List.filter_filter]
  cases hw : (wayK s t && underC l s.r t.r) with
  | true =>
    rw [if_pos rfl]
    congr 1
    refine List.filter_congr fun x _ => ?_
    rw [mayL_eq, h, Bool.true_and]
    cases hh : hitK s t x with
    | false => rfl
    | true =>
      obtain ⟨h1, h2⟩ := hitK_iff.1 hh
      rw [h1, h2, hw, Bool.and_true]
  | false =>
    rw [if_neg (by decide)]
    have : v.filter (fun a => hitK s t a && mayL k l a) = [] := by
      rw [List.filter_eq_nil_iff]
      intro x _ hx
      rw [Bool.and_eq_true] at hx
      obtain ⟨h1, h2⟩ := hitK_iff.1 hx.1
      have h3 := hx.2
      rw [mayL_eq, h1, h2, hw, Bool.and_false, Bool.and_false] at h3
      cases h3
    rw [this]; rfl
theorem strongC_eq (k : Cf) (l : List Bk) (v : List Lk) (s t : Ck) : strongC k l v s t = ((mayC k && mayB l) && ((wayK s t && underC l s.r t.r) && enoughK k (whoW k v (s, t)))) := by
  cases h : (mayC k && mayB l) with
  | false =>
    rw [Bool.false_and, Bool.eq_false_iff]
    intro q
    have := strong_may q
    rw [this.1, this.2.1] at h
    cases h
  | true =>
    rw [Bool.true_and]
    show strongK k (fineC k l v) s t = _
    unfold strongK
    rw [whoK_fine k l v s t h]
    cases hw : (wayK s t && underC l s.r t.r) with
    | true => rw [if_pos rfl, Bool.true_and]; rfl
    | false => rw [if_neg (by decide), Bool.false_and]; simp
theorem okW_strong {k : Cf} {l : List Bk} {v : List Lk} {g : Id2 → Option (Nat × Nat)} (h : (mayC k && mayB l) = true) (hB : ReachB l g) (x : Ck × Ck) : okW k g v x = strongC k l v x.1 x.2 := by
  rw [strongC_eq, h, Bool.true_and]
  unfold okW
  rw [hB.under (Bool.and_eq_true_iff.1 h).2]
theorem strong_wf {k : Cf} {l : List Bk} {v : List Lk} (hv : WfLks v) {s t : Ck} (h : strongC k l v s t = true) : WfK s ∧ WfK t := by
  obtain ⟨x, hx, rfl, rfl⟩ := strong_some h
  have := hv x (mem_fineC.1 hx).1
  exact ⟨this.2.1, this.2.2⟩
theorem reach_just {k : Cf} {l : List Bk} {v : List Lk} {A : List (Ck × Ck)} (hv : WfLks v) (hA : ∀ x, WfWay x → (x ∈ A ↔ strongC k l v x.1 x.2 = true)) (hw : ∀ x ∈ A, WfWay x) (x : Ck) : Reach A x ↔ JustK k (fineC k l v) x := by
  constructor
  · intro h
    induction h with
    | first => exact .first
    | next _ hm ih => exact .next ih ((hA _ (hw _ hm)).1 hm)
  · intro h
    induction h with
    | first => exact .first
    | next _ hs ih => exact .next ih ((hA (_, _) (strong_wf hv hs)).2 hs)

end Go.Proofs.YthaofomhlmajbaaGreat
