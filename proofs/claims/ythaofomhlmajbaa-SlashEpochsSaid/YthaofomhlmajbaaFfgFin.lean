/-
  The contract of ffg's Final.
-/
import Derived.Test.YthaofomhlmajbaaFfgTop
import Derived.Test.YthaofomhlmajbaaFfgMid
import Derived.Test.YthaofomhlmajbaaFfgDel
import Derived.Test.YthaofomhlmajbaaFfgRefG
namespace Go.Proofs.Ythaofomhlmajbaa
set_option maxRecDepth 100000
set_option linter.unusedVariables false
set_option linter.unusedSimpArgs false
set_option linter.unusedSimpArgs false
set_option linter.unusedVariables false
open Go.ChangeShapes Go.WideShapes Go.ChangeAt Go.RowKit

theorem HasCells.at_heap {w w' : World} {b : Nat} {xs : List Value} (h : HasCells w b xs) (hs : w.heap.size ≤ w'.heap.size) (e : w'.heap[b]? = w.heap[b]?) : HasCells w' b xs :=
  ⟨by have := h.1; omega, fun j u hu => (cell_of_heap (p := ⟨b, j, none⟩) e).trans (h.2 j u hu)⟩
theorem Group.above {α γ : Type} {K : KeyKind α} {S : RowKind γ} {B hi : Nat} {f : α → List γ} {b m : Nat} {w w' : World} (h : Group K S B f b m w) (hb : hi ≤ b) (hs : w.heap.size ≤ w'.heap.size) (k : ∀ i, hi ≤ i → i < w.heap.size → w'.heap[i]? = w.heap[i]?) : Group K S B f b m w' := by
  obtain ⟨V, h0, h1, hB, h2, h3⟩ := h
  refine ⟨V, h0.at (k _ hb h0.lt), h1, by omega, fun x hx => ⟨(h2 x hx).1, ?_⟩, h3⟩
  rcases (h2 x hx).2 with q | ⟨g, cap, cur, hv, hg, hh, r⟩
  · exact Or.inl q
  · exact Or.inr ⟨g, cap, cur, hv, hg, by rw [k g (by omega) ((h2 x hx).lt g (by rw [hv]; rfl)).2]; exact hh, r⟩
theorem RDel.stand {bo mo : Nat} {g : Id2 → Option (Nat × Nat)} {bg mg Bg : Nat} {A : List (Ck × Ck)} {bj mj Bj : Nat} {R : List Ck} {hi : Nat} {W8 w V : World} (h1 : ReachM bo mo g W8) (h2 : Group ckKey ckRow Bg (goesOf A) bg mg W8) (h3 : Group ckKey ckRow Bg (goesOf A) bg mg W8 → Group epKey ckRow Bj (epoF R) bj mj w) (hb : hi ≤ bj) (wa : ∀ x ∈ A, WfWay x) (wr : ∀ x ∈ R, WfK x) (la : A.length ≤ 10000) (lr : R.length ≤ 20000) (k : Kept W8 w) (hR : RDel W8.heap.size hi w V) : Stand bo mo g bg mg Bg A bj mj Bj R V :=
  have kk : Kept W8 V := k.trans' hR.1
  ⟨h1.kept kk, h2.kept kk, (h3 h2).above hb hR.2.1 hR.2.2, wa, wr, la, lr⟩
theorem isFin_eq {k : Cf} {l : List Bk} {v : List Lk} {g : Id2 → Option (Nat × Nat)} {A : List (Ck × Ck)} {R : List Ck} (hm : (mayC k && mayB l) = true) (hB : ReachB l g) (hwv : WfLks v) (hA : ∀ x, WfWay x → (x ∈ A ↔ okW k g v x = true)) (hw : ∀ x ∈ A, WfWay x) (hJ : Justs k l v R) {x : Ck} (hx : x ∈ R) : isFinQ g R A x = finalB k l v x := by
  obtain ⟨m1, m2, hj⟩ := (hJ.2 x).1 hx
  have hxr := just_range hJ x hx
  have hin : ∀ t, t ∈ goesOf A x ↔ strongC k l v x t = true := fun t => by
    rw [mem_goesOf]
    constructor
    · intro h
      have := (hA _ (hw _ h)).1 h
      rwa [okW_strong hm hB] at this
    · intro h
      exact (hA (x, t) (strong_wf hwv h)).2 (by rw [okW_strong hm hB]; exact h)
  have hu := hB.under (Bool.and_eq_true_iff.1 hm).2
  have hwr : IntKind.i64.wrap (x.e + 1) = x.e + 1 := by rw [IntKind.wrap_i64]; omega
  have hmid : ∀ t, midsQ g R x t = true ↔ ∃ m, JustK k (fineC k l v) m ∧ m.e = x.e + 1 ∧ underC l x.r m.r = true ∧ underC l m.r t.r = true := fun t => by
    unfold midsQ epoF
    rw [hwr, List.any_eq_true]
    constructor
    · rintro ⟨m, hm', h⟩
      obtain ⟨h1, h2⟩ := List.mem_filter.1 hm'
      unfold midQ at h
      rw [Bool.and_eq_true, hu, hu] at h
      exact ⟨m, ((hJ.2 m).1 h1).2.2, of_decide_eq_true h2, h.1, h.2⟩
    · rintro ⟨m, h1, h2, h3, h4⟩
      exact ⟨m, List.mem_filter.2 ⟨(hJ.2 m).2 ⟨m1, m2, h1⟩, decide_eq_true h2⟩, by unfold midQ; rw [Bool.and_eq_true, hu, hu]; exact ⟨h3, h4⟩⟩
  rw [Bool.eq_iff_iff, finalB_iff]
  unfold isFinQ FinalK
  rw [Bool.or_eq_true, sameK_iff, List.any_eq_true]
  refine or_congr Iff.rfl (exists_congr fun t => ?_)
  rw [hin]
  refine and_congr_right fun hs => ?_
  obtain ⟨_, _, b1, b2, b3, _⟩ := strong_may hs
  have hwt : IntKind.i64.wrap (t.e - x.e) = t.e - x.e := by rw [IntKind.wrap_i64]; omega
  unfold finQ
  rw [hwt]
  by_cases e1 : t.e - x.e = 1
  · rw [if_pos e1]
    exact ⟨fun _ => Or.inl (by omega), fun _ => rfl⟩
  · rw [if_neg e1]
    by_cases e2 : t.e - x.e = 2
    · rw [if_pos e2, hmid]
      refine ⟨fun h => Or.inr ⟨by omega, h⟩, fun h => ?_⟩
      rcases h with h | h
      · omega
      · exact h.2
    · rw [if_neg e2]
      refine ⟨fun h => (by cases h), fun h => ?_⟩
      rcases h with h | ⟨h, _⟩
      · omega
      · omega
theorem FinalNew.nil {k : Cf} {l : List Bk} {v : List Lk} {w w' : World} (h : ¬ (mayC k = true ∧ mayB l = true)) (q : Kept w w') : FinalNew k l v w (.returned (.slice none 0 0)) w' := ⟨[], none, 0, ⟨[], justs_none v h, rfl⟩, by simp, rfl, CellsAt.nil, by simp, q⟩

end Go.Proofs.Ythaofomhlmajbaa
