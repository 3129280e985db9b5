/-
  What law WeighSplits asks of votes that count, and of the blocks that stand on one.
-/
import Derived.Test.YtlapcnfhnfkbmaaGreatWeighFacts
import Derived.Test.YtlapcnfhnfkbmaaGreatVoteG
namespace Go.Proofs.YtlapcnfhnfkbmaaGreat
set_option maxRecDepth 100000
set_option linter.unusedVariables false
set_option linter.unusedSimpArgs false
theorem Cnts.wf {L R : List Vt} {q : Int → Bool} (h : Cnts L q R) (hw : WfVs L) : WfVs R := fun y hy => hw y ((h.2 y).1 hy).1
theorem Cnts.one {L R : List Vt} {q : Int → Bool} (h : Cnts L q R) : ∀ a ∈ R, ∀ b ∈ R, a.f = b.f → a = b := fun a ha b hb e => by
  obtain ⟨i, hi, rfl⟩ := List.getElem_of_mem ha
  obtain ⟨j, hj, rfl⟩ := List.getElem_of_mem hb
  rcases Nat.lt_trichotomy i j with q | q | q
  · have := h.rise hj q; omega
  · subst q; rfl
  · have := h.rise hi q; omega
theorem kids_wf (l : List Bk) (x : Id2) : ∀ z ∈ kidsC l x, WfI z := fun z hz => by
  cases h : mayB l with
  | false => rw [kidsC_no x h] at hz; cases hz
  | true =>
    rw [kidsC_yes x h] at hz
    obtain ⟨i, hi, rfl, _⟩ := mem_kids.1 hz
    exact nameB_lt _
theorem kids_le (l : List Bk) (x : Id2) : (kidsC l x).length ≤ l.length := by
  cases h : mayB l with
  | false => rw [kidsC_no x h]; simp
  | true =>
    rw [kidsC_yes x h]
    unfold kidsB namesB
    rw [List.length_map]
    exact List.length_filter_le _ _
theorem chain_empty {l : List Bk} {x : Id2} (h : mayB l = true) (e : (chainC l x).length = 0) (k : Cf) (m : List Vt) : onC k l m x = 0 := by
  cases q : standsB l x with
  | false => exact onC_none fun y _ => under_unknown q y.p
  | true =>
    obtain ⟨r, s⟩ := chainB_head l x
    rw [chainC_yes h q, s] at e
    simp at e
theorem chain_full {l : List Bk} {x : Id2} (h : mayB l = true) (e : ¬ (chainC l x).length = 0) {k : Cf} {L m : List Vt} {s : Int → Bool} (hm : Cnts L s m) : onC k l m x = sumC k l m (kidsC l x) + weightC k (ownV m x) := by
  cases q : standsB l x with
  | false => exact absurd (by rw [chainC_no fun _ => q]; rfl) e
  | true => rw [kidsC_yes x h]; exact splits h hm.one q
theorem own_le (m : List Vt) (x : Id2) (j : Nat) : (ownV (m.take j) x).length ≤ j := by
  have := ownV_length (m.take j) x
  rw [List.length_take] at this
  omega
theorem own_hit {m : List Vt} {x : Id2} {j : Nat} (hj : j < m.length) (h : sameI m[j].p x = true) : ownV (m.take (j + 1)) x = ownV (m.take j) x ++ [m[j].f] := by
  rw [List.take_succ_eq_append_getElem hj, ownV_hit _ (of_decide_eq_true h)]
theorem own_miss {m : List Vt} {x : Id2} {j : Nat} (hj : j < m.length) (h : sameI m[j].p x = false) : ownV (m.take (j + 1)) x = ownV (m.take j) x := by
  rw [List.take_succ_eq_append_getElem hj, ownV_miss _ (of_decide_eq_false h)]

end Go.Proofs.YtlapcnfhnfkbmaaGreat
