/-
  Plain mathematics of package array: the array of blocks, with any votes on them, may be.
-/
import Derived.Test.YtabmdilhfiembaaArrayGrow
import Derived.Test.YtabmdilhfiembaaArrayGhost
namespace Go.Proofs.Ytabmdilhfiembaa
set_option maxRecDepth 100000
set_option linter.unusedVariables false
set_option linter.unusedSimpArgs false
set_option linter.unusedVariables false

theorem name_not_zid {l : List Bk} (h : mayB l = true) {i : Nat} (hi : i < l.length) : nameB l[i] ≠ zid := fun e => by
  have h1 := may_pos h hi
  rw [e, may_zero h] at h1
  cases h1
theorem votes_stand {k : Cf} {l : List Bk} (h : mayB l = true) (h60 : l.length ≤ 60) (v : List Vt) : StandI (votesTo k (bareTo l) v) := by
  have hG := votes_good k l v
  have hL : (votesTo k (bareTo l) v).length = l.length := votes_length k l v
  have hx : ∀ i (hi : i < l.length), (itA (votesTo k (bareTo l) v) i).x = nameB l[i] := fun i hi => (hG.x i).trans (bare_at h hi).1
  refine ⟨by omega, fun i hi => ?_⟩
  have hi' : i < l.length := by omega
  have hr := hG.right (bare_right l) i hi
  have ho := hG.own i hi
  refine ⟨by rw [hx i hi']; exact name_not_zid h hi', fun j hj e => ?_, hr.1, hr.2, ho.1, ho.2⟩
  rw [hx i hi', hx j (by omega)] at e
  have h1 := may_pos h (show j < l.length by omega)
  rw [e, may_pos h hi'] at h1
  injection h1 with h1
  omega
theorem from_may (k : Cf) (l : List Bk) (v : List Vt) : MayI (fromC k l v) := by
  by_cases q : mayC k = true ∧ mayB l = true ∧ l.length ≤ 60
  · rw [fromC_yes v q.1 q.2.1 q.2.2]
    exact anew_may (votes_stand q.2.1 q.2.2 v)
  · rw [fromC_no v q]; exact nil_may
theorem from_length (k : Cf) (l : List Bk) (v : List Vt) : (fromC k l v).length = l.length ∨ (fromC k l v).length = 0 := by
  by_cases q : mayC k = true ∧ mayB l = true ∧ l.length ≤ 60
  · rw [fromC_yes v q.1 q.2.1 q.2.2, anewC_length, votes_length]; exact Or.inl rfl
  · rw [fromC_no v q]; exact Or.inr rfl
theorem from_same_length (k : Cf) (l : List Bk) (v m : List Vt) : (fromC k l v).length = (fromC k l m).length := by
  by_cases q : mayC k = true ∧ mayB l = true ∧ l.length ≤ 60
  · rw [fromC_yes v q.1 q.2.1 q.2.2, fromC_yes m q.1 q.2.1 q.2.2, anewC_length, anewC_length, votes_length, votes_length]
  · rw [fromC_no v q, fromC_no m q]

/-! ### With votes that are one of each: what is put on an item is what those weigh who are for it -/
theorem votes_own {k : Cf} {l : List Bk} (h : mayB l = true) : ∀ (n : Nat) (m : List Vt), m.length = n → m.Pairwise (fun a b => a.f < b.f) → ∀ i (hi : i < l.length), (itA (votesTo k (bareTo l) m) i).o = weightC k (ownV m (nameB l[i]))
  | 0, m, hn, _, i, hi => by
    rw [List.eq_nil_of_length_eq_zero hn]
    show (itA (bareTo l) i).o = weightC k []
    rw [bare_own, weight_nil]
  | n + 1, m, hn, hp, i, hi => by
    obtain ⟨r, y, rfl⟩ : ∃ r y, m = r ++ [y] := ⟨m.dropLast, m.getLast (by intro e; rw [e] at hn; cases hn), (List.dropLast_concat_getLast _).symm⟩
    rw [List.length_append] at hn
    have hp' := List.pairwise_append.1 hp
    have ih := votes_own (k := k) h n r (by simpa using hn) hp'.1
    have hG := votes_good k l r
    have hL : (votesTo k (bareTo l) r).length = l.length := votes_length k l r
    have hx : ∀ i (hi : i < l.length), (itA (votesTo k (bareTo l) r) i).x = nameB l[i] := fun i hi => (hG.x i).trans (bare_at h hi).1
    rw [votes_snoc]
    have hadd : ∀ j (hj : j < l.length), y.p = nameB l[j] → weightC k (ownV (r ++ [y]) (nameB l[j])) = weightC k (ownV r (nameB l[j])) + weightC k [y.f] := fun j hj e => by
      rw [ownV_hit r e]
      refine (weight_both k _ _).2 fun f hf => ?_
      obtain ⟨z, hz, _, hzf⟩ := mem_ownV.1 hf
      have := hp'.2.2 z hz y (by simp)
      simp
      omega
    rcases posI_way (votesTo k (bareTo l) r) y.p with ⟨q, hq⟩ | ⟨j, q, hj, hjx⟩
    · rw [addV_none q, ih i hi, ownV_miss r]
      intro e
      exact hq i (by omega) ((hx i hi).trans e.symm)
    · have hj' : j < l.length := by omega
      have hyj : y.p = nameB l[j] := hjx.symm.trans (hx j hj')
      have ho : ownB ((itA (votesTo k (bareTo l) r) j).o + weightC k [y.f]) = true := by
        rw [ih j hj', ← hadd j hj' hyj]
        have := weight_bounds k (ownV (r ++ [y]) (nameB l[j]))
        exact decide_eq_true (by omega)
      rw [addV_ok q ho]
      by_cases e : i = j
      · subst e
        rw [ownI_at hj, hadd i hi hyj, ih i hi]
      · rw [ownI_other e, ih i hi, ownV_miss r]
        intro e2
        have h1 := may_pos h hi
        rw [← e2, hyj, may_pos h hj'] at h1
        injection h1 with h1
        omega
theorem votes_alike {k : Cf} {l : List Bk} (h : mayB l = true) {m : List Vt} (hp : m.Pairwise (fun a b => a.f < b.f)) : Alike (votesTo k (bareTo l) m) (voteL k l m) := by
  have hG := votes_good k l m
  have hL : (votesTo k (bareTo l) m).length = l.length := votes_length k l m
  have hV : (voteL k l m).length = l.length := fromL_length _ _
  have hat : ∀ i (hi : i < l.length), itA (voteL k l m) i = ⟨nameB l[i], optI (posB l l[i].p), weightC k (ownV m (nameB l[i])), 0, 0, 0⟩ := fun i hi => fromL_at hi
  refine ⟨by omega, fun i => ?_, fun i => ?_, fun i => ?_⟩
  · by_cases hi : i < l.length
    · rw [hat i hi, hG.x, (bare_at h hi).1]
    · rw [itA_out (by omega), itA_out (by omega)]
  · by_cases hi : i < l.length
    · rw [hat i hi, hG.p, (bare_at h hi).2]
    · rw [itA_out (by omega), itA_out (by omega)]
  · by_cases hi : i < l.length
    · rw [hat i hi, votes_own h _ m rfl hp i hi]
    · rw [itA_out (by omega), itA_out (by omega)]
theorem rise_one {m : List Vt} (hp : m.Pairwise (fun a b => a.f < b.f)) : ∀ a ∈ m, ∀ b ∈ m, a.f = b.f → a = b := by
  intro a ha b hb e
  obtain ⟨i, hi, rfl⟩ := List.mem_iff_getElem.1 ha
  obtain ⟨j, hj, rfl⟩ := List.mem_iff_getElem.1 hb
  have hw := List.pairwise_iff_getElem.1 hp
  rcases Nat.lt_trichotomy i j with q | q | q
  · have := hw i j hi hj q; omega
  · subst q; rfl
  · have := hw j i hj hi q; omega
/-- The top of the array is the head. -/
theorem top_head {k : Cf} {l : List Bk} (h : mayB l = true) (hl : (fromC k l []).length = l.length) {m : List Vt} (hp : m.Pairwise (fun a b => a.f < b.f)) : topC (fromC k l m) = headC k l m := by
  by_cases q : mayC k = true ∧ mayB l = true ∧ l.length ≤ 60
  · have hS := votes_stand (k := k) h q.2.2 m
    have hA := votes_alike (k := k) h hp
    rw [fromC_yes m q.1 h q.2.2, from_top h (rise_one hp), ← hA.best]
    cases g : bC (votesTo k (bareTo l) m) (-1) with
    | none =>
      rw [topC_none (mayI_yes (anew_may hS)) (by rw [(anewC_alike _).best]; exact g)]
    | some r =>
      rw [top_of_root hS g]
      simp only
      rw [hA.head, hA.x]
  · rw [fromC_no [] q] at hl
    have hn : l = [] := List.eq_nil_of_length_eq_zero (by simpa using hl.symm)
    rw [fromC_no m q, top_nil]
    subst hn
    unfold headC
    rw [headX_stop]
    unfold bestC
    cases e : bestTo (onC k [] m) (kidsC [] zid) with
    | none => rfl
    | some z =>
      have := bestTo_mem e
      have h2 := kids_le [] zid
      rw [List.eq_nil_of_length_eq_zero (Nat.le_zero.1 h2)] at this
      cases this

end Go.Proofs.Ytabmdilhfiembaa
