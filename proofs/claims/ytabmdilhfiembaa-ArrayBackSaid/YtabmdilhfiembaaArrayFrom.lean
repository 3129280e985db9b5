/-
  Plain mathematics of package array: the array of blocks as it is gathered, votes put on it one behind the other.
-/
import Derived.Test.YtabmdilhfiembaaArrayOps
import Derived.Test.YtabmdilhfiembaaGhostFacts
namespace Go.Proofs.Ytabmdilhfiembaa
set_option maxRecDepth 100000
set_option linter.unusedVariables false
set_option linter.unusedSimpArgs false
set_option linter.unusedVariables false

/-! ### The blocks, one behind the other -/
def bareTo (l : List Bk) : List It := l.foldl (fun a b => a ++ [⟨nameB b, posI a b.p, 0, 0, 0, 0⟩]) []
theorem bare_snoc (l : List Bk) (b : Bk) : bareTo (l ++ [b]) = bareTo l ++ [⟨nameB b, posI (bareTo l) b.p, 0, 0, 0, 0⟩] := by simp [bareTo]
theorem bare_take {l : List Bk} {k : Nat} (hk : k < l.length) : bareTo (l.take (k + 1)) = bareTo (l.take k) ++ [⟨nameB l[k], posI (bareTo (l.take k)) l[k].p, 0, 0, 0, 0⟩] := by
  rw [List.take_succ_eq_append_getElem hk, bare_snoc]
theorem bare_put (l : List Bk) (b : Bk) : bareTo (l ++ [b]) = putI (bareTo l) (nameB b) (posI (bareTo l) b.p) := bare_snoc l b
theorem snoc_ind {α : Type} {P : List α → Prop} (h0 : P []) (h1 : ∀ l b, P l → P (l ++ [b])) : ∀ (n : Nat) (l : List α), l.length = n → P l
  | 0, l, h => by rw [List.eq_nil_of_length_eq_zero h]; exact h0
  | n + 1, l, h => by
    obtain ⟨r, b, rfl⟩ : ∃ r b, l = r ++ [b] := ⟨l.dropLast, l.getLast (by intro e; rw [e] at h; cases h), (List.dropLast_concat_getLast _).symm⟩
    rw [List.length_append] at h
    exact h1 r b (snoc_ind h0 h1 n r (by simpa using h))
theorem bare_length (l : List Bk) : (bareTo l).length = l.length := snoc_ind (P := fun l => (bareTo l).length = l.length) rfl (fun l b h => by rw [bare_snoc]; simp [h]) _ l rfl
theorem bare_ids (l : List Bk) : idsI (bareTo l) = namesB l := snoc_ind (P := fun l => idsI (bareTo l) = namesB l) rfl (fun l b h => by
  rw [bare_snoc]; unfold idsI namesB at *; rw [List.map_append, List.map_append, h]; rfl) _ l rfl
theorem bare_pos (l : List Bk) (x : Id2) : posI (bareTo l) x = optI (posB l x) := by
  unfold posI posV posB
  rw [bare_ids]
  cases posN (namesB l) x <;> rfl
theorem posI_lt (a : List It) (x : Id2) : posI a x < a.length := by
  rcases posI_way a x with ⟨h, _⟩ | ⟨k, h, hk, _⟩
  · rw [h]; omega
  · rw [h]; omega
theorem bare_right (l : List Bk) : AllRight (bareTo l) := snoc_ind (P := fun l => AllRight (bareTo l)) (fun i hi => by simp [bareTo] at hi) (fun l b h => by
  rw [bare_put]; exact putI_right h _ (posI_ge _ _) (posI_lt _ _)) _ l rfl
theorem bare_own (l : List Bk) : ∀ i, (itA (bareTo l) i).o = 0 := snoc_ind (P := fun l => ∀ i, (itA (bareTo l) i).o = 0) (fun i => rfl) (fun l b h i => by
  rw [bare_put]
  by_cases e : i < (bareTo l).length
  · rw [putI_at e]; exact h i
  · by_cases e2 : i = (bareTo l).length
    · subst e2; rw [putI_new]
    · rw [itA_out (by rw [putI_length]; omega)]; rfl) _ l rfl
theorem bare_at {l : List Bk} (hm : mayB l = true) {i : Nat} (hi : i < l.length) : (itA (bareTo l) i).x = nameB l[i] ∧ (itA (bareTo l) i).p = optI (posB l l[i].p) := by
  suffices H : ∀ (n : Nat) (m : List Bk), m.length = n → ∀ i (hi : i < m.length), (itA (bareTo m) i).x = nameB m[i] ∧ (itA (bareTo m) i).p = posI (bareTo (m.take i)) m[i].p by
    obtain ⟨h1, h2⟩ := H _ l rfl i hi
    refine ⟨h1, ?_⟩
    rw [h2, bare_pos]
    rcases standsB_iff.1 (may_stands hm hi) with ⟨j, q⟩ | q
    · have hr := rank_parent hm hi
      rw [rank_some q] at hr
      rw [q]
      have e : posB (l.take i) l[i].p = some j := by
        have hj := posB_lt q
        have hn := posB_name q
        have h3 := may_pos hm hj
        unfold posB at q ⊢
        have hnt : namesB (l.take i) = (namesB l).take i := by unfold namesB; rw [List.map_take]
        rw [hnt]
        cases r : posN ((namesB l).take i) l[i].p with
        | some j' => rw [posN_take r] at q; injection q with q; rw [q]
        | none =>
          exfalso
          refine posN_none.1 r ?_
          rw [← hn]
          have : (namesB l)[j]'(by rw [namesB_length]; exact hj) = nameB l[j] := by simp [namesB]
          rw [← this]
          exact List.mem_take_iff_getElem.2 ⟨j, by rw [namesB_length]; omega, rfl⟩
      rw [e]
    · have h0 : posB l l[i].p = none := by rw [q]; exact may_zero hm
      rw [h0]
      have e : posB (l.take i) l[i].p = none := by
        unfold posB at h0 ⊢
        have hnt : namesB (l.take i) = (namesB l).take i := by unfold namesB; rw [List.map_take]
        rw [hnt]
        refine posN_none.2 fun h => posN_none.1 h0 (List.mem_of_mem_take h)
      rw [e]
  intro n
  induction n with
  | zero => intro m h i hi; omega
  | succ n ih =>
    intro m h i hi
    obtain ⟨r, b, rfl⟩ : ∃ r b, m = r ++ [b] := ⟨m.dropLast, m.getLast (by intro e; rw [e] at h; cases h), (List.dropLast_concat_getLast _).symm⟩
    rw [List.length_append] at h
    have hr : r.length = n := by simpa using h
    rw [bare_put]
    by_cases e : i < r.length
    · obtain ⟨h1, h2⟩ := ih r hr i e
      rw [putI_at (by rw [bare_length]; exact e), h1, h2, List.getElem_append_left e, List.take_append_of_le_length (by omega)]
      exact ⟨rfl, rfl⟩
    · have e2 : i = r.length := by simp at hi; omega
      subst e2
      have e3 : itA (putI (bareTo r) (nameB b) (posI (bareTo r) b.p)) r.length = ⟨nameB b, posI (bareTo r) b.p, 0, 0, 0, 0⟩ := by
        have := putI_new (bareTo r) (nameB b) (posI (bareTo r) b.p)
        rw [bare_length] at this
        exact this
      rw [e3]
      simp

/-! ### Votes put on it -/
def addV (k : Cf) (a : List It) (y : Vt) : List It :=
  if 0 ≤ posI a y.p ∧ ownB ((itA a (posI a y.p).toNat).o + weightC k [y.f]) = true then ownI a (posI a y.p).toNat ((itA a (posI a y.p).toNat).o + weightC k [y.f]) else a
def votesTo (k : Cf) (a : List It) (v : List Vt) : List It := v.foldl (addV k) a
theorem votes_snoc (k : Cf) (a : List It) (v : List Vt) (y : Vt) : votesTo k a (v ++ [y]) = addV k (votesTo k a v) y := by simp [votesTo]
theorem votes_take {k : Cf} {a : List It} {v : List Vt} {j : Nat} (hj : j < v.length) : votesTo k a (v.take (j + 1)) = addV k (votesTo k a (v.take j)) v[j] := by
  rw [List.take_succ_eq_append_getElem hj, votes_snoc]
theorem addV_none {k : Cf} {a : List It} {y : Vt} (h : posI a y.p = -1) : addV k a y = a := by unfold addV; rw [if_neg (fun q => by omega)]
theorem addV_full {k : Cf} {a : List It} {y : Vt} {i : Nat} (h : posI a y.p = (i : Int)) (h2 : ownB ((itA a i).o + weightC k [y.f]) = false) : addV k a y = a := by
  unfold addV; rw [h, Int.toNat_natCast, if_neg (fun q => by rw [h2] at q; cases q.2)]
theorem addV_ok {k : Cf} {a : List It} {y : Vt} {i : Nat} (h : posI a y.p = (i : Int)) (h2 : ownB ((itA a i).o + weightC k [y.f]) = true) : addV k a y = ownI a i ((itA a i).o + weightC k [y.f]) := by
  unfold addV; rw [h, Int.toNat_natCast, if_pos ⟨by omega, h2⟩]
theorem addV_way (k : Cf) (a : List It) (y : Vt) : addV k a y = a ∨ ∃ i, i < a.length ∧ ownB ((itA a i).o + weightC k [y.f]) = true ∧ addV k a y = ownI a i ((itA a i).o + weightC k [y.f]) := by
  rcases posI_way a y.p with ⟨h, _⟩ | ⟨i, h, hi, _⟩
  · exact Or.inl (addV_none h)
  · cases q : ownB ((itA a i).o + weightC k [y.f]) with
    | true => exact Or.inr ⟨i, hi, q, addV_ok h q⟩
    | false => exact Or.inl (addV_full h q)
theorem ownI_ids (a : List It) (i : Nat) (v : Int) : idsI (ownI a i v) = idsI a := by
  unfold idsI
  refine List.ext_getElem (by simp [ownI]) fun k h1 h2 => ?_
  have hk : k < a.length := by simpa [ownI] using h1
  rw [List.getElem_map, List.getElem_map, ← itA_get (by rw [ownI_length]; exact hk), ← itA_get hk, ownI_x]
theorem addV_ids (k : Cf) (a : List It) (y : Vt) : idsI (addV k a y) = idsI a := by
  rcases addV_way k a y with h | ⟨i, _, _, h⟩
  · rw [h]
  · rw [h, ownI_ids]
theorem addV_length (k : Cf) (a : List It) (y : Vt) : (addV k a y).length = a.length := by
  rcases addV_way k a y with h | ⟨i, _, _, h⟩
  · rw [h]
  · rw [h, ownI_length]
theorem addV_p (k : Cf) (a : List It) (y : Vt) (i : Nat) : (itA (addV k a y) i).p = (itA a i).p := by
  rcases addV_way k a y with h | ⟨j, _, _, h⟩
  · rw [h]
  · rw [h, ownI_p]
theorem addV_x (k : Cf) (a : List It) (y : Vt) (i : Nat) : (itA (addV k a y) i).x = (itA a i).x := by
  rcases addV_way k a y with h | ⟨j, _, _, h⟩
  · rw [h]
  · rw [h, ownI_x]
structure GoodI (a b : List It) : Prop where
  len : b.length = a.length
  ids : idsI b = idsI a
  p : ∀ i, (itA b i).p = (itA a i).p
  x : ∀ i, (itA b i).x = (itA a i).x
  own : ∀ i, i < b.length → 0 ≤ (itA b i).o ∧ (itA b i).o ≤ 1125899906842624
theorem GoodI.right {a b : List It} (h : GoodI a b) (hr : AllRight a) : AllRight b := fun i hi => by rw [h.p]; exact hr i (by rw [← h.len]; exact hi)
theorem GoodI.pos {a b : List It} (h : GoodI a b) (x : Id2) : posI b x = posI a x := by unfold posI; rw [h.ids]
theorem GoodI.add {a b : List It} (h : GoodI a b) (k : Cf) (y : Vt) : GoodI a (addV k b y) where
  len := (addV_length k b y).trans h.len
  ids := (addV_ids k b y).trans h.ids
  p := fun i => (addV_p k b y i).trans (h.p i)
  x := fun i => (addV_x k b y i).trans (h.x i)
  own := by
    rcases addV_way k b y with e | ⟨i, hi, ho, e⟩
    · rw [e]; exact h.own
    · rw [e]; exact ownI_own h.own hi (ownB_yes ho)
theorem bare_good (l : List Bk) : GoodI (bareTo l) (bareTo l) := ⟨rfl, rfl, fun _ => rfl, fun _ => rfl, fun i _ => by rw [bare_own]; exact ⟨Int.le_refl 0, (by decide : (0 : Int) ≤ 1125899906842624)⟩⟩
theorem votes_good (k : Cf) (l : List Bk) (v : List Vt) : GoodI (bareTo l) (votesTo k (bareTo l) v) := snoc_ind (P := fun v => GoodI (bareTo l) (votesTo k (bareTo l) v)) (bare_good l) (fun v y h => by rw [votes_snoc]; exact h.add k y) _ v rfl
def fromC (k : Cf) (l : List Bk) (v : List Vt) : List It := if mayC k = true ∧ mayB l = true ∧ l.length ≤ 60 then anewC (votesTo k (bareTo l) v) else []
theorem fromC_yes {k : Cf} {l : List Bk} (v : List Vt) (h1 : mayC k = true) (h2 : mayB l = true) (h3 : l.length ≤ 60) : fromC k l v = anewC (votesTo k (bareTo l) v) := by unfold fromC; rw [if_pos ⟨h1, h2, h3⟩]
theorem fromC_no {k : Cf} {l : List Bk} (v : List Vt) (h : ¬ (mayC k = true ∧ mayB l = true ∧ l.length ≤ 60)) : fromC k l v = [] := by unfold fromC; rw [if_neg h]
theorem votes_length (k : Cf) (l : List Bk) (v : List Vt) : (votesTo k (bareTo l) v).length = l.length := (votes_good k l v).len.trans (bare_length l)

/-! ### What one voter weighs -/
theorem ownI_same {a : List It} {i : Nat} (hi : i < a.length) : ownI a i (itA a i).o = a := it_ext (ownI_length a i _) fun k hk => by
  by_cases e : k = i
  · subst e; rw [ownI_at hi]
  · rw [ownI_other e]
theorem one_weight {k : Cf} (hm : mayC k = true) (f : Int) : weightC k [f] = if 0 ≤ f ∧ f < k.ws.length then wAt k.ws f.toNat else 0 := by
  rw [weightC_yes _ hm]
  unfold weighAll
  suffices H : ∀ n, weighTo (inList [f]) k.ws n = if 0 ≤ f ∧ f < n then wAt k.ws f.toNat else 0 from H _
  intro n
  induction n with
  | zero => rw [if_neg (by omega)]; rfl
  | succ n ih =>
    show weighTo (inList [f]) k.ws n + _ = _
    rw [ih]
    by_cases e : f = (n : Int)
    · subst e
      rw [if_neg (show ¬ (0 ≤ (n : Int) ∧ (n : Int) < (n : Int)) by omega), if_pos (show inList [(n : Int)] n = true by simp [inList]), if_pos (show 0 ≤ (n : Int) ∧ (n : Int) < ((n + 1 : Nat) : Int) by omega)]
      simp
    · rw [if_neg (show ¬ inList [f] n = true by simp [inList]; omega)]
      by_cases h : 0 ≤ f ∧ f < (n : Int)
      · rw [if_pos h, if_pos (by omega)]; omega
      · rw [if_neg h, if_neg (by omega)]; omega
theorem oneW_in {k : Cf} (hm : mayC k = true) {i : Nat} (hi : i < k.ws.length) : weightC k [(i : Int)] = k.ws[i] := by
  rw [one_weight hm, if_pos ⟨by omega, by omega⟩, Int.toNat_natCast]
  simp [wAt, hi]
theorem oneW_out {k : Cf} (hm : mayC k = true) {f : Int} (h : ¬ (0 ≤ f ∧ f < k.ws.length)) : weightC k [f] = 0 := by rw [one_weight hm, if_neg h]
theorem add_out {k : Cf} {a : List It} {y : Vt} (hm : mayC k = true) (ho : ∀ i, i < a.length → 0 ≤ (itA a i).o ∧ (itA a i).o ≤ 1125899906842624) (h : ¬ (0 ≤ y.f ∧ y.f < k.ws.length)) : addV k a y = a := by
  rcases addV_way k a y with e | ⟨i, hi, _, e⟩
  · exact e
  · rw [e, oneW_out hm h, Int.add_zero, ownI_same hi]

end Go.Proofs.Ytabmdilhfiembaa
