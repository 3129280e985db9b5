/-
  What layer 8's laws ask, in plain words.
-/
import Derived.Test.YtlapcnfhnfkbmaaGreatWeighMath
namespace Go.Proofs.YtlapcnfhnfkbmaaGreat
set_option maxRecDepth 100000
set_option linter.unusedVariables false
set_option linter.unusedSimpArgs false
/-! ### More votes, what is below, the beginning -/
theorem on_more (k : Cf) (l : List Bk) (v : List Vt) (y : Vt) (x : Id2) : onC k l v x ≤ onC k l (v ++ [y]) x := weight_mono k fun f hf => by
  obtain ⟨z, hz, h⟩ := mem_whoC.1 hf
  exact mem_whoC.2 ⟨z, List.mem_append_left _ hz, h⟩
theorem on_total (k : Cf) (l : List Bk) (v : List Vt) (x : Id2) : onC k l v x ≤ totalC k := weight_total k _
theorem on_below {k : Cf} {l : List Bk} (v : List Vt) {low x : Id2} (h : underC l low x = true) : onC k l v x ≤ onC k l v low := weight_mono k fun f hf => by
  obtain ⟨z, hz, hu, e⟩ := mem_whoC.1 hf
  exact mem_whoC.2 ⟨z, hz, under_trans h hu, e⟩
theorem on_all (k : Cf) (l : List Bk) (v : List Vt) (x : Id2) : onC k l v x ≤ onC k l v zid := weight_mono k fun f hf => by
  obtain ⟨z, hz, hu, e⟩ := mem_whoC.1 hf
  obtain ⟨m, sx, sz⟩ := under_stands hu
  refine mem_whoC.2 ⟨z, hz, under_zero ?_, e⟩
  rw [chainC_yes m sz]
  obtain ⟨r, e⟩ := chainB_head l z.p
  rw [e]; simp

/-! ### Twice the weights -/
def dblC (k : Cf) : Cf := { k with ws := k.ws.map (2 * ·) }
theorem dbl_length (k : Cf) : (dblC k).ws.length = k.ws.length := by simp [dblC]
theorem dbl_at (k : Cf) (j : Nat) : wAt (dblC k).ws j = 2 * wAt k.ws j := by
  unfold wAt dblC
  simp only [List.getElem?_map]
  cases k.ws[j]? <;> simp
theorem dbl_to (p : Nat → Bool) (k : Cf) (n : Nat) : weighTo p (dblC k).ws n = 2 * weighTo p k.ws n := by
  induction n with
  | zero => rfl
  | succ n ih =>
    unfold weighTo
    rw [ih, dbl_at]
    split <;> omega
theorem dbl_may {k : Cf} (h : mayC k = true) (hs : ∀ x ∈ k.ws, x ≤ 549755813888) : mayC (dblC k) = true := by
  obtain ⟨h1, h2, h3, h4⟩ := mayC_yes h
  refine decide_eq_true ⟨by rw [dbl_length]; exact h1, by rw [dbl_length]; exact h2, fun y hy => ?_, h4⟩
  obtain ⟨x, hx, rfl⟩ := List.mem_map.1 hy
  have := h3 x hx
  have := hs x hx
  omega
theorem dbl_on {k : Cf} (h : mayC k = true) (hs : ∀ x ∈ k.ws, x ≤ 549755813888) (l : List Bk) (v : List Vt) (x : Id2) : onC (dblC k) l v x = 2 * onC k l v x := by
  unfold onC
  rw [weightC_yes _ h, weightC_yes _ (dbl_may h hs)]
  unfold weighAll
  rw [dbl_length, dbl_to]
theorem dbl_take {k : Cf} {j : Nat} (hj : j < k.ws.length) : (k.ws.take (j + 1)).map (2 * ·) = (k.ws.take j).map (2 * ·) ++ [2 * wAt k.ws j] := by
  rw [take_snoc hj, List.map_append]; rfl

/-! ### Votes for what is known -/
def knownV (l : List Bk) (v : List Vt) : List Vt := v.filter fun y => decide (0 < (chainC l y.p).length)
theorem knownV_hit {l : List Bk} {y : Vt} (v : List Vt) (h : 0 < (chainC l y.p).length) : knownV l (v ++ [y]) = knownV l v ++ [y] := by simp [knownV, h]
theorem knownV_miss {l : List Bk} {y : Vt} (v : List Vt) (h : ¬ 0 < (chainC l y.p).length) : knownV l (v ++ [y]) = knownV l v := by
  unfold knownV
  rw [List.filter_append, List.filter_cons_of_neg (by simpa using h)]
  simp
theorem knownV_length (l : List Bk) (v : List Vt) : (knownV l v).length ≤ v.length := List.length_filter_le _ _
theorem known_who (l : List Bk) (v : List Vt) (x : Id2) : whoC l (knownV l v) x = whoC l v x := by
  unfold whoC knownV
  rw [List.filter_filter]
  congr 1
  refine List.filter_congr fun y _ => ?_
  cases q : underC l x y.p with
  | false => rfl
  | true =>
    obtain ⟨m, _, s⟩ := under_stands q
    obtain ⟨r, e⟩ := chainB_head l y.p
    rw [chainC_yes m s, e]
    simp
theorem known_on (k : Cf) (l : List Bk) (v : List Vt) (x : Id2) : onC k l (knownV l v) x = onC k l v x := by unfold onC; rw [known_who]

theorem known_hit {l : List Bk} {v : List Vt} {k : Nat} (hk : k < v.length) (h : 0 < (chainC l v[k].p).length) : knownV l (v.take (k + 1)) = knownV l (v.take k) ++ [v[k]] := by rw [List.take_succ_eq_append_getElem hk, knownV_hit _ h]
theorem known_miss {l : List Bk} {v : List Vt} {k : Nat} (hk : k < v.length) (h : ¬ 0 < (chainC l v[k].p).length) : knownV l (v.take (k + 1)) = knownV l (v.take k) := by rw [List.take_succ_eq_append_getElem hk, knownV_miss _ h]
theorem known_le (l : List Bk) (v : List Vt) (k : Nat) : (knownV l (v.take k)).length ≤ k := by
  have := knownV_length l (v.take k)
  rw [List.length_take] at this
  omega
theorem known_wf {l : List Bk} {v : List Vt} (p : Vt → Prop) (h : ∀ y ∈ v, p y) : ∀ y ∈ knownV l v, p y := fun y hy => h y (List.mem_filter.1 hy).1

/-! ### One block more -/
theorem under_one_more {l : List Bk} {b : Bk} {x y : Id2} (k : mayB (l ++ [b]) = true) (hy : y ≠ nameB b) : underC (l ++ [b]) x y = underC l x y := by
  have h : mayB l = true := by rw [mayB_snoc, Bool.and_eq_true] at k; exact k.1
  cases q : standsB l y with
  | true =>
    refine under_more k ?_
    rw [chainC_yes h q]
    obtain ⟨r, e⟩ := chainB_head l y
    rw [e]; simp
  | false =>
    rw [under_head q]
    refine under_head ?_
    unfold standsB at q ⊢
    rw [Bool.or_eq_false_iff] at q ⊢
    refine ⟨?_, q.2⟩
    unfold posB at q ⊢
    rw [namesB_snoc, posN_snoc]
    cases r : posN (namesB l) y with
    | some i => rw [r] at q; cases q.1
    | none => simp [Ne.symm hy]
theorem more_on {k : Cf} {l : List Bk} {b : Bk} {v : List Vt} (h : mayB (l ++ [b]) = true) (hv : ∀ y ∈ v, y.p ≠ nameB b) (x : Id2) : onC k (l ++ [b]) v x = onC k l v x := by
  unfold onC whoC
  congr 2
  exact List.filter_congr fun y hy => under_one_more h (hv y hy)
theorem name_new {l : List Bk} {b : Bk} (h : mayB (l ++ [b]) = true) : standsB l (nameB b) = false := by
  rw [mayB_snoc, Bool.and_eq_true] at h
  have := h.2
  unfold okB at this
  rw [Bool.and_eq_true] at this
  simpa using this.1
theorem more_none {k : Cf} {l : List Bk} {b : Bk} {v : List Vt} (h : mayB (l ++ [b]) = true) (hv : ∀ y ∈ v, y.p ≠ nameB b) : onC k (l ++ [b]) v (nameB b) = 0 := by
  rw [more_on h hv]
  exact onC_none fun y _ => under_unknown (name_new h) y.p

/-! ### What is on the blocks that stand on one -/
theorem mem_kids {l : List Bk} {x z : Id2} : z ∈ kidsB l x ↔ ∃ (i : Nat) (hi : i < l.length), nameB l[i] = z ∧ l[i].p = x := by
  unfold kidsB namesB
  rw [List.mem_map]
  constructor
  · rintro ⟨b, hb, rfl⟩
    rw [List.mem_filter, decide_eq_true_iff] at hb
    obtain ⟨i, hi, rfl⟩ := List.getElem_of_mem hb.1
    exact ⟨i, hi, rfl, hb.2⟩
  · rintro ⟨i, hi, rfl, e⟩
    exact ⟨l[i], List.mem_filter.2 ⟨List.getElem_mem hi, decide_eq_true e⟩, rfl⟩
section
variable {l : List Bk} (h : mayB l = true)
include h
theorem kid_on {x z : Id2} (hx : standsB l x = true) (hz : z ∈ kidsB l x) : underC l x z = true := by
  obtain ⟨i, hi, rfl, e⟩ := mem_kids.1 hz
  rw [under_step h hi, e, under_own h hx, Bool.or_true]
theorem kid_ne {x z : Id2} (hz : z ∈ kidsB l x) : z ≠ x := by
  obtain ⟨i, hi, rfl, e⟩ := mem_kids.1 hz
  intro q
  have hp := may_pos h hi
  rcases may_parent h hi with ⟨j, hj, r, _⟩ | ⟨r, _⟩
  · rw [e, ← q, hp] at r
    cases r
    omega
  · rw [e, ← q] at r
    rw [r, may_zero h] at hp
    cases hp
theorem kid_not {x z : Id2} (hx : standsB l x = true) (hz : z ∈ kidsB l x) : underC l z x = false := by
  cases q : underC l z x with
  | false => rfl
  | true => exact absurd (under_anti q (kid_on h hx hz)) (kid_ne h hz)
theorem kid_one {x z z' y : Id2} (hx : standsB l x = true) (hz : z ∈ kidsB l x) (hz' : z' ∈ kidsB l x) (h1 : underC l z y = true) (h2 : underC l z' y = true) : z = z' := by
  have key : ∀ {a b : Id2}, a ∈ kidsB l x → b ∈ kidsB l x → underC l a b = true → a = b := fun {a b} ha hb q => by
    have ha' := kid_not h hx ha
    obtain ⟨i, hi, rfl, e⟩ := mem_kids.1 hb
    rw [under_step h hi, e, ha', Bool.or_false] at q
    exact of_decide_eq_true q
  rcases under_both h1 h2 with q | q
  · exact key hz hz' q
  · exact (key hz' hz q).symm
theorem under_kids {x : Id2} (hx : standsB l x = true) : ∀ (n : Nat) {y : Id2}, rank l y = n → underC l x y = true → y = x ∨ ∃ z ∈ kidsB l x, underC l z y = true := by
  intro n
  induction n using Nat.strongRecOn with
  | ind n ih =>
    intro y hn hu
    have sy := (under_stands hu).2.2
    rcases standsB_iff.1 sy with ⟨i, q⟩ | q
    · have hi := posB_lt q
      have en := posB_name q
      have hr := rank_parent h hi
      rw [rank_some q] at hn
      have hs := under_step h hi x
      rw [en, hu] at hs
      have hs' := hs.symm
      rw [Bool.or_eq_true, decide_eq_true_iff] at hs'
      rcases hs' with e | hp
      · exact Or.inl e.symm
      · right
        rcases ih (rank l l[i].p) (by omega) rfl hp with e | ⟨z, hz, hzu⟩
        · have hk : y ∈ kidsB l x := mem_kids.2 ⟨i, hi, en, e⟩
          exact ⟨y, hk, under_own h sy⟩
        · refine ⟨z, hz, ?_⟩
          have := under_step h hi z
          rw [en, hzu, Bool.or_true] at this
          exact this
    · subst q
      rw [under_zid h] at hu
      exact Or.inl (of_decide_eq_true hu)
theorem names_nodup : (namesB l).Nodup := by
  unfold List.Nodup
  rw [List.pairwise_iff_getElem]
  intro i j hi hj hij e
  rw [namesB_length] at hi hj
  have e' : nameB l[i] = nameB l[j] := by simpa [namesB] using e
  have p1 := may_pos h hi
  have p2 := may_pos h hj
  rw [e', p2] at p1
  cases p1
  omega
theorem kids_nodup (x : Id2) : (kidsB l x).Nodup := (names_nodup h).sublist (List.Sublist.map _ List.filter_sublist)
end
def ownV (m : List Vt) (x : Id2) : List Int := (m.filter fun y => decide (y.p = x)).map Vt.f
theorem ownV_hit {x : Id2} {y : Vt} (m : List Vt) (h : y.p = x) : ownV (m ++ [y]) x = ownV m x ++ [y.f] := by simp [ownV, h]
theorem ownV_miss {x : Id2} {y : Vt} (m : List Vt) (h : ¬ y.p = x) : ownV (m ++ [y]) x = ownV m x := by simp [ownV, h]
theorem ownV_length (m : List Vt) (x : Id2) : (ownV m x).length ≤ m.length := by
  unfold ownV; rw [List.length_map]; exact List.length_filter_le _ _
theorem mem_ownV {m : List Vt} {x : Id2} {f : Int} : f ∈ ownV m x ↔ ∃ y ∈ m, y.p = x ∧ y.f = f := by
  simp only [ownV, List.mem_map, List.mem_filter, and_assoc, decide_eq_true_iff]
/-- What is on the ids in a list, together. -/
def sumC (k : Cf) (l : List Bk) (m : List Vt) : List Id2 → Int := List.foldl (fun s x => s + onC k l m x) 0
theorem sumC_snoc (k : Cf) (l : List Bk) (m : List Vt) (q : List Id2) (x : Id2) : sumC k l m (q ++ [x]) = sumC k l m q + onC k l m x := by simp [sumC]
theorem sumC_bounds (k : Cf) (l : List Bk) (m : List Vt) (ks : List Id2) : ∀ j, j ≤ ks.length → 0 ≤ sumC k l m (ks.take j) ∧ sumC k l m (ks.take j) ≤ 13194139533312 * (j : Int)
  | 0, _ => by simp [sumC]
  | j + 1, hj => by
    rw [List.take_succ_eq_append_getElem hj, sumC_snoc]
    have := sumC_bounds k l m ks j (by omega)
    have := on_bounds k l m ks[j]
    omega
theorem sum_take {k : Cf} {l : List Bk} {m : List Vt} {ks : List Id2} {j : Nat} (hj : j < ks.length) : sumC k l m (ks.take (j + 1)) = sumC k l m (ks.take j) + onC k l m ks[j] := by
  rw [List.take_succ_eq_append_getElem hj, sumC_snoc]
theorem sum_kids {k : Cf} {l : List Bk} (h : mayB l = true) {m : List Vt} (hm : ∀ a ∈ m, ∀ b ∈ m, a.f = b.f → a = b) {x : Id2} (hx : standsB l x = true) : ∀ j, j ≤ (kidsB l x).length →
    weightC k (((kidsB l x).take j).flatMap fun z => whoC l m z) = sumC k l m ((kidsB l x).take j)
  | 0, _ => weight_nil k
  | j + 1, hj => by
    have ih := sum_kids (k := k) h hm hx j (by omega)
    have hnd := kids_nodup h x
    rw [List.take_succ_eq_append_getElem hj, List.flatMap_append, sumC_snoc, ← ih]
    have e : ([(kidsB l x)[j]].flatMap fun z => whoC l m z) = whoC l m (kidsB l x)[j] := by simp
    rw [e]
    refine (weight_both k _ _).2 fun f hf hg => ?_
    obtain ⟨z, hz, hfz⟩ := List.mem_flatMap.1 hf
    obtain ⟨a, ha, hau, rfl⟩ := mem_whoC.1 hfz
    obtain ⟨b, hb, hbu, e⟩ := mem_whoC.1 hg
    have := hm b hb a ha e
    subst this
    have hzk := List.mem_of_mem_take hz
    have := kid_one h hx hzk (List.getElem_mem hj) hau hbu
    obtain ⟨i, hi, rfl⟩ := List.mem_take_iff_getElem.1 hz
    exact (List.pairwise_iff_getElem.1 hnd) i j (by omega) hj (by omega) this
theorem splits {k : Cf} {l : List Bk} (h : mayB l = true) {m : List Vt} (hm : ∀ a ∈ m, ∀ b ∈ m, a.f = b.f → a = b) {x : Id2} (hx : standsB l x = true) :
    onC k l m x = sumC k l m (kidsB l x) + weightC k (ownV m x) := by
  have hs := sum_kids (k := k) h hm hx _ (Nat.le_refl _)
  rw [List.take_length] at hs
  rw [← hs]
  have hd : ∀ f ∈ ((kidsB l x).flatMap fun z => whoC l m z), f ∉ ownV m x := fun f hf hg => by
    obtain ⟨z, hz, hfz⟩ := List.mem_flatMap.1 hf
    obtain ⟨a, ha, hau, rfl⟩ := mem_whoC.1 hfz
    obtain ⟨b, hb, hbp, e⟩ := mem_ownV.1 hg
    have := hm b hb a ha e
    subst this
    rw [hbp, kid_not h hx hz] at hau
    cases hau
  rw [← (weight_both k _ _).2 hd]
  refine weight_mem k fun f => ?_
  rw [List.mem_append, List.mem_flatMap, mem_whoC, mem_ownV]
  constructor
  · rintro ⟨y, hy, hu, e⟩
    rcases under_kids h hx _ rfl hu with q | ⟨z, hz, hzu⟩
    · exact Or.inr ⟨y, hy, q, e⟩
    · exact Or.inl ⟨z, hz, mem_whoC.2 ⟨y, hy, hzu, e⟩⟩
  · rintro (⟨z, hz, hf⟩ | ⟨y, hy, q, e⟩)
    · obtain ⟨y, hy, hu, e⟩ := mem_whoC.1 hf
      exact ⟨y, hy, under_trans (kid_on h hx hz) hu, e⟩
    · exact ⟨y, hy, by rw [q]; exact under_own h hx, e⟩

end Go.Proofs.YtlapcnfhnfkbmaaGreat
