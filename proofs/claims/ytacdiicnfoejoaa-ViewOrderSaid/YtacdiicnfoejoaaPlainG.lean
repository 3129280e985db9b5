/-
  Plain mathematics of package weigh: who is for a block, and what they weigh together.
  What layer 8's laws ask, in plain words.
  What law WeighSplits asks of votes that count, and of the blocks that stand on one.
  Plain mathematics of package ghost: the best of some ids, and the head.
  Plain mathematics of package lmd: how much a boost is, how much is on a block by last votes with it, and the head by these.
  Plain mathematics of package gold: which votes of a slot's committee count, and the head by these.
  Plain mathematics of package quick: how much is for a block, what is sure, and the first sure one of a chain.
  Plain mathematics of package quick: along a chain, what is behind a block that is sure is sure.
  Plain mathematics of package quick's laws of a whole committee: votes of all of it for one block; what some of it weigh, and the others.
-/
import Derived.Test.YtacdiicnfoejoaaDutyG
import Derived.Test.YtacdiicnfoejoaaTreeG
import Derived.Test.YtacdiicnfoejoaaVoteG
namespace Go.Proofs.Ytacdiicnfoejoaa
set_option maxRecDepth 100000
set_option linter.unusedVariables false
set_option linter.unusedSimpArgs false
section
/-- Who has a vote on whose head's chain x is. -/
def whoC (l : List Bk) (v : List Vt) (x : Id2) : List Int := (v.filter fun y => underC l x y.p).map Vt.f
/-- .. and what they weigh. -/
def onC (k : Cf) (l : List Bk) (v : List Vt) (x : Id2) : Int := weightC k (whoC l v x)

theorem whoC_nil (l : List Bk) (x : Id2) : whoC l [] x = [] := rfl
theorem whoC_hit {l : List Bk} {x : Id2} {y : Vt} (v : List Vt) (h : underC l x y.p = true) : whoC l (v ++ [y]) x = whoC l v x ++ [y.f] := by simp [whoC, h]
theorem whoC_miss {l : List Bk} {x : Id2} {y : Vt} (v : List Vt) (h : underC l x y.p = false) : whoC l (v ++ [y]) x = whoC l v x := by simp [whoC, h]
theorem whoC_length (l : List Bk) (v : List Vt) (x : Id2) : (whoC l v x).length ≤ v.length := by
  unfold whoC; rw [List.length_map]; exact List.length_filter_le _ _
theorem mem_whoC {l : List Bk} {v : List Vt} {x : Id2} {f : Int} : f ∈ whoC l v x ↔ ∃ y ∈ v, underC l x y.p = true ∧ y.f = f := by
  simp only [whoC, List.mem_map, List.mem_filter, and_assoc]
theorem whoC_none {l : List Bk} {v : List Vt} {x : Id2} (h : ∀ y ∈ v, underC l x y.p = false) : whoC l v x = [] := by
  unfold whoC
  rw [List.filter_eq_nil_iff.2 (fun y hy => by rw [h y hy]; decide)]
  rfl
theorem weight_nil (k : Cf) : weightC k [] = 0 := weight_out k fun _ _ h => by cases h
theorem onC_none {k : Cf} {l : List Bk} {v : List Vt} {x : Id2} (h : ∀ y ∈ v, underC l x y.p = false) : onC k l v x = 0 := by
  unfold onC; rw [whoC_none h, weight_nil]
theorem on_bounds (k : Cf) (l : List Bk) (v : List Vt) (x : Id2) : 0 ≤ onC k l v x ∧ onC k l v x ≤ 13194139533312 := weight_bounds k _

/-! ### What is under what -/
theorem under_no {l : List Bk} (h : mayB l = false) (x y : Id2) : underC l x y = false := by
  unfold underC; rw [chainC_no (fun q => by rw [h] at q; cases q)]; rfl
theorem under_unknown {l : List Bk} {x : Id2} (h : standsB l x = false) (y : Id2) : underC l x y = false := by
  cases q : underC l x y with
  | false => rfl
  | true =>
    obtain ⟨m, s, k⟩ := mem_chainC (underC_true.1 q)
    rw [(chain_suffix m _ rfl s k).1] at h
    cases h
theorem under_head {l : List Bk} {x y : Id2} (h : standsB l y = false) : underC l x y = false := by
  unfold underC; rw [chainC_no (fun _ => h)]; rfl
theorem under_stands {l : List Bk} {x y : Id2} (h : underC l x y = true) : mayB l = true ∧ standsB l x = true ∧ standsB l y = true := by
  obtain ⟨m, s, k⟩ := mem_chainC (underC_true.1 h)
  exact ⟨m, (chain_suffix m _ rfl s k).1, s⟩
theorem under_own {l : List Bk} (h : mayB l = true) {x : Id2} (hx : standsB l x = true) : underC l x x = true := by
  rw [underC_true, chainC_yes h hx]; exact chainB_self l x
theorem under_zid {l : List Bk} (h : mayB l = true) (x : Id2) : underC l x zid = decide (zid = x) := by
  unfold underC
  rw [chainC_yes h (standsB_iff.2 (Or.inr rfl)), chainB_none (may_zero h), Bool.eq_iff_iff]
  simp [eq_comm]
theorem name_stands {l : List Bk} (h : mayB l = true) {i : Nat} (hi : i < l.length) : standsB l (nameB l[i]) = true := standsB_iff.2 (Or.inl ⟨i, may_pos h hi⟩)
theorem under_step {l : List Bk} (h : mayB l = true) {i : Nat} (hi : i < l.length) (x : Id2) : underC l x (nameB l[i]) = (decide (x = nameB l[i]) || underC l x l[i].p) := by
  unfold underC
  rw [chainC_yes h (name_stands h hi), chainC_yes h (may_stands h hi), chainB_some h (may_pos h hi), Bool.eq_iff_iff]
  simp

/-! ### What stands on an id, found by one way through the blocks -/
def setC (l : List Bk) (k : Nat) (x y : Id2) : Bool := decide (y = x) || ((posN (namesB (l.take k)) y).isSome && underC l x y)
theorem setC_zero (l : List Bk) (x y : Id2) : setC l 0 x y = decide (y = x) := by simp [setC, namesB, posN]
theorem isSome_step {l : List Bk} {k : Nat} (hk : k < l.length) (y : Id2) : (posN (namesB (l.take (k + 1))) y).isSome = ((posN (namesB (l.take k)) y).isSome || decide (nameB l[k] = y)) := by
  rw [List.take_succ_eq_append_getElem hk, namesB_snoc, posN_snoc]
  cases posN (namesB (l.take k)) y with
  | some i => rfl
  | none => by_cases e : nameB l[k] = y <;> simp [e]
theorem setC_parent {l : List Bk} (h : mayB l = true) {k : Nat} (hk : k < l.length) {x : Id2} (hx : standsB l x = true) : setC l k x l[k].p = underC l x l[k].p := by
  unfold setC
  rcases may_parent h hk with ⟨j, hj, q, _⟩ | ⟨e, _⟩
  · have hs : (posN (namesB (l.take k)) l[k].p).isSome = true := by
      cases r : posN (namesB (l.take k)) l[k].p with
      | some i => rfl
      | none =>
        refine absurd ?_ (posN_none.1 r)
        rw [← posB_name q]
        unfold namesB
        refine List.mem_map.2 ⟨_, ?_, rfl⟩
        rw [List.mem_take_iff_getElem]
        exact ⟨j, by omega, rfl⟩
    rw [hs, Bool.true_and]
    by_cases e : l[k].p = x
    · rw [e, under_own h hx]; simp
    · simp [e]
  · rw [e, under_zid h]
    cases r : posN (namesB (l.take k)) zid with
    | none => simp
    | some i =>
      have := may_zero (mayB_take h k (by omega))
      unfold posB at this
      rw [r] at this
      cases this
theorem setC_hit {l : List Bk} (h : mayB l = true) {k : Nat} (hk : k < l.length) {x : Id2} (hu : underC l x l[k].p = true) (y : Id2) : setC l (k + 1) x y = (setC l k x y || decide (y = nameB l[k])) := by
  unfold setC
  rw [isSome_step hk]
  by_cases e : nameB l[k] = y
  · subst e
    rw [under_step h hk, hu]
    simp
  · have e' : ¬ y = nameB l[k] := fun q => e q.symm
    simp [e, e']
theorem setC_miss {l : List Bk} (h : mayB l = true) {k : Nat} (hk : k < l.length) {x : Id2} (hu : underC l x l[k].p = false) (y : Id2) : setC l (k + 1) x y = setC l k x y := by
  unfold setC
  rw [isSome_step hk]
  by_cases e : nameB l[k] = y
  · subst e
    rw [under_step h hk, hu]
    by_cases q : x = nameB l[k]
    · simp [q]
    · simp [q]
  · simp [e]
theorem setC_end {l : List Bk} (h : mayB l = true) {x : Id2} (hx : standsB l x = true) (y : Id2) : setC l l.length x y = underC l x y := by
  unfold setC
  rw [List.take_length]
  cases q : underC l x y with
  | true =>
    rcases standsB_iff.1 (under_stands q).2.2 with ⟨i, e⟩ | e
    · have e' : posN (namesB l) y = some i := e
      rw [e']; simp
    · subst e
      rw [under_zid h] at q
      rw [q]; rfl
  | false =>
    by_cases e : y = x
    · subst e; rw [under_own h hx] at q; cases q
    · simp [e]

/-! ### Weights -/
theorem weight_mono (k : Cf) {a b : List Int} (h : ∀ f ∈ a, f ∈ b) : weightC k a ≤ weightC k b := by
  cases hm : mayC k with
  | false => rw [weightC_no _ hm, weightC_no _ hm]; omega
  | true =>
    rw [weightC_yes _ hm, weightC_yes _ hm]
    exact weighTo_mono (mayC_yes hm).2.2.1 (fun j hj => decide_eq_true (h _ (of_decide_eq_true hj))) _
theorem weight_total (k : Cf) (a : List Int) : weightC k a ≤ totalC k := by
  cases hm : mayC k with
  | false => rw [weightC_no _ hm, totalC_no hm]; omega
  | true =>
    rw [weightC_yes _ hm, totalC_yes hm]
    exact weighTo_mono (mayC_yes hm).2.2.1 (fun _ _ => rfl) _
theorem weight_mem (k : Cf) {a b : List Int} (h : ∀ f, f ∈ a ↔ f ∈ b) : weightC k a = weightC k b :=
  weight_same k fun j => by unfold inList; rw [decide_eq_decide]; exact h _
end

section
/-! ### More votes, what is below, the beginning -/
theorem on_more (k : Cf) (l : List Bk) (v : List Vt) (y : Vt) (x : Id2) : onC k l v x ≤ onC k l (v ++ [y]) x := weight_mono k fun f hf => by
  obtain ⟨z, hz, h⟩ := mem_whoC.1 hf
  exact mem_whoC.2 ⟨z, List.mem_append_left _ hz, h⟩
theorem on_total (k : Cf) (l : List Bk) (v : List Vt) (x : Id2) : onC k l v x ≤ totalC k := weight_total k _
theorem on_below {k : Cf} {l : List Bk} (v : List Vt) {low x : Id2} (h : underC l low x = true) : onC k l v x ≤ onC k l v low := weight_mono k fun f hf => by
  obtain ⟨z, hz, hu, e⟩ := mem_whoC.1 hf
  exact mem_whoC.2 ⟨z, hz, under_trans h hu, e⟩
theorem on_all (k : Cf) (l : List Bk) (v : List Vt) (x : Id2) : onC k l v x ≤ onC k l v zid := weight_mono k fun f hf => by
  obtain ⟨z, hz, hu, e⟩ := mem_whoC.1 hf
  obtain ⟨m, sx, sz⟩ := under_stands hu
  refine mem_whoC.2 ⟨z, hz, under_zero ?_, e⟩
  rw [chainC_yes m sz]
  obtain ⟨r, e⟩ := chainB_head l z.p
  rw [e]; simp

/-! ### Twice the weights -/
def dblC (k : Cf) : Cf := { k with ws := k.ws.map (2 * ·) }
theorem dbl_length (k : Cf) : (dblC k).ws.length = k.ws.length := by simp [dblC]
theorem dbl_at (k : Cf) (j : Nat) : wAt (dblC k).ws j = 2 * wAt k.ws j := by
  unfold wAt dblC
  simp only [List.getElem?_map]
  cases k.ws[j]? <;> simp
theorem dbl_to (p : Nat → Bool) (k : Cf) (n : Nat) : weighTo p (dblC k).ws n = 2 * weighTo p k.ws n := by
  induction n with
  | zero => rfl
  | succ n ih =>
    unfold weighTo
    rw [ih, dbl_at]
    split <;> omega
theorem dbl_may {k : Cf} (h : mayC k = true) (hs : ∀ x ∈ k.ws, x ≤ 549755813888) : mayC (dblC k) = true := by
  obtain ⟨h1, h2, h3, h4⟩ := mayC_yes h
  refine decide_eq_true ⟨by rw [dbl_length]; exact h1, by rw [dbl_length]; exact h2, fun y hy => ?_, h4⟩
  obtain ⟨x, hx, rfl⟩ := List.mem_map.1 hy
  have := h3 x hx
  have := hs x hx
  omega
theorem dbl_on {k : Cf} (h : mayC k = true) (hs : ∀ x ∈ k.ws, x ≤ 549755813888) (l : List Bk) (v : List Vt) (x : Id2) : onC (dblC k) l v x = 2 * onC k l v x := by
  unfold onC
  rw [weightC_yes _ h, weightC_yes _ (dbl_may h hs)]
  unfold weighAll
  rw [dbl_length, dbl_to]
theorem dbl_take {k : Cf} {j : Nat} (hj : j < k.ws.length) : (k.ws.take (j + 1)).map (2 * ·) = (k.ws.take j).map (2 * ·) ++ [2 * wAt k.ws j] := by
  rw [take_snoc hj, List.map_append]; rfl

/-! ### Votes for what is known -/
def knownV (l : List Bk) (v : List Vt) : List Vt := v.filter fun y => decide (0 < (chainC l y.p).length)
theorem knownV_hit {l : List Bk} {y : Vt} (v : List Vt) (h : 0 < (chainC l y.p).length) : knownV l (v ++ [y]) = knownV l v ++ [y] := by simp [knownV, h]
theorem knownV_miss {l : List Bk} {y : Vt} (v : List Vt) (h : ¬ 0 < (chainC l y.p).length) : knownV l (v ++ [y]) = knownV l v := by
  unfold knownV
  rw [List.filter_append, List.filter_cons_of_neg (by simpa using h)]
  simp
theorem knownV_length (l : List Bk) (v : List Vt) : (knownV l v).length ≤ v.length := List.length_filter_le _ _
theorem known_who (l : List Bk) (v : List Vt) (x : Id2) : whoC l (knownV l v) x = whoC l v x := by
  unfold whoC knownV
  rw [List.filter_filter]
  congr 1
  refine List.filter_congr fun y _ => ?_
  cases q : underC l x y.p with
  | false => rfl
  | true =>
    obtain ⟨m, _, s⟩ := under_stands q
    obtain ⟨r, e⟩ := chainB_head l y.p
    rw [chainC_yes m s, e]
    simp
theorem known_on (k : Cf) (l : List Bk) (v : List Vt) (x : Id2) : onC k l (knownV l v) x = onC k l v x := by unfold onC; rw [known_who]

theorem known_hit {l : List Bk} {v : List Vt} {k : Nat} (hk : k < v.length) (h : 0 < (chainC l v[k].p).length) : knownV l (v.take (k + 1)) = knownV l (v.take k) ++ [v[k]] := by rw [List.take_succ_eq_append_getElem hk, knownV_hit _ h]
theorem known_miss {l : List Bk} {v : List Vt} {k : Nat} (hk : k < v.length) (h : ¬ 0 < (chainC l v[k].p).length) : knownV l (v.take (k + 1)) = knownV l (v.take k) := by rw [List.take_succ_eq_append_getElem hk, knownV_miss _ h]
theorem known_le (l : List Bk) (v : List Vt) (k : Nat) : (knownV l (v.take k)).length ≤ k := by
  have := knownV_length l (v.take k)
  rw [List.length_take] at this
  omega
theorem known_wf {l : List Bk} {v : List Vt} (p : Vt → Prop) (h : ∀ y ∈ v, p y) : ∀ y ∈ knownV l v, p y := fun y hy => h y (List.mem_filter.1 hy).1

/-! ### One block more -/
theorem under_one_more {l : List Bk} {b : Bk} {x y : Id2} (k : mayB (l ++ [b]) = true) (hy : y ≠ nameB b) : underC (l ++ [b]) x y = underC l x y := by
  have h : mayB l = true := by rw [mayB_snoc, Bool.and_eq_true] at k; exact k.1
  cases q : standsB l y with
  | true =>
    refine under_more k ?_
    rw [chainC_yes h q]
    obtain ⟨r, e⟩ := chainB_head l y
    rw [e]; simp
  | false =>
    rw [under_head q]
    refine under_head ?_
    unfold standsB at q ⊢
    rw [Bool.or_eq_false_iff] at q ⊢
    refine ⟨?_, q.2⟩
    unfold posB at q ⊢
    rw [namesB_snoc, posN_snoc]
    cases r : posN (namesB l) y with
    | some i => rw [r] at q; cases q.1
    | none => simp [Ne.symm hy]
theorem more_on {k : Cf} {l : List Bk} {b : Bk} {v : List Vt} (h : mayB (l ++ [b]) = true) (hv : ∀ y ∈ v, y.p ≠ nameB b) (x : Id2) : onC k (l ++ [b]) v x = onC k l v x := by
  unfold onC whoC
  congr 2
  exact List.filter_congr fun y hy => under_one_more h (hv y hy)
theorem name_new {l : List Bk} {b : Bk} (h : mayB (l ++ [b]) = true) : standsB l (nameB b) = false := by
  rw [mayB_snoc, Bool.and_eq_true] at h
  have := h.2
  unfold okB at this
  rw [Bool.and_eq_true] at this
  simpa using this.1
theorem more_none {k : Cf} {l : List Bk} {b : Bk} {v : List Vt} (h : mayB (l ++ [b]) = true) (hv : ∀ y ∈ v, y.p ≠ nameB b) : onC k (l ++ [b]) v (nameB b) = 0 := by
  rw [more_on h hv]
  exact onC_none fun y _ => under_unknown (name_new h) y.p

/-! ### What is on the blocks that stand on one -/
theorem mem_kids {l : List Bk} {x z : Id2} : z ∈ kidsB l x ↔ ∃ (i : Nat) (hi : i < l.length), nameB l[i] = z ∧ l[i].p = x := by
  unfold kidsB namesB
  rw [List.mem_map]
  constructor
  · rintro ⟨b, hb, rfl⟩
    rw [List.mem_filter, decide_eq_true_iff] at hb
    obtain ⟨i, hi, rfl⟩ := List.getElem_of_mem hb.1
    exact ⟨i, hi, rfl, hb.2⟩
  · rintro ⟨i, hi, rfl, e⟩
    exact ⟨l[i], List.mem_filter.2 ⟨List.getElem_mem hi, decide_eq_true e⟩, rfl⟩
section
variable {l : List Bk} (h : mayB l = true)
include h
theorem kid_on {x z : Id2} (hx : standsB l x = true) (hz : z ∈ kidsB l x) : underC l x z = true := by
  obtain ⟨i, hi, rfl, e⟩ := mem_kids.1 hz
  rw [under_step h hi, e, under_own h hx, Bool.or_true]
theorem kid_ne {x z : Id2} (hz : z ∈ kidsB l x) : z ≠ x := by
  obtain ⟨i, hi, rfl, e⟩ := mem_kids.1 hz
  intro q
  have hp := may_pos h hi
  rcases may_parent h hi with ⟨j, hj, r, _⟩ | ⟨r, _⟩
  · rw [e, ← q, hp] at r
    cases r
    omega
  · rw [e, ← q] at r
    rw [r, may_zero h] at hp
    cases hp
theorem kid_not {x z : Id2} (hx : standsB l x = true) (hz : z ∈ kidsB l x) : underC l z x = false := by
  cases q : underC l z x with
  | false => rfl
  | true => exact absurd (under_anti q (kid_on h hx hz)) (kid_ne h hz)
theorem kid_one {x z z' y : Id2} (hx : standsB l x = true) (hz : z ∈ kidsB l x) (hz' : z' ∈ kidsB l x) (h1 : underC l z y = true) (h2 : underC l z' y = true) : z = z' := by
  have key : ∀ {a b : Id2}, a ∈ kidsB l x → b ∈ kidsB l x → underC l a b = true → a = b := fun {a b} ha hb q => by
    have ha' := kid_not h hx ha
    obtain ⟨i, hi, rfl, e⟩ := mem_kids.1 hb
    rw [under_step h hi, e, ha', Bool.or_false] at q
    exact of_decide_eq_true q
  rcases under_both h1 h2 with q | q
  · exact key hz hz' q
  · exact (key hz' hz q).symm
theorem under_kids {x : Id2} (hx : standsB l x = true) : ∀ (n : Nat) {y : Id2}, rank l y = n → underC l x y = true → y = x ∨ ∃ z ∈ kidsB l x, underC l z y = true := by
  intro n
  induction n using Nat.strongRecOn with
  | ind n ih =>
    intro y hn hu
    have sy := (under_stands hu).2.2
    rcases standsB_iff.1 sy with ⟨i, q⟩ | q
    · have hi := posB_lt q
      have en := posB_name q
      have hr := rank_parent h hi
      rw [rank_some q] at hn
      have hs := under_step h hi x
      rw [en, hu] at hs
      have hs' := hs.symm
      rw [Bool.or_eq_true, decide_eq_true_iff] at hs'
      rcases hs' with e | hp
      · exact Or.inl e.symm
      · right
        rcases ih (rank l l[i].p) (by omega) rfl hp with e | ⟨z, hz, hzu⟩
        · have hk : y ∈ kidsB l x := mem_kids.2 ⟨i, hi, en, e⟩
          exact ⟨y, hk, under_own h sy⟩
        · refine ⟨z, hz, ?_⟩
          have := under_step h hi z
          rw [en, hzu, Bool.or_true] at this
          exact this
    · subst q
      rw [under_zid h] at hu
      exact Or.inl (of_decide_eq_true hu)
theorem names_nodup : (namesB l).Nodup := by
  unfold List.Nodup
  rw [List.pairwise_iff_getElem]
  intro i j hi hj hij e
  rw [namesB_length] at hi hj
  have e' : nameB l[i] = nameB l[j] := by simpa [namesB] using e
  have p1 := may_pos h hi
  have p2 := may_pos h hj
  rw [e', p2] at p1
  cases p1
  omega
theorem kids_nodup (x : Id2) : (kidsB l x).Nodup := (names_nodup h).sublist (List.Sublist.map _ List.filter_sublist)
end
def ownV (m : List Vt) (x : Id2) : List Int := (m.filter fun y => decide (y.p = x)).map Vt.f
theorem ownV_hit {x : Id2} {y : Vt} (m : List Vt) (h : y.p = x) : ownV (m ++ [y]) x = ownV m x ++ [y.f] := by simp [ownV, h]
theorem ownV_miss {x : Id2} {y : Vt} (m : List Vt) (h : ¬ y.p = x) : ownV (m ++ [y]) x = ownV m x := by simp [ownV, h]
theorem ownV_length (m : List Vt) (x : Id2) : (ownV m x).length ≤ m.length := by
  unfold ownV; rw [List.length_map]; exact List.length_filter_le _ _
theorem mem_ownV {m : List Vt} {x : Id2} {f : Int} : f ∈ ownV m x ↔ ∃ y ∈ m, y.p = x ∧ y.f = f := by
  simp only [ownV, List.mem_map, List.mem_filter, and_assoc, decide_eq_true_iff]
/-- What is on the ids in a list, together. -/
def sumC (k : Cf) (l : List Bk) (m : List Vt) : List Id2 → Int := List.foldl (fun s x => s + onC k l m x) 0
theorem sumC_snoc (k : Cf) (l : List Bk) (m : List Vt) (q : List Id2) (x : Id2) : sumC k l m (q ++ [x]) = sumC k l m q + onC k l m x := by simp [sumC]
theorem sumC_bounds (k : Cf) (l : List Bk) (m : List Vt) (ks : List Id2) : ∀ j, j ≤ ks.length → 0 ≤ sumC k l m (ks.take j) ∧ sumC k l m (ks.take j) ≤ 13194139533312 * (j : Int)
  | 0, _ => by simp [sumC]
  | j + 1, hj => by
    rw [List.take_succ_eq_append_getElem hj, sumC_snoc]
    have := sumC_bounds k l m ks j (by omega)
    have := on_bounds k l m ks[j]
    omega
theorem sum_take {k : Cf} {l : List Bk} {m : List Vt} {ks : List Id2} {j : Nat} (hj : j < ks.length) : sumC k l m (ks.take (j + 1)) = sumC k l m (ks.take j) + onC k l m ks[j] := by
  rw [List.take_succ_eq_append_getElem hj, sumC_snoc]
theorem sum_kids {k : Cf} {l : List Bk} (h : mayB l = true) {m : List Vt} (hm : ∀ a ∈ m, ∀ b ∈ m, a.f = b.f → a = b) {x : Id2} (hx : standsB l x = true) : ∀ j, j ≤ (kidsB l x).length →
    weightC k (((kidsB l x).take j).flatMap fun z => whoC l m z) = sumC k l m ((kidsB l x).take j)
  | 0, _ => weight_nil k
  | j + 1, hj => by
    have ih := sum_kids (k := k) h hm hx j (by omega)
    have hnd := kids_nodup h x
    rw [List.take_succ_eq_append_getElem hj, List.flatMap_append, sumC_snoc, ← ih]
    have e : ([(kidsB l x)[j]].flatMap fun z => whoC l m z) = whoC l m (kidsB l x)[j] := by simp
    rw [e]
    refine (weight_both k _ _).2 fun f hf hg => ?_
    obtain ⟨z, hz, hfz⟩ := List.mem_flatMap.1 hf
    obtain ⟨a, ha, hau, rfl⟩ := mem_whoC.1 hfz
    obtain ⟨b, hb, hbu, e⟩ := mem_whoC.1 hg
    have := hm b hb a ha e
    subst this
    have hzk := List.mem_of_mem_take hz
    have := kid_one h hx hzk (List.getElem_mem hj) hau hbu
    obtain ⟨i, hi, rfl⟩ := List.mem_take_iff_getElem.1 hz
    exact (List.pairwise_iff_getElem.1 hnd) i j (by omega) hj (by omega) this
theorem splits {k : Cf} {l : List Bk} (h : mayB l = true) {m : List Vt} (hm : ∀ a ∈ m, ∀ b ∈ m, a.f = b.f → a = b) {x : Id2} (hx : standsB l x = true) :
    onC k l m x = sumC k l m (kidsB l x) + weightC k (ownV m x) := by
  have hs := sum_kids (k := k) h hm hx _ (Nat.le_refl _)
  rw [List.take_length] at hs
  rw [← hs]
  have hd : ∀ f ∈ ((kidsB l x).flatMap fun z => whoC l m z), f ∉ ownV m x := fun f hf hg => by
    obtain ⟨z, hz, hfz⟩ := List.mem_flatMap.1 hf
    obtain ⟨a, ha, hau, rfl⟩ := mem_whoC.1 hfz
    obtain ⟨b, hb, hbp, e⟩ := mem_ownV.1 hg
    have := hm b hb a ha e
    subst this
    rw [hbp, kid_not h hx hz] at hau
    cases hau
  rw [← (weight_both k _ _).2 hd]
  refine weight_mem k fun f => ?_
  rw [List.mem_append, List.mem_flatMap, mem_whoC, mem_ownV]
  constructor
  · rintro ⟨y, hy, hu, e⟩
    rcases under_kids h hx _ rfl hu with q | ⟨z, hz, hzu⟩
    · exact Or.inr ⟨y, hy, q, e⟩
    · exact Or.inl ⟨z, hz, mem_whoC.2 ⟨y, hy, hzu, e⟩⟩
  · rintro (⟨z, hz, hf⟩ | ⟨y, hy, q, e⟩)
    · obtain ⟨y, hy, hu, e⟩ := mem_whoC.1 hf
      exact ⟨y, hy, under_trans (kid_on h hx hz) hu, e⟩
    · exact ⟨y, hy, by rw [q]; exact under_own h hx, e⟩
end

section
theorem Cnts.wf {L R : List Vt} {q : Int → Bool} (h : Cnts L q R) (hw : WfVs L) : WfVs R := fun y hy => hw y ((h.2 y).1 hy).1
theorem Cnts.one {L R : List Vt} {q : Int → Bool} (h : Cnts L q R) : ∀ a ∈ R, ∀ b ∈ R, a.f = b.f → a = b := fun a ha b hb e => by
  obtain ⟨i, hi, rfl⟩ := List.getElem_of_mem ha
  obtain ⟨j, hj, rfl⟩ := List.getElem_of_mem hb
  rcases Nat.lt_trichotomy i j with q | q | q
  · have := h.rise hj q; omega
  · subst q; rfl
  · have := h.rise hi q; omega
theorem kids_wf (l : List Bk) (x : Id2) : ∀ z ∈ kidsC l x, WfI z := fun z hz => by
  cases h : mayB l with
  | false => rw [kidsC_no x h] at hz; cases hz
  | true =>
    rw [kidsC_yes x h] at hz
    obtain ⟨i, hi, rfl, _⟩ := mem_kids.1 hz
    exact nameB_lt _
theorem kids_le (l : List Bk) (x : Id2) : (kidsC l x).length ≤ l.length := by
  cases h : mayB l with
  | false => rw [kidsC_no x h]; simp
  | true =>
    rw [kidsC_yes x h]
    unfold kidsB namesB
    rw [List.length_map]
    exact List.length_filter_le _ _
theorem chain_empty {l : List Bk} {x : Id2} (h : mayB l = true) (e : (chainC l x).length = 0) (k : Cf) (m : List Vt) : onC k l m x = 0 := by
  cases q : standsB l x with
  | false => exact onC_none fun y _ => under_unknown q y.p
  | true =>
    obtain ⟨r, s⟩ := chainB_head l x
    rw [chainC_yes h q, s] at e
    simp at e
theorem chain_full {l : List Bk} {x : Id2} (h : mayB l = true) (e : ¬ (chainC l x).length = 0) {k : Cf} {L m : List Vt} {s : Int → Bool} (hm : Cnts L s m) : onC k l m x = sumC k l m (kidsC l x) + weightC k (ownV m x) := by
  cases q : standsB l x with
  | false => exact absurd (by rw [chainC_no fun _ => q]; rfl) e
  | true => rw [kidsC_yes x h]; exact splits h hm.one q
theorem own_le (m : List Vt) (x : Id2) (j : Nat) : (ownV (m.take j) x).length ≤ j := by
  have := ownV_length (m.take j) x
  rw [List.length_take] at this
  omega
theorem own_hit {m : List Vt} {x : Id2} {j : Nat} (hj : j < m.length) (h : sameI m[j].p x = true) : ownV (m.take (j + 1)) x = ownV (m.take j) x ++ [m[j].f] := by
  rw [List.take_succ_eq_append_getElem hj, ownV_hit _ (of_decide_eq_true h)]
theorem own_miss {m : List Vt} {x : Id2} {j : Nat} (hj : j < m.length) (h : sameI m[j].p x = false) : ownV (m.take (j + 1)) x = ownV (m.take j) x := by
  rw [List.take_succ_eq_append_getElem hj, ownV_miss _ (of_decide_eq_false h)]
end

section
set_option linter.unusedSimpArgs false
set_option linter.unusedVariables false

/-- y is better than x: more is on it, or as much, and its name is greater. -/
def beats (g : Id2 → Int) (x y : Id2) : Bool := decide (g x < g y) || (decide (g x = g y) && lessN x y)
theorem beats_iff {g : Id2 → Int} {x y : Id2} : beats g x y = true ↔ g x < g y ∨ (g x = g y ∧ (x.1 < y.1 ∨ (x.1 = y.1 ∧ x.2 < y.2))) := by
  unfold beats lessN
  rw [Bool.or_eq_true, Bool.and_eq_true, decide_eq_true_iff, decide_eq_true_iff, decide_eq_true_iff]
theorem beats_no {g : Id2 → Int} {x y : Id2} : beats g x y = false ↔ ¬ (g x < g y ∨ (g x = g y ∧ (x.1 < y.1 ∨ (x.1 = y.1 ∧ x.2 < y.2)))) := by
  rw [← beats_iff, Bool.not_eq_true]
theorem beats_self (g : Id2 → Int) (x : Id2) : beats g x x = false := beats_no.2 (by omega)
theorem beats_trans {g : Id2 → Int} {x y z : Id2} (h : beats g x y = true) (k : beats g y z = true) : beats g x z = true := by
  rw [beats_iff] at *
  omega
theorem beats_one {g : Id2 → Int} {x y : Id2} (h : beats g x y = false) (k : beats g y x = false) : x = y := by
  rw [beats_no] at *
  obtain ⟨a, b⟩ := x
  obtain ⟨c, d⟩ := y
  simp only [Prod.mk.injEq] at *
  omega
/-- .. than x, or x is none. -/
theorem beats_of {g : Id2 → Int} {x y z : Id2} (h : beats g x y = false) (k : beats g x z = true) : beats g y z = true := by
  cases q : beats g y x with
  | true => exact beats_trans q k
  | false => rw [← beats_one h q]; exact k
def bestTo (g : Id2 → Int) : List Id2 → Option Id2 := List.foldl (fun b x => match b with | none => some x | some y => if beats g y x then some x else some y) none
theorem bestTo_nil (g : Id2 → Int) : bestTo g [] = none := rfl
theorem bestTo_snoc (g : Id2 → Int) (q : List Id2) (x : Id2) : bestTo g (q ++ [x]) = match bestTo g q with | none => some x | some y => if beats g y x then some x else some y := by simp [bestTo]
theorem bestTo_first {g : Id2 → Int} {q : List Id2} {x : Id2} (h : bestTo g q = none) : bestTo g (q ++ [x]) = some x := by rw [bestTo_snoc, h]
theorem bestTo_hit {g : Id2 → Int} {q : List Id2} {x y : Id2} (h : bestTo g q = some y) (b : beats g y x = true) : bestTo g (q ++ [x]) = some x := by rw [bestTo_snoc, h]; simp [b]
theorem bestTo_miss {g : Id2 → Int} {q : List Id2} {x y : Id2} (h : bestTo g q = some y) (b : beats g y x = false) : bestTo g (q ++ [x]) = some y := by rw [bestTo_snoc, h]; simp [b]
/-- The best one is there, and none is better. -/
def IsBest (g : Id2 → Int) (q : List Id2) (y : Id2) : Prop := y ∈ q ∧ ∀ z ∈ q, beats g y z = false
theorem IsBest.one {g : Id2 → Int} {q : List Id2} {x y : Id2} (h : IsBest g q x) (k : IsBest g q y) : x = y := beats_one (h.2 y k.1) (k.2 x h.1)
theorem bestTo_is {g : Id2 → Int} (q : List Id2) : (bestTo g q = none ∧ q = []) ∨ ∃ y, bestTo g q = some y ∧ IsBest g q y := by
  suffices H : ∀ n, ∀ q : List Id2, q.length = n → (bestTo g q = none ∧ q = []) ∨ ∃ y, bestTo g q = some y ∧ IsBest g q y from H _ q rfl
  intro n
  induction n with
  | zero => intro q hq; rw [List.eq_nil_of_length_eq_zero hq]; exact Or.inl ⟨rfl, rfl⟩
  | succ n ih =>
    intro q hq
    right
    obtain ⟨r, x, rfl⟩ : ∃ r x, q = r ++ [x] := ⟨q.dropLast, q.getLast (by intro e; rw [e] at hq; cases hq), (List.dropLast_concat_getLast _).symm⟩
    rw [List.length_append] at hq
    rcases ih r (by simpa using hq) with ⟨h, rfl⟩ | ⟨y, h, hm, hb⟩
    · exact ⟨x, bestTo_first h, by simp, fun z hz => by rw [show z = x by simpa using hz]; exact beats_self g x⟩
    · cases b : beats g y x with
      | true =>
        refine ⟨x, bestTo_hit h b, by simp, fun z hz => ?_⟩
        rcases List.mem_append.1 hz with hz | hz
        · cases q : beats g x z with
          | false => rfl
          | true => have e := hb z hz; rw [beats_trans b q] at e; cases e
        · rw [show z = x by simpa using hz]; exact beats_self g x
      | false =>
        refine ⟨y, bestTo_miss h b, List.mem_append_left _ hm, fun z hz => ?_⟩
        rcases List.mem_append.1 hz with hz | hz
        · exact hb z hz
        · rw [show z = x by simpa using hz]; exact b
theorem bestTo_of {g : Id2 → Int} {q : List Id2} {y : Id2} (h : IsBest g q y) : bestTo g q = some y := by
  rcases bestTo_is (g := g) q with ⟨_, rfl⟩ | ⟨z, e, hz⟩
  · cases h.1
  · rw [e, h.one hz]
theorem bestTo_mem {g : Id2 → Int} {q : List Id2} {y : Id2} (h : bestTo g q = some y) : y ∈ q := by
  rcases bestTo_is (g := g) q with ⟨e, _⟩ | ⟨z, e, hz⟩
  · rw [e] at h; cases h
  · rw [e] at h; injection h with h; rw [← h]; exact hz.1
theorem bestTo_none {g : Id2 → Int} {q : List Id2} (h : bestTo g q = none) : q = [] := by
  rcases bestTo_is (g := g) q with ⟨_, e⟩ | ⟨z, e, _⟩
  · exact e
  · rw [e] at h; cases h

/-! ### Best and Head -/
def bestC (k : Cf) (l : List Bk) (v : List Vt) (x : Id2) : Option Id2 := bestTo (onC k l v) (kidsC l x)
def bestId (o : Option Id2) : Id2 := o.getD zid
theorem bestC_no {k : Cf} {l : List Bk} {v : List Vt} (h : mayB l = false) (x : Id2) : bestC k l v x = none := by unfold bestC; rw [kidsC_no x h]; rfl
theorem kid_rank {l : List Bk} {x y : Id2} (h : y ∈ kidsC l x) : rank l x < rank l y ∧ rank l y ≤ l.length := by
  cases m : mayB l with
  | false => rw [kidsC_no x m] at h; cases h
  | true =>
    rw [kidsC_yes x m] at h
    obtain ⟨i, hi, rfl, e⟩ := mem_kids.1 h
    have h1 := rank_parent m hi
    rw [e] at h1
    rw [rank_some (may_pos m hi)]
    omega
def headTo (b : Id2 → Option Id2) : Nat → Id2 → Id2
  | 0, x => x
  | n + 1, x => match b x with | none => x | some y => headTo b n y
theorem headTo_stop {b : Id2 → Option Id2} {x : Id2} (h : b x = none) : ∀ n, headTo b n x = x
  | 0 => rfl
  | n + 1 => by unfold headTo; rw [h]
theorem headTo_more {b : Id2 → Option Id2} {r : Id2 → Nat} {L : Nat} (hr : ∀ x y, b x = some y → r x < r y ∧ r y ≤ L) : ∀ (n : Nat) (x : Id2), L ≤ n + r x → headTo b (n + 1) x = headTo b n x
  | 0, x, h => by
    cases q : b x with
    | none => rw [headTo_stop q, headTo_stop q]
    | some y => have := hr x y q; omega
  | n + 1, x, h => by
    cases q : b x with
    | none => rw [headTo_stop q, headTo_stop q]
    | some y =>
      have := hr x y q
      have e := headTo_more hr n y (by omega)
      unfold headTo
      rw [q]
      exact e
/-- From x on, as far as it goes. -/
def headX (k : Cf) (l : List Bk) (v : List Vt) (x : Id2) : Id2 := headTo (bestC k l v) l.length x
def headC (k : Cf) (l : List Bk) (v : List Vt) : Id2 := headX k l v zid
theorem headX_stop {k : Cf} {l : List Bk} {v : List Vt} {x : Id2} (h : bestC k l v x = none) : headX k l v x = x := headTo_stop h _
theorem headX_step {k : Cf} {l : List Bk} {v : List Vt} {x y : Id2} (h : bestC k l v x = some y) : headX k l v x = headX k l v y := by
  have hr : ∀ x y, bestC k l v x = some y → rank l x < rank l y ∧ rank l y ≤ l.length := fun x y q => kid_rank (bestTo_mem q)
  have h1 := hr x y h
  unfold headX
  rw [← headTo_more hr l.length x (by omega)]
  have e : headTo (bestC k l v) (l.length + 1) x = headTo (bestC k l v) l.length y := by
    show (match bestC k l v x with | none => x | some y => headTo (bestC k l v) l.length y) = _
    rw [h]
  exact e
theorem best_rank {k : Cf} {l : List Bk} {v : List Vt} {x y : Id2} (h : bestC k l v x = some y) : rank l x < rank l y ∧ rank l y ≤ l.length := kid_rank (bestTo_mem h)
theorem best_wf {k : Cf} {l : List Bk} {v : List Vt} {x y : Id2} (h : bestC k l v x = some y) : WfI y := kids_wf l x y (bestTo_mem h)
theorem headTo_wf {b : Id2 → Option Id2} (hb : ∀ x y, b x = some y → WfI y) : ∀ (n : Nat) (x : Id2), WfI x → WfI (headTo b n x)
  | 0, _, h => h
  | n + 1, x, h => by
    unfold headTo
    cases q : b x with
    | none => exact h
    | some y => exact headTo_wf hb n y (hb x y q)
theorem headC_wf (k : Cf) (l : List Bk) (v : List Vt) : WfI (headC k l v) := headTo_wf (fun _ _ h => best_wf h) _ _ WfI.zid
end

section
set_option linter.unusedSimpArgs false
set_option linter.unusedVariables false

def boostC (k : Cf) (pct : Int) : Int := if mayC k = true ∧ 0 ≤ pct ∧ pct ≤ 100 then totalC k / k.ep * pct / 100 else 0
theorem boostC_yes {k : Cf} {pct : Int} (h : mayC k = true) (h0 : 0 ≤ pct) (h1 : pct ≤ 100) : boostC k pct = totalC k / k.ep * pct / 100 := if_pos ⟨h, h0, h1⟩
theorem boostC_no {k : Cf} {pct : Int} (h : ¬ (mayC k = true ∧ 0 ≤ pct ∧ pct ≤ 100)) : boostC k pct = 0 := if_neg h
theorem total_zero (k : Cf) : 0 ≤ totalC k := by
  have := weight_total k []
  rw [weight_nil] at this
  exact this
theorem quo_le {a b : Int} (ha : 0 ≤ a) (hb : 1 ≤ b) : 0 ≤ a / b ∧ a / b ≤ a := ⟨Int.ediv_nonneg ha (by omega), Int.ediv_le_self b ha⟩
theorem part_le {q pct : Int} (hq : 0 ≤ q) (h0 : 0 ≤ pct) (h1 : pct ≤ 100) : 0 ≤ q * pct ∧ q * pct ≤ q * 100 ∧ 0 ≤ q * pct / 100 ∧ q * pct / 100 ≤ q := by
  have a := Int.mul_nonneg hq h0
  have b := Int.mul_le_mul_of_nonneg_left h1 hq
  exact ⟨a, b, by omega, by omega⟩
theorem boost_bounds (k : Cf) (pct : Int) : 0 ≤ boostC k pct ∧ boostC k pct ≤ totalC k := by
  have t0 := total_zero k
  unfold boostC
  split
  · rename_i h
    have h1 := quo_le t0 (mayC_yes h.1).2.2.2.1
    have h2 := part_le h1.1 h.2.1 h.2.2
    omega
  · omega
theorem boost_up {k : Cf} {p q : Int} (h0 : 0 ≤ p) (hpq : p ≤ q) (h1 : q ≤ 100) : boostC k p ≤ boostC k q := by
  cases hm : mayC k with
  | false => rw [boostC_no (by rw [hm]; simp), boostC_no (by rw [hm]; simp)]; omega
  | true =>
    rw [boostC_yes hm h0 (by omega), boostC_yes hm (by omega) h1]
    have hq := (quo_le (total_zero k) (mayC_yes hm).2.2.2.1).1
    have := Int.mul_le_mul_of_nonneg_left hpq hq
    omega
theorem boost_none (k : Cf) : boostC k 0 = 0 := by unfold boostC; split <;> simp

/-- How much a boost puts on an id. -/
def liftC (l : List Bk) (boost : Id2) (B : Int) (x : Id2) : Int := if boost ≠ zid ∧ underC l x boost = true then B else 0
def onB (k : Cf) (l : List Bk) (R : List Vt) (boost : Id2) (pct : Int) (x : Id2) : Int := onC k l R x + liftC l boost (boostC k pct) x
theorem lift_bounds (l : List Bk) (boost : Id2) {B : Int} (h : 0 ≤ B) (x : Id2) : 0 ≤ liftC l boost B x ∧ liftC l boost B x ≤ B := by
  unfold liftC; split <;> omega
theorem lift_yes {l : List Bk} {boost x : Id2} (B : Int) (h : boost ≠ zid) (u : underC l x boost = true) : liftC l boost B x = B := if_pos ⟨h, u⟩
theorem lift_no {l : List Bk} {boost x : Id2} (B : Int) (u : underC l x boost = false) : liftC l boost B x = 0 := if_neg (by rw [u]; simp)
theorem lift_zid (l : List Bk) (B : Int) (x : Id2) : liftC l zid B x = 0 := if_neg (by simp)
theorem lift_zero (l : List Bk) (boost x : Id2) : liftC l boost 0 x = 0 := by unfold liftC; split <;> rfl
theorem onB_zid (k : Cf) (l : List Bk) (R : List Vt) (pct : Int) : onB k l R zid pct = onC k l R := by funext x; unfold onB; rw [lift_zid, Int.add_zero]
theorem onB_zero (k : Cf) (l : List Bk) (R : List Vt) (boost : Id2) {pct : Int} (h : boostC k pct = 0) : onB k l R boost pct = onC k l R := by funext x; unfold onB; rw [h, lift_zero, Int.add_zero]
theorem onB_bounds (k : Cf) (l : List Bk) (R : List Vt) (boost : Id2) (pct : Int) (x : Id2) : 0 ≤ onB k l R boost pct x ∧ onB k l R boost pct x ≤ totalC k + boostC k pct ∧ onB k l R boost pct x ≤ 26388279066624 := by
  have h1 := on_bounds k l R x
  have h2 := boost_bounds k pct
  have h3 := lift_bounds l boost h2.1 x
  have h4 := weight_total k (whoC l R x)
  have h5 := total_bounds k
  unfold onB
  unfold onC at *
  omega
theorem lift_below {l : List Bk} {boost : Id2} {B : Int} (h : 0 ≤ B) {low x : Id2} (u : underC l low x = true) : liftC l boost B x ≤ liftC l boost B low := by
  by_cases hb : boost ≠ zid ∧ underC l x boost = true
  · rw [lift_yes B hb.1 hb.2, lift_yes B hb.1 (under_trans u hb.2)]; omega
  · rw [show liftC l boost B x = 0 from if_neg hb]; exact (lift_bounds l boost h low).1
theorem onB_below {k : Cf} {l : List Bk} (R : List Vt) (boost : Id2) (pct : Int) {low x : Id2} (u : underC l low x = true) : onB k l R boost pct x ≤ onB k l R boost pct low := by
  have h1 : onC k l R x ≤ onC k l R low := weight_mono k fun f hf => by
    obtain ⟨z, hz, hu, e⟩ := mem_whoC.1 hf
    exact mem_whoC.2 ⟨z, hz, under_trans u hu, e⟩
  have h2 := lift_below (boost := boost) (boost_bounds k pct).1 u
  unfold onB
  omega

/-! ### The head by whatever is on ids -/
def bestG (g : Id2 → Int) (l : List Bk) (x : Id2) : Option Id2 := bestTo g (kidsC l x)
def headG (g : Id2 → Int) (l : List Bk) : Id2 := headTo (bestG g l) l.length zid
theorem headG_on (k : Cf) (l : List Bk) (v : List Vt) : headG (onC k l v) l = headC k l v := rfl
theorem bestG_rank {g : Id2 → Int} {l : List Bk} {x y : Id2} (h : bestG g l x = some y) : rank l x < rank l y ∧ rank l y ≤ l.length := kid_rank (bestTo_mem h)
theorem bestG_wf {g : Id2 → Int} {l : List Bk} {x y : Id2} (h : bestG g l x = some y) : WfI y := kids_wf l x y (bestTo_mem h)
theorem headG_wf (g : Id2 → Int) (l : List Bk) : WfI (headG g l) := headTo_wf (fun _ _ h => bestG_wf h) _ _ WfI.zid
/-- From x on, as far as it goes. -/
def headGX (g : Id2 → Int) (l : List Bk) (x : Id2) : Id2 := headTo (bestG g l) l.length x
theorem headGX_stop {g : Id2 → Int} {l : List Bk} {x : Id2} (h : bestG g l x = none) : headGX g l x = x := headTo_stop h _
theorem headGX_step {g : Id2 → Int} {l : List Bk} {x y : Id2} (h : bestG g l x = some y) : headGX g l x = headGX g l y := by
  have hr : ∀ x y, bestG g l x = some y → rank l x < rank l y ∧ rank l y ≤ l.length := fun x y q => bestG_rank q
  have h1 := hr x y h
  unfold headGX
  rw [← headTo_more hr l.length x (by omega)]
  show (match bestG g l x with | none => x | some y => headTo (bestG g l) l.length y) = _
  rw [h]
section
variable {l : List Bk} (hm : mayB l = true) {g : Id2 → Int}
include hm
theorem kidsC_mem {x z : Id2} : z ∈ kidsC l x ↔ z ∈ kidsB l x := by rw [kidsC_yes x hm]
theorem bestG_under {x y : Id2} (hx : standsB l x = true) (h : bestG g l x = some y) : underC l x y = true ∧ standsB l y = true := by
  have hk := (kidsC_mem hm).1 (bestTo_mem h)
  have := kid_on hm hx hk
  exact ⟨this, (under_stands this).2.2⟩
/-- What x's head is stands on x. -/
theorem headGX_under : ∀ (n : Nat) {x : Id2}, standsB l x = true → l.length ≤ n + rank l x → underC l x (headGX g l x) = true
  | 0, x, hx, hn => by
    cases q : bestG g l x with
    | none => rw [headGX_stop q]; exact under_own hm hx
    | some y => have := bestG_rank q; omega
  | n + 1, x, hx, hn => by
    cases q : bestG g l x with
    | none => rw [headGX_stop q]; exact under_own hm hx
    | some y =>
      have h1 := bestG_under hm hx q
      have h2 := bestG_rank q
      rw [headGX_step q]
      exact under_trans h1.1 (headGX_under n h1.2 (by omega))
theorem head_on {x : Id2} (hx : standsB l x = true) : underC l x (headGX g l x) = true := headGX_under hm l.length hx (by omega)
/-- Where each one above t has its best one towards t, t is under the head. -/
theorem head_through {t : Id2} : ∀ (n : Nat) {x : Id2}, underC l x t = true → l.length ≤ n + rank l x →
    (∀ y z, underC l x y = true → z ∈ kidsB l y → underC l z t = true → bestG g l y = some z) → underC l t (headGX g l x) = true
  | n, x, hu, hn, hb => by
    have hs := under_stands hu
    rcases under_kids hm hs.2.1 _ rfl hu with e | ⟨z, hz, hzt⟩
    · subst e; exact head_on hm hs.2.2
    · have q := hb x z (under_own hm hs.2.1) hz hzt
      have h2 := bestG_rank q
      rw [headGX_step q]
      have hxz := kid_on hm hs.2.1 hz
      match n, hn with
      | 0, hn => omega
      | n + 1, hn => exact head_through n hzt (by omega) fun y z' h1 h3 h4 => hb y z' (under_trans hxz h1) h3 h4
/-- .. and the other way round. -/
theorem head_path {t : Id2} : ∀ (n : Nat) {x : Id2}, underC l x t = true → l.length ≤ n + rank l x → underC l t (headGX g l x) = true →
    ∀ y z, underC l x y = true → z ∈ kidsB l y → underC l z t = true → bestG g l y = some z
  | n, x, hu, hn, hh, y, z, hxy, hz, hzt => by
    have hs := under_stands hu
    have hy := (under_stands hxy).2.2
    have hyz := kid_on hm hy hz
    have hyt : underC l y t = true := under_trans hyz hzt
    cases q : bestG g l x with
    | none =>
      rw [headGX_stop q] at hh
      have e : x = t := under_anti hu hh
      exfalso
      have h1 : underC l z x = true := by rw [e]; exact hzt
      have h2 := under_trans h1 hxy
      rw [kid_not hm hy hz] at h2
      cases h2
    | some y' =>
      have h1 := bestG_under hm hs.2.1 q
      have h2 := bestG_rank q
      have hk := (kidsC_mem hm).1 (bestTo_mem q)
      rw [headGX_step q] at hh
      have hyh := head_on hm (g := g) h1.2
      rcases under_kids hm hs.2.1 _ rfl hxy with e | ⟨z0, hz0, hz0y⟩
      · subst e
        have : z = y' := kid_one hm hs.2.1 hz hk (under_trans hzt hh) hyh
        rw [this]; exact q
      · have e : z0 = y' := kid_one hm hs.2.1 hz0 hk (under_trans (under_trans hz0y hyt) hh) hyh
        subst e
        match n, hn with
        | 0, hn => omega
        | n + 1, hn => exact head_path n (under_trans hz0y hyt) (by omega) hh y z hz0y hz hzt
theorem headG_through {t : Id2} (ht : standsB l t = true) (hb : ∀ y z, z ∈ kidsB l y → underC l z t = true → bestG g l y = some z) : underC l t (headG g l) = true := by
  refine head_through hm l.length (x := zid) ?_ (by omega) fun y z _ h1 h2 => hb y z h1 h2
  refine under_zero ?_
  rw [chainC_yes hm ht]
  obtain ⟨r, e⟩ := chainB_head l t
  rw [e]; simp
theorem headG_path {t : Id2} (h : underC l t (headG g l) = true) : ∀ y z, z ∈ kidsB l y → underC l z t = true → bestG g l y = some z := fun y z hz hzt => by
  have ht := (under_stands h).2.1
  have h0 : ∀ y, standsB l y = true → underC l zid y = true := fun y hy => by
    refine under_zero ?_
    rw [chainC_yes hm hy]
    obtain ⟨r, e⟩ := chainB_head l y
    rw [e]; simp
  have hy : standsB l y = true := by
    obtain ⟨i, hi, e1, e2⟩ := mem_kids.1 hz
    rw [← e2]; exact may_stands hm hi
  exact head_path hm l.length (x := zid) (h0 t ht) (by omega) h y z (h0 y hy) hz hzt
theorem bestG_is {y z : Id2} (hz : z ∈ kidsB l y) (hb : ∀ x ∈ kidsB l y, x ≠ z → beats g z x = false) : bestG g l y = some z := by
  refine bestTo_of ⟨(kidsC_mem hm).2 hz, fun x hx => ?_⟩
  by_cases e : x = z
  · rw [e]; exact beats_self g z
  · exact hb x ((kidsC_mem hm).1 hx) e
theorem bestG_beats {y z x : Id2} (h : bestG g l y = some z) (hx : x ∈ kidsB l y) : beats g z x = false := by
  rcases bestTo_is (g := g) (kidsC l y) with ⟨e, _⟩ | ⟨z', e, h2⟩
  · unfold bestG at h; rw [e] at h; cases h
  · unfold bestG at h; rw [e] at h; injection h with h; rw [← h]; exact h2.2 x ((kidsC_mem hm).2 hx)
end
theorem beats_less {g : Id2 → Int} {x y : Id2} (h : g y < g x) : beats g x y = false := beats_no.2 (by omega)

/-! ### What the laws ask -/
/-- Two that stand on one, by votes of which everybody has one. -/
theorem two_kids {k : Cf} {l : List Bk} (hm : mayB l = true) {R : List Vt} (hR : ∀ a ∈ R, ∀ b ∈ R, a.f = b.f → a = b) {y z x : Id2} (hz : z ∈ kidsB l y) (hx : x ∈ kidsB l y) (hne : x ≠ z) : onC k l R z + onC k l R x ≤ onC k l R zid := by
  have hy : standsB l y = true := by
    obtain ⟨i, hi, e1, e2⟩ := mem_kids.1 hz
    rw [← e2]; exact may_stands hm hi
  have hd : ∀ f ∈ whoC l R z, f ∉ whoC l R x := fun f hf hg => by
    obtain ⟨a, ha, hau, rfl⟩ := mem_whoC.1 hf
    obtain ⟨b, hb, hbu, e⟩ := mem_whoC.1 hg
    have := hR b hb a ha e
    subst this
    exact hne (kid_one hm hy hx hz hbu hau)
  have h1 := (weight_both k (whoC l R z) (whoC l R x)).2 hd
  unfold onC
  rw [← h1]
  refine weight_mono k fun f hf => ?_
  have up : ∀ q, f ∈ whoC l R q → f ∈ whoC l R zid := fun q hq => by
    obtain ⟨a, ha, hu, e⟩ := mem_whoC.1 hq
    obtain ⟨m, sx, sz⟩ := under_stands hu
    refine mem_whoC.2 ⟨a, ha, under_zero ?_, e⟩
    rw [chainC_yes m sz]
    obtain ⟨r, e⟩ := chainB_head l a.p
    rw [e]; simp
  rcases List.mem_append.1 hf with q | q
  · exact up z q
  · exact up x q
theorem cnts_one {L : List Vt} {q : Int → Bool} {R : List Vt} (h : Cnts L q R) : ∀ a ∈ R, ∀ b ∈ R, a.f = b.f → a = b := fun a ha b hb e => cnt_one ((h.2 a).1 ha) ((h.2 b).1 hb) e
/-- A block that more is on than a half. -/
theorem half_head {k : Cf} {l : List Bk} {R : List Vt} (hR : ∀ a ∈ R, ∀ b ∈ R, a.f = b.f → a = b) {boost id : Id2} {pct : Int} (h : onC k l R zid + boostC k pct < 2 * onC k l R id) : underC l id (headG (onB k l R boost pct) l) = true := by
  have hb := boost_bounds k pct
  have h0 := on_bounds k l R zid
  have hz : 0 < onC k l R id := by omega
  obtain ⟨f, hf⟩ : ∃ f, f ∈ whoC l R id := by
    cases q : whoC l R id with
    | nil => unfold onC at hz; rw [q, weight_nil] at hz; omega
    | cons f r => exact ⟨f, by simp⟩
  obtain ⟨a, ha, hu, _⟩ := mem_whoC.1 hf
  obtain ⟨hm, ht, _⟩ := under_stands hu
  refine headG_through hm ht fun y z hz hzt => bestG_is hm hz fun x hx hne => ?_
  have h1 : onC k l R id ≤ onC k l R z := weight_mono k fun f hf => by
    obtain ⟨z', hz', hu, e⟩ := mem_whoC.1 hf
    exact mem_whoC.2 ⟨z', hz', under_trans hzt hu, e⟩
  have h2 := two_kids (k := k) hm hR hz hx hne
  have h3 := lift_bounds l boost hb.1 z
  have h4 := lift_bounds l boost hb.1 x
  refine beats_less ?_
  unfold onB
  omega
/-- A greater boost leaves under the head what it is for. -/
theorem up_head {k : Cf} {l : List Bk} {R : List Vt} {boost : Id2} {p q : Int} (h0 : 0 ≤ p) (hpq : p ≤ q) (h1 : q ≤ 100) (h : underC l boost (headG (onB k l R boost p) l) = true) : underC l boost (headG (onB k l R boost q) l) = true := by
  obtain ⟨hm, ht, _⟩ := under_stands h
  by_cases hz : boost = zid
  · subst hz; rw [onB_zid] at *; exact h
  have hu := boost_up (k := k) h0 hpq h1
  refine headG_through hm ht fun y z hzk hzt => bestG_is hm hzk fun x hx hne => ?_
  have hb := bestG_beats hm (headG_path hm h y z hzk hzt) hx
  have hy : standsB l y = true := by
    obtain ⟨i, hi, e1, e2⟩ := mem_kids.1 hzk
    rw [← e2]; exact may_stands hm hi
  have hxn : underC l x boost = false := by
    cases r : underC l x boost with
    | false => rfl
    | true => exact absurd (kid_one hm hy hx hzk r hzt) hne
  rw [beats_no] at hb ⊢
  unfold onB at hb ⊢
  rw [lift_yes _ hz hzt, lift_no _ hxn] at hb ⊢
  omega
/-- Without votes the boost alone tells. -/
theorem none_head {k : Cf} {l : List Bk} {boost : Id2} {pct : Int} (hm : mayB l = true) (ht : standsB l boost = true) (h : 0 < boostC k pct) : underC l boost (headG (onB k l [] boost pct) l) = true := by
  refine headG_through hm ht fun y z hz hzt => bestG_is hm hz fun x hx hne => ?_
  have hy : standsB l y = true := by
    obtain ⟨i, hi, e1, e2⟩ := mem_kids.1 hz
    rw [← e2]; exact may_stands hm hi
  have hxn : underC l x boost = false := by
    cases r : underC l x boost with
    | false => rfl
    | true => exact absurd (kid_one hm hy hx hz r hzt) hne
  have hn : ∀ i, onC k l [] i = 0 := fun i => onC_none fun _ q => by cases q
  have hbz : boost ≠ zid := fun e => by
    subst e
    rw [under_zid hm] at hzt
    have e2 : zid = z := of_decide_eq_true hzt
    subst e2
    obtain ⟨i, hi, e1, _⟩ := mem_kids.1 hz
    have h1 := may_pos hm hi
    rw [e1, may_zero hm] at h1
    cases h1
  refine beats_less ?_
  unfold onB
  rw [hn, hn, lift_yes _ hbz hzt, lift_no _ hxn]
  omega

/-! ### Which votes are the last ones -/
theorem cnt_same {L M : List Vt} {q : Int → Bool} (h : ∀ v, q v.s = true → (v ∈ L ↔ v ∈ M)) (v : Vt) : Cnt L q v ↔ Cnt M q v := by
  suffices H : ∀ {L M : List Vt}, (∀ v, q v.s = true → (v ∈ L ↔ v ∈ M)) → Cnt L q v → Cnt M q v from ⟨H h, H fun v hv => (h v hv).symm⟩
  intro L M h c
  obtain ⟨h1, h2, h3, h4⟩ := c
  refine ⟨(h v h2).1 h1, h2, fun s hs d => h3 s hs ?_, fun a ha e hq => h4 a ((h a hq).2 ha) e hq⟩
  obtain ⟨a, ha, b, hb, e1, e2, e3, e4, ne⟩ := d
  exact ⟨a, (h a (by rw [e3]; exact hs)).2 ha, b, (h b (by rw [e4]; exact hs)).2 hb, e1, e2, e3, e4, ne⟩
theorem cnts_same {L M : List Vt} {q : Int → Bool} {R S : List Vt} (h : ∀ v, q v.s = true → (v ∈ L ↔ v ∈ M)) (hR : Cnts L q R) (hS : Cnts M q S) : R = S :=
  rise_eq Vt.f hR.1 hS.1 fun v => (hR.2 v).trans ((cnt_same h v).trans (hS.2 v).symm)
theorem cnts_nil (q : Int → Bool) : Cnts [] q [] := ⟨List.Pairwise.nil, fun v => ⟨fun h => (by cases h), fun h => h.1⟩⟩
theorem cnts_mem {L : List Vt} {q : Int → Bool} {R : List Vt} (h : Cnts L q R) : ∀ v ∈ R, v ∈ L := fun v hv => ((h.2 v).1 hv).1
end

section
set_option linter.unusedSimpArgs false
set_option linter.unusedVariables false

/-- The votes of a slot's committee that count: rising, and just these. -/
def Golds (k : Cf) (slot : Int) (L R : List Vt) : Prop := R.Pairwise (fun a b => a.f < b.f) ∧ ∀ x, x ∈ R ↔ Cnt L (isQ slot) x ∧ inC k slot x.f = true
theorem Golds.unique {k : Cf} {slot : Int} {L R S : List Vt} (h : Golds k slot L R) (g : Golds k slot L S) : R = S := rise_eq Vt.f h.1 g.1 fun x => (h.2 x).trans (g.2 x).symm
/-- Those of a list who are in the committee. -/
def goldL (k : Cf) (slot : Int) (A : List Vt) : List Vt := A.filter fun x => inC k slot x.f
theorem goldL_hit {k : Cf} {slot : Int} {A : List Vt} {j : Nat} (hj : j < A.length) (h : inC k slot A[j].f = true) : goldL k slot (A.take (j + 1)) = goldL k slot (A.take j) ++ [A[j]] := by
  unfold goldL
  rw [List.take_succ_eq_append_getElem hj, List.filter_append]
  congr 1
  simp [h]
theorem goldL_miss {k : Cf} {slot : Int} {A : List Vt} {j : Nat} (hj : j < A.length) (h : inC k slot A[j].f = false) : goldL k slot (A.take (j + 1)) = goldL k slot (A.take j) := by
  unfold goldL
  rw [List.take_succ_eq_append_getElem hj, List.filter_append]
  simp [h]
theorem goldL_le (k : Cf) (slot : Int) (A : List Vt) : (goldL k slot A).length ≤ A.length := List.length_filter_le _ _
theorem golds_of {k : Cf} {slot : Int} {L A : List Vt} (h : Cnts L (isQ slot) A) : Golds k slot L (goldL k slot A) := by
  refine ⟨h.1.filter _, fun x => ?_⟩
  unfold goldL
  rw [List.mem_filter, h.2]
theorem golds_mem {k : Cf} {slot : Int} {L R : List Vt} (h : Golds k slot L R) : ∀ x ∈ R, x ∈ L := fun x hx => ((h.2 x).1 hx).1.1
theorem golds_one {k : Cf} {slot : Int} {L R : List Vt} (h : Golds k slot L R) : ∀ a ∈ R, ∀ b ∈ R, a.f = b.f → a = b := fun a ha b hb e => cnt_one ((h.2 a).1 ha).1 ((h.2 b).1 hb).1 e
theorem golds_none {k : Cf} {slot : Int} {L : List Vt} (h : ∀ who, inC k slot who = false) : Golds k slot L [] := ⟨List.Pairwise.nil, fun x => ⟨fun q => (by cases q), fun q => by rw [h] at q; cases q.2⟩⟩

/-! ### What does not matter -/
theorem golds_same {k : Cf} {slot : Int} {L M R S : List Vt} (h : ∀ v, isQ slot v.s = true → (v ∈ L ↔ v ∈ M)) (hR : Golds k slot L R) (hS : Golds k slot M S) : R = S :=
  rise_eq Vt.f hR.1 hS.1 fun x => (hR.2 x).trans ((and_congr_left fun _ => cnt_same h x).trans (hS.2 x).symm)
/-- A vote of somebody else. -/
theorem cnt_other {L : List Vt} {q : Int → Bool} {x y : Vt} (h : y.f ≠ x.f) : Cnt (L ++ [x]) q y ↔ Cnt L q y := by
  have hd : ∀ s, Dbl (L ++ [x]) s y.f ↔ Dbl L s y.f := fun s => by
    constructor
    · rintro ⟨a, ha, b, hb, e1, e2, r⟩
      have pa : a ∈ L := by
        rcases List.mem_append.1 ha with q | q
        · exact q
        · rw [List.mem_singleton] at q; subst q; exact absurd e1.symm h
      have pb : b ∈ L := by
        rcases List.mem_append.1 hb with q | q
        · exact q
        · rw [List.mem_singleton] at q; subst q; exact absurd e2.symm h
      exact ⟨a, pa, b, pb, e1, e2, r⟩
    · exact Dbl.of fun v hv => List.mem_append_left _ hv
  constructor
  · rintro ⟨h1, h2, h3, h4⟩
    refine ⟨?_, h2, fun s hs d => h3 s hs ((hd s).2 d), fun a ha e hq => h4 a (List.mem_append_left _ ha) e hq⟩
    rcases List.mem_append.1 h1 with q | q
    · exact q
    · rw [List.mem_singleton] at q; subst q; exact absurd rfl h
  · rintro ⟨h1, h2, h3, h4⟩
    refine ⟨List.mem_append_left _ h1, h2, fun s hs d => h3 s hs ((hd s).1 d), fun a ha e hq => ?_⟩
    rcases List.mem_append.1 ha with q | q
    · exact h4 a q e hq
    · rw [List.mem_singleton] at q; subst q; exact absurd e.symm h
theorem golds_other {k : Cf} {slot : Int} {L R S : List Vt} {x : Vt} (h : x.s ≠ slot ∨ inC k slot x.f = false) (hR : Golds k slot (L ++ [x]) R) (hS : Golds k slot L S) : R = S := by
  rcases h with h | h
  · refine golds_same (fun v hv => ?_) hR hS
    rw [isQ_iff] at hv
    rw [List.mem_append, List.mem_singleton]
    exact ⟨fun q => q.elim id fun e => absurd (by rw [← e]; exact hv) h, Or.inl⟩
  · refine rise_eq Vt.f hR.1 hS.1 fun y => (hR.2 y).trans (Iff.trans ?_ (hS.2 y).symm)
    by_cases e : y.f = x.f
    · rw [e, h]; simp
    · rw [cnt_other e]

/-! ### The head -/
/-- Where more than a half is for a block. -/
theorem gold_half {k : Cf} {l : List Bk} {R : List Vt} (hR : ∀ a ∈ R, ∀ b ∈ R, a.f = b.f → a = b) {id : Id2} (h : onC k l R zid < 2 * onC k l R id) : underC l id (headC k l R) = true := by
  have := half_head (k := k) (l := l) (R := R) (boost := zid) (pct := 0) (id := id) hR (by rw [boost_none]; omega)
  rw [onB_zid] at this
  exact this
/-- What some of the committee weigh more than all the others in it. -/
theorem gold_outvotes {k : Cf} {l : List Bk} {R good : List Vt} {bad : List Int} {slot : Int} {id : Id2} (hR : ∀ a ∈ R, ∀ b ∈ R, a.f = b.f → a = b) (hg : ∀ x ∈ good, x ∈ R) (hc : ∀ x ∈ R, inC k slot x.f = true)
    (hb : ∀ f, inC k slot f = true → (¬ ∃ x ∈ good, x.f = f ∧ underC l id x.p = true) → f ∈ bad) (h : weightC k bad < onC k l good id) : underC l id (headC k l R) = true := by
  have w0 : 0 ≤ weightC k bad := (weight_bounds k bad).1
  obtain ⟨f, hf⟩ : ∃ f, f ∈ whoC l good id := by
    cases q : whoC l good id with
    | nil => unfold onC at h; rw [q, weight_nil] at h; omega
    | cons f r => exact ⟨f, by simp⟩
  obtain ⟨a, ha, hu, _⟩ := mem_whoC.1 hf
  obtain ⟨hm, ht, _⟩ := under_stands hu
  have key : underC l id (headG (onC k l R) l) = true := by
    refine headG_through hm ht fun y z hz hzt => bestG_is hm hz fun x hx hne => beats_less ?_
    have hy : standsB l y = true := by
      obtain ⟨i, hi, e1, e2⟩ := mem_kids.1 hz
      rw [← e2]; exact may_stands hm hi
    have h1 : onC k l good id ≤ onC k l R z := weight_mono k fun f hf => by
      obtain ⟨a, ha, hu, e⟩ := mem_whoC.1 hf
      exact mem_whoC.2 ⟨a, hg a ha, under_trans hzt hu, e⟩
    have h2 : onC k l R x ≤ weightC k bad := weight_mono k fun f hf => by
      obtain ⟨a, ha, hua, e⟩ := mem_whoC.1 hf
      refine hb f (by rw [← e]; exact hc a ha) ?_
      rintro ⟨b, hbg, e2, hub⟩
      have : a = b := hR a ha b (hg b hbg) (by rw [e, e2])
      subst this
      exact hne (kid_one hm hy hx hz hua (under_trans hzt hub))
    omega
  exact key
end

section
set_option linter.unusedSimpArgs false
set_option linter.unusedVariables false
set_option linter.unusedSectionVars false

/-- What the committee of a slot weighs. -/
def wcC (k : Cf) (slot : Int) : Int := weightC k (commC k slot)
/-- A number that may be. -/
def mayQ (n : Int) : Bool := decide (0 ≤ n ∧ n ≤ 4611686018427387904)
/-- Is one product more than another one? No, if one of the numbers may not be. -/
def moreQ (a b c d : Int) : Bool := mayQ a && mayQ b && mayQ c && mayQ d && decide (c * d < a * b)
theorem moreQ_iff {a b c d : Int} : moreQ a b c d = true ↔ (0 ≤ a ∧ a ≤ 4611686018427387904) ∧ (0 ≤ b ∧ b ≤ 4611686018427387904) ∧ (0 ≤ c ∧ c ≤ 4611686018427387904) ∧ (0 ≤ d ∧ d ≤ 4611686018427387904) ∧ c * d < a * b := by
  unfold moreQ mayQ
  simp only [Bool.and_eq_true, decide_eq_true_iff, and_assoc]
def sureC (k : Cf) (l : List Bk) (slot : Int) (R : List Vt) (x : Id2) : Bool := moreQ (2 * onC k l R x) k.de (wcC k slot) (k.de + 2 * k.nu)
def topC (k : Cf) (l : List Bk) (slot : Int) (R : List Vt) (head : Id2) : Option Id2 := (chainC l head).dropLast.find? (sureC k l slot R)

theorem wc_bounds (k : Cf) (slot : Int) : 0 ≤ wcC k slot ∧ wcC k slot ≤ 13194139533312 := weight_bounds k _
/-- Who has a vote that counts is in the committee. -/
theorem on_comm {k : Cf} {l : List Bk} {slot : Int} {v R : List Vt} (h : Golds k slot v R) (x : Id2) : onC k l R x ≤ wcC k slot := weight_mono k fun f hf => by
  obtain ⟨y, hy, _, rfl⟩ := mem_whoC.1 hf
  have hin := ((h.2 y).1 hy).2
  unfold inC at hin
  simp only [Bool.and_eq_true] at hin
  unfold commC
  rw [if_pos hin.1, mem_commTo]
  have hv : 0 ≤ y.f ∧ y.f < k.ws.length := of_decide_eq_true hin.2.1
  exact ⟨y.f.toNat, by omega, hin.2.2, by omega⟩
theorem on_under {k : Cf} {l : List Bk} (R : List Vt) {a b : Id2} (h : underC l b a = true) : onC k l R a ≤ onC k l R b := weight_mono k fun f hf => by
  obtain ⟨y, hy, hu, e⟩ := mem_whoC.1 hf
  exact mem_whoC.2 ⟨y, hy, under_trans h hu, e⟩
section
variable {k : Cf} (hm : mayC k = true) {l : List Bk} {slot : Int} {v R : List Vt} (hR : Golds k slot v R)
include hm hR
theorem sure_iff {x : Id2} : sureC k l slot R x = true ↔ wcC k slot * (k.de + 2 * k.nu) < 2 * onC k l R x * k.de := by
  have h1 := on_bounds k l R x
  have h2 := wc_bounds k slot
  have h3 := mayC_yes hm
  unfold sureC
  rw [moreQ_iff]
  constructor
  · exact fun h => h.2.2.2.2
  · exact fun h => ⟨by omega, by omega, by omega, by omega, h⟩
/-- What is sure is for more than a half, and for no more than all. -/
theorem sure_half {x : Id2} (h : sureC k l slot R x = true) : wcC k slot < 2 * onC k l R x ∧ 2 * k.nu < k.de := by
  rw [sure_iff hm hR] at h
  have h0 := on_comm (l := l) hR x
  have h1 := on_bounds k l R x
  have h2 := wc_bounds k slot
  have h3 := mayC_yes hm
  have hde : (1 : Int) ≤ k.de := by omega
  have hnu : 0 ≤ k.nu := by omega
  generalize wcC k slot = W at *
  generalize onC k l R x = n at *
  have e1 : W * (k.de + 2 * k.nu) = W * k.de + 2 * (W * k.nu) := by rw [Int.mul_add]; congr 1; rw [Int.mul_left_comm]
  rw [e1] at h
  have p1 : 0 ≤ W * k.nu := Int.mul_nonneg h2.1 hnu
  constructor
  · refine Int.lt_of_not_ge fun q => ?_
    have := Int.mul_le_mul_of_nonneg_right (show 2 * n ≤ W from q) (show 0 ≤ k.de by omega)
    omega
  · refine Int.lt_of_not_ge fun q => ?_
    have a1 := Int.mul_le_mul_of_nonneg_right (show 2 * n ≤ 2 * W by omega) (show 0 ≤ k.de by omega)
    have a2 := Int.mul_le_mul_of_nonneg_left (show k.de ≤ 2 * k.nu from q) h2.1
    have a3 : 2 * W * k.de = 2 * (W * k.de) := Int.mul_assoc _ _ _
    have a4 : W * (2 * k.nu) = 2 * (W * k.nu) := Int.mul_left_comm _ _ _
    omega
theorem sure_head {x : Id2} (h : sureC k l slot R x = true) : underC l x (headC k l R) = true := by
  have h1 := sure_half hm hR h
  have h2 := on_comm (l := l) hR zid
  exact gold_half (golds_one hR) (by omega)
theorem sure_under {a b : Id2} (h : sureC k l slot R a = true) (hu : underC l b a = true) : sureC k l slot R b = true := by
  rw [sure_iff hm hR] at h ⊢
  have h1 := on_under (k := k) R hu
  have h3 := mayC_yes hm
  have := Int.mul_le_mul_of_nonneg_right (show 2 * onC k l R a ≤ 2 * onC k l R b by omega) (show 0 ≤ k.de by omega)
  omega
theorem sure_both {a b : Id2} (ha : sureC k l slot R a = true) (hb : sureC k l slot R b = true) : underC l a b = true ∨ underC l b a = true := under_both (sure_head hm hR ha) (sure_head hm hR hb)
/-- Where some weigh at most beta of all. -/
theorem sure_good {x : Id2} {weak good : Int} (h : sureC k l slot R x = true) (hs : onC k l R x ≤ good + weak) (hw : weak * k.de ≤ wcC k slot * k.nu) : wcC k slot < 2 * good := by
  rw [sure_iff hm hR] at h
  have h3 := mayC_yes hm
  have h2 := wc_bounds k slot
  generalize wcC k slot = W at *
  generalize onC k l R x = n at *
  have e1 : W * (k.de + 2 * k.nu) = W * k.de + 2 * (W * k.nu) := by rw [Int.mul_add]; congr 1; rw [Int.mul_left_comm]
  have a1 := Int.mul_le_mul_of_nonneg_right (show 2 * n ≤ 2 * good + 2 * weak by omega) (show 0 ≤ k.de by omega)
  rw [Int.add_mul] at a1
  have a2 : 2 * weak * k.de = 2 * (weak * k.de) := Int.mul_assoc _ _ _
  refine Int.lt_of_not_ge fun q => ?_
  have a3 := Int.mul_le_mul_of_nonneg_right (show 2 * good ≤ W from q) (show 0 ≤ k.de by omega)
  omega
theorem sure_all {x : Id2} (h : onC k l R x = wcC k slot) : sureC k l slot R x = decide (0 < wcC k slot ∧ 2 * k.nu < k.de) := by
  have h3 := mayC_yes hm
  have h2 := wc_bounds k slot
  have hs := sure_iff hm hR (l := l) (x := x)
  rw [h] at hs
  generalize wcC k slot = W at *
  have e1 : W * (k.de + 2 * k.nu) = W * k.de + 2 * (W * k.nu) := by rw [Int.mul_add]; congr 1; rw [Int.mul_left_comm]
  have e2 : 2 * W * k.de = 2 * (W * k.de) := Int.mul_assoc _ _ _
  rw [e1, e2] at hs
  cases q : sureC k l slot R x with
  | true =>
    refine (decide_eq_true ?_).symm
    have hq := hs.1 q
    have e4 : W * (2 * k.nu) = 2 * (W * k.nu) := Int.mul_left_comm _ _ _
    refine ⟨Int.lt_of_not_ge fun r => ?_, Int.lt_of_not_ge fun r => ?_⟩
    · have : W = 0 := by omega
      subst this
      simp at hq
    · have := Int.mul_le_mul_of_nonneg_left r h2.1
      omega
  | false =>
    refine (decide_eq_false ?_).symm
    rintro ⟨r1, r2⟩
    have hq : ¬ _ := fun r => by rw [hs.2 r] at q; cases q
    have e4 : W * (2 * k.nu) = 2 * (W * k.nu) := Int.mul_left_comm _ _ _
    have := Int.mul_lt_mul_of_pos_left r2 r1
    omega
end
/-- Of a conf that may not be, or in no slot that is none, nothing is sure. -/
theorem sure_none {k : Cf} {l : List Bk} {slot : Int} {R : List Vt} {x : Id2} (h : onC k l R x = 0) : sureC k l slot R x = false := by
  cases q : sureC k l slot R x with
  | false => rfl
  | true =>
    unfold sureC at q
    rw [moreQ_iff, h] at q
    have := Int.mul_nonneg q.2.2.1.1 q.2.2.2.1.1
    omega

/-! ### The votes that count are there; the first sure one -/
theorem rise_exists {P : Vt → Prop} (inj : ∀ a b, P a → P b → a.f = b.f → a = b) : ∀ L : List Vt, ∃ R : List Vt, R.Pairwise (fun a b => a.f < b.f) ∧ ∀ x, x ∈ R ↔ (P x ∧ x ∈ L)
  | [] => ⟨[], List.Pairwise.nil, by simp⟩
  | a :: L => by
    obtain ⟨R, h1, h2⟩ := rise_exists inj L
    by_cases hp : P a
    · refine ⟨R.filter (fun x => decide (x.f < a.f)) ++ a :: R.filter (fun x => decide (a.f < x.f)), ?_, fun x => ?_⟩
      · rw [List.pairwise_append, List.pairwise_cons]
        refine ⟨h1.filter _, ⟨fun b hb => ?_, h1.filter _⟩, fun b hb d hd => ?_⟩
        · rw [List.mem_filter, decide_eq_true_iff] at hb; exact hb.2
        · rw [List.mem_filter, decide_eq_true_iff] at hb
          rcases List.mem_cons.1 hd with e | e
          · rw [e]; exact hb.2
          · rw [List.mem_filter, decide_eq_true_iff] at e; omega
      · rw [List.mem_append, List.mem_cons, List.mem_filter, List.mem_filter, decide_eq_true_iff, decide_eq_true_iff, List.mem_cons, h2]
        constructor
        · rintro (⟨⟨p, m⟩, _⟩ | e | ⟨⟨p, m⟩, _⟩)
          · exact ⟨p, Or.inr m⟩
          · exact ⟨by rw [e]; exact hp, Or.inl e⟩
          · exact ⟨p, Or.inr m⟩
        · rintro ⟨p, e | m⟩
          · exact Or.inr (Or.inl e)
          · by_cases q : x.f = a.f
            · exact Or.inr (Or.inl (inj x a p hp q))
            · by_cases r : x.f < a.f
              · exact Or.inl ⟨⟨p, m⟩, r⟩
              · exact Or.inr (Or.inr ⟨⟨p, m⟩, by omega⟩)
    · refine ⟨R, h1, fun x => ?_⟩
      rw [h2, List.mem_cons]
      exact ⟨fun h => ⟨h.1, Or.inr h.2⟩, fun h => ⟨h.1, h.2.resolve_left fun e => hp (by rw [← e]; exact h.1)⟩⟩
theorem golds_exist (k : Cf) (slot : Int) (v : List Vt) : ∃ R, Golds k slot v R := by
  obtain ⟨R, h1, h2⟩ := rise_exists (P := fun x => Cnt v (isQ slot) x ∧ inC k slot x.f = true) (fun a b ha hb e => cnt_one ha.1 hb.1 e) v
  exact ⟨R, h1, fun x => (h2 x).trans ⟨fun h => h.1, fun h => ⟨h, h.1.1⟩⟩⟩
/-- Votes of the committee, one of each, rising, all of the slot: all count. -/
theorem golds_self {k : Cf} {slot : Int} {v : List Vt} (h : v.Pairwise fun a b => a.f < b.f) (hs : ∀ x ∈ v, x.s = slot ∧ inC k slot x.f = true) : Golds k slot v v := by
  have one : ∀ a ∈ v, ∀ b ∈ v, a.f = b.f → a = b := fun a ha b hb e => by
    obtain ⟨i, hi, rfl⟩ := List.mem_iff_getElem.1 ha
    obtain ⟨j, hj, rfl⟩ := List.mem_iff_getElem.1 hb
    rw [List.pairwise_iff_getElem] at h
    rcases Nat.lt_trichotomy i j with q | q | q
    · have := h i j hi hj q; omega
    · subst q; rfl
    · have := h j i hj hi q; omega
  refine ⟨h, fun x => ⟨fun hx => ⟨⟨hx, isQ_iff.2 (hs x hx).1, fun s _ d => ?_, fun a ha e hq => ?_⟩, (hs x hx).2⟩, fun hx => hx.1.1⟩⟩
  · obtain ⟨a, ha, b, hb, e1, e2, _, _, ne⟩ := d
    have p1 := one a ha x hx e1
    have p2 := one b hb x hx e2
    exact ne (by rw [p1, p2])
  · rw [(hs a ha).1, (hs x hx).1]; exact Int.le_refl _
theorem golds_nil {k : Cf} {slot : Int} {R : List Vt} (h : Golds k slot [] R) : R = [] := List.eq_nil_iff_forall_not_mem.2 fun x hx => by cases golds_mem h x hx
theorem sure_nil (k : Cf) (l : List Bk) (slot : Int) (x : Id2) : sureC k l slot [] x = false := sure_none (onC_none fun _ q => by cases q)
theorem top_nil (k : Cf) (l : List Bk) (slot : Int) (x : Id2) : topC k l slot [] x = none := by
  unfold topC
  rw [List.find?_eq_none]
  intro y _
  rw [sure_nil]
  simp
theorem on_none_comm {k : Cf} {l : List Bk} {slot : Int} {v R : List Vt} (h : Golds k slot v R) (hw : wcC k slot ≤ 0) (x : Id2) : onC k l R x = 0 := by
  have h1 := on_comm (l := l) h x
  have h2 := on_bounds k l R x
  omega
theorem quick_nums {k : Cf} (h : mayC k = true) : (-1099511627776 ≤ k.nu ∧ k.nu ≤ 1099511627776) ∧ (-1099511627776 ≤ k.de ∧ k.de ≤ 1099511627776) := by
  have := mayC_yes h
  omega
/-! ### Another beta -/
theorem in_beta {k : Cf} {n : Int} (h : mayC k = true) (h' : mayC { k with nu := n } = true) (slot who : Int) : inC { k with nu := n } slot who = inC k slot who := by
  unfold inC dutyC
  rw [h, h']
  rfl
theorem golds_beta {k : Cf} {n slot : Int} {v R : List Vt} (h : mayC k = true) (h' : mayC { k with nu := n } = true) (hR : Golds { k with nu := n } slot v R) : Golds k slot v R :=
  ⟨hR.1, fun x => by rw [hR.2 x, in_beta h h']⟩
theorem may_beta {k : Cf} {n : Int} (h : mayC k = true) (h0 : 0 ≤ n) (h1 : n ≤ k.nu) : mayC { k with nu := n } = true := by
  obtain ⟨a, b, c, d, e, f, g, _, i⟩ := mayC_yes h
  exact decide_eq_true ⟨a, b, c, d, e, f, g, h0, Int.le_trans h1 i⟩
theorem on_beta {k : Cf} {n : Int} (h : mayC k = true) (h' : mayC { k with nu := n } = true) (l : List Bk) (R : List Vt) (x : Id2) : onC { k with nu := n } l R x = onC k l R x := by
  unfold onC weightC
  rw [h, h']
theorem wc_beta {k : Cf} {n : Int} (h : mayC k = true) (h' : mayC { k with nu := n } = true) (slot : Int) : wcC { k with nu := n } slot = wcC k slot := by
  unfold wcC weightC commC dutyC
  rw [h, h']
  rfl
theorem sure_beta {k : Cf} {n slot : Int} {l : List Bk} {v R : List Vt} {x : Id2} (h : mayC k = true) (h0 : 0 ≤ n) (h1 : n ≤ k.nu) (hR : Golds { k with nu := n } slot v R) (hs : sureC k l slot R x = true) : sureC { k with nu := n } l slot R x = true := by
  have h' := may_beta h h0 h1
  have hR' := golds_beta h h' hR
  rw [sure_iff h hR'] at hs
  rw [sure_iff h' hR, wc_beta h h', on_beta h h']
  have h2 := wc_bounds k slot
  have := Int.mul_le_mul_of_nonneg_left (show k.de + 2 * n ≤ k.de + 2 * k.nu by omega) h2.1
  show wcC k slot * (k.de + 2 * n) < 2 * onC k l R x * k.de
  omega
theorem top_hit {p : Id2 → Bool} {c : List Id2} {j : Nat} (hj : j < c.length) (h1 : j + 1 < c.length) (h2 : ∀ m (hm : m < j), p (c[m]'(by omega)) = false) (h : p c[j] = true) : c.dropLast.find? p = some c[j] := by
  rw [List.find?_eq_some_iff_getElem]
  refine ⟨h, j, by rw [List.length_dropLast]; omega, by rw [List.getElem_dropLast], fun m hm => ?_⟩
  rw [List.getElem_dropLast, h2 m hm]; rfl
theorem top_none {p : Id2 → Bool} {c : List Id2} (h : ∀ m (hm : m + 1 < c.length), p (c[m]'(by omega)) = false) : c.dropLast.find? p = none := by
  rw [List.find?_eq_none]
  intro y hy
  obtain ⟨m, hm, e⟩ := List.mem_iff_getElem.1 hy
  rw [List.length_dropLast] at hm
  rw [List.getElem_dropLast] at e
  rw [← e, h m (by omega)]
  simp
/-- What the top of a chain is. -/
theorem top_some {p : Id2 → Bool} {c : List Id2} {y : Id2} (h : c.dropLast.find? p = some y) : ∃ j, ∃ hj : j < c.length, j + 1 < c.length ∧ c[j] = y ∧ p y = true ∧ ∀ m (hm : m < j), p (c[m]'(by omega)) = false := by
  rw [List.find?_eq_some_iff_getElem] at h
  obtain ⟨hp, j, hj, e, hb⟩ := h
  rw [List.length_dropLast] at hj
  refine ⟨j, by omega, by omega, by rw [← e, List.getElem_dropLast], hp, fun m hm => ?_⟩
  have := hb m hm
  rw [List.getElem_dropLast] at this
  simpa using this
theorem top_no {p : Id2 → Bool} {c : List Id2} (h : c.dropLast.find? p = none) : ∀ m (hm : m + 1 < c.length), p (c[m]'(by omega)) = false := fun m hm => by
  rw [List.find?_eq_none] at h
  have := h (c.dropLast[m]'(by rw [List.length_dropLast]; omega)) (List.getElem_mem _)
  rw [List.getElem_dropLast] at this
  simpa using this
end

section
set_option linter.unusedSimpArgs false
set_option linter.unusedVariables false

theorem chain_next {l : List Bk} {x : Id2} {j : Nat} (hj : j + 1 < (chainC l x).length) : underC l (chainC l x)[j + 1] ((chainC l x)[j]'(by omega)) = true := by
  have hm := mem_chainC (List.getElem_mem (show j < (chainC l x).length by omega))
  obtain ⟨h, hs, hy⟩ := hm
  have e := chainC_yes h hs
  obtain ⟨i, hi, q, hz⟩ := chain_link h _ rfl hs j ((chainC l x)[j]'(by omega)) (chainC l x)[j + 1] (by rw [← e]; exact List.getElem?_eq_getElem _) (by rw [← e]; exact List.getElem?_eq_getElem _)
  rw [underC_true, chainC_yes h (chain_suffix h _ rfl hs hy).1, chainB_some h q, hz]
  exact List.mem_cons_of_mem _ (chainB_self l _)
theorem sure_down {k : Cf} {l : List Bk} {slot : Int} {v R : List Vt} (hR : Golds k slot v R) {x : Id2} : ∀ (n i : Nat) (hi : i + n < (chainC l x).length), sureC k l slot R ((chainC l x)[i]'(by omega)) = true → sureC k l slot R (chainC l x)[i + n] = true
  | 0, i, hi, h => h
  | n + 1, i, hi, h => by
    have ih := sure_down hR n i (by omega) h
    cases hm : mayC k with
    | true => exact sure_under hm hR ih (chain_next (j := i + n) hi)
    | false =>
      have h0 : onC k l R ((chainC l x)[i]'(by omega)) = 0 := by unfold onC; exact weightC_no _ hm
      rw [sure_none h0] at h
      cases h
theorem sure_behind {k : Cf} {l : List Bk} {slot : Int} {v R : List Vt} (hR : Golds k slot v R) {x : Id2} {i j : Nat} (hij : i ≤ j) (hj : j < (chainC l x).length) (h : sureC k l slot R ((chainC l x)[i]'(by omega)) = true) : sureC k l slot R (chainC l x)[j] = true := by
  have := sure_down hR (j - i) i (by omega) h
  have e : i + (j - i) = j := by omega
  simpa only [e] using this
/-- What goes along a chain: nothing ahead of a place is so, all behind it is. -/
def Steps (p : Id2 → Bool) (c : List Id2) : Prop := ∀ i j (hij : i ≤ j) (hj : j < c.length), p (c[i]'(by omega)) = true → p c[j] = true
theorem Steps.dropLast {p : Id2 → Bool} {c : List Id2} (h : Steps p c) : Steps p c.dropLast := fun i j hij hj hp => by
  rw [List.length_dropLast] at hj
  rw [List.getElem_dropLast] at hp ⊢
  exact h i j hij (by omega) hp
/-- The first one that is so, or how many there are. -/
structure FirstOf (p : Id2 → Bool) (c : List Id2) (i : Nat) : Prop where
  le : i ≤ c.length
  no : ∀ m (hm : m < i) (hl : m < c.length), p c[m] = false
  yes : ∀ h : i < c.length, p c[i] = true
theorem FirstOf.find {p : Id2 → Bool} {c : List Id2} {i : Nat} (h : FirstOf p c i) : c.find? p = c[i]? := by
  by_cases hi : i < c.length
  · rw [List.getElem?_eq_getElem hi, List.find?_eq_some_iff_getElem]
    exact ⟨h.yes hi, i, hi, rfl, fun m hm => by rw [h.no m hm (by omega)]; rfl⟩
  · rw [List.getElem?_eq_none (by omega), List.find?_eq_none]
    intro y hy
    obtain ⟨m, hm, e⟩ := List.mem_iff_getElem.1 hy
    have := h.no m (by have := h.le; omega) hm
    rw [← e, this]; simp
/-- Two bounds, between which the first one is. -/
structure Betw (p : Id2 → Bool) (c : List Id2) (a b : Nat) : Prop where
  ab : a ≤ b
  bl : b ≤ c.length
  no : ∀ m (hm : m < a) (hl : m < c.length), p c[m] = false
  yes : ∀ m (hm : b ≤ m) (hl : m < c.length), p c[m] = true
theorem Betw.start (p : Id2 → Bool) (c : List Id2) : Betw p c 0 c.length := ⟨Nat.zero_le _, Nat.le_refl _, fun m hm => by omega, fun m hm hl => by omega⟩
theorem Betw.first {p : Id2 → Bool} {c : List Id2} {a b : Nat} (h : Betw p c a b) (e : a = b) : FirstOf p c a := ⟨by have := h.bl; omega, h.no, fun hl => h.yes a (by omega) hl⟩
theorem Betw.hit {p : Id2 → Bool} {c : List Id2} {a b m : Nat} (h : Betw p c a b) (hs : Steps p c) (h1 : a ≤ m) (h2 : m < b) (hl : m < c.length) (hp : p c[m] = true) : Betw p c a m := ⟨h1, by omega, h.no, fun n hn hl' => hs m n hn hl' hp⟩
theorem Betw.miss {p : Id2 → Bool} {c : List Id2} {a b m : Nat} (h : Betw p c a b) (hs : Steps p c) (h1 : a ≤ m) (h2 : m < b) (hl : m < c.length) (hp : p c[m] = false) : Betw p c (m + 1) b := by
  refine ⟨by omega, h.bl, fun n hn hl' => ?_, h.yes⟩
  cases q : p c[n] with
  | false => rfl
  | true =>
    rw [hs n m (by omega) hl q] at hp
    cases hp
end

section
set_option linter.unusedSimpArgs false
set_option linter.unusedVariables false
set_option linter.unusedSectionVars false
open Go.ChangeShapes Go.WideShapes Go.ChangeAt Go.RowKit

/-! ### All of a committee vote for one block -/
def commV (slot : Int) (x : Id2) (cm : List Int) : List Vt := cm.map fun f => ⟨f, slot, x⟩
theorem commV_hit {slot : Int} {x : Id2} {cm : List Int} {j : Nat} (hj : j < cm.length) : commV slot x (cm.take (j + 1)) = commV slot x (cm.take j) ++ [⟨cm[j], slot, x⟩] := by
  unfold commV
  rw [List.take_succ_eq_append_getElem hj, List.map_append]
  rfl
theorem commV_len (slot : Int) (x : Id2) (cm : List Int) : (commV slot x cm).length = cm.length := List.length_map _
theorem comm_in {k : Cf} {slot f : Int} (h : f ∈ commC k slot) : inC k slot f = true ∧ 0 ≤ f ∧ f < k.ws.length := by
  unfold commC at h
  split at h
  · rename_i hd
    rw [mem_commTo] at h
    obtain ⟨i, hi, hp, rfl⟩ := h
    refine ⟨?_, by omega, by omega⟩
    unfold inC validC
    rw [hd, decide_eq_true (by omega)]
    simpa using hp
  · cases h
theorem commC_sorted (k : Cf) (slot : Int) : (commC k slot).Pairwise (· < ·) := by
  unfold commC
  split
  · exact comm_sorted _ _
  · exact List.Pairwise.nil
theorem commV_golds (k : Cf) (slot : Int) (x : Id2) : Golds k slot (commV slot x (commC k slot)) (commV slot x (commC k slot)) := by
  refine golds_self ?_ fun y hy => ?_
  · unfold commV
    rw [List.pairwise_map]
    exact commC_sorted k slot
  · unfold commV at hy
    obtain ⟨f, hf, rfl⟩ := List.mem_map.1 hy
    exact ⟨rfl, (comm_in hf).1⟩
theorem commV_wf {k : Cf} (hk : k.ws.length ≤ 40) {slot : Int} (hs : Wf64 slot) {x : Id2} (hx : WfI x) : WfVs (commV slot x (commC k slot)) := fun y hy => by
  unfold commV at hy
  obtain ⟨f, hf, rfl⟩ := List.mem_map.1 hy
  have := comm_in hf
  exact ⟨⟨by show -9223372036854775808 ≤ f; omega, by show f ≤ 9223372036854775807; omega⟩, hs, hx⟩
theorem commV_on {k : Cf} {l : List Bk} (slot : Int) {x : Id2} (hu : underC l x x = true) : onC k l (commV slot x (commC k slot)) x = wcC k slot := by
  unfold onC wcC
  refine weight_mem k fun f => ?_
  rw [mem_whoC]
  unfold commV
  constructor
  · rintro ⟨y, hy, _, rfl⟩
    obtain ⟨f, hf, rfl⟩ := List.mem_map.1 hy
    exact hf
  · intro hf
    exact ⟨_, List.mem_map.2 ⟨f, hf, rfl⟩, hu, rfl⟩
theorem chain_self {l : List Bk} {x : Id2} (h : (chainC l x).length ≠ 0) : mayB l = true ∧ standsB l x = true ∧ underC l x x = true := by
  unfold chainC at h
  split at h
  · rename_i q
    rw [Bool.and_eq_true] at q
    exact ⟨q.1, q.2, under_own q.1 q.2⟩
  · exact absurd rfl h
section
variable {k : Cf} (hm : mayC k = true) {l : List Bk} {slot : Int} {x : Id2} (hc : (chainC l x).length ≠ 0)
include hm hc
theorem all_sure : sureC k l slot (commV slot x (commC k slot)) x = decide (0 < wcC k slot ∧ 2 * k.nu < k.de) := sure_all hm (commV_golds k slot x) (commV_on slot (chain_self hc).2.2)
theorem all_top_yes (h1 : 0 < wcC k slot) (h2 : 2 * k.nu < k.de) (hx : x ≠ zid) : topC k l slot (commV slot x (commC k slot)) x = some x := by
  have hs := all_sure hm hc (slot := slot)
  rw [decide_eq_true ⟨h1, h2⟩] at hs
  obtain ⟨m, st, _⟩ := chain_self hc
  unfold topC
  rw [chainC_yes m st]
  rcases standsB_iff.1 st with ⟨i, q⟩ | e
  · rw [chainB_some m q]
    obtain ⟨r, e⟩ := chainB_head l (l[i]'(posB_lt q)).p
    rw [e, List.dropLast_cons_of_ne_nil (by simp), List.find?_cons_of_pos hs]
  · exact absurd e hx
theorem all_top_no (h : ¬ (0 < wcC k slot ∧ 2 * k.nu < k.de)) : topC k l slot (commV slot x (commC k slot)) x = none := by
  unfold topC
  rw [List.find?_eq_none]
  intro y _ q
  have g := commV_golds k slot x
  have h1 := sure_half hm g q
  have h2 := on_comm (l := l) g y
  exact h ⟨by omega, h1.2⟩
theorem all_top_zid (e : x = zid) : topC k l slot (commV slot x (commC k slot)) x = none := by
  obtain ⟨m, st, _⟩ := chain_self hc
  subst e
  unfold topC
  rw [chainC_yes m st]
  cases q : posB l zid with
  | some i => rw [may_zero m] at q; cases q
  | none => rw [chainB_none q]; rfl
end

/-! ### Some of a committee, and the others -/
def weakL (cm bad : List Int) : List Int := cm.filter fun f => decide (f ∈ bad)
def goodL (cm bad W : List Int) : List Int := cm.filter fun f => !decide (f ∈ bad) && decide (f ∈ W)
theorem weak_hit {cm bad : List Int} {j : Nat} (hj : j < cm.length) (h : cm[j] ∈ bad) : weakL (cm.take (j + 1)) bad = weakL (cm.take j) bad ++ [cm[j]] := by
  unfold weakL
  rw [List.take_succ_eq_append_getElem hj, List.filter_append]
  congr 1
  simp [h]
theorem weak_miss {cm bad : List Int} {j : Nat} (hj : j < cm.length) (h : cm[j] ∉ bad) : weakL (cm.take (j + 1)) bad = weakL (cm.take j) bad := by
  unfold weakL
  rw [List.take_succ_eq_append_getElem hj, List.filter_append]
  simp [h]
theorem good_hit {cm bad W : List Int} {j : Nat} (hj : j < cm.length) (h : cm[j] ∉ bad) (h2 : cm[j] ∈ W) : goodL (cm.take (j + 1)) bad W = goodL (cm.take j) bad W ++ [cm[j]] := by
  unfold goodL
  rw [List.take_succ_eq_append_getElem hj, List.filter_append]
  congr 1
  simp [h, h2]
theorem good_miss {cm bad W : List Int} {j : Nat} (hj : j < cm.length) (h : cm[j] ∈ bad ∨ cm[j] ∉ W) : goodL (cm.take (j + 1)) bad W = goodL (cm.take j) bad W := by
  unfold goodL
  rw [List.take_succ_eq_append_getElem hj, List.filter_append]
  rcases h with h | h <;> simp [h]
/-- One more of a rising list weighs by itself. -/
theorem weight_snoc {k : Cf} {q : List Int} {f : Int} (h : f ∉ q) : weightC k (q ++ [f]) = weightC k q + weightC k [f] := (weight_both k q [f]).2 fun y hy hf => h (by rw [List.mem_singleton] at hf; rw [← hf]; exact hy)
theorem fresh_at {cm : List Int} (h : cm.Pairwise (· < ·)) {j : Nat} (hj : j < cm.length) : cm[j] ∉ cm.take j := fun q => by
  obtain ⟨i, hi, e⟩ := List.mem_iff_getElem.1 q
  rw [List.length_take] at hi
  rw [List.getElem_take] at e
  have := List.pairwise_iff_getElem.1 h i j (by omega) hj (by omega)
  omega
theorem weak_sub {cm bad : List Int} {f : Int} (h : f ∉ cm) : f ∉ weakL cm bad := fun q => h (List.mem_filter.1 q).1
theorem good_sub {cm bad W : List Int} {f : Int} (h : f ∉ cm) : f ∉ goodL cm bad W := fun q => h (List.mem_filter.1 q).1
theorem one_weightQ {k : Cf} (hm : mayC k = true) (f : Int) : weightC k [f] = if 0 ≤ f ∧ f < k.ws.length then wAt k.ws f.toNat else 0 := by
  rw [weightC_yes _ hm]
  unfold weighAll
  suffices H : ∀ n, weighTo (inList [f]) k.ws n = if 0 ≤ f ∧ f < n then wAt k.ws f.toNat else 0 from H _
  intro n
  induction n with
  | zero => rw [if_neg (by omega)]; rfl
  | succ n ih =>
    show weighTo (inList [f]) k.ws n + _ = _
    rw [ih]
    by_cases e : f = (n : Int)
    · subst e
      rw [if_neg (show ¬ (0 ≤ (n : Int) ∧ (n : Int) < (n : Int)) by omega), if_pos (show inList [(n : Int)] n = true by simp [inList]), if_pos (show 0 ≤ (n : Int) ∧ (n : Int) < ((n + 1 : Nat) : Int) by omega)]
      simp
    · rw [if_neg (show ¬ inList [f] n = true by simp [inList]; omega)]
      by_cases h : 0 ≤ f ∧ f < (n : Int)
      · rw [if_pos h, if_pos (by omega)]; omega
      · rw [if_neg h, if_neg (by omega)]; omega
theorem weight_own {k : Cf} (hm : mayC k = true) {f : Nat} (hf : f < k.ws.length) : weightC k [(f : Int)] = wAt k.ws f := by
  have h := one_weightQ hm (f : Int)
  rw [if_pos ⟨by omega, by omega⟩] at h
  exact h
/-- Who votes is among the ones, or the others. -/
theorem on_parts {k : Cf} {l : List Bk} {slot : Int} {v R : List Vt} (hR : Golds k slot v R) (bad : List Int) (x : Id2) : onC k l R x ≤ weightC k (goodL (commC k slot) bad (whoC l R x)) + weightC k (weakL (commC k slot) bad) := by
  refine Int.le_trans (weight_mono k fun f hf => ?_) (weight_both k _ _).1
  obtain ⟨y, hy, hu, rfl⟩ := mem_whoC.1 hf
  have hin : y.f ∈ commC k slot := by
    have h := ((hR.2 y).1 hy).2
    unfold inC validC at h
    simp only [Bool.and_eq_true, decide_eq_true_iff] at h
    unfold commC
    rw [if_pos h.1, mem_commTo]
    exact ⟨y.f.toNat, by omega, h.2.2, by omega⟩
  rw [List.mem_append]
  unfold goodL weakL
  rw [List.mem_filter, List.mem_filter]
  by_cases hb : y.f ∈ bad
  · exact Or.inr ⟨hin, by simpa using hb⟩
  · exact Or.inl ⟨hin, by simp [hb, hf]⟩
/-- .. vote by vote. -/
def hitQ (k : Cf) (l : List Bk) (R : List Vt) (x : Id2) (f : Int) (m : Nat) : Int := if f ∈ whoC l (R.take m) x then weightC k [f] else 0
theorem hitQ_zero (k : Cf) (l : List Bk) (R : List Vt) (x : Id2) (f : Int) : hitQ k l R x f 0 = 0 := by unfold hitQ; rw [if_neg (by simp [whoC])]
theorem hitQ_hit {k : Cf} {l : List Bk} {R : List Vt} {x : Id2} {f : Int} {m : Nat} (hR : ∀ a ∈ R, ∀ b ∈ R, a.f = b.f → a = b) (hp : R.Pairwise fun a b => a.f < b.f) (hm : m < R.length) (e : R[m].f = f) (u : underC l x R[m].p = true) : hitQ k l R x f (m + 1) = hitQ k l R x f m + weightC k [f] := by
  have h0 : f ∉ whoC l (R.take m) x := fun q => by
    obtain ⟨y, hy, _, e2⟩ := mem_whoC.1 q
    obtain ⟨i, hi, rfl⟩ := List.mem_iff_getElem.1 hy
    rw [List.length_take] at hi
    rw [List.getElem_take] at e2
    have := List.pairwise_iff_getElem.1 hp i m (by omega) hm (by omega)
    omega
  have h1 : f ∈ whoC l (R.take (m + 1)) x := mem_whoC.2 ⟨R[m], (List.take_succ_eq_append_getElem hm).symm ▸ List.mem_append_right _ (List.mem_singleton.2 rfl), u, e⟩
  unfold hitQ
  rw [if_pos h1, if_neg h0, Int.zero_add]
theorem hitQ_miss {k : Cf} {l : List Bk} {R : List Vt} {x : Id2} {f : Int} {m : Nat} (hm : m < R.length) (h : ¬ (R[m].f = f ∧ underC l x R[m].p = true)) : hitQ k l R x f (m + 1) = hitQ k l R x f m := by
  have e : f ∈ whoC l (R.take (m + 1)) x ↔ f ∈ whoC l (R.take m) x := by
    rw [mem_whoC, mem_whoC, List.take_succ_eq_append_getElem hm]
    constructor
    · rintro ⟨y, hy, hu, e⟩
      rcases List.mem_append.1 hy with q | q
      · exact ⟨y, q, hu, e⟩
      · rw [List.mem_singleton] at q; subst q; exact absurd ⟨e, hu⟩ h
    · rintro ⟨y, hy, hu, e⟩
      exact ⟨y, List.mem_append_left _ hy, hu, e⟩
  unfold hitQ
  by_cases q : f ∈ whoC l (R.take m) x
  · rw [if_pos q, if_pos (e.2 q)]
  · rw [if_neg q, if_neg fun r => q (e.1 r)]
theorem hitQ_le (k : Cf) (l : List Bk) (R : List Vt) (x : Id2) (f : Int) (m : Nat) : 0 ≤ hitQ k l R x f m ∧ hitQ k l R x f m ≤ 13194139533312 := by
  have := weight_bounds k [f]
  unfold hitQ
  split <;> omega
theorem hitQ_all (k : Cf) (l : List Bk) (R : List Vt) (x : Id2) (f : Int) : hitQ k l R x f R.length = if f ∈ whoC l R x then weightC k [f] else 0 := by unfold hitQ; rw [List.take_length]
theorem good_step {k : Cf} {cm bad : List Int} {l : List Bk} {R : List Vt} {x : Id2} (hs : cm.Pairwise (· < ·)) {j : Nat} (hj : j < cm.length) (h : cm[j] ∉ bad) : weightC k (goodL (cm.take (j + 1)) bad (whoC l R x)) = weightC k (goodL (cm.take j) bad (whoC l R x)) + hitQ k l R x cm[j] R.length := by
  rw [hitQ_all]
  by_cases q : cm[j] ∈ whoC l R x
  · rw [good_hit hj h q, weight_snoc (good_sub (fresh_at hs hj)), if_pos q]
  · rw [good_miss hj (Or.inr q), if_neg q]; omega
theorem weak_step {k : Cf} {cm bad : List Int} (hs : cm.Pairwise (· < ·)) {j : Nat} (hj : j < cm.length) (h : cm[j] ∈ bad) : weightC k (weakL (cm.take (j + 1)) bad) = weightC k (weakL (cm.take j) bad) + weightC k [cm[j]] := by
  rw [weak_hit hj h, weight_snoc (weak_sub (fresh_at hs hj))]
end

end Go.Proofs.Ytacdiicnfoejoaa
