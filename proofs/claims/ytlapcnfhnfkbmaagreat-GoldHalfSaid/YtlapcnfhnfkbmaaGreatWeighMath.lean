/-
  Plain mathematics of package weigh: who is for a block, and what they weigh together.
-/
import Derived.Test.YtlapcnfhnfkbmaaGreatDutyG
import Derived.Test.YtlapcnfhnfkbmaaGreatTreeG
import Derived.Test.YtlapcnfhnfkbmaaGreatVoteG
namespace Go.Proofs.YtlapcnfhnfkbmaaGreat
set_option maxRecDepth 100000
set_option linter.unusedVariables false
set_option linter.unusedSimpArgs false
/-- Who has a vote on whose head's chain x is. -/
def whoC (l : List Bk) (v : List Vt) (x : Id2) : List Int := (v.filter fun y => underC l x y.p).map Vt.f
/-- .. and what they weigh. -/
def onC (k : Cf) (l : List Bk) (v : List Vt) (x : Id2) : Int := weightC k (whoC l v x)

theorem whoC_nil (l : List Bk) (x : Id2) : whoC l [] x = [] := rfl
theorem whoC_hit {l : List Bk} {x : Id2} {y : Vt} (v : List Vt) (h : underC l x y.p = true) : whoC l (v ++ [y]) x = whoC l v x ++ [y.f] := by simp [whoC, h]
theorem whoC_miss {l : List Bk} {x : Id2} {y : Vt} (v : List Vt) (h : underC l x y.p = false) : whoC l (v ++ [y]) x = whoC l v x := by simp [whoC, h]
theorem whoC_length (l : List Bk) (v : List Vt) (x : Id2) : (whoC l v x).length ≤ v.length := by
  unfold whoC; rw [List.length_map]; exact List.length_filter_le _ _
theorem mem_whoC {l : List Bk} {v : List Vt} {x : Id2} {f : Int} : f ∈ whoC l v x ↔ ∃ y ∈ v, underC l x y.p = true ∧ y.f = f := by
  simp only [whoC, List.mem_map, List.mem_filter, and_assoc]
theorem whoC_none {l : List Bk} {v : List Vt} {x : Id2} (h : ∀ y ∈ v, underC l x y.p = false) : whoC l v x = [] := by
  unfold whoC
  rw [List.filter_eq_nil_iff.2 (fun y hy => by rw [h y hy]; decide)]
  rfl
theorem weight_nil (k : Cf) : weightC k [] = 0 := weight_out k fun _ _ h => by cases h
theorem onC_none {k : Cf} {l : List Bk} {v : List Vt} {x : Id2} (h : ∀ y ∈ v, underC l x y.p = false) : onC k l v x = 0 := by
  unfold onC; rw [whoC_none h, weight_nil]
theorem on_bounds (k : Cf) (l : List Bk) (v : List Vt) (x : Id2) : 0 ≤ onC k l v x ∧ onC k l v x ≤ 13194139533312 := weight_bounds k _

/-! ### What is under what -/
theorem under_no {l : List Bk} (h : mayB l = false) (x y : Id2) : underC l x y = false := by
  unfold underC; rw [chainC_no (fun q => by rw [h] at q; cases q)]; rfl
theorem under_unknown {l : List Bk} {x : Id2} (h : standsB l x = false) (y : Id2) : underC l x y = false := by
  cases q : underC l x y with
  | false => rfl
  | true =>
    obtain ⟨m, s, k⟩ := mem_chainC (underC_true.1 q)
    rw [(chain_suffix m _ rfl s k).1] at h
    cases h
theorem under_head {l : List Bk} {x y : Id2} (h : standsB l y = false) : underC l x y = false := by
  unfold underC; rw [chainC_no (fun _ => h)]; rfl
theorem under_stands {l : List Bk} {x y : Id2} (h : underC l x y = true) : mayB l = true ∧ standsB l x = true ∧ standsB l y = true := by
  obtain ⟨m, s, k⟩ := mem_chainC (underC_true.1 h)
  exact ⟨m, (chain_suffix m _ rfl s k).1, s⟩
theorem under_own {l : List Bk} (h : mayB l = true) {x : Id2} (hx : standsB l x = true) : underC l x x = true := by
  rw [underC_true, chainC_yes h hx]; exact chainB_self l x
theorem under_zid {l : List Bk} (h : mayB l = true) (x : Id2) : underC l x zid = decide (zid = x) := by
  unfold underC
  rw [chainC_yes h (standsB_iff.2 (Or.inr rfl)), chainB_none (may_zero h), Bool.eq_iff_iff]
  simp [eq_comm]
theorem name_stands {l : List Bk} (h : mayB l = true) {i : Nat} (hi : i < l.length) : standsB l (nameB l[i]) = true := standsB_iff.2 (Or.inl ⟨i, may_pos h hi⟩)
theorem under_step {l : List Bk} (h : mayB l = true) {i : Nat} (hi : i < l.length) (x : Id2) : underC l x (nameB l[i]) = (decide (x = nameB l[i]) || underC l x l[i].p) := by
  unfold underC
  rw [chainC_yes h (name_stands h hi), chainC_yes h (may_stands h hi), chainB_some h (may_pos h hi), Bool.eq_iff_iff]
  simp

/-! ### What stands on an id, found by one way through the blocks -/
def setC (l : List Bk) (k : Nat) (x y : Id2) : Bool := decide (y = x) || ((posN (namesB (l.take k)) y).isSome && underC l x y)
theorem setC_zero (l : List Bk) (x y : Id2) : setC l 0 x y = decide (y = x) := by simp [setC, namesB, posN]
theorem isSome_step {l : List Bk} {k : Nat} (hk : k < l.length) (y : Id2) : (posN (namesB (l.take (k + 1))) y).isSome = ((posN (namesB (l.take k)) y).isSome || decide (nameB l[k] = y)) := by
  rw [List.take_succ_eq_append_getElem hk, namesB_snoc, posN_snoc]
  cases posN (namesB (l.take k)) y with
  | some i => rfl
  | none => by_cases e : nameB l[k] = y <;> simp [e]
theorem setC_parent {l : List Bk} (h : mayB l = true) {k : Nat} (hk : k < l.length) {x : Id2} (hx : standsB l x = true) : setC l k x l[k].p = underC l x l[k].p := by
  unfold setC
  rcases may_parent h hk with ⟨j, hj, q, _⟩ | ⟨e, _⟩
  · have hs : (posN (namesB (l.take k)) l[k].p).isSome = true := by
      cases r : posN (namesB (l.take k)) l[k].p with
      | some i => rfl
      | none =>
        refine absurd ?_ (posN_none.1 r)
        rw [← posB_name q]
        unfold namesB
        refine List.mem_map.2 ⟨_, ?_, rfl⟩
        rw [List.mem_take_iff_getElem]
        exact ⟨j, by omega, rfl⟩
    rw [hs, Bool.true_and]
    by_cases e : l[k].p = x
    · rw [e, under_own h hx]; simp
    · simp [e]
  · rw [e, under_zid h]
    cases r : posN (namesB (l.take k)) zid with
    | none => simp
    | some i =>
      have := may_zero (mayB_take h k (by omega))
      unfold posB at this
      rw [r] at this
      cases this
theorem setC_hit {l : List Bk} (h : mayB l = true) {k : Nat} (hk : k < l.length) {x : Id2} (hu : underC l x l[k].p = true) (y : Id2) : setC l (k + 1) x y = (setC l k x y || decide (y = nameB l[k])) := by
  unfold setC
  rw [isSome_step hk]
  by_cases e : nameB l[k] = y
  · subst e
    rw [under_step h hk, hu]
    simp
  · have e' : ¬ y = nameB l[k] := fun q => e q.symm
    simp [e, e']
theorem setC_miss {l : List Bk} (h : mayB l = true) {k : Nat} (hk : k < l.length) {x : Id2} (hu : underC l x l[k].p = false) (y : Id2) : setC l (k + 1) x y = setC l k x y := by
  unfold setC
  rw [isSome_step hk]
  by_cases e : nameB l[k] = y
  · subst e
    rw [under_step h hk, hu]
    by_cases q : x = nameB l[k]
    · simp [q]
    · simp [q]
  · simp [e]
theorem setC_end {l : List Bk} (h : mayB l = true) {x : Id2} (hx : standsB l x = true) (y : Id2) : setC l l.length x y = underC l x y := by
  unfold setC
  rw [List.take_length]
  cases q : underC l x y with
  | true =>
    rcases standsB_iff.1 (under_stands q).2.2 with ⟨i, e⟩ | e
    · have e' : posN (namesB l) y = some i := e
      rw [e']; simp
    · subst e
      rw [under_zid h] at q
      rw [q]; rfl
  | false =>
    by_cases e : y = x
    · subst e; rw [under_own h hx] at q; cases q
    · simp [e]

/-! ### Weights -/
theorem weight_mono (k : Cf) {a b : List Int} (h : ∀ f ∈ a, f ∈ b) : weightC k a ≤ weightC k b := by
  cases hm : mayC k with
  | false => rw [weightC_no _ hm, weightC_no _ hm]; omega
  | true =>
    rw [weightC_yes _ hm, weightC_yes _ hm]
    exact weighTo_mono (mayC_yes hm).2.2.1 (fun j hj => decide_eq_true (h _ (of_decide_eq_true hj))) _
theorem weight_total (k : Cf) (a : List Int) : weightC k a ≤ totalC k := by
  cases hm : mayC k with
  | false => rw [weightC_no _ hm, totalC_no hm]; omega
  | true =>
    rw [weightC_yes _ hm, totalC_yes hm]
    exact weighTo_mono (mayC_yes hm).2.2.1 (fun _ _ => rfl) _
theorem weight_mem (k : Cf) {a b : List Int} (h : ∀ f, f ∈ a ↔ f ∈ b) : weightC k a = weightC k b :=
  weight_same k fun j => by unfold inList; rw [decide_eq_decide]; exact h _

end Go.Proofs.YtlapcnfhnfkbmaaGreat
