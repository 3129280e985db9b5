/-
  Plain mathematics of package gold: which votes of a slot's committee count, and the head by these.
-/
import Derived.Test.YtlapcnfhnfkbmaaGreatLmdMath
namespace Go.Proofs.YtlapcnfhnfkbmaaGreat
set_option maxRecDepth 100000
set_option linter.unusedVariables false
set_option linter.unusedSimpArgs false
set_option linter.unusedSimpArgs false
set_option linter.unusedVariables false

/-- The votes of a slot's committee that count: rising, and just these. -/
def Golds (k : Cf) (slot : Int) (L R : List Vt) : Prop := R.Pairwise (fun a b => a.f < b.f) ∧ ∀ x, x ∈ R ↔ Cnt L (isQ slot) x ∧ inC k slot x.f = true
theorem Golds.unique {k : Cf} {slot : Int} {L R S : List Vt} (h : Golds k slot L R) (g : Golds k slot L S) : R = S := rise_eq Vt.f h.1 g.1 fun x => (h.2 x).trans (g.2 x).symm
/-- Those of a list who are in the committee. -/
def goldL (k : Cf) (slot : Int) (A : List Vt) : List Vt := A.filter fun x => inC k slot x.f
theorem goldL_hit {k : Cf} {slot : Int} {A : List Vt} {j : Nat} (hj : j < A.length) (h : inC k slot A[j].f = true) : goldL k slot (A.take (j + 1)) = goldL k slot (A.take j) ++ [A[j]] := by
  unfold goldL
  rw [List.take_succ_eq_append_getElem hj, List.filter_append]
  congr 1
  simp [h]
theorem goldL_miss {k : Cf} {slot : Int} {A : List Vt} {j : Nat} (hj : j < A.length) (h : inC k slot A[j].f = false) : goldL k slot (A.take (j + 1)) = goldL k slot (A.take j) := by
  unfold goldL
  rw [List.take_succ_eq_append_getElem hj, List.filter_append]
  simp [h]
theorem goldL_le (k : Cf) (slot : Int) (A : List Vt) : (goldL k slot A).length ≤ A.length := List.length_filter_le _ _
theorem golds_of {k : Cf} {slot : Int} {L A : List Vt} (h : Cnts L (isQ slot) A) : Golds k slot L (goldL k slot A) := by
  refine ⟨h.1.filter _, fun x => ?_⟩
  unfold goldL
  rw [List.mem_filter, h.2]
theorem golds_mem {k : Cf} {slot : Int} {L R : List Vt} (h : Golds k slot L R) : ∀ x ∈ R, x ∈ L := fun x hx => ((h.2 x).1 hx).1.1
theorem golds_one {k : Cf} {slot : Int} {L R : List Vt} (h : Golds k slot L R) : ∀ a ∈ R, ∀ b ∈ R, a.f = b.f → a = b := fun a ha b hb e => cnt_one ((h.2 a).1 ha).1 ((h.2 b).1 hb).1 e
theorem golds_none {k : Cf} {slot : Int} {L : List Vt} (h : ∀ who, inC k slot who = false) : Golds k slot L [] := ⟨List.Pairwise.nil, fun x => ⟨fun q => (by cases q), fun q => by rw [h] at q; cases q.2⟩⟩

/-! ### What does not matter -/
theorem golds_same {k : Cf} {slot : Int} {L M R S : List Vt} (h : ∀ v, isQ slot v.s = true → (v ∈ L ↔ v ∈ M)) (hR : Golds k slot L R) (hS : Golds k slot M S) : R = S :=
  rise_eq Vt.f hR.1 hS.1 fun x => (hR.2 x).trans ((and_congr_left fun _ => cnt_same h x).trans (hS.2 x).symm)
/-- A vote of somebody else. -/
theorem cnt_other {L : List Vt} {q : Int → Bool} {x y : Vt} (h : y.f ≠ x.f) : Cnt (L ++ [x]) q y ↔ Cnt L q y := by
  have hd : ∀ s, Dbl (L ++ [x]) s y.f ↔ Dbl L s y.f := fun s => by
    constructor
    · rintro ⟨a, ha, b, hb, e1, e2, r⟩
      have pa : a ∈ L := by
        rcases List.mem_append.1 ha with q | q
        · exact q
        · rw [List.mem_singleton] at q; subst q; exact absurd e1.symm h
      have pb : b ∈ L := by
        rcases List.mem_append.1 hb with q | q
        · exact q
        · rw [List.mem_singleton] at q; subst q; exact absurd e2.symm h
      exact ⟨a, pa, b, pb, e1, e2, r⟩
    · exact Dbl.of fun v hv => List.mem_append_left _ hv
  constructor
  · rintro ⟨h1, h2, h3, h4⟩
    refine ⟨?_, h2, fun s hs d => h3 s hs ((hd s).2 d), fun a ha e hq => h4 a (List.mem_append_left _ ha) e hq⟩
    rcases List.mem_append.1 h1 with q | q
    · exact q
    · rw [List.mem_singleton] at q; subst q; exact absurd rfl h
  · rintro ⟨h1, h2, h3, h4⟩
    refine ⟨List.mem_append_left _ h1, h2, fun s hs d => h3 s hs ((hd s).1 d), fun a ha e hq => ?_⟩
    rcases List.mem_append.1 ha with q | q
    · exact h4 a q e hq
    · rw [List.mem_singleton] at q; subst q; exact absurd e.symm h
theorem golds_other {k : Cf} {slot : Int} {L R S : List Vt} {x : Vt} (h : x.s ≠ slot ∨ inC k slot x.f = false) (hR : Golds k slot (L ++ [x]) R) (hS : Golds k slot L S) : R = S := by
  rcases h with h | h
  · refine golds_same (fun v hv => ?_) hR hS
    rw [isQ_iff] at hv
    rw [List.mem_append, List.mem_singleton]
    exact ⟨fun q => q.elim id fun e => absurd (by rw [← e]; exact hv) h, Or.inl⟩
  · refine rise_eq Vt.f hR.1 hS.1 fun y => (hR.2 y).trans (Iff.trans ?_ (hS.2 y).symm)
    by_cases e : y.f = x.f
    · rw [e, h]; simp
    · rw [cnt_other e]

/-! ### The head -/
/-- Where more than a half is for a block. -/
theorem gold_half {k : Cf} {l : List Bk} {R : List Vt} (hR : ∀ a ∈ R, ∀ b ∈ R, a.f = b.f → a = b) {id : Id2} (h : onC k l R zid < 2 * onC k l R id) : underC l id (headC k l R) = true := by
  have := half_head (k := k) (l := l) (R := R) (boost := zid) (pct := 0) (id := id) hR (by rw [boost_none]; omega)
  rw [onB_zid] at this
  exact this
/-- What some of the committee weigh more than all the others in it. -/
theorem gold_outvotes {k : Cf} {l : List Bk} {R good : List Vt} {bad : List Int} {slot : Int} {id : Id2} (hR : ∀ a ∈ R, ∀ b ∈ R, a.f = b.f → a = b) (hg : ∀ x ∈ good, x ∈ R) (hc : ∀ x ∈ R, inC k slot x.f = true)
    (hb : ∀ f, inC k slot f = true → (¬ ∃ x ∈ good, x.f = f ∧ underC l id x.p = true) → f ∈ bad) (h : weightC k bad < onC k l good id) : underC l id (headC k l R) = true := by
  have w0 : 0 ≤ weightC k bad := (weight_bounds k bad).1
  obtain ⟨f, hf⟩ : ∃ f, f ∈ whoC l good id := by
    cases q : whoC l good id with
    | nil => unfold onC at h; rw [q, weight_nil] at h; omega
    | cons f r => exact ⟨f, by simp⟩
  obtain ⟨a, ha, hu, _⟩ := mem_whoC.1 hf
  obtain ⟨hm, ht, _⟩ := under_stands hu
  have key : underC l id (headG (onC k l R) l) = true := by
    refine headG_through hm ht fun y z hz hzt => bestG_is hm hz fun x hx hne => beats_less ?_
    have hy : standsB l y = true := by
      obtain ⟨i, hi, e1, e2⟩ := mem_kids.1 hz
      rw [← e2]; exact may_stands hm hi
    have h1 : onC k l good id ≤ onC k l R z := weight_mono k fun f hf => by
      obtain ⟨a, ha, hu, e⟩ := mem_whoC.1 hf
      exact mem_whoC.2 ⟨a, hg a ha, under_trans hzt hu, e⟩
    have h2 : onC k l R x ≤ weightC k bad := weight_mono k fun f hf => by
      obtain ⟨a, ha, hua, e⟩ := mem_whoC.1 hf
      refine hb f (by rw [← e]; exact hc a ha) ?_
      rintro ⟨b, hbg, e2, hub⟩
      have : a = b := hR a ha b (hg b hbg) (by rw [e, e2])
      subst this
      exact hne (kid_one hm hy hx hz hua (under_trans hzt hub))
    omega
  exact key

end Go.Proofs.YtlapcnfhnfkbmaaGreat
