/-
  What follows of the votes that count, for layer 7's laws.
-/
import Derived.Test.YtjcjglhoknbhpaaVoteRow
namespace Go.Proofs.Ytjcjglhoknbhpaa

theorem dbl_iff {L M : List Vt} (h : ∀ v, v ∈ L ↔ v ∈ M) (s f : Int) : Dbl L s f ↔ Dbl M s f := ⟨Dbl.of fun v => (h v).1, Dbl.of fun v => (h v).2⟩
theorem cnt_iff {L M : List Vt} (h : ∀ v, v ∈ L ↔ v ∈ M) (q : Int → Bool) (v : Vt) : Cnt L q v ↔ Cnt M q v := by
  unfold Cnt
  simp only [h, dbl_iff h]
theorem Dbls.same {L M : List Vt} (h : ∀ v, v ∈ L ↔ v ∈ M) {s : Int} {R S : List Int} (hR : Dbls L s R) (hS : Dbls M s S) : R = S :=
  hR.unique ⟨hS.1, fun f => (hS.2 f).trans (dbl_iff h s f).symm⟩
theorem Cnts.same {L M : List Vt} (h : ∀ v, v ∈ L ↔ v ∈ M) {q : Int → Bool} {R S : List Vt} (hR : Cnts L q R) (hS : Cnts M q S) : R = S :=
  hR.unique ⟨hS.1, fun v => (hS.2 v).trans (cnt_iff h q v).symm⟩
theorem mem_cut (l : List Vt) (j : Nat) (v : Vt) : v ∈ l ↔ v ∈ [] ++ l.drop j ++ l := by
  constructor
  · intro h; exact List.mem_append_right _ h
  · intro h
    rcases List.mem_append.1 h with h | h
    · exact List.mem_of_mem_drop (by simpa using h)
    · exact h
theorem WfVs.cut {l : List Vt} (h : WfVs l) (j : Nat) : WfVs ([] ++ l.drop j ++ l) := fun v hv => h v ((mem_cut l j v).2 hv)

/-! ### How often somebody is there -/
theorem count_none {α : Type} (k : α → Int) {f : Int} {R : List α} (h : ∀ v ∈ R, k v ≠ f) : R.countP (fun a => decide (k a = f)) = 0 := by
  rw [List.countP_eq_zero]
  intro a ha
  simpa using h a ha
theorem count_one {α : Type} (k : α → Int) {f : Int} : ∀ {R : List α}, R.Pairwise (fun a b => k a < k b) → ∀ v ∈ R, k v = f → R.countP (fun a => decide (k a = f)) = 1
  | [], _, v, hv, _ => by cases hv
  | a :: R, hR, v, hv, e => by
    have hR' := List.pairwise_cons.1 hR
    rw [List.countP_cons]
    by_cases ha : k a = f
    · rw [count_none k fun b hb => by have := hR'.1 b hb; omega]
      simp [ha]
    · rcases List.mem_cons.1 hv with h | h
      · subst h; exact absurd e ha
      · rw [count_one k hR'.2 v h e]
        simp [ha]
theorem countP_snoc {α : Type} (p : α → Bool) (M : List α) (v : α) : (M ++ [v]).countP p = M.countP p + (if p v then 1 else 0) := by
  rw [List.countP_append, List.countP_singleton]
/-- Each who has a vote of a slot: it counts, or they are double. -/
theorem own_counts {L : List Vt} {x : Vt} (hx : x ∈ L) (hd : ¬ Dbl L x.s x.f) : Cnt L (isQ x.s) x :=
  ⟨hx, isQ_iff.2 rfl, fun s hs => by rw [isQ_iff.1 hs]; exact hd, fun a _ _ hq => Int.le_of_eq (isQ_iff.1 hq)⟩
theorem each_one {L : List Vt} {x : Vt} (hx : x ∈ L) {R : List Vt} (hR : Cnts L (isQ x.s) R) {v : Vt} (hv : v ∈ R) (e : v.f = x.f) : v = x := by
  have hc := (hR.2 v).1 hv
  have hd : ¬ Dbl L x.s x.f := by have := hc.2.2.1 x.s (isQ_iff.2 rfl); rw [e] at this; exact this
  exact cnt_one hc (own_counts hx hd) e
theorem each_sum {L : List Vt} {x : Vt} (hx : x ∈ L) {R : List Vt} (hR : Cnts L (isQ x.s) R) {D : List Int} (hD : Dbls L x.s D) : R.countP (fun v => decide (v.f = x.f)) + D.countP (fun f => decide (f = x.f)) = 1 := by
  by_cases hd : Dbl L x.s x.f
  · rw [count_none Vt.f fun v hv e => ((hR.2 v).1 hv).2.2.1 x.s (isQ_iff.2 rfl) (by rw [e]; exact hd)]
    have := count_one (k := fun f : Int => f) hD.1 x.f ((hD.2 _).2 hd) rfl
    omega
  · rw [count_one Vt.f hR.1 x ((hR.2 x).2 (own_counts hx hd)) rfl]
    have := count_none (k := fun f : Int => f) (R := D) (f := x.f) fun v hv e => hd (by rw [← e]; exact (hD.2 v).1 hv)
    omega

/-! ### What counts, one by one -/
theorem Cnts.mem {L : List Vt} {q : Int → Bool} {R : List Vt} (h : Cnts L q R) {j : Nat} (hj : j < R.length) : R[j] ∈ L := ((h.2 _).1 (List.getElem_mem hj)).1
theorem Cnts.fits {L : List Vt} {q : Int → Bool} {R : List Vt} (h : Cnts L q R) {j : Nat} (hj : j < R.length) : q R[j].s = true := ((h.2 _).1 (List.getElem_mem hj)).2.1
theorem Cnts.rise {L : List Vt} {q : Int → Bool} {R : List Vt} (h : Cnts L q R) {i j : Nat} (hj : j < R.length) (hij : i < j) : R[i].f < R[j].f := List.pairwise_iff_getElem.1 h.1 i j (by omega) hj hij
theorem Cnts.notDbl {L : List Vt} {q : Int → Bool} {R : List Vt} (h : Cnts L q R) {j : Nat} (hj : j < R.length) {s : Int} (hs : q s = true) {D : List Int} (hD : Dbls L s D) {k : Nat} (hk : k < D.length) : ¬ D[k] = R[j].f := fun e => by
  have h1 := ((h.2 _).1 (List.getElem_mem hj)).2.2.1 s hs
  have h2 := (hD.2 _).1 (List.getElem_mem hk)
  rw [e] at h2
  exact h1 h2

/-! ### The last one -/
theorem max_slot : ∀ {M : List Vt}, M ≠ [] → ∃ v ∈ M, ∀ a ∈ M, a.s ≤ v.s
  | [], h => absurd rfl h
  | [a], _ => ⟨a, by simp, fun b hb => by have : b = a := by simpa using hb
                                          rw [this]; exact Int.le_refl _⟩
  | a :: b :: M, _ => by
    obtain ⟨v, hv, h⟩ := max_slot (M := b :: M) (by simp)
    by_cases e : a.s ≤ v.s
    · refine ⟨v, List.mem_cons_of_mem _ hv, fun c hc => ?_⟩
      rcases List.mem_cons.1 hc with h1 | h1
      · rw [h1]; exact e
      · exact h c h1
    · refine ⟨a, List.mem_cons_self, fun c hc => ?_⟩
      rcases List.mem_cons.1 hc with h1 | h1
      · rw [h1]; exact Int.le_refl _
      · have := h c h1; omega
theorem last_ex {L : List Vt} {q : Int → Bool} {x : Vt} (hx : x ∈ L) (hq : q x.s = true) (hno : ∀ s, q s = true → ¬ Dbl L s x.f) : ∃ v, Cnt L q v ∧ v.f = x.f := by
  obtain ⟨v, hv, h⟩ := max_slot (M := L.filter fun a => decide (a.f = x.f) && q a.s) (fun e => by
    have : x ∈ L.filter fun a => decide (a.f = x.f) && q a.s := List.mem_filter.2 ⟨hx, by simp [hq]⟩
    rw [e] at this; cases this)
  have hv' := List.mem_filter.1 hv
  have hf : v.f = x.f := by have := hv'.2; simp at this; exact this.1
  have hs : q v.s = true := by have := hv'.2; simp at this; exact this.2
  refine ⟨v, ⟨hv'.1, hs, fun s hs => by rw [hf]; exact hno s hs, fun a ha e hqa => h a (List.mem_filter.2 ⟨ha, by simp [e, hf, hqa]⟩)⟩, hf⟩
theorem later_le {L : List Vt} {u : Int} {R : List Vt} (hR : Cnts L (upQ u) R) {x : Vt} (hx : x ∈ L) (hu : x.s ≤ u) {v : Vt} (hv : v ∈ R) (e : v.f = x.f) : x.s ≤ v.s := ((hR.2 v).1 hv).2.2.2 x hx e.symm (upQ_iff.2 hu)
theorem later_bad {L : List Vt} {u : Int} {R : List Vt} (hR : Cnts L (upQ u) R) {x : Vt} (hx : x ∈ L) (hu : x.s ≤ u) (hno : ∀ v ∈ R, v.f ≠ x.f) (hd : ∀ a ∈ L, a.f = x.f → a.s ≤ u → ¬ Dbl L a.s x.f) : False := by
  obtain ⟨v, hv, e⟩ := last_ex hx (upQ_iff.2 hu) fun s hs d => by
    obtain ⟨a, ha, b, hb, h1, h2, h3, h4, ne⟩ := d
    exact hd a ha h1 (by rw [h3]; exact upQ_iff.1 hs) ⟨a, ha, b, hb, h1, h2, rfl, by rw [h4, h3], ne⟩
  exact hno v ((hR.2 v).2 hv) e

end Go.Proofs.Ytjcjglhoknbhpaa
