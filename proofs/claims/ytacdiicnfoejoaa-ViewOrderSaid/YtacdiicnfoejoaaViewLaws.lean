/-
  Plain mathematics of package view: taken again, in another order, by another view, a slot later; lists that are joined.
-/
import Derived.Test.YtacdiicnfoejoaaViewFacts
namespace Go.Proofs.Ytacdiicnfoejoaa
set_option maxRecDepth 100000
set_option linter.unusedVariables false
set_option linter.unusedSimpArgs false
set_option linter.unusedSimpArgs false
set_option linter.unusedVariables false
set_option linter.unusedSectionVars false

/-! ### Joined -/
section
variable {α : Type} [DecidableEq α]
theorem snoc_ind {P : List α → Prop} (h0 : P []) (hs : ∀ l x, P l → P (l ++ [x])) (l : List α) : P l := by
  suffices H : ∀ n, ∀ l : List α, l.length = n → P l from H _ l rfl
  intro n
  induction n with
  | zero => intro l hl; rw [List.eq_nil_of_length_eq_zero hl]; exact h0
  | succ n ih =>
    intro l hl
    have hne : l ≠ [] := by intro e; rw [e] at hl; cases hl
    rw [← List.dropLast_concat_getLast hne]
    exact hs _ _ (ih _ (by rw [List.length_dropLast, hl]; rfl))
theorem joinL_nil (a : List α) : joinL a [] = a := rfl
theorem joinL_snoc (a b : List α) (x : α) : joinL a (b ++ [x]) = if x ∈ joinL a b then joinL a b else joinL a b ++ [x] := by unfold joinL; rw [List.foldl_append]; rfl
theorem joinL_pre (a : List α) : ∀ b : List α, ∃ n, joinL a b = a ++ n ∧ (∀ x ∈ n, x ∈ b) ∧ n.length ≤ b.length := by
  refine fun b => snoc_ind (P := fun b => ∃ n, joinL a b = a ++ n ∧ (∀ x ∈ n, x ∈ b) ∧ n.length ≤ b.length) ⟨[], by simp [joinL], by simp, Nat.le_refl _⟩ (fun b x ih => ?_) b
  · obtain ⟨n, e, hn, hl⟩ := ih
    rw [joinL_snoc]
    split
    · exact ⟨n, e, fun y hy => List.mem_append_left _ (hn y hy), by rw [List.length_append]; omega⟩
    · refine ⟨n ++ [x], by rw [e, List.append_assoc], fun y hy => ?_, by rw [List.length_append, List.length_append]; simp; omega⟩
      rcases List.mem_append.1 hy with r | r
      · exact List.mem_append_left _ (hn y r)
      · exact List.mem_append_right _ r
theorem mem_joinL {a b : List α} {x : α} : x ∈ joinL a b ↔ x ∈ a ∨ x ∈ b := by
  refine snoc_ind (P := fun b => x ∈ joinL a b ↔ x ∈ a ∨ x ∈ b) (by simp [joinL]) (fun b y ih => ?_) b
  · rw [joinL_snoc]
    split
    · rename_i h
      rw [ih, List.mem_append, List.mem_singleton]
      constructor
      · rintro (r | r)
        · exact Or.inl r
        · exact Or.inr (Or.inl r)
      · rintro (r | r | r)
        · exact Or.inl r
        · exact Or.inr r
        · exact ih.1 (by rw [r]; exact h)
    · rw [List.mem_append, ih, List.mem_append, List.mem_singleton, or_assoc]
theorem joinL_sub {a b : List α} (h : ∀ x ∈ b, x ∈ a) : joinL a b = a := by
  revert h
  refine snoc_ind (P := fun b => (∀ x ∈ b, x ∈ a) → joinL a b = a) (fun _ => rfl) (fun b y ih h => ?_) b
  · have e := ih fun x hx => h x (List.mem_append_left _ hx)
    rw [joinL_snoc, e, if_pos (h y (List.mem_append_right _ (List.mem_singleton.2 rfl)))]
theorem joinL_nodup {a b : List α} (h : a.Nodup) : (joinL a b).Nodup := by
  refine snoc_ind (P := fun b => (joinL a b).Nodup) h (fun b y ih => ?_) b
  · rw [joinL_snoc]
    split
    · exact ih
    · rename_i hn
      rw [List.nodup_append]
      refine ⟨ih, by simp, fun x hx z hz => ?_⟩
      rw [List.mem_singleton] at hz
      subst hz
      exact fun e => hn (by rw [← e]; exact hx)
theorem joinL_len (a b : List α) : a.length ≤ (joinL a b).length ∧ (joinL a b).length ≤ a.length + b.length := by
  obtain ⟨n, e, _, hl⟩ := joinL_pre a b
  rw [e, List.length_append]
  omega
/-- Joined once more it stays. -/
theorem joinL_left (a b : List α) : joinL (joinL a b) a = joinL a b := joinL_sub fun x hx => mem_joinL.2 (Or.inl hx)
theorem joinL_right (a b : List α) : joinL (joinL a b) b = joinL a b := joinL_sub fun x hx => mem_joinL.2 (Or.inr hx)
theorem nodup_len {l m : List α} (hl : l.Nodup) (hm : m.Nodup) (h : ∀ x, x ∈ l ↔ x ∈ m) : l.length = m.length := ((List.perm_ext_iff_of_nodup hl hm).2 h).length_eq
end

/-! ### Names apart -/
def Apart (L : List Bk) : Prop := ∀ a ∈ L, ∀ b ∈ L, nameB a = nameB b → a = b
theorem Apart.sub {L M : List Bk} (h : Apart L) (hs : ∀ x ∈ M, x ∈ L) : Apart M := fun a ha b hb e => h a (hs a ha) b (hs b hb) e
theorem apart_of {L : List Bk} (h : L.Pairwise fun a b => nameB a ≠ nameB b) : Apart L := fun a ha b hb e => by
  obtain ⟨i, hi, rfl⟩ := List.mem_iff_getElem.1 ha
  obtain ⟨j, hj, rfl⟩ := List.mem_iff_getElem.1 hb
  rw [List.pairwise_iff_getElem] at h
  rcases Nat.lt_trichotomy i j with q | q | q
  · exact absurd e (h i j hi hj q)
  · subst q; rfl
  · exact absurd e.symm (h j i hj hi q)
theorem may_apart {l : List Bk} (h : mayB l = true) : Apart l := fun a ha b hb e => by
  obtain ⟨i, hi, rfl⟩ := List.mem_iff_getElem.1 ha
  obtain ⟨j, hj, rfl⟩ := List.mem_iff_getElem.1 hb
  have h1 := may_pos h hi
  have h2 := may_pos h hj
  rw [e, h2] at h1
  injection h1 with h1
  subst h1
  rfl
/-- Where blocks may be an id's slot is that of the block of that name. -/
theorem slotI_of {l : List Bk} (h : mayB l = true) {b : Bk} (hb : b ∈ l) : slotI l (nameB b) = b.s := by
  obtain ⟨i, hi, rfl⟩ := List.mem_iff_getElem.1 hb
  rw [slotI_some (may_pos h hi)]
theorem stands_cases {l : List Bk} {x : Id2} : standsB l x = true ↔ (∃ b ∈ l, nameB b = x) ∨ x = zid := by
  rw [standsB_iff, ← posB_mem, Option.isSome_iff_exists]
theorem slotI_sub {l m : List Bk} (hl : mayB l = true) (hm : mayB m = true) (hs : ∀ x ∈ l, x ∈ m) {x : Id2} (h : 0 ≤ slotI l x) : slotI m x = slotI l x := by
  rcases stands_cases.1 ((slotI_stands hl x).1 h) with ⟨b, hb, rfl⟩ | rfl
  · rw [slotI_of hl hb, slotI_of hm (hs b hb)]
  · rw [slotI_zid (may_zero hl), slotI_zid (may_zero hm)]
theorem slotI_par {l : List Bk} (hl : mayB l = true) {b : Bk} (h : b ∈ l) : 0 ≤ slotI l b.p ∧ slotI l b.p < b.s := by
  obtain ⟨i, hi, rfl⟩ := List.mem_iff_getElem.1 h
  rcases may_parent hl hi with ⟨j, hj, q, e⟩ | ⟨q, e⟩
  · rw [slotI_some q]
    have := may_slots hl _ j (by omega) (Nat.le_refl _)
    omega
  · rw [q, slotI_zid (may_zero hl)]; omega

/-! ### What is counted, however it comes -/
inductive CloB (W I : List Bk) (upto : Int) : Bk → Prop
  | base {b : Bk} (h : b ∈ W) : CloB W I upto b
  | root {b : Bk} (h : b ∈ I) (hs : b.s ≤ upto) (hp : b.p = zid) : CloB W I upto b
  | step {a b : Bk} (h : b ∈ I) (hs : b.s ≤ upto) (ha : CloB W I upto a) (hn : nameB a = b.p) (hl : a.s < b.s) : CloB W I upto b
theorem CloB.mem {W I : List Bk} {upto : Int} {b : Bk} (h : CloB W I upto b) : b ∈ W ∨ b ∈ I := by
  cases h with
  | base h => exact Or.inl h
  | root h _ _ => exact Or.inr h
  | step h _ _ _ _ => exact Or.inr h
theorem CloB.mono {W I W' I' : List Bk} {upto upto' : Int} (hW : ∀ b ∈ W, CloB W' I' upto' b) (hI : ∀ b ∈ I, b ∈ I') (hu : upto ≤ upto') {b : Bk} (h : CloB W I upto b) : CloB W' I' upto' b := by
  induction h with
  | base h => exact hW _ h
  | root h hs hp => exact .root (hI _ h) (by omega) hp
  | step h hs _ hn hl ih => exact .step (hI _ h) (by omega) ih hn hl
section
variable {k : Cf} {w i : Vw} {upto : Int}
theorem take_clo (hm : mayW k w = true) : ∀ b ∈ (takeC k w i upto).w.b, CloB w.b (onlyW k i).b upto b := by
  have h := take_inv (i := i) (upto := upto) hm
  obtain ⟨n, e, hn⟩ := h.blocks
  suffices H : ∀ (m j : Nat) (hj : j < (takeC k w i upto).w.b.length), j ≤ m → CloB w.b (onlyW k i).b upto ((takeC k w i upto).w.b[j]) from fun b hb => by
    obtain ⟨j, hj, rfl⟩ := List.mem_iff_getElem.1 hb
    exact H _ j hj (Nat.le_refl _)
  intro m
  induction m with
  | zero =>
    intro j hj hm0
    have hb : (takeC k w i upto).w.b[j] ∈ w.b ++ n := by rw [← e]; exact List.getElem_mem hj
    rcases List.mem_append.1 hb with r | r
    · exact .base r
    · rcases may_parent h.mayb hj with ⟨t, ht, _⟩ | ⟨q, _⟩
      · omega
      · exact .root (hn _ r).1 (hn _ r).2 q
  | succ m ih =>
    intro j hj hm0
    have hb : (takeC k w i upto).w.b[j] ∈ w.b ++ n := by rw [← e]; exact List.getElem_mem hj
    rcases List.mem_append.1 hb with r | r
    · exact .base r
    · rcases may_parent h.mayb hj with ⟨t, ht, q, hs⟩ | ⟨q, _⟩
      · exact .step (hn _ r).1 (hn _ r).2 (ih t (by omega) (by omega)) (posB_name q) hs
      · exact .root (hn _ r).1 (hn _ r).2 q
theorem take_sub (hm : mayW k w = true) : ∀ b ∈ (takeC k w i upto).w.b, b ∈ w.b ++ (onlyW k i).b := fun b hb => List.mem_append.2 (take_clo hm b hb).mem
theorem clo_take (hm : mayW k w = true) (hf : (takeC k w i upto).full = false) (hap : Apart (w.b ++ (onlyW k i).b)) {b : Bk} (hc : CloB w.b (onlyW k i).b upto b) : b ∈ (takeC k w i upto).w.b := by
  have h := take_inv (i := i) (upto := upto) hm
  have hst := take_still (i := i) (upto := upto) hm hf
  have key : ∀ b, b ∈ (onlyW k i).b → b.s ≤ upto → 0 ≤ slotI (takeC k w i upto).w.b b.p → slotI (takeC k w i upto).w.b b.p < b.s → b ∈ (takeC k w i upto).w.b := fun b hb hs h0 h1 => by
    rcases h.eachb b hb with r | r | r
    · exact r
    · unfold lostB at r
      rw [Bool.or_eq_true, decide_eq_true_iff] at r
      rcases r with r | r
      · obtain ⟨a, ha, e⟩ := posB_mem.1 r
        rw [← hap a (take_sub hm a ha) b (List.mem_append_right _ hb) e]; exact ha
      · omega
    · have p := (hst.1 b r).2
      unfold pendB at p
      rw [Bool.or_eq_true, decide_eq_true_iff, decide_eq_true_iff] at p
      omega
  induction hc with
  | base hb =>
    obtain ⟨n, e, _⟩ := h.blocks
    rw [e]; exact List.mem_append_left _ hb
  | @root b hb hs hp =>
    have := (blockC_yes (only_b.1 hb).2).2.1
    refine key b hb hs ?_ ?_ <;> rw [hp, slotI_zid (may_zero h.mayb)] <;> omega
  | @step a b hb hs _ hn hl ih =>
    have := may_slotV h.mayb ih
    refine key b hb hs ?_ ?_ <;> rw [← hn, slotI_of h.mayb ih] <;> omega
theorem take_b (hm : mayW k w = true) (hf : (takeC k w i upto).full = false) (hap : Apart (w.b ++ (onlyW k i).b)) (b : Bk) : b ∈ (takeC k w i upto).w.b ↔ CloB w.b (onlyW k i).b upto b := ⟨take_clo hm b, clo_take hm hf hap⟩
/-- A vote that is counted. -/
theorem take_v (hm : mayW k w = true) (hf : (takeC k w i upto).full = false) (v : Vt) : v ∈ (takeC k w i upto).w.v ↔ v ∈ w.v ∨ (v ∈ (onlyW k i).v ∧ v.s ≤ upto ∧ 0 ≤ slotI (takeC k w i upto).w.b v.p ∧ slotI (takeC k w i upto).w.b v.p ≤ v.s) := by
  have h := take_inv (i := i) (upto := upto) hm
  have hst := take_still (i := i) (upto := upto) hm hf
  obtain ⟨m, e, hmm⟩ := h.votes
  constructor
  · intro hv
    have ho := h.oks v hv
    rw [e] at hv
    rcases List.mem_append.1 hv with r | r
    · exact Or.inl r
    · exact Or.inr ⟨(hmm v r).1, (hmm v r).2, ho⟩
  · rintro (r | ⟨hv, hs, h0, h1⟩)
    · rw [e]; exact List.mem_append_left _ r
    · rcases h.eachv v hv with r | r | r
      · exact r
      · unfold lostV at r
        rw [Bool.or_eq_true, decide_eq_true_iff, decide_eq_true_iff] at r
        rcases r with r | r
        · exact r
        · omega
      · have p := (hst.2 v r).2
        unfold pendV at p
        rw [Bool.or_eq_true, decide_eq_true_iff, decide_eq_true_iff] at p
        omega

/-! ### Room -/
theorem take_room (hm : mayW k w = true) (hb : w.b.length + i.b.length ≤ 60) (hv : w.v.length + i.v.length ≤ 240) : (takeC k w i upto).full = false := by
  unfold takeC
  rw [if_pos hm]
  refine (takeN_inv (P := fun s => s.full = false ∧ s.w.b.length + s.i.b.length ≤ 60 ∧ s.w.v.length + s.i.v.length ≤ 240) (fun s ⟨h1, h2, h3⟩ => ?_) _ _ ⟨rfl, ?_, ?_⟩).1
  · have p1 := (pass_count (lost := lostB) (pend := pendB upto) (cap := 60) s.w.b s.full s.i.b).1
    have p2 := (pass_count (lost := lostV (passB upto s).w) (pend := pendV (passB upto s).w upto) (cap := 240) s.w.v (passB upto s).full s.i.v).1
    have r1 : (passB upto s).full = false := by unfold passB; rw [h1]; exact pass_room _ _ h2
    have r2 : (passV upto s).full = false := by unfold passV; rw [r1]; exact pass_room _ _ h3
    have q1 : (passB upto s).left.length + (passB upto s).w.length ≤ s.i.b.length + s.w.b.length := p1
    have q2 : (passV upto s).left.length + (passV upto s).w.length ≤ s.i.v.length + s.w.v.length := p2
    refine ⟨r2, ?_, ?_⟩
    · show (passB upto s).w.length + (passB upto s).left.length ≤ 60; omega
    · show (passV upto s).w.length + (passV upto s).left.length ≤ 240; omega
  · have := List.length_filter_le (blockC k) i.b
    show w.b.length + (i.b.filter (blockC k)).length ≤ 60; omega
  · have := List.length_filter_le (voteC k) i.v
    show w.v.length + (i.v.filter (voteC k)).length ≤ 240; omega

/-! ### Taken again -/
theorem pass_wait {α : Type} {lost pend : List α → α → Bool} {cap : Nat} (w : List α) (full : Bool) (l : List α) (h : ∀ x ∈ l, lost w x = false ∧ pend w x = true) : passG lost pend cap w full l = ⟨w, l, full, false⟩ := by
  suffices H : ∀ (m : List α) (s : List α), (∀ x ∈ m, lost w x = false ∧ pend w x = true) → runG lost pend cap ⟨w, s, full, false⟩ m = ⟨w, s ++ m, full, false⟩ from by
    have := H l [] h
    simpa [passG] using this
  intro m
  induction m with
  | nil => intro s _; simp [runG]
  | cons x m ih =>
    intro s hx
    have h1 := hx x List.mem_cons_self
    rw [runG_cons]
    have e : stepG lost pend cap ⟨w, s, full, false⟩ x = ⟨w, s ++ [x], full, false⟩ := by unfold stepG; simp [h1.1, h1.2]
    rw [e, ih (s ++ [x]) fun y hy => hx y (List.mem_cons_of_mem _ hy)]
    simp
theorem only_self {x : Vw} (hb : ∀ b ∈ x.b, blockC k b = true) (hv : ∀ v ∈ x.v, voteC k v = true) : onlyW k x = x := by
  unfold onlyW
  rw [List.filter_eq_self.2 hb, List.filter_eq_self.2 hv]
theorem take_left_valid (hm : mayW k w = true) : (∀ b ∈ (takeC k w i upto).i.b, b ∈ i.b ∧ blockC k b = true) ∧ (∀ v ∈ (takeC k w i upto).i.v, v ∈ i.v ∧ voteC k v = true) := by
  have h := take_inv (i := i) (upto := upto) hm
  exact ⟨fun b hb => only_b.1 (h.leftb b hb), fun v hv => only_v.1 (h.leftv v hv)⟩
theorem take_again (hm : mayW k w = true) (hf : (takeC k w i upto).full = false) : takeC k (takeC k w i upto).w (takeC k w i upto).i upto = ⟨(takeC k w i upto).w, (takeC k w i upto).i, false⟩ := by
  have h2 := take_may (i := i) (upto := upto) hm
  have hst := take_still (i := i) (upto := upto) hm hf
  have hlv := take_left_valid (i := i) (upto := upto) hm
  generalize takeC k w i upto = x at *
  unfold takeC
  rw [if_pos h2, only_self (fun b hb => (hlv.1 b hb).2) (fun v hv => (hlv.2 v hv).2)]
  have eb : passB upto ⟨x.w, x.i, false⟩ = ⟨x.w.b, x.i.b, false, false⟩ := pass_wait _ _ _ hst.1
  have ev : passV upto ⟨x.w, x.i, false⟩ = ⟨x.w.v, x.i.v, false, false⟩ := by
    unfold passV
    rw [eb]
    exact pass_wait _ _ _ hst.2
  have ha : anyT upto ⟨x.w, x.i, false⟩ = false := by unfold anyT; rw [eb, ev]; rfl
  unfold takeN
  rw [ha]
  unfold roundT
  rw [eb, ev]
  rfl
end

/-! ### In another order -/
section
variable {k : Cf} {w : Vw} {upto : Int}
theorem take_same {i j : Vw} (hm : mayW k w = true) (hi : (takeC k w i upto).full = false) (hj : (takeC k w j upto).full = false) (hap : Apart (w.b ++ i.b)) (eb : ∀ b, b ∈ i.b ↔ b ∈ j.b) (ev : ∀ v, v ∈ i.v ↔ v ∈ j.v) :
    (∀ b, b ∈ (takeC k w i upto).w.b ↔ b ∈ (takeC k w j upto).w.b) ∧ (∀ v, v ∈ (takeC k w i upto).w.v ↔ v ∈ (takeC k w j upto).w.v) := by
  have hob : ∀ b, b ∈ (onlyW k i).b ↔ b ∈ (onlyW k j).b := fun b => by rw [only_b, only_b, eb]
  have hov : ∀ v, v ∈ (onlyW k i).v ↔ v ∈ (onlyW k j).v := fun v => by rw [only_v, only_v, ev]
  have hai : Apart (w.b ++ (onlyW k i).b) := hap.sub fun x hx => by
    rcases List.mem_append.1 hx with r | r
    · exact List.mem_append_left _ r
    · exact List.mem_append_right _ (only_b.1 r).1
  have haj : Apart (w.b ++ (onlyW k j).b) := hai.sub fun x hx => by
    rcases List.mem_append.1 hx with r | r
    · exact List.mem_append_left _ r
    · exact List.mem_append_right _ ((hob x).2 r)
  have B : ∀ b, b ∈ (takeC k w i upto).w.b ↔ b ∈ (takeC k w j upto).w.b := fun b => by
    rw [take_b hm hi hai, take_b hm hj haj]
    exact ⟨CloB.mono (fun _ h => .base h) (fun b h => (hob b).1 h) (Int.le_refl _), CloB.mono (fun _ h => .base h) (fun b h => (hob b).2 h) (Int.le_refl _)⟩
  refine ⟨B, fun v => ?_⟩
  have mi := (take_inv (i := i) (upto := upto) hm).mayb
  have mj := (take_inv (i := j) (upto := upto) hm).mayb
  rw [take_v hm hi, take_v hm hj]
  constructor
  · rintro (r | ⟨r, s, h0, h1⟩)
    · exact Or.inl r
    · have e := slotI_sub mi mj (fun b hb => (B b).1 hb) h0
      exact Or.inr ⟨(hov v).1 r, s, by omega, by omega⟩
  · rintro (r | ⟨r, s, h0, h1⟩)
    · exact Or.inl r
    · have e := slotI_sub mj mi (fun b hb => (B b).2 hb) h0
      exact Or.inr ⟨(hov v).2 r, s, by omega, by omega⟩
/-- .. in two parts. -/
theorem take_parts {one two i : Vw} (hm : mayW k w = true) (eb : ∀ b, b ∈ i.b ↔ b ∈ one.b ∨ b ∈ two.b) (ev : ∀ v, v ∈ i.v ↔ v ∈ one.v ∨ v ∈ two.v) (hap : Apart (w.b ++ i.b)) (hi : (takeC k w i upto).full = false) (ht : (takeC k w two upto).full = false)
    (hz : (takeC k (takeC k w two upto).w (joinW (takeC k w two upto).i one) upto).full = false) :
    (∀ b, b ∈ (takeC k w i upto).w.b ↔ b ∈ (takeC k (takeC k w two upto).w (joinW (takeC k w two upto).i one) upto).w.b) ∧ (∀ v, v ∈ (takeC k w i upto).w.v ↔ v ∈ (takeC k (takeC k w two upto).w (joinW (takeC k w two upto).i one) upto).w.v) := by
  have hy := take_may (i := two) (upto := upto) hm
  have ty := take_inv (i := two) (upto := upto) hm
  have ly := take_left_valid (i := two) (upto := upto) hm
  have subo : ∀ (j : Vw), (∀ b ∈ j.b, b ∈ i.b) → ∀ b ∈ (onlyW k j).b, b ∈ (onlyW k i).b := fun j hj b hb => only_b.2 ⟨hj b (only_b.1 hb).1, (only_b.1 hb).2⟩
  have hai : Apart (w.b ++ (onlyW k i).b) := hap.sub fun x hx => by
    rcases List.mem_append.1 hx with r | r
    · exact List.mem_append_left _ r
    · exact List.mem_append_right _ (only_b.1 r).1
  have hat : Apart (w.b ++ (onlyW k two).b) := hai.sub fun x hx => by
    rcases List.mem_append.1 hx with r | r
    · exact List.mem_append_left _ r
    · exact List.mem_append_right _ (subo two (fun b hb => (eb b).2 (Or.inr hb)) x r)
  have yb := take_b hm ht hat
  -- what y has is what x has
  have yx : ∀ b ∈ (takeC k w two upto).w.b, CloB w.b (onlyW k i).b upto b := fun b hb => ((yb b).1 hb).mono (fun _ h => .base h) (subo two fun b hb => (eb b).2 (Or.inr hb)) (Int.le_refl _)
  have ji : ∀ b ∈ (onlyW k (joinW (takeC k w two upto).i one)).b, b ∈ (onlyW k i).b := subo _ fun b hb => by
    rcases mem_joinL.1 hb with r | r
    · exact (eb b).2 (Or.inr (ly.1 b r).1)
    · exact (eb b).2 (Or.inl r)
  have haz : Apart ((takeC k w two upto).w.b ++ (onlyW k (joinW (takeC k w two upto).i one)).b) := hai.sub fun x hx => by
    rcases List.mem_append.1 hx with r | r
    · exact List.mem_append.2 (yx x r).mem
    · exact List.mem_append_right _ (ji x r)
  have zb := take_b hy hz haz
  have hnz : ∀ a, CloB w.b (onlyW k i).b upto a → nameB a ≠ zid := fun a ha => by
    rcases ha.mem with r | r
    · exact (blockC_yes ((mayW_iff.1 hm).2.2.2.2.1 a r)).2.2.2.2
    · exact (blockC_yes (only_b.1 r).2).2.2.2.2
  have wy : ∀ b ∈ w.b, b ∈ (takeC k w two upto).w.b := fun b hb => (yb b).2 (.base hb)
  -- what came first is counted, or it is left, or it has a parent that may not be one
  have key : ∀ b, b ∈ (onlyW k i).b → slotI (takeC k w two upto).w.b b.p < b.s → b ∈ (takeC k w two upto).w.b ∨ b ∈ (onlyW k (joinW (takeC k w two upto).i one)).b := fun b hb h1 => by
    have hv := only_b.1 hb
    rcases (eb b).1 hv.1 with r | r
    · exact Or.inr (only_b.2 ⟨mem_joinL.2 (Or.inr r), hv.2⟩)
    · rcases ty.eachb b (only_b.2 ⟨r, hv.2⟩) with q | q | q
      · exact Or.inl q
      · unfold lostB at q
        rw [Bool.or_eq_true, decide_eq_true_iff] at q
        rcases q with q | q
        · obtain ⟨a, ha, e⟩ := posB_mem.1 q
          have := hai a (List.mem_append.2 (yx a ha).mem) b (List.mem_append_right _ hb) e
          rw [← this]; exact Or.inl ha
        · omega
      · exact Or.inr (only_b.2 ⟨mem_joinL.2 (Or.inl q), hv.2⟩)
  have B : ∀ b, b ∈ (takeC k w i upto).w.b ↔ b ∈ (takeC k (takeC k w two upto).w (joinW (takeC k w two upto).i one) upto).w.b := fun b => by
    rw [take_b hm hi hai, zb]
    constructor
    · intro h
      induction h with
      | base h => exact .base (wy _ h)
      | @root b h hs hp =>
        have := (blockC_yes (only_b.1 h).2).2.1
        rcases key b h (by rw [hp, slotI_zid (may_zero ty.mayb)]; omega) with q | q
        · exact .base q
        · exact .root q hs hp
      | @step a b h hs ha hn hl ih =>
        have hlt : slotI (takeC k w two upto).w.b b.p < b.s := by
          rcases Int.lt_or_le (slotI (takeC k w two upto).w.b b.p) 0 with q | q
          · have := (blockC_yes (only_b.1 h).2).2.1; omega
          · rcases stands_cases.1 ((slotI_stands ty.mayb b.p).1 q) with ⟨c, hc, e⟩ | e
            · have := hai c (List.mem_append.2 (yx c hc).mem) a (List.mem_append.2 ha.mem) (by rw [e, hn])
              rw [← hn, ← this, slotI_of ty.mayb hc, this]; exact hl
            · exact absurd (by rw [hn, e]) (hnz a ha)
        rcases key b h hlt with q | q
        · exact .base q
        · exact .step q hs ih hn hl
    · exact fun h => h.mono yx ji (Int.le_refl _)
  refine ⟨B, fun v => ?_⟩
  have mx := (take_inv (i := i) (upto := upto) hm).mayb
  have mz := (take_inv (i := joinW (takeC k w two upto).i one) (upto := upto) hy).mayb
  have yxb : ∀ b ∈ (takeC k w two upto).w.b, b ∈ (takeC k w i upto).w.b := fun b hb => (take_b hm hi hai b).2 (yx b hb)
  rw [take_v hm hi, take_v hy hz, take_v hm ht]
  constructor
  · rintro (r | ⟨r, s, h0, h1⟩)
    · exact Or.inl (Or.inl r)
    · have ez := slotI_sub mx mz (fun b hb => (B b).1 hb) h0
      have hv := only_v.1 r
      have hJ : v ∈ (onlyW k (joinW (takeC k w two upto).i one)).v → (v ∈ w.v ∨ v ∈ (onlyW k two).v ∧ v.s ≤ upto ∧ 0 ≤ slotI (takeC k w two upto).w.b v.p ∧ slotI (takeC k w two upto).w.b v.p ≤ v.s) ∨ v ∈ (onlyW k (joinW (takeC k w two upto).i one)).v ∧ v.s ≤ upto ∧ 0 ≤ slotI (takeC k (takeC k w two upto).w (joinW (takeC k w two upto).i one) upto).w.b v.p ∧ slotI (takeC k (takeC k w two upto).w (joinW (takeC k w two upto).i one) upto).w.b v.p ≤ v.s := fun q => Or.inr ⟨q, s, by omega, by omega⟩
      rcases (ev v).1 hv.1 with q | q
      · exact hJ (only_v.2 ⟨mem_joinL.2 (Or.inr q), hv.2⟩)
      · rcases ty.eachv v (only_v.2 ⟨q, hv.2⟩) with p | p | p
        · exact Or.inl ((take_v hm ht v).1 p)
        · unfold lostV at p
          rw [Bool.or_eq_true, decide_eq_true_iff, decide_eq_true_iff] at p
          rcases p with p | p
          · exact Or.inl ((take_v hm ht v).1 p)
          · have := (voteC_yes hv.2).1
            have e := slotI_sub ty.mayb mx yxb (x := v.p) (by omega)
            omega
        · exact hJ (only_v.2 ⟨mem_joinL.2 (Or.inl p), hv.2⟩)
  · rintro ((r | ⟨r, s, h0, h1⟩) | ⟨r, s, h0, h1⟩)
    · exact Or.inl r
    · have e := slotI_sub ty.mayb mx yxb h0
      exact Or.inr ⟨only_v.2 ⟨(ev v).2 (Or.inr (only_v.1 r).1), (only_v.1 r).2⟩, s, by omega, by omega⟩
    · have e := slotI_sub mz mx (fun b hb => (B b).2 hb) h0
      refine Or.inr ⟨only_v.2 ⟨?_, (only_v.1 r).2⟩, s, by omega, by omega⟩
      rcases mem_joinL.1 (only_v.1 r).1 with q | q
      · exact (ev v).2 (Or.inr (ly.2 v q).1)
      · exact (ev v).2 (Or.inl q)

/-! ### A slot later -/
theorem take_later {i : Vw} {upto' : Int} (hu : upto ≤ upto') (hm : mayW k w = true) (hf : (takeC k w i upto').full = false) (hap : Apart (w.b ++ i.b)) :
    (∀ b ∈ (takeC k w i upto).w.b, b ∈ (takeC k w i upto').w.b) ∧ (∀ v ∈ (takeC k w i upto).w.v, v ∈ (takeC k w i upto').w.v) := by
  have hai : Apart (w.b ++ (onlyW k i).b) := hap.sub fun x hx => by
    rcases List.mem_append.1 hx with r | r
    · exact List.mem_append_left _ r
    · exact List.mem_append_right _ (only_b.1 r).1
  have B : ∀ b ∈ (takeC k w i upto).w.b, b ∈ (takeC k w i upto').w.b := fun b hb => (take_b hm hf hai b).2 ((take_clo hm b hb).mono (fun _ h => .base h) (fun _ h => h) hu)
  refine ⟨B, fun v hv => ?_⟩
  have h1 := take_inv (i := i) (upto := upto) hm
  have h2 := take_inv (i := i) (upto := upto') hm
  obtain ⟨m, e, hmm⟩ := h1.votes
  have ho := h1.oks v hv
  have es := slotI_sub h1.mayb h2.mayb B ho.1
  rw [e] at hv
  rw [take_v hm hf]
  rcases List.mem_append.1 hv with r | r
  · exact Or.inl r
  · have := (hmm v r).2
    exact Or.inr ⟨(hmm v r).1, by omega, by omega, by omega⟩
/-! ### All of another view -/
theorem take_meets {i : Vw} (hm : mayW k w = true) (hi : mayW k i = true) (hs : ∀ b ∈ i.b, b.s ≤ upto) (hv : ∀ v ∈ i.v, v.s ≤ upto) (hf : (takeC k w i upto).full = false) (hap : Apart (w.b ++ i.b)) :
    (∀ b, b ∈ (takeC k w i upto).w.b ↔ b ∈ w.b ∨ b ∈ i.b) ∧ (∀ v, v ∈ (takeC k w i upto).w.v ↔ v ∈ w.v ∨ v ∈ i.v) ∧ (takeC k w i upto).i.b = [] ∧ (takeC k w i upto).i.v = [] := by
  obtain ⟨g1, _, _, _, g5, _, g7⟩ := mayW_iff.1 hi
  have hself : onlyW k i = i := only_self g5 fun v hv => (g7 v hv).1
  have hai : Apart (w.b ++ (onlyW k i).b) := by rw [hself]; exact hap
  have hin : ∀ b ∈ i.b, b ∈ (takeC k w i upto).w.b := by
    suffices H : ∀ (m j : Nat) (hj : j < i.b.length), j ≤ m → CloB w.b (onlyW k i).b upto i.b[j] from fun b hb => by
      obtain ⟨j, hj, rfl⟩ := List.mem_iff_getElem.1 hb
      exact (take_b hm hf hai _).2 (H _ j hj (Nat.le_refl _))
    rw [hself]
    intro m
    induction m with
    | zero =>
      intro j hj h0
      rcases may_parent g1 hj with ⟨t, ht, _⟩ | ⟨q, _⟩
      · omega
      · exact .root (List.getElem_mem hj) (hs _ (List.getElem_mem hj)) q
    | succ m ih =>
      intro j hj h0
      rcases may_parent g1 hj with ⟨t, ht, q, hl⟩ | ⟨q, _⟩
      · exact .step (List.getElem_mem hj) (hs _ (List.getElem_mem hj)) (ih t (by omega) (by omega)) (posB_name q) hl
      · exact .root (List.getElem_mem hj) (hs _ (List.getElem_mem hj)) q
  have tx := take_inv (i := i) (upto := upto) hm
  have lx := take_left_valid (i := i) (upto := upto) hm
  have sx := take_still (i := i) (upto := upto) hm hf
  have hvi : ∀ v ∈ i.v, 0 ≤ slotI (takeC k w i upto).w.b v.p ∧ slotI (takeC k w i upto).w.b v.p ≤ v.s := fun v hvv => by
    have := g7 v hvv
    have e := slotI_sub g1 tx.mayb hin this.2.1
    rw [e]; exact this.2
  refine ⟨fun b => ⟨fun h => ?_, fun h => ?_⟩, fun v => ⟨fun h => ?_, fun h => ?_⟩, ?_, ?_⟩
  · have := (take_clo hm b h).mem
    rw [hself] at this
    exact this
  · rcases h with h | h
    · exact (take_b hm hf hai b).2 (.base h)
    · exact hin b h
  · rcases (take_v hm hf v).1 h with r | r
    · exact Or.inl r
    · exact Or.inr (only_v.1 r.1).1
  · rcases h with h | h
    · exact (take_v hm hf v).2 (Or.inl h)
    · exact (take_v hm hf v).2 (Or.inr ⟨by rw [hself]; exact h, hv v h, hvi v h⟩)
  · refine List.eq_nil_iff_forall_not_mem.2 fun b hb => ?_
    have h1 := (sx.1 b hb).1
    unfold lostB at h1
    rw [Bool.or_eq_false_iff] at h1
    have := posB_mem.2 ⟨b, hin b (lx.1 b hb).1, rfl⟩
    rw [this] at h1
    cases h1.1
  · refine List.eq_nil_iff_forall_not_mem.2 fun v hb => ?_
    have h1 := (sx.2 v hb).1
    unfold lostV at h1
    rw [Bool.or_eq_false_iff, decide_eq_false_iff_not] at h1
    have hvv := (lx.2 v hb).1
    exact h1.1 ((take_v hm hf v).2 (Or.inr ⟨by rw [hself]; exact hvv, hv v hvv, hvi v hvv⟩))
/-! ### A beginning of what may be -/
theorem may_begin {j : Nat} (hm : mayW k w = true) : mayW k ⟨w.b.take j, []⟩ = true := by
  obtain ⟨h1, h2, h3, h4, h5, _, _⟩ := mayW_iff.1 hm
  refine mayW_iff.2 ⟨?_, h2, ?_, by simp, fun b hb => h5 b (List.mem_of_mem_take hb), by simp, by simp⟩
  · by_cases q : j ≤ w.b.length
    · exact mayB_take h1 j q
    · show mayB (w.b.take j) = true
      rw [List.take_of_length_le (by omega)]; exact h1
  · show (w.b.take j).length ≤ 60
    rw [List.length_take]; omega
theorem may_fewer {j : Nat} (hm : mayW k w = true) : mayW k ⟨w.b, w.v.take j⟩ = true := by
  obtain ⟨h1, h2, h3, h4, h5, h6, h7⟩ := mayW_iff.1 hm
  refine mayW_iff.2 ⟨h1, h2, h3, ?_, h5, h6.sublist (List.take_sublist _ _), fun v hv => h7 v (List.mem_of_mem_take hv)⟩
  show (w.v.take j).length ≤ 240
  rw [List.length_take]; omega
end

end Go.Proofs.Ytacdiicnfoejoaa
