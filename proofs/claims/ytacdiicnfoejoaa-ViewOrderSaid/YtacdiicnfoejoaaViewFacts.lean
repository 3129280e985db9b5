/-
  Plain mathematics of package view: what is so of all that is taken.
-/
import Derived.Test.YtacdiicnfoejoaaViewMath
namespace Go.Proofs.Ytacdiicnfoejoaa
set_option maxRecDepth 100000
set_option linter.unusedVariables false
set_option linter.unusedSimpArgs false
set_option linter.unusedSimpArgs false
set_option linter.unusedVariables false
set_option linter.unusedSectionVars false

/-! ### Slots of ids -/
theorem slotI_some {l : List Bk} {x : Id2} {i : Nat} (h : posB l x = some i) : slotI l x = (l[i]'(posB_lt h)).s := by
  unfold slotI slotB
  rw [h]
  simp [posB_lt h]
theorem slotI_zid {l : List Bk} (h : posB l zid = none) : slotI l zid = 0 := by unfold slotI slotB; rw [h]; simp
theorem slotI_none {l : List Bk} {x : Id2} (h : posB l x = none) (hx : x ≠ zid) : slotI l x = -1 := by unfold slotI slotB; rw [h]; simp [hx]
theorem may_slots {l : List Bk} (h : mayB l = true) : ∀ (n i : Nat) (hi : i < l.length), i ≤ n → 0 < l[i].s := by
  intro n
  induction n with
  | zero =>
    intro i hi hn
    rcases may_parent h hi with ⟨j, hj, _⟩ | ⟨_, e⟩
    · omega
    · exact e
  | succ n ih =>
    intro i hi hn
    rcases may_parent h hi with ⟨j, hj, _, e⟩ | ⟨_, e⟩
    · have := ih j (by omega) (by omega); omega
    · exact e
theorem may_slotV {l : List Bk} (h : mayB l = true) {b : Bk} (hb : b ∈ l) : 0 < b.s := by
  obtain ⟨i, hi, rfl⟩ := List.mem_iff_getElem.1 hb
  exact may_slots h _ i hi (Nat.le_refl _)
theorem slotI_stands {l : List Bk} (h : mayB l = true) (x : Id2) : 0 ≤ slotI l x ↔ standsB l x = true := by
  cases q : posB l x with
  | some i =>
    rw [slotI_some q, standsB_iff]
    have := may_slots h _ i (posB_lt q) (Nat.le_refl _)
    exact ⟨fun _ => Or.inl ⟨i, q⟩, fun _ => by omega⟩
  | none =>
    by_cases e : x = zid
    · subst e
      rw [slotI_zid q, standsB_iff]
      exact ⟨fun _ => Or.inr rfl, fun _ => by omega⟩
    · rw [slotI_none q e, standsB_iff]
      constructor
      · omega
      · rintro (⟨i, r⟩ | r)
        · rw [q] at r; cases r
        · exact absurd r e
theorem posB_ext {w : List Bk} {x : Id2} {i : Nat} (n : List Bk) (h : posB w x = some i) : posB (w ++ n) x = some i := by
  unfold posB namesB at *
  rw [List.map_append]
  exact posN_append_some h _
theorem slotI_ext {w n : List Bk} {x : Id2} (h : mayB (w ++ n) = true) (hs : standsB w x = true) : slotI (w ++ n) x = slotI w x := by
  rcases standsB_iff.1 hs with ⟨i, q⟩ | e
  · rw [slotI_some q, slotI_some (posB_ext n q), List.getElem_append_left (posB_lt q)]
  · subst e
    rw [slotI_zid (may_zero h)]
    cases q : posB w zid with
    | none => rw [slotI_zid q]
    | some i => have := may_zero h; rw [posB_ext n q] at this; cases this
theorem stands_ext {w : List Bk} {x : Id2} (n : List Bk) (hs : standsB w x = true) : standsB (w ++ n) x = true := by
  rcases standsB_iff.1 hs with ⟨i, q⟩ | e
  · exact standsB_iff.2 (Or.inl ⟨i, posB_ext n q⟩)
  · exact standsB_iff.2 (Or.inr e)
theorem may_pre {w n : List Bk} (h : mayB (w ++ n) = true) : mayB w = true := by
  have := mayB_take h w.length (by simp)
  simpa using this
theorem posB_mem {l : List Bk} {x : Id2} : (posB l x).isSome = true ↔ ∃ b ∈ l, nameB b = x := by
  rw [Option.isSome_iff_exists]
  constructor
  · rintro ⟨i, q⟩
    exact ⟨l[i]'(posB_lt q), List.getElem_mem _, posB_name q⟩
  · rintro ⟨b, hb, e⟩
    cases q : posB l x with
    | some i => exact ⟨i, rfl⟩
    | none =>
      unfold posB at q
      rw [posN_none] at q
      exact absurd (List.mem_map.2 ⟨b, hb, e⟩) q

/-! ### What may come -/
theorem blockC_yes {k : Cf} {b : Bk} (h : blockC k b = true) : dutyC k b.s = true ∧ 1 ≤ b.s ∧ b.s ≤ 1048576 ∧ propC k b.s = b.f ∧ nameB b ≠ zid := by
  unfold blockC at h
  simp only [Bool.and_eq_true, decide_eq_true_iff, Bool.not_eq_true', decide_eq_false_iff_not] at h
  have hd : dutyC k b.s = true := by
    cases q : dutyC k b.s with
    | true => rfl
    | false => have h1 := h.1; unfold propC at h1; rw [q] at h1; simp at h1
  exact ⟨hd, (dutyC_yes hd).2.1, (dutyC_yes hd).2.2, h.2.1, h.2.2⟩
theorem voteC_yes {k : Cf} {v : Vt} (h : voteC k v = true) : 1 ≤ v.s ∧ v.s ≤ 1048576 ∧ mayC k = true := by
  unfold voteC inC at h
  rw [Bool.and_eq_true] at h
  exact ⟨(dutyC_yes h.1).2.1, (dutyC_yes h.1).2.2, (dutyC_yes h.1).1⟩
theorem only_b {k : Cf} {i : Vw} {b : Bk} : b ∈ (onlyW k i).b ↔ b ∈ i.b ∧ blockC k b = true := List.mem_filter
theorem only_v {k : Cf} {i : Vw} {v : Vt} : v ∈ (onlyW k i).v ↔ v ∈ i.v ∧ voteC k v = true := List.mem_filter
theorem only_only (k : Cf) (i : Vw) : onlyW k (onlyW k i) = onlyW k i := by unfold onlyW; simp [List.filter_filter]

/-- What may be, told of all votes. -/
def VoteOk (k : Cf) (B : List Bk) (v : Vt) : Prop := voteC k v = true ∧ 0 ≤ slotI B v.p ∧ slotI B v.p ≤ v.s
theorem votesTo_iff {k : Cf} {B : List Bk} {l : List Vt} : ∀ {j : Nat}, j ≤ l.length → (votesTo k B l j = true ↔ (l.take j).Nodup ∧ ∀ v ∈ l.take j, VoteOk k B v)
  | 0, _ => by simp [votesTo]
  | j + 1, hj => by
    have hlt : j < l.length := by omega
    rw [votesTo, Bool.and_eq_true, votesTo_iff (by omega), voteOk, List.getElem?_eq_getElem hlt, List.take_succ_eq_append_getElem hlt, List.nodup_append]
    simp only [Bool.and_eq_true, decide_eq_true_iff, Bool.not_eq_true', decide_eq_false_iff_not]
    constructor
    · rintro ⟨⟨h1, h2⟩, h3, h4, h5, h6⟩
      refine ⟨⟨h1, by simp, fun a ha b hb => ?_⟩, fun v hv => ?_⟩
      · rw [List.mem_singleton] at hb; subst hb; exact fun e => h6 (by rw [← e]; exact ha)
      · rcases List.mem_append.1 hv with q | q
        · exact h2 v q
        · rw [List.mem_singleton] at q; subst q; exact ⟨h3, h4, h5⟩
    · rintro ⟨⟨h1, _, h3⟩, h4⟩
      have := h4 l[j] (List.mem_append_right _ (List.mem_singleton.2 rfl))
      exact ⟨⟨h1, fun v hv => h4 v (List.mem_append_left _ hv)⟩, this.1, this.2.1, this.2.2, fun q => h3 _ q _ (List.mem_singleton.2 rfl) rfl⟩
theorem mayW_iff {k : Cf} {w : Vw} : mayW k w = true ↔ mayB w.b = true ∧ True ∧ w.b.length ≤ 60 ∧ w.v.length ≤ 240 ∧ (∀ b ∈ w.b, blockC k b = true) ∧ w.v.Nodup ∧ ∀ v ∈ w.v, VoteOk k w.b v := by
  unfold mayW
  simp only [Bool.and_eq_true, decide_eq_true_iff, List.all_eq_true, true_and]
  rw [votesTo_iff (Nat.le_refl _), List.take_length]
theorem mayB_nodupL {l : List Bk} (h : mayB l = true) : l.Nodup := by
  rw [List.nodup_iff_pairwise_ne, List.pairwise_iff_getElem]
  intro i j hi hj hij e
  have h1 := may_pos h hi
  have h2 := may_pos h hj
  rw [e] at h1
  rw [h1] at h2
  injection h2 with h2
  omega

/-! ### What is so of each round -/
structure TInv (k : Cf) (w0 I : Vw) (upto : Int) (st : TSt) : Prop where
  mayb : mayB st.w.b = true
  blocks : ∃ n, st.w.b = w0.b ++ n ∧ ∀ b ∈ n, b ∈ I.b ∧ b.s ≤ upto
  votes : ∃ m, st.w.v = w0.v ++ m ∧ ∀ v ∈ m, v ∈ I.v ∧ v.s ≤ upto
  leftb : ∀ b ∈ st.i.b, b ∈ I.b
  leftv : ∀ v ∈ st.i.v, v ∈ I.v
  nodup : st.w.v.Nodup
  oks : ∀ v ∈ st.w.v, 0 ≤ slotI st.w.b v.p ∧ slotI st.w.b v.p ≤ v.s
  eachb : ∀ b ∈ I.b, b ∈ st.w.b ∨ lostB st.w.b b = true ∨ b ∈ st.i.b
  eachv : ∀ v ∈ I.v, v ∈ st.w.v ∨ lostV st.w.b st.w.v v = true ∨ v ∈ st.i.v
  lenb : st.w.b.length ≤ 60
  lenv : st.w.v.length ≤ 240
theorem lostB_ext {w n : List Bk} {b : Bk} (hm : mayB (w ++ n) = true) (h1 : 1 ≤ b.s) (h : lostB w b = true) : lostB (w ++ n) b = true := by
  unfold lostB at *
  rw [Bool.or_eq_true, decide_eq_true_iff] at *
  rcases h with h | h
  · left
    rw [Option.isSome_iff_exists] at *
    obtain ⟨i, q⟩ := h
    exact ⟨i, posB_ext n q⟩
  · right
    have hs : standsB w b.p = true := (slotI_stands (may_pre hm) b.p).1 (by omega)
    rw [slotI_ext hm hs]; exact h
theorem lostV_ext {w n : List Bk} {q m : List Vt} {v : Vt} (hm : mayB (w ++ n) = true) (h1 : 1 ≤ v.s) (h : lostV w q v = true) : lostV (w ++ n) (q ++ m) v = true := by
  unfold lostV at *
  rw [Bool.or_eq_true, decide_eq_true_iff, decide_eq_true_iff] at *
  rcases h with h | h
  · exact Or.inl (List.mem_append_left _ h)
  · right
    have hs : standsB w v.p = true := (slotI_stands (may_pre hm) v.p).1 (by omega)
    rw [slotI_ext hm hs]; exact h
section
variable {k : Cf} {w0 : Vw} {i : Vw} {upto : Int}
theorem passB_may {st : TSt} (h : TInv k w0 (onlyW k i) upto st) : mayB (passB upto st).w = true := by
  refine pass_inv (P := fun s => mayB s.w = true) (fun s x hx hs => ?_) st.w.b st.full h.mayb
  rcases step_cases (lost := lostB) (pend := pendB upto) (cap := 60) s x with ⟨_, q⟩ | ⟨_, _, q⟩ | ⟨_, _, _, q⟩ | ⟨h1, h2, _, q⟩ <;> rw [q]
  · exact hs
  · exact hs
  · exact hs
  · show mayB (s.w ++ [x]) = true
    have hv := blockC_yes (only_b.1 (h.leftb x hx)).2
    unfold lostB at h1
    unfold pendB at h2
    rw [Bool.or_eq_false_iff, decide_eq_false_iff_not] at h1 h2
    rw [mayB_snoc, hs, Bool.true_and]
    unfold okB
    rw [Bool.and_eq_true]
    constructor
    · unfold standsB
      rw [h1.1]
      simp [hv.2.2.2.2]
    · unfold rightB
      have h0 : 0 ≤ slotI s.w x.p := by
        have := h2.1
        omega
      have h3 := h1.2
      unfold slotI at h0 h3
      cases e : slotB s.w x.p with
      | none => rw [e] at h0; simp at h0
      | some t => rw [e] at h3; simp only [Option.getD_some] at h3; simpa using h3
theorem passB_blocks {st : TSt} (h : TInv k w0 (onlyW k i) upto st) : ∃ n, (passB upto st).w = st.w.b ++ n ∧ ∀ b ∈ n, b ∈ (onlyW k i).b ∧ b.s ≤ upto := by
  refine pass_inv (P := fun s => ∃ n, s.w = st.w.b ++ n ∧ ∀ b ∈ n, b ∈ (onlyW k i).b ∧ b.s ≤ upto) (fun s x hx ⟨n, e, hn⟩ => ?_) st.w.b st.full ⟨[], by simp, by simp⟩
  rcases step_cases (lost := lostB) (pend := pendB upto) (cap := 60) s x with ⟨_, q⟩ | ⟨_, _, q⟩ | ⟨_, _, _, q⟩ | ⟨_, h2, _, q⟩ <;> rw [q]
  · exact ⟨n, e, hn⟩
  · exact ⟨n, e, hn⟩
  · exact ⟨n, e, hn⟩
  · refine ⟨n ++ [x], by show s.w ++ [x] = _; rw [e, List.append_assoc], fun b hb => ?_⟩
    rcases List.mem_append.1 hb with r | r
    · exact hn b r
    · rw [List.mem_singleton] at r
      subst r
      unfold pendB at h2
      rw [Bool.or_eq_false_iff, decide_eq_false_iff_not, decide_eq_false_iff_not] at h2
      exact ⟨h.leftb b hx, by omega⟩
theorem passV_facts {st : TSt} (h : TInv k w0 (onlyW k i) upto st) : ∃ m, (passV upto st).w = st.w.v ++ m ∧ (∀ v ∈ m, v ∈ (onlyW k i).v ∧ v.s ≤ upto ∧ 0 ≤ slotI (passB upto st).w v.p ∧ slotI (passB upto st).w v.p ≤ v.s) ∧ (passV upto st).w.Nodup := by
  refine pass_inv (P := fun s => ∃ m, s.w = st.w.v ++ m ∧ (∀ v ∈ m, v ∈ (onlyW k i).v ∧ v.s ≤ upto ∧ 0 ≤ slotI (passB upto st).w v.p ∧ slotI (passB upto st).w v.p ≤ v.s) ∧ s.w.Nodup) (fun s x hx ⟨m, e, hn, hd⟩ => ?_) st.w.v (passB upto st).full ⟨[], by simp, by simp, h.nodup⟩
  rcases step_cases (lost := lostV (passB upto st).w) (pend := pendV (passB upto st).w upto) (cap := 240) s x with ⟨_, q⟩ | ⟨_, _, q⟩ | ⟨_, _, _, q⟩ | ⟨h1, h2, _, q⟩ <;> rw [q]
  · exact ⟨m, e, hn, hd⟩
  · exact ⟨m, e, hn, hd⟩
  · exact ⟨m, e, hn, hd⟩
  · unfold pendV at h2
    unfold lostV at h1
    rw [Bool.or_eq_false_iff, decide_eq_false_iff_not, decide_eq_false_iff_not] at h1 h2
    refine ⟨m ++ [x], by show s.w ++ [x] = _; rw [e, List.append_assoc], fun v hv => ?_, ?_⟩
    · rcases List.mem_append.1 hv with r | r
      · exact hn v r
      · rw [List.mem_singleton] at r
        subst r
        exact ⟨h.leftv v hx, by omega, by omega, by omega⟩
    · show (s.w ++ [x]).Nodup
      rw [List.nodup_append]
      refine ⟨hd, by simp, fun a ha b hb => ?_⟩
      rw [List.mem_singleton] at hb
      subst hb
      exact fun r => h1.1 (by rw [← r]; exact ha)
theorem TInv.round {st : TSt} (h : TInv k w0 (onlyW k i) upto st) : TInv k w0 (onlyW k i) upto (roundT upto st) := by
  have hm := passB_may h
  obtain ⟨n, e1, hn⟩ := passB_blocks h
  obtain ⟨m, e2, hm2, hd⟩ := passV_facts h
  obtain ⟨n0, e0, hn0⟩ := h.blocks
  obtain ⟨m0, f0, hm0⟩ := h.votes
  have hmn : mayB (st.w.b ++ n) = true := by rw [← e1]; exact hm
  have hl : ∀ (x : Bk), x ∈ (onlyW k i).b → 1 ≤ x.s := fun x hx => (blockC_yes (only_b.1 hx).2).2.1
  have hlv : ∀ (x : Vt), x ∈ (onlyW k i).v → 1 ≤ x.s := fun x hx => (voteC_yes (only_v.1 hx).2).1
  refine ⟨hm, ⟨n0 ++ n, ?_, fun b hb => ?_⟩, ⟨m0 ++ m, ?_, fun v hv => ?_⟩, fun b hb => h.leftb b (pass_left _ _ _ b hb), fun v hv => h.leftv v (pass_left _ _ _ v hv), hd, fun v hv => ?_, fun b hb => ?_, fun v hv => ?_, pass_cap _ _ h.lenb, pass_cap _ _ h.lenv⟩
  · show (passB upto st).w = _
    rw [e1, e0, List.append_assoc]
  · rcases List.mem_append.1 hb with r | r
    · exact hn0 b r
    · exact hn b r
  · show (passV upto st).w = _
    rw [e2, f0, List.append_assoc]
  · rcases List.mem_append.1 hv with r | r
    · exact hm0 v r
    · exact ⟨(hm2 v r).1, (hm2 v r).2.1⟩
  · show 0 ≤ slotI (passB upto st).w v.p ∧ slotI (passB upto st).w v.p ≤ v.s
    have hv' : v ∈ (passV upto st).w := hv
    rw [e2] at hv'
    rcases List.mem_append.1 hv' with r | r
    · have o := h.oks v r
      have hs := (slotI_stands h.mayb v.p).1 o.1
      rw [e1, slotI_ext hmn hs]; exact o
    · exact (hm2 v r).2.2
  · show b ∈ (passB upto st).w ∨ lostB (passB upto st).w b = true ∨ b ∈ (passB upto st).left
    rcases h.eachb b hb with r | r | r
    · rw [e1]; exact Or.inl (List.mem_append_left _ r)
    · rw [e1]; exact Or.inr (Or.inl (lostB_ext hmn (hl b hb) r))
    · rcases pass_each (lost := lostB) (pend := pendB upto) (cap := 60) st.w.b st.full st.i.b b r with q | q | ⟨v, t, q, hlo⟩
      · exact Or.inl q
      · exact Or.inr (Or.inr q)
      · have q' : (passB upto st).w = v ++ t := q
        rw [q'] at hm ⊢
        exact Or.inr (Or.inl (lostB_ext hm (hl b hb) hlo))
  · show v ∈ (passV upto st).w ∨ lostV (passB upto st).w (passV upto st).w v = true ∨ v ∈ (passV upto st).left
    rcases h.eachv v hv with r | r | r
    · rw [e2]; exact Or.inl (List.mem_append_left _ r)
    · rw [e1, e2]; exact Or.inr (Or.inl (lostV_ext hmn (hlv v hv) r))
    · rcases pass_each (lost := lostV (passB upto st).w) (pend := pendV (passB upto st).w upto) (cap := 240) st.w.v (passB upto st).full st.i.v v r with q | q | ⟨a, t, q, hlo⟩
      · exact Or.inl q
      · exact Or.inr (Or.inr q)
      · have q' : (passV upto st).w = a ++ t := q
        rw [q']
        refine Or.inr (Or.inl ?_)
        unfold lostV at hlo ⊢
        rw [Bool.or_eq_true, decide_eq_true_iff] at hlo ⊢
        exact hlo.imp (List.mem_append_left _) id
theorem TInv.start (hm : mayW k w0 = true) : TInv k w0 (onlyW k i) upto ⟨w0, onlyW k i, false⟩ := by
  obtain ⟨h1, _, h3, h4, _, h6, h7⟩ := mayW_iff.1 hm
  exact ⟨h1, ⟨[], by simp, by simp⟩, ⟨[], by simp, by simp⟩, fun _ h => h, fun _ h => h, h6, fun v hv => (h7 v hv).2, fun b hb => Or.inr (Or.inr hb), fun v hv => Or.inr (Or.inr hv), h3, h4⟩
/-- What is taken, at last. -/
theorem take_inv (hm : mayW k w0 = true) : TInv k w0 (onlyW k i) upto (takeC k w0 i upto) := by
  unfold takeC
  rw [if_pos hm]
  exact takeN_inv (fun _ h => h.round) _ _ (TInv.start hm)
/-- What is left can't be counted: a further round counts nothing, and leaves all that there is. -/
theorem take_still (hm : mayW k w0 = true) (hf : (takeC k w0 i upto).full = false) :
    (∀ b ∈ (takeC k w0 i upto).i.b, lostB (takeC k w0 i upto).w.b b = false ∧ pendB upto (takeC k w0 i upto).w.b b = true) ∧ (∀ v ∈ (takeC k w0 i upto).i.v, lostV (takeC k w0 i upto).w.b (takeC k w0 i upto).w.v v = false ∧ pendV (takeC k w0 i upto).w.b upto (takeC k w0 i upto).w.v v = true) := by
  unfold takeC at hf ⊢
  rw [if_pos hm] at hf ⊢
  obtain ⟨s, hs, e, ha⟩ := takeN_end (upto := upto) (P := TInv k w0 (onlyW k i) upto) (fun _ h => h.round) _ _ (TInv.start hm) (only_le k i)
  rw [e] at hf ⊢
  unfold anyT at ha
  rw [Bool.or_eq_false_iff] at ha
  have cb := (pass_count (lost := lostB) (pend := pendB upto) (cap := 60) s.w.b s.full s.i.b).2.1 ha.1
  have cv := (pass_count (lost := lostV (passB upto s).w) (pend := pendV (passB upto s).w upto) (cap := 240) s.w.v (passB upto s).full s.i.v).2.1 ha.2
  have eb : (passB upto s).w = s.w.b := cb
  have ev : (passV upto s).w = s.w.v := cv
  have hfb : (passB upto s).full = false := by
    cases q : (passB upto s).full with
    | false => rfl
    | true =>
      have hf' : (passV upto s).full = false := hf
      unfold passV at hf'
      rw [q, pass_full] at hf'
      cases hf'
  have sb := pass_still (lost := lostB) (pend := pendB upto) (cap := 60) ha.1
  have sv := pass_still (lost := lostV (passB upto s).w) (pend := pendV (passB upto s).w upto) (cap := 240) ha.2
  refine ⟨fun b hb => ?_, fun v hv => ?_⟩
  · have hb' : b ∈ (passB upto s).left := hb
    unfold passB at hb'
    rw [sb.1, List.mem_filter] at hb'
    have hl : lostB s.w.b b = false := by simpa using hb'.2
    show lostB (passB upto s).w b = false ∧ pendB upto (passB upto s).w b = true
    rw [eb]
    exact ⟨hl, sb.2 hfb b hb'.1 hl⟩
  · have hv' : v ∈ (passV upto s).left := hv
    unfold passV at hv'
    rw [sv.1, List.mem_filter] at hv'
    have hl : lostV (passB upto s).w s.w.v v = false := by simpa using hv'.2
    show lostV (passB upto s).w (passV upto s).w v = false ∧ pendV (passB upto s).w upto (passV upto s).w v = true
    rw [ev]
    exact ⟨hl, sv.2 hf v hv'.1 hl⟩
/-- A view that may be stays so. -/
theorem take_may (hm : mayW k w0 = true) : mayW k (takeC k w0 i upto).w = true := by
  have h := take_inv (i := i) (upto := upto) hm
  obtain ⟨_, g2, _, _, g5, _, g7⟩ := mayW_iff.1 hm
  obtain ⟨n, e, hn⟩ := h.blocks
  obtain ⟨m, f, hmm⟩ := h.votes
  refine mayW_iff.2 ⟨h.mayb, g2, h.lenb, h.lenv, fun b hb => ?_, h.nodup, fun v hv => ⟨?_, h.oks v hv⟩⟩
  · rw [e] at hb
    rcases List.mem_append.1 hb with r | r
    · exact g5 b r
    · exact (only_b.1 (hn b r).1).2
  · rw [f] at hv
    rcases List.mem_append.1 hv with r | r
    · exact (g7 v r).1
    · exact (only_v.1 (hmm v r).1).2
end

end Go.Proofs.Ytacdiicnfoejoaa
