/-
  Plain mathematics of package view as the program has it: the slots by name, what a tally that begins with nothing has counted of a view, and that it is all of it just if the view may be.
-/
import Derived.Test.YtacdiicnfoejoaaViewFacts
namespace Go.Proofs.Ytacdiicnfoejoaa
set_option maxRecDepth 100000
set_option linter.unusedVariables false
set_option linter.unusedSimpArgs false
set_option linter.unusedSimpArgs false
set_option linter.unusedVariables false
set_option linter.unusedSectionVars false

/-- What the map of slots holds at an id: 0 where there is none. -/
def slotsF (w : List Bk) (x : Id2) : Int := (slotB w x).getD 0
theorem slotsF_nil : slotsF [] = fun _ => 0 := by
  funext x
  unfold slotsF slotB
  simp only [posB, namesB, List.map_nil, posN]
  split <;> rfl
theorem standsB_nil (x : Id2) : standsB [] x = decide (x = zid) := by
  unfold standsB
  simp [posB, namesB, posN]
theorem posB_snoc (w : List Bk) (b : Bk) (x : Id2) : posB (w ++ [b]) x = match posB w x with
    | some i => some i
    | none => if nameB b = x then some w.length else none := by
  unfold posB
  rw [show namesB (w ++ [b]) = namesB w ++ [nameB b] by simp [namesB], posN_snoc, namesB_length]
  cases posN (namesB w) x <;> rfl
theorem standsB_snoc (w : List Bk) (b : Bk) (x : Id2) : standsB (w ++ [b]) x = if x = nameB b then true else standsB w x := by
  unfold standsB
  rw [posB_snoc]
  cases q : posB w x with
  | some i => simp
  | none =>
    by_cases e : x = nameB b
    · rw [if_pos e, if_pos e.symm]; rfl
    · rw [if_neg e, if_neg fun h => e h.symm]
theorem slotB_snoc {w : List Bk} {b : Bk} (h : posB w (nameB b) = none) (x : Id2) : slotB (w ++ [b]) x = if x = nameB b then some b.s else slotB w x := by
  unfold slotB
  rw [posB_snoc]
  by_cases e : x = nameB b
  · subst e
    rw [h, if_pos rfl, if_pos rfl]
    simp
  · rw [if_neg e, if_neg fun h => e h.symm]
    cases q : posB w x with
    | some i => simp [List.getElem?_append_left (posB_lt q)]
    | none => rfl
theorem slotsF_snoc {w : List Bk} {b : Bk} (h : posB w (nameB b) = none) (x : Id2) : slotsF (w ++ [b]) x = if x = nameB b then b.s else slotsF w x := by
  unfold slotsF
  rw [slotB_snoc h]
  split <;> rfl
theorem slotI_is (w : List Bk) (x : Id2) : slotI w x = if standsB w x then slotsF w x else -1 := by
  unfold slotI slotsF
  rw [← slotB_isSome]
  cases slotB w x <;> simp
theorem slotsF_pos {w : List Bk} (h : ∀ b ∈ w, 1 ≤ b.s) (x : Id2) : 0 ≤ slotsF w x := by
  unfold slotsF slotB
  cases q : posB w x with
  | some i =>
    have := h _ (List.getElem_mem (posB_lt q))
    simp [posB_lt q]; omega
  | none => simp only; split <;> simp
/-- The program's questions are the document's. -/
theorem lostB_is {w : List Bk} {b : Bk} (h1 : 1 ≤ b.s) (hz : nameB b ≠ zid) : lostB w b = (standsB w (nameB b) || (standsB w b.p && decide (b.s ≤ slotsF w b.p))) := by
  unfold lostB
  rw [slotI_is]
  have e : standsB w (nameB b) = (posB w (nameB b)).isSome := by unfold standsB; simp [hz]
  rw [e]
  cases standsB w b.p with
  | true => simp
  | false =>
    have : ¬ b.s ≤ -1 := by omega
    simp [this]
theorem pendB_is {w : List Bk} {b : Bk} (h : ∀ x ∈ w, 1 ≤ x.s) (upto : Int) : pendB upto w b = (!standsB w b.p || decide (upto < b.s)) := by
  unfold pendB
  rw [slotI_is]
  have := slotsF_pos h b.p
  cases standsB w b.p with
  | true =>
    have : ¬ slotsF w b.p < 0 := by omega
    simp [this]
  | false => simp
theorem lostV_is {B : List Bk} {w : List Vt} {v : Vt} (h1 : 1 ≤ v.s) : lostV B w v = (decide (v ∈ w) || (standsB B v.p && decide (v.s < slotsF B v.p))) := by
  unfold lostV
  rw [slotI_is]
  cases standsB B v.p with
  | true => simp
  | false =>
    have : ¬ v.s < -1 := by omega
    simp [this]
theorem pendV_is {B : List Bk} {w : List Vt} {v : Vt} (h : ∀ x ∈ B, 1 ≤ x.s) (upto : Int) : pendV B upto w v = (!standsB B v.p || decide (upto < v.s)) := by
  unfold pendV
  rw [slotI_is]
  have := slotsF_pos h v.p
  cases standsB B v.p with
  | true =>
    have : ¬ slotsF B v.p < 0 := by omega
    simp [this]
  | false => simp

/-! ### All of it -/
section
variable {α : Type} {lost pend : List α → α → Bool} {cap : Nat}
/-- All is counted just if each can be where it stands. -/
theorem pass_all (l : List α) : (passG lost pend cap [] false l).w.length ≤ l.length ∧
    ((passG lost pend cap [] false l).w.length = l.length → (passG lost pend cap [] false l).w = l ∧ (passG lost pend cap [] false l).full = false ∧ ∀ j (h : j < l.length), lost (l.take j) l[j] = false ∧ pend (l.take j) l[j] = false ∧ j < cap) ∧
    ((∀ j (h : j < l.length), lost (l.take j) l[j] = false ∧ pend (l.take j) l[j] = false ∧ j < cap) → (passG lost pend cap [] false l).w.length = l.length) := by
  suffices H : ∀ n, ∀ l : List α, l.length = n → (passG lost pend cap [] false l).w.length ≤ l.length ∧
    ((passG lost pend cap [] false l).w.length = l.length → (passG lost pend cap [] false l).w = l ∧ (passG lost pend cap [] false l).full = false ∧ ∀ j (h : j < l.length), lost (l.take j) l[j] = false ∧ pend (l.take j) l[j] = false ∧ j < cap) ∧
    ((∀ j (h : j < l.length), lost (l.take j) l[j] = false ∧ pend (l.take j) l[j] = false ∧ j < cap) → (passG lost pend cap [] false l).w.length = l.length ∧ (passG lost pend cap [] false l).w = l) from
    ⟨(H _ l rfl).1, (H _ l rfl).2.1, fun h => ((H _ l rfl).2.2 h).1⟩
  intro n
  induction n with
  | zero =>
    intro l hl
    rw [List.eq_nil_of_length_eq_zero hl]
    exact ⟨Nat.le_refl _, fun _ => ⟨rfl, rfl, fun j h => absurd h (Nat.not_lt_zero _)⟩, fun _ => ⟨rfl, rfl⟩⟩
  | succ n ih =>
    intro l hl
    have hne : l ≠ [] := by intro e; rw [e] at hl; cases hl
    obtain ⟨m, x, rfl⟩ : ∃ m x, l = m ++ [x] := ⟨_, _, (List.dropLast_concat_getLast hne).symm⟩
    have hm : m.length = n := by rw [List.length_append, List.length_singleton] at hl; omega
    obtain ⟨h1, h2, h3⟩ := ih m hm
    have es : passG lost pend cap [] false (m ++ [x]) = stepG lost pend cap (passG lost pend cap [] false m) x := by unfold passG; rw [runG_snoc]
    have hlx : (m ++ [x]).length = m.length + 1 := by simp
    have at1 : ∀ j (h : j < m.length), (m ++ [x]).take j = m.take j ∧ (m ++ [x])[j]'(by omega) = m[j] := fun j h => ⟨by rw [List.take_append_of_le_length (by omega)], by rw [List.getElem_append_left h]⟩
    have at2 : (m ++ [x]).take m.length = m ∧ (m ++ [x])[m.length]'(by omega) = x := ⟨by simp, by simp⟩
    rw [es]
    refine ⟨?_, fun h => ?_, fun h => ?_⟩
    · rcases step_cases (lost := lost) (pend := pend) (cap := cap) (passG lost pend cap [] false m) x with ⟨_, q⟩ | ⟨_, _, q⟩ | ⟨_, _, _, q⟩ | ⟨_, _, _, q⟩ <;> rw [q]
      · omega
      · show (passG lost pend cap [] false m).w.length ≤ _; omega
      · show (passG lost pend cap [] false m).w.length ≤ _; omega
      · show ((passG lost pend cap [] false m).w ++ [x]).length ≤ _
        rw [List.length_append, List.length_append]; simp; omega
    · rcases step_cases (lost := lost) (pend := pend) (cap := cap) (passG lost pend cap [] false m) x with ⟨_, q⟩ | ⟨_, _, q⟩ | ⟨_, _, _, q⟩ | ⟨g1, g2, g3, q⟩ <;> rw [q] at h ⊢
      · omega
      · have h' : (passG lost pend cap [] false m).w.length = (m ++ [x]).length := h; omega
      · have h' : (passG lost pend cap [] false m).w.length = (m ++ [x]).length := h; omega
      · have h' : ((passG lost pend cap [] false m).w ++ [x]).length = (m ++ [x]).length := h
        rw [List.length_append, List.length_append] at h'
        obtain ⟨e1, e2, e3⟩ := h2 (by simpa using h')
        refine ⟨by show (passG lost pend cap [] false m).w ++ [x] = _; rw [e1], e2, fun j hj => ?_⟩
        rcases Nat.lt_or_ge j m.length with hjm | hjm
        · rw [(at1 j hjm).1, (at1 j hjm).2]; exact e3 j hjm
        · obtain rfl : j = m.length := by omega
          rw [at2.1, at2.2, ← e1]
          exact ⟨g1, g2, by omega⟩
    · have e : (passG lost pend cap [] false m).w = m := (h3 fun j hj => by
        have := h j (by omega)
        rwa [(at1 j hj).1, (at1 j hj).2] at this).2
      have g := h m.length (by omega)
      rw [at2.1, at2.2] at g
      unfold stepG
      rw [e, if_neg (by rw [g.1]; simp), if_neg (by rw [g.2.1]; simp), if_neg (by omega)]
      exact ⟨rfl, rfl⟩
end
/-- What a tally that begins with nothing counts of a view. -/
def loadT (k : Cf) (w : Vw) : TSt := roundT 1048576 ⟨⟨[], []⟩, onlyW k w, false⟩
theorem filter_len {α : Type} {p : α → Bool} {l : List α} (h : (l.filter p).length = l.length) : l.filter p = l := List.filter_eq_self.2 fun a ha => by
  cases q : p a with
  | true => rfl
  | false =>
    have h1 : (l.filter p).length < l.length := List.length_filter_lt_length_iff_exists.2 ⟨a, ha, by rw [q]; simp⟩
    omega
theorem load_len (k : Cf) (w : Vw) : (loadT k w).w.b.length ≤ w.b.length ∧ (loadT k w).w.v.length ≤ w.v.length := by
  have h1 := (pass_all (lost := lostB) (pend := pendB 1048576) (cap := 60) (w.b.filter (blockC k))).1
  have h2 := (pass_all (lost := lostV (loadT k w).w.b) (pend := pendV (loadT k w).w.b 1048576) (cap := 240) (w.v.filter (voteC k))).1
  have full0 : ∀ (f : Bool) (l : List Vt) (lost pend : List Vt → Vt → Bool), (passG lost pend 240 [] f l).w = (passG lost pend 240 [] false l).w := fun f l lost pend => by
    suffices H : ∀ (m : List Vt) (s t : PSt Vt), s.w = t.w → (runG lost pend 240 s m).w = (runG lost pend 240 t m).w from H l _ _ rfl
    intro m
    induction m with
    | nil => exact fun s t h => h
    | cons x m ih =>
      intro s t h
      rw [runG_cons, runG_cons]
      refine ih _ _ ?_
      unfold stepG
      rw [h]
      split
      · exact h
      · split
        · rfl
        · split
          · rfl
          · rfl
  have g1 := List.length_filter_le (blockC k) w.b
  have g2 := List.length_filter_le (voteC k) w.v
  constructor
  · show (passG lostB (pendB 1048576) 60 [] false (w.b.filter (blockC k))).w.length ≤ _
    omega
  · show (passG (lostV (loadT k w).w.b) (pendV (loadT k w).w.b 1048576) 240 [] _ (w.v.filter (voteC k))).w.length ≤ _
    rw [full0]; omega
theorem may_counts {l : List Bk} {k : Cf} (hb : ∀ b ∈ l, blockC k b = true) : (mayB l = true ∧ l.length ≤ 60) ↔ ∀ j (h : j < l.length), lostB (l.take j) l[j] = false ∧ pendB 1048576 (l.take j) l[j] = false ∧ j < 60 := by
  have key : ∀ (w : List Bk) (b : Bk), blockC k b = true → (∀ x ∈ w, blockC k x = true) → (okB w b = true ↔ lostB w b = false ∧ pendB 1048576 w b = false) := fun w b h hw => by
    obtain ⟨_, h1, h2, _, h4⟩ := blockC_yes h
    rw [lostB_is h1 h4, pendB_is (fun x hx => (blockC_yes (hw x hx)).2.1)]
    unfold okB rightB
    rw [Bool.and_eq_true, Bool.or_eq_false_iff, Bool.or_eq_false_iff, ← slotB_isSome w b.p, decide_eq_false (by omega : ¬ 1048576 < b.s)]
    unfold slotsF
    cases q : slotB w b.p with
    | none => simp
    | some s => simp
  constructor
  · rintro ⟨h1, h2⟩ j hj
    have := mayB_ok h1 hj
    have g := (key _ _ (hb _ (List.getElem_mem hj)) fun x hx => hb x (List.mem_of_mem_take hx)).1 this
    exact ⟨g.1, g.2, by omega⟩
  · intro h
    refine ⟨?_, ?_⟩
    · unfold mayB
      suffices H : ∀ j, j ≤ l.length → mayTo l j = true from H _ (Nat.le_refl _)
      intro j
      induction j with
      | zero => exact fun _ => rfl
      | succ j ih =>
        intro hj
        rw [mayTo_succ (by omega), ih (by omega), Bool.true_and]
        have g := h j (by omega)
        exact (key _ _ (hb _ (List.getElem_mem _)) fun x hx => hb x (List.mem_of_mem_take hx)).2 ⟨g.1, g.2.1⟩
    · rcases Nat.eq_zero_or_pos l.length with e | e
      · omega
      · have := (h (l.length - 1) (by omega)).2.2; omega
theorem votes_counts {B : List Bk} {l : List Vt} {k : Cf} (hB : ∀ b ∈ B, 1 ≤ b.s) (hv : ∀ v ∈ l, voteC k v = true) : (l.length ≤ 240 ∧ l.Nodup ∧ ∀ v ∈ l, VoteOk k B v) ↔ ∀ j (h : j < l.length), lostV B (l.take j) l[j] = false ∧ pendV B 1048576 (l.take j) l[j] = false ∧ j < 240 := by
  have key : ∀ (w : List Vt) (v : Vt), voteC k v = true → ((v ∉ w ∧ VoteOk k B v) ↔ lostV B w v = false ∧ pendV B 1048576 w v = false) := fun w v h => by
    obtain ⟨h1, h2, _⟩ := voteC_yes h
    unfold VoteOk lostV pendV
    rw [Bool.or_eq_false_iff, Bool.or_eq_false_iff, decide_eq_false_iff_not, decide_eq_false_iff_not, decide_eq_false_iff_not, decide_eq_false_iff_not]
    constructor
    · rintro ⟨a, _, b, c⟩; exact ⟨⟨a, by omega⟩, by omega, by omega⟩
    · rintro ⟨⟨a, b⟩, c, d⟩; exact ⟨a, h, by omega, by omega⟩
  constructor
  · rintro ⟨h1, h2, h3⟩ j hj
    have hn : l[j] ∉ l.take j := by
      intro hm
      obtain ⟨i, hi, e⟩ := List.mem_iff_getElem.1 hm
      rw [List.length_take] at hi
      rw [List.getElem_take] at e
      have := (List.getElem_inj h2).1 e
      omega
    have g := (key (l.take j) _ (hv _ (List.getElem_mem hj))).1 ⟨hn, h3 _ (List.getElem_mem hj)⟩
    exact ⟨g.1, g.2, by omega⟩
  · intro h
    refine ⟨?_, ?_, fun v hv' => ?_⟩
    · rcases Nat.eq_zero_or_pos l.length with e | e
      · omega
      · have := (h (l.length - 1) (by omega)).2.2; omega
    · rw [List.nodup_iff_pairwise_ne, List.pairwise_iff_getElem]
      intro i j hi hj hij e
      have g := h j hj
      have := ((key (l.take j) _ (hv _ (List.getElem_mem hj))).2 ⟨g.1, g.2.1⟩).1
      exact this (List.mem_iff_getElem.2 ⟨i, by rw [List.length_take]; omega, by rw [List.getElem_take]; exact e⟩)
    · obtain ⟨j, hj, rfl⟩ := List.mem_iff_getElem.1 hv'
      have g := h j hj
      exact ((key (l.take j) _ (hv _ (List.getElem_mem hj))).2 ⟨g.1, g.2.1⟩).2
/-- A view may be, if all of it is counted; then it is what was counted, and there was room. -/
theorem load_all {k : Cf} {w : Vw} (h : (loadT k w).w.b.length + (loadT k w).w.v.length = w.b.length + w.v.length) : mayW k w = true ∧ (loadT k w).w = w ∧ (loadT k w).full = false := by
  have hl := load_len k w
  have g1 := List.length_filter_le (blockC k) w.b
  have g2 := List.length_filter_le (voteC k) w.v
  have p1 := pass_all (lost := lostB) (pend := pendB 1048576) (cap := 60) (w.b.filter (blockC k))
  have eb : (passG lostB (pendB 1048576) 60 [] false (w.b.filter (blockC k))).w.length = w.b.length := by
    have : (loadT k w).w.b.length = w.b.length := by omega
    exact this
  have fb : w.b.filter (blockC k) = w.b := filter_len (by omega)
  rw [fb] at p1 eb
  obtain ⟨b1, b2, b3⟩ := p1.2.1 eb
  have hb : ∀ b ∈ w.b, blockC k b = true := List.filter_eq_self.1 fb
  obtain ⟨m1, m2⟩ := (may_counts hb).2 b3
  have lb : (loadT k w).w.b = w.b := by
    show (passG lostB (pendB 1048576) 60 [] false (w.b.filter (blockC k))).w = _
    rw [fb]; exact b1
  have pf : (passB 1048576 ⟨⟨[], []⟩, onlyW k w, false⟩).full = false := by
    show (passG lostB (pendB 1048576) 60 [] false (w.b.filter (blockC k))).full = _
    rw [fb]; exact b2
  have ev0 : (passG (lostV (loadT k w).w.b) (pendV (loadT k w).w.b 1048576) 240 [] (passB 1048576 ⟨⟨[], []⟩, onlyW k w, false⟩).full (w.v.filter (voteC k))).w.length = w.v.length := by
    have : (loadT k w).w.v.length = w.v.length := by omega
    exact this
  rw [lb, pf] at ev0
  have p2 := pass_all (lost := lostV w.b) (pend := pendV w.b 1048576) (cap := 240) (w.v.filter (voteC k))
  have fv : w.v.filter (voteC k) = w.v := filter_len (by omega)
  rw [fv] at p2 ev0
  obtain ⟨v1, v2, v3⟩ := p2.2.1 ev0
  have hv : ∀ v ∈ w.v, voteC k v = true := List.filter_eq_self.1 fv
  obtain ⟨n1, n2, n3⟩ := (votes_counts (fun b hb' => (blockC_yes (hb b hb')).2.1) hv).2 v3
  refine ⟨mayW_iff.2 ⟨m1, trivial, m2, n1, hb, n2, n3⟩, ?_, ?_⟩
  · have lv : (loadT k w).w.v = w.v := by
      show (passG (lostV (loadT k w).w.b) (pendV (loadT k w).w.b 1048576) 240 [] (passB 1048576 ⟨⟨[], []⟩, onlyW k w, false⟩).full (w.v.filter (voteC k))).w = _
      rw [lb, pf, fv]; exact v1
    have : ∀ a b : Vw, a.b = b.b → a.v = b.v → a = b := fun a b h1 h2 => by cases a; cases b; simp only at h1 h2; subst h1 h2; rfl
    exact this _ _ lb lv
  · show (passG (lostV (loadT k w).w.b) (pendV (loadT k w).w.b 1048576) 240 [] (passB 1048576 ⟨⟨[], []⟩, onlyW k w, false⟩).full (w.v.filter (voteC k))).full = _
    rw [lb, pf, fv]; exact v2
theorem load_may {k : Cf} {w : Vw} (h : mayW k w = true) : (loadT k w).w.b.length + (loadT k w).w.v.length = w.b.length + w.v.length := by
  obtain ⟨m1, _, m2, n1, hb, n2, n3⟩ := mayW_iff.1 h
  have fb : w.b.filter (blockC k) = w.b := List.filter_eq_self.2 hb
  have fv : w.v.filter (voteC k) = w.v := List.filter_eq_self.2 fun v hv => (n3 v hv).1
  have p1 := pass_all (lost := lostB) (pend := pendB 1048576) (cap := 60) w.b
  have eb := p1.2.2 ((may_counts hb).1 ⟨m1, m2⟩)
  obtain ⟨b1, b2, _⟩ := p1.2.1 eb
  have lb : (loadT k w).w.b = w.b := by
    show (passG lostB (pendB 1048576) 60 [] false (w.b.filter (blockC k))).w = _
    rw [fb]; exact b1
  have pf : (passB 1048576 ⟨⟨[], []⟩, onlyW k w, false⟩).full = false := by
    show (passG lostB (pendB 1048576) 60 [] false (w.b.filter (blockC k))).full = _
    rw [fb]; exact b2
  have p2 := (pass_all (lost := lostV w.b) (pend := pendV w.b 1048576) (cap := 240) w.v).2.2 ((votes_counts (fun b hb' => (blockC_yes (hb b hb')).2.1) fun v hv => (n3 v hv).1).1 ⟨n1, n2, n3⟩)
  have lv : (loadT k w).w.v.length = w.v.length := by
    show (passG (lostV (loadT k w).w.b) (pendV (loadT k w).w.b 1048576) 240 [] (passB 1048576 ⟨⟨[], []⟩, onlyW k w, false⟩).full (w.v.filter (voteC k))).w.length = _
    rw [lb, pf, fv]; exact p2
  rw [lb, lv]
def sizeT (t : TSt) : Nat := t.w.b.length + t.w.v.length
/-- The program's loop: on, as long as a round counted more. -/
theorem round_size (upto : Int) (t : TSt) : sizeT t ≤ sizeT (roundT upto t) ∧ (sizeT t < sizeT (roundT upto t) ↔ anyT upto t = true) := by
  have h1 := (pass_count (lost := lostB) (pend := pendB upto) (cap := 60) t.w.b t.full t.i.b).2
  have h2 := (pass_count (lost := lostV (passB upto t).w) (pend := pendV (passB upto t).w upto) (cap := 240) t.w.v (passB upto t).full t.i.v).2
  obtain ⟨n1, e1, _⟩ := pass_grows (lost := lostB) (pend := pendB upto) (cap := 60) t.w.b t.full t.i.b
  obtain ⟨n2, e2, _⟩ := pass_grows (lost := lostV (passB upto t).w) (pend := pendV (passB upto t).w upto) (cap := 240) t.w.v (passB upto t).full t.i.v
  have l1 : t.w.b.length ≤ (passB upto t).w.length := by unfold passB; rw [e1, List.length_append]; omega
  have l2 : t.w.v.length ≤ (passV upto t).w.length := by unfold passV; rw [e2, List.length_append]; omega
  have s1 : (passB upto t).any = false → (passB upto t).w = t.w.b := h1.1
  have s2 : (passB upto t).any = true → t.w.b.length < (passB upto t).w.length := h1.2
  have s3 : (passV upto t).any = false → (passV upto t).w = t.w.v := h2.1
  have s4 : (passV upto t).any = true → t.w.v.length < (passV upto t).w.length := h2.2
  unfold sizeT
  show t.w.b.length + t.w.v.length ≤ (passB upto t).w.length + (passV upto t).w.length ∧ (t.w.b.length + t.w.v.length < (passB upto t).w.length + (passV upto t).w.length ↔ anyT upto t = true)
  refine ⟨by omega, ?_⟩
  unfold anyT
  rw [Bool.or_eq_true]
  constructor
  · intro h
    cases q1 : (passB upto t).any with
    | true => exact Or.inl rfl
    | false =>
      cases q2 : (passV upto t).any with
      | true => exact Or.inr rfl
      | false => rw [s1 q1, s3 q2] at h; omega
  · rintro (h | h)
    · have := s2 h; omega
    · have := s4 h; omega

end Go.Proofs.Ytacdiicnfoejoaa
