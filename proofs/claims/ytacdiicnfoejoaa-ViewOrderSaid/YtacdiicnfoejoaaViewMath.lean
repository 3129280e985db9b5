/-
  Plain mathematics of package view: what may come, what is joined, and what is counted of what came.
-/
import Derived.Test.YtacdiicnfoejoaaDutyG
import Derived.Test.YtacdiicnfoejoaaTreeG
import Derived.Test.YtacdiicnfoejoaaVoteG
namespace Go.Proofs.Ytacdiicnfoejoaa
set_option maxRecDepth 100000
set_option linter.unusedVariables false
set_option linter.unusedSimpArgs false
set_option linter.unusedSimpArgs false
set_option linter.unusedVariables false
set_option linter.unusedSectionVars false

theorem Bk.same {a b : Bk} (h1 : a.s = b.s) (h2 : a.f = b.f) (h3 : a.p = b.p) (h4 : a.t = b.t) : a = b := by
  cases a; cases b; simp only at *; subst h1 h2 h3 h4; rfl
theorem Vt.same {a b : Vt} (h1 : a.f = b.f) (h2 : a.s = b.s) (h3 : a.p = b.p) : a = b := by
  cases a; cases b; simp only at *; subst h1 h2 h3; rfl
instance : DecidableEq Bk := fun a b => decidable_of_iff (a.s = b.s ∧ a.f = b.f ∧ a.p = b.p ∧ a.t = b.t) ⟨fun h => Bk.same h.1 h.2.1 h.2.2.1 h.2.2.2, fun h => by subst h; exact ⟨rfl, rfl, rfl, rfl⟩⟩
instance : DecidableEq Vt := fun a b => decidable_of_iff (a.f = b.f ∧ a.s = b.s ∧ a.p = b.p) ⟨fun h => Vt.same h.1 h.2.1 h.2.2, fun h => by subst h; exact ⟨rfl, rfl, rfl⟩⟩
/-- A view: blocks, and votes. -/
structure Vw where
  b : List Bk
  v : List Vt
def blockC (k : Cf) (b : Bk) : Bool := decide (0 ≤ propC k b.s) && (decide (propC k b.s = b.f) && !decide (nameB b = zid))
def voteC (k : Cf) (v : Vt) : Bool := inC k v.s v.f
/-- The slot of an id; -1: it is not there. -/
def slotI (l : List Bk) (x : Id2) : Int := (slotB l x).getD (-1)
def onlyW (k : Cf) (w : Vw) : Vw := ⟨w.b.filter (blockC k), w.v.filter (voteC k)⟩
/-- Those of one list behind those of another one, that are not there yet. -/
def joinL {α : Type} [DecidableEq α] (a b : List α) : List α := b.foldl (fun o x => if x ∈ o then o else o ++ [x]) a
def joinW (a b : Vw) : Vw := ⟨joinL a.b b.b, joinL a.v b.v⟩
def voteOk (k : Cf) (B : List Bk) (l : List Vt) (j : Nat) : Bool := match l[j]? with
  | some v => voteC k v && (decide (0 ≤ slotI B v.p) && (decide (slotI B v.p ≤ v.s) && !decide (v ∈ l.take j)))
  | none => true
def votesTo (k : Cf) (B : List Bk) (l : List Vt) : Nat → Bool
  | 0 => true
  | j + 1 => votesTo k B l j && voteOk k B l j
/-- A view may be, as the document says it: also one without anything, of whatever conf. -/
def mayW (k : Cf) (w : Vw) : Bool := mayB w.b && (decide (w.b.length ≤ 60) && (decide (w.v.length ≤ 240) && (w.b.all (blockC k) && votesTo k w.b w.v w.v.length)))
/-- .. and as the given package says it: of a conf that may be. -/
def mayR (k : Cf) (w : Vw) : Bool := mayC k && mayW k w

/-! ### One pass -/
structure PSt (α : Type) where
  w : List α
  left : List α
  full : Bool
  any : Bool
section
variable {α : Type}
def stepG (lost pend : List α → α → Bool) (cap : Nat) (st : PSt α) (x : α) : PSt α :=
  if lost st.w x then st else if pend st.w x then ⟨st.w, st.left ++ [x], st.full, st.any⟩ else if cap ≤ st.w.length then ⟨st.w, st.left ++ [x], true, st.any⟩ else ⟨st.w ++ [x], st.left, st.full, true⟩
def runG (lost pend : List α → α → Bool) (cap : Nat) (st : PSt α) (l : List α) : PSt α := l.foldl (stepG lost pend cap) st
def passG (lost pend : List α → α → Bool) (cap : Nat) (w : List α) (full : Bool) (l : List α) : PSt α := runG lost pend cap ⟨w, [], full, false⟩ l
variable {lost pend : List α → α → Bool} {cap : Nat}
theorem runG_nil (st : PSt α) : runG lost pend cap st [] = st := rfl
theorem runG_cons (st : PSt α) (x : α) (l : List α) : runG lost pend cap st (x :: l) = runG lost pend cap (stepG lost pend cap st x) l := rfl
theorem runG_snoc (st : PSt α) (l : List α) (x : α) : runG lost pend cap st (l ++ [x]) = stepG lost pend cap (runG lost pend cap st l) x := by simp [runG]
/-- What one step does. -/
theorem step_cases (st : PSt α) (x : α) :
    (lost st.w x = true ∧ stepG lost pend cap st x = st) ∨
    (lost st.w x = false ∧ pend st.w x = true ∧ stepG lost pend cap st x = ⟨st.w, st.left ++ [x], st.full, st.any⟩) ∨
    (lost st.w x = false ∧ pend st.w x = false ∧ cap ≤ st.w.length ∧ stepG lost pend cap st x = ⟨st.w, st.left ++ [x], true, st.any⟩) ∨
    (lost st.w x = false ∧ pend st.w x = false ∧ st.w.length < cap ∧ stepG lost pend cap st x = ⟨st.w ++ [x], st.left, st.full, true⟩) := by
  unfold stepG
  cases h1 : lost st.w x with
  | true => exact Or.inl ⟨rfl, by simp⟩
  | false =>
    cases h2 : pend st.w x with
    | true => exact Or.inr (Or.inl ⟨rfl, rfl, by simp⟩)
    | false =>
      by_cases h3 : cap ≤ st.w.length
      · exact Or.inr (Or.inr (Or.inl ⟨rfl, rfl, h3, by simp [h3]⟩))
      · exact Or.inr (Or.inr (Or.inr ⟨rfl, rfl, by omega, by simp [h3]⟩))
/-- An invariant of a run. -/
theorem run_inv {P : PSt α → Prop} {l : List α} (hs : ∀ st x, x ∈ l → P st → P (stepG lost pend cap st x)) : ∀ (m : List α), (∀ x ∈ m, x ∈ l) → ∀ st, P st → P (runG lost pend cap st m)
  | [], _, st, h => h
  | x :: m, hm, st, h => run_inv hs m (fun y hy => hm y (List.mem_cons_of_mem _ hy)) _ (hs st x (hm x List.mem_cons_self) h)
theorem pass_inv {P : PSt α → Prop} {l : List α} (hs : ∀ st x, x ∈ l → P st → P (stepG lost pend cap st x)) (w : List α) (full : Bool) (h : P ⟨w, [], full, false⟩) : P (passG lost pend cap w full l) :=
  run_inv hs l (fun _ h => h) _ h
theorem pass_grows (w : List α) (full : Bool) (l : List α) : ∃ n, (passG lost pend cap w full l).w = w ++ n ∧ ∀ x ∈ n, x ∈ l := by
  refine pass_inv (P := fun st => ∃ n, st.w = w ++ n ∧ ∀ x ∈ n, x ∈ l) (fun st x hx ⟨n, e, hn⟩ => ?_) w full ⟨[], by simp, by simp⟩
  rcases step_cases (lost := lost) (pend := pend) (cap := cap) st x with ⟨_, q⟩ | ⟨_, _, q⟩ | ⟨_, _, _, q⟩ | ⟨_, _, _, q⟩ <;> rw [q]
  · exact ⟨n, e, hn⟩
  · exact ⟨n, e, hn⟩
  · exact ⟨n, e, hn⟩
  · refine ⟨n ++ [x], by rw [← List.append_assoc, ← e], fun y hy => ?_⟩
    rcases List.mem_append.1 hy with r | r
    · exact hn y r
    · rw [List.mem_singleton] at r; rw [r]; exact hx
theorem pass_left (w : List α) (full : Bool) (l : List α) : ∀ x ∈ (passG lost pend cap w full l).left, x ∈ l := by
  refine pass_inv (P := fun st => ∀ x ∈ st.left, x ∈ l) (fun st x hx h => ?_) w full (by simp)
  have hl : ∀ y ∈ st.left ++ [x], y ∈ l := fun y hy => by
    rcases List.mem_append.1 hy with r | r
    · exact h y r
    · rw [List.mem_singleton] at r; rw [r]; exact hx
  rcases step_cases (lost := lost) (pend := pend) (cap := cap) st x with ⟨_, q⟩ | ⟨_, _, q⟩ | ⟨_, _, _, q⟩ | ⟨_, _, _, q⟩ <;> rw [q]
  · exact h
  · exact hl
  · exact hl
  · exact h
theorem pass_full (w : List α) (l : List α) : (passG lost pend cap w true l).full = true := by
  refine pass_inv (P := fun st => st.full = true) (fun st x hx h => ?_) w true rfl
  rcases step_cases (lost := lost) (pend := pend) (cap := cap) st x with ⟨_, q⟩ | ⟨_, _, q⟩ | ⟨_, _, _, q⟩ | ⟨_, _, _, q⟩ <;> rw [q]
  · exact h
  · exact h
  · exact h
theorem pass_cap {w : List α} (full : Bool) (l : List α) (h : w.length ≤ cap) : (passG lost pend cap w full l).w.length ≤ cap := by
  refine pass_inv (P := fun st => st.w.length ≤ cap) (fun st x hx h => ?_) w full h
  rcases step_cases (lost := lost) (pend := pend) (cap := cap) st x with ⟨_, q⟩ | ⟨_, _, q⟩ | ⟨_, _, _, q⟩ | ⟨_, _, h2, q⟩ <;> rw [q]
  · exact h
  · exact h
  · exact h
  · show (st.w ++ [x]).length ≤ cap
    rw [List.length_append, List.length_singleton]; omega
/-- With room it is never full. -/
theorem pass_room (w : List α) (l : List α) (h : w.length + l.length ≤ cap) : (passG lost pend cap w false l).full = false := by
  suffices H : ∀ (m : List α) (st : PSt α), st.full = false → st.w.length + m.length ≤ cap → (runG lost pend cap st m).full = false from H l _ rfl h
  intro m
  induction m with
  | nil => exact fun st h _ => h
  | cons x m ih =>
    intro st h1 h2
    rw [List.length_cons] at h2
    rw [runG_cons]
    rcases step_cases (lost := lost) (pend := pend) (cap := cap) st x with ⟨_, q⟩ | ⟨_, _, q⟩ | ⟨_, _, h3, q⟩ | ⟨_, _, _, q⟩ <;> rw [q]
    · exact ih _ h1 (by omega)
    · exact ih _ h1 (by show st.w.length + m.length ≤ cap; omega)
    · omega
    · refine ih _ h1 ?_
      show (st.w ++ [x]).length + m.length ≤ cap
      rw [List.length_append, List.length_singleton]; omega
/-- How much is left. -/
theorem pass_count (w : List α) (full : Bool) (l : List α) : (passG lost pend cap w full l).left.length + (passG lost pend cap w full l).w.length ≤ l.length + w.length ∧ ((passG lost pend cap w full l).any = false → (passG lost pend cap w full l).w = w) ∧ ((passG lost pend cap w full l).any = true → w.length < (passG lost pend cap w full l).w.length) := by
  suffices H : ∀ (m : List α) (st : PSt α), st.left.length + st.w.length + m.length ≤ l.length + w.length → w.length ≤ st.w.length → (st.any = false → st.w = w) → (st.any = true → w.length < st.w.length) →
      (runG lost pend cap st m).left.length + (runG lost pend cap st m).w.length ≤ l.length + w.length ∧ ((runG lost pend cap st m).any = false → (runG lost pend cap st m).w = w) ∧ ((runG lost pend cap st m).any = true → w.length < (runG lost pend cap st m).w.length) from
    H l _ (by simp; omega) (Nat.le_refl _) (fun _ => rfl) (fun h => by cases h)
  intro m
  induction m with
  | nil => exact fun st h _ h2 h3 => ⟨by simpa [runG] using h, h2, h3⟩
  | cons x m ih =>
    intro st h1 h0 h2 h3
    rw [List.length_cons] at h1
    rw [runG_cons]
    rcases step_cases (lost := lost) (pend := pend) (cap := cap) st x with ⟨_, q⟩ | ⟨_, _, q⟩ | ⟨_, _, _, q⟩ | ⟨_, _, _, q⟩ <;> rw [q]
    · exact ih _ (by omega) h0 h2 h3
    · refine ih _ ?_ h0 h2 h3
      show (st.left ++ [x]).length + st.w.length + m.length ≤ _
      rw [List.length_append, List.length_singleton]; omega
    · refine ih _ ?_ h0 h2 h3
      show (st.left ++ [x]).length + st.w.length + m.length ≤ _
      rw [List.length_append, List.length_singleton]; omega
    · refine ih _ ?_ ?_ (fun h => by cases h) (fun _ => ?_)
      · show st.left.length + (st.w ++ [x]).length + m.length ≤ _
        rw [List.length_append, List.length_singleton]; omega
      · show w.length ≤ (st.w ++ [x]).length
        rw [List.length_append, List.length_singleton]; omega
      · show w.length < (st.w ++ [x]).length
        rw [List.length_append, List.length_singleton]; omega
/-- Of each that came one thing is so: it is counted, it was lost at some time, or it is left. -/
theorem pass_each (w : List α) (full : Bool) (l : List α) : ∀ x ∈ l, x ∈ (passG lost pend cap w full l).w ∨ x ∈ (passG lost pend cap w full l).left ∨ ∃ v n, (passG lost pend cap w full l).w = v ++ n ∧ lost v x = true := by
  suffices H : ∀ (m : List α) (st : PSt α), (∀ x, (x ∈ st.w ∨ x ∈ st.left ∨ (∃ v n, st.w = v ++ n ∧ lost v x = true) ∨ x ∈ m) → x ∈ (runG lost pend cap st m).w ∨ x ∈ (runG lost pend cap st m).left ∨ ∃ v n, (runG lost pend cap st m).w = v ++ n ∧ lost v x = true) from
    fun x hx => H l _ x (Or.inr (Or.inr (Or.inr hx)))
  intro m
  induction m with
  | nil =>
    rintro st x (h | h | h | h)
    · exact Or.inl h
    · exact Or.inr (Or.inl h)
    · exact Or.inr (Or.inr h)
    · cases h
  | cons y m ih =>
    intro st x h
    rw [runG_cons]
    refine ih _ x ?_
    rcases step_cases (lost := lost) (pend := pend) (cap := cap) st y with ⟨h1, q⟩ | ⟨_, _, q⟩ | ⟨_, _, _, q⟩ | ⟨_, _, _, q⟩ <;> rw [q]
    · rcases h with h | h | h | h
      · exact Or.inl h
      · exact Or.inr (Or.inl h)
      · exact Or.inr (Or.inr (Or.inl h))
      · rcases List.mem_cons.1 h with e | e
        · exact Or.inr (Or.inr (Or.inl ⟨st.w, [], by simp, by rw [e]; exact h1⟩))
        · exact Or.inr (Or.inr (Or.inr e))
    · rcases h with h | h | h | h
      · exact Or.inl h
      · exact Or.inr (Or.inl (List.mem_append_left _ h))
      · exact Or.inr (Or.inr (Or.inl h))
      · rcases List.mem_cons.1 h with e | e
        · exact Or.inr (Or.inl (List.mem_append_right _ (List.mem_singleton.2 e)))
        · exact Or.inr (Or.inr (Or.inr e))
    · rcases h with h | h | h | h
      · exact Or.inl h
      · exact Or.inr (Or.inl (List.mem_append_left _ h))
      · exact Or.inr (Or.inr (Or.inl h))
      · rcases List.mem_cons.1 h with e | e
        · exact Or.inr (Or.inl (List.mem_append_right _ (List.mem_singleton.2 e)))
        · exact Or.inr (Or.inr (Or.inr e))
    · rcases h with h | h | ⟨v, n, e, hl⟩ | h
      · exact Or.inl (List.mem_append_left _ h)
      · exact Or.inr (Or.inl h)
      · exact Or.inr (Or.inr (Or.inl ⟨v, n ++ [y], by show st.w ++ [y] = _; rw [e, List.append_assoc], hl⟩))
      · rcases List.mem_cons.1 h with e | e
        · exact Or.inl (List.mem_append_right _ (List.mem_singleton.2 e))
        · exact Or.inr (Or.inr (Or.inr e))
/-- A pass in which nothing was counted: what is left is what was not lost; without it being full all of that waits. -/
theorem pass_still {w : List α} {full : Bool} {l : List α} (h : (passG lost pend cap w full l).any = false) :
    (passG lost pend cap w full l).left = l.filter (fun x => !lost w x) ∧ ((passG lost pend cap w full l).full = false → ∀ x ∈ l, lost w x = false → pend w x = true) := by
  suffices H : ∀ (m : List α) (st : PSt α), st.w = w → (runG lost pend cap st m).any = false → (runG lost pend cap st m).left = st.left ++ m.filter (fun x => !lost w x) ∧ ((runG lost pend cap st m).full = false → ∀ x ∈ m, lost w x = false → pend w x = true) from by
    have := H l ⟨w, [], full, false⟩ rfl h
    simpa [passG] using this
  intro m
  induction m with
  | nil => intro st _ _; exact ⟨by simp [runG], fun _ x hx => by cases hx⟩
  | cons y m ih =>
    intro st hw ha
    rw [runG_cons] at ha ⊢
    have hany : ∀ (s : PSt α), s.any = true → (runG lost pend cap s m).any = true := fun s hs => run_inv (P := fun s => s.any = true) (l := m) (fun s x _ hs => by
      rcases step_cases (lost := lost) (pend := pend) (cap := cap) s x with ⟨_, q⟩ | ⟨_, _, q⟩ | ⟨_, _, _, q⟩ | ⟨_, _, _, q⟩ <;> rw [q]
      · exact hs
      · exact hs
      · exact hs) m (fun _ h => h) s hs
    have hfull : ∀ (s : PSt α), s.full = true → (runG lost pend cap s m).full = true := fun s hs => run_inv (P := fun s => s.full = true) (l := m) (fun s x _ hs => by
      rcases step_cases (lost := lost) (pend := pend) (cap := cap) s x with ⟨_, q⟩ | ⟨_, _, q⟩ | ⟨_, _, _, q⟩ | ⟨_, _, _, q⟩ <;> rw [q]
      · exact hs
      · exact hs
      · exact hs) m (fun _ h => h) s hs
    rcases step_cases (lost := lost) (pend := pend) (cap := cap) st y with ⟨h1, q⟩ | ⟨h1, h2, q⟩ | ⟨h1, h2, h3, q⟩ | ⟨_, _, _, q⟩ <;> rw [q] at ha ⊢
    · obtain ⟨e1, e2⟩ := ih st hw ha
      rw [hw] at h1
      refine ⟨by rw [e1, List.filter_cons]; simp [h1], fun hf x hx hl => ?_⟩
      rcases List.mem_cons.1 hx with e | e
      · rw [e, h1] at hl; cases hl
      · exact e2 hf x e hl
    · obtain ⟨e1, e2⟩ := ih ⟨st.w, st.left ++ [y], st.full, st.any⟩ hw ha
      rw [hw] at h1 h2
      refine ⟨by rw [e1, List.filter_cons]; simp [h1], fun hf x hx hl => ?_⟩
      rcases List.mem_cons.1 hx with e | e
      · rw [e]; exact h2
      · exact e2 hf x e hl
    · obtain ⟨e1, e2⟩ := ih ⟨st.w, st.left ++ [y], true, st.any⟩ hw ha
      rw [hw] at h1
      refine ⟨by rw [e1, List.filter_cons]; simp [h1], fun hf x hx hl => ?_⟩
      rw [hfull _ rfl] at hf; cases hf
    · rw [hany _ rfl] at ha; cases ha
end

/-! ### Take -/
def lostB (w : List Bk) (b : Bk) : Bool := (posB w (nameB b)).isSome || decide (b.s ≤ slotI w b.p)
def pendB (upto : Int) (w : List Bk) (b : Bk) : Bool := decide (slotI w b.p < 0) || decide (upto < b.s)
def lostV (B : List Bk) (w : List Vt) (v : Vt) : Bool := decide (v ∈ w) || decide (v.s < slotI B v.p)
def pendV (B : List Bk) (upto : Int) (_ : List Vt) (v : Vt) : Bool := decide (slotI B v.p < 0) || decide (upto < v.s)
structure TSt where
  w : Vw
  i : Vw
  full : Bool
def passB (upto : Int) (st : TSt) : PSt Bk := passG lostB (pendB upto) 60 st.w.b st.full st.i.b
def passV (upto : Int) (st : TSt) : PSt Vt := passG (lostV (passB upto st).w) (pendV (passB upto st).w upto) 240 st.w.v (passB upto st).full st.i.v
def roundT (upto : Int) (st : TSt) : TSt := ⟨⟨(passB upto st).w, (passV upto st).w⟩, ⟨(passB upto st).left, (passV upto st).left⟩, (passV upto st).full⟩
def anyT (upto : Int) (st : TSt) : Bool := (passB upto st).any || (passV upto st).any
def takeN (upto : Int) : Nat → TSt → TSt
  | 0, st => st
  | n + 1, st => if anyT upto st then takeN upto n (roundT upto st) else roundT upto st
def takeC (k : Cf) (w i : Vw) (upto : Int) : TSt := if mayW k w then takeN upto (i.b.length + i.v.length + 1) ⟨w, onlyW k i, false⟩ else ⟨w, i, false⟩
theorem takeN_inv {upto : Int} {P : TSt → Prop} (hs : ∀ st, P st → P (roundT upto st)) : ∀ (n : Nat) (st : TSt), P st → P (takeN upto n st)
  | 0, st, h => h
  | n + 1, st, h => by
    unfold takeN
    split
    · exact takeN_inv hs n _ (hs st h)
    · exact hs st h
theorem round_less {upto : Int} {st : TSt} (h : anyT upto st = true) : (roundT upto st).i.b.length + (roundT upto st).i.v.length < st.i.b.length + st.i.v.length := by
  have h1 := pass_count (lost := lostB) (pend := pendB upto) (cap := 60) st.w.b st.full st.i.b
  have h2 := pass_count (lost := lostV (passB upto st).w) (pend := pendV (passB upto st).w upto) (cap := 240) st.w.v (passB upto st).full st.i.v
  have g1 := pass_grows (lost := lostB) (pend := pendB upto) (cap := 60) st.w.b st.full st.i.b
  have g2 := pass_grows (lost := lostV (passB upto st).w) (pend := pendV (passB upto st).w upto) (cap := 240) st.w.v (passB upto st).full st.i.v
  obtain ⟨n1, e1, _⟩ := g1
  obtain ⟨n2, e2, _⟩ := g2
  have l1 : st.w.b.length ≤ (passB upto st).w.length := by unfold passB; rw [e1, List.length_append]; omega
  have l2 : st.w.v.length ≤ (passV upto st).w.length := by unfold passV; rw [e2, List.length_append]; omega
  unfold anyT at h
  rw [Bool.or_eq_true] at h
  show (passB upto st).left.length + (passV upto st).left.length < _
  rcases h with h | h
  · have := h1.2.2 h
    have a : (passB upto st).left.length + (passB upto st).w.length ≤ st.i.b.length + st.w.b.length := h1.1
    have b : (passV upto st).left.length + (passV upto st).w.length ≤ st.i.v.length + st.w.v.length := h2.1
    have c : st.w.b.length < (passB upto st).w.length := this
    omega
  · have := h2.2.2 h
    have a : (passB upto st).left.length + (passB upto st).w.length ≤ st.i.b.length + st.w.b.length := h1.1
    have b : (passV upto st).left.length + (passV upto st).w.length ≤ st.i.v.length + st.w.v.length := h2.1
    have c : st.w.v.length < (passV upto st).w.length := this
    omega
/-- At last there is a round in which nothing was counted. -/
theorem takeN_end {upto : Int} {P : TSt → Prop} (hs : ∀ st, P st → P (roundT upto st)) : ∀ (n : Nat) (st : TSt), P st → st.i.b.length + st.i.v.length < n → ∃ s, P s ∧ takeN upto n st = roundT upto s ∧ anyT upto s = false
  | 0, st, h, hn => by omega
  | n + 1, st, h, hn => by
    unfold takeN
    split
    · rename_i ha
      have := round_less ha
      exact takeN_end hs n _ (hs st h) (by omega)
    · rename_i ha
      exact ⟨st, h, rfl, by simpa using ha⟩
theorem only_le (k : Cf) (i : Vw) : (onlyW k i).b.length + (onlyW k i).v.length < i.b.length + i.v.length + 1 := by
  have h1 := List.length_filter_le (blockC k) i.b
  have h2 := List.length_filter_le (voteC k) i.v
  unfold onlyW
  show (i.b.filter (blockC k)).length + (i.v.filter (voteC k)).length < _
  omega

end Go.Proofs.Ytacdiicnfoejoaa
