/-
  Plain mathematics of package votes: who is double, which votes count, and how that is gathered.
  Votes as arguments and as cells; a list of votes, cell by cell.
  The arguments of layer 7's laws, opened: a vote, a list of votes.
  What follows of the votes that count, for layer 7's laws.
  A list of votes of one's own, whose cells are written; a slice cut at its length and its room.
  A list of votes of one's own, onto which is appended at a step of a region that draws its order; boxed votes held over it.
  Blocks of one's own that hold given cells; appends and made views over a region that draws its order; a region cut off from what comes behind it.
-/
import Derived.Deep.Slices
import Derived.Deep.RegionHeld3
import Derived.Test.YtacdiicnfoejoaaGround
import Derived.Test.YtacdiicnfoejoaaTreeG
namespace Go.Proofs.Ytacdiicnfoejoaa
set_option maxRecDepth 100000
set_option linter.unusedVariables false
set_option linter.unusedSimpArgs false
section
/-- A vote: who it is from, its slot, its head. -/
structure Vt where
  f : Int
  s : Int
  p : Nat × Nat
/-- Somebody is double in a slot. -/
def Dbl (L : List Vt) (s f : Int) : Prop := ∃ a ∈ L, ∃ b ∈ L, a.f = f ∧ b.f = f ∧ a.s = s ∧ b.s = s ∧ a ≠ b
/-- A vote counts, of the slots that fit. -/
def Cnt (L : List Vt) (q : Int → Bool) (v : Vt) : Prop := v ∈ L ∧ q v.s = true ∧ (∀ s, q s = true → ¬ Dbl L s v.f) ∧ ∀ a ∈ L, a.f = v.f → q a.s = true → a.s ≤ v.s
def Cnts (L : List Vt) (q : Int → Bool) (R : List Vt) : Prop := R.Pairwise (fun a b => a.f < b.f) ∧ ∀ v, v ∈ R ↔ Cnt L q v
def Dbls (L : List Vt) (s : Int) (D : List Int) : Prop := D.Pairwise (fun a b => a < b) ∧ ∀ f, f ∈ D ↔ Dbl L s f
/-- The slots that fit. -/
def isQ (s : Int) : Int → Bool := fun x => decide (x = s)
def upQ (s : Int) : Int → Bool := fun x => decide (x ≤ s)
theorem isQ_iff {s x : Int} : isQ s x = true ↔ x = s := by simp [isQ]
theorem upQ_iff {s x : Int} : upQ s x = true ↔ x ≤ s := by simp [upQ]

/-! ### Lists that rise -/
theorem rise_eq {α : Type} (k : α → Int) : ∀ {R S : List α}, R.Pairwise (fun a b => k a < k b) → S.Pairwise (fun a b => k a < k b) → (∀ v, v ∈ R ↔ v ∈ S) → R = S
  | [], [], _, _, _ => rfl
  | [], b :: S, _, _, h => by have := (h b).2 List.mem_cons_self; simp at this
  | a :: R, [], _, _, h => by have := (h a).1 List.mem_cons_self; simp at this
  | a :: R, b :: S, hR, hS, h => by
    have hR' := List.pairwise_cons.1 hR
    have hS' := List.pairwise_cons.1 hS
    have e : a = b := by
      rcases List.mem_cons.1 ((h a).1 List.mem_cons_self) with e | e
      · exact e
      · rcases List.mem_cons.1 ((h b).2 List.mem_cons_self) with e' | e'
        · exact e'.symm
        · have h1 := hS'.1 a e
          have h2 := hR'.1 b e'
          omega
    subst e
    rw [rise_eq k hR'.2 hS'.2 fun v => ⟨fun hv => ?_, fun hv => ?_⟩]
    · rcases List.mem_cons.1 ((h v).1 (List.mem_cons_of_mem _ hv)) with e | e
      · subst e; have := hR'.1 v hv; omega
      · exact e
    · rcases List.mem_cons.1 ((h v).2 (List.mem_cons_of_mem _ hv)) with e | e
      · subst e; have := hS'.1 v hv; omega
      · exact e
theorem Cnts.unique {L : List Vt} {q : Int → Bool} {R S : List Vt} (h : Cnts L q R) (k : Cnts L q S) : R = S := rise_eq Vt.f h.1 k.1 fun v => (h.2 v).trans (k.2 v).symm
theorem Dbls.unique {L : List Vt} {s : Int} {R S : List Int} (h : Dbls L s R) (k : Dbls L s S) : R = S := rise_eq id h.1 k.1 fun v => (h.2 v).trans (k.2 v).symm

/-! ### Only what is there matters -/
theorem Dbl.of {L M : List Vt} {s f : Int} (h : ∀ v ∈ L, v ∈ M) (d : Dbl L s f) : Dbl M s f := by
  obtain ⟨a, ha, b, hb, r⟩ := d
  exact ⟨a, h a ha, b, h b hb, r⟩
theorem cnt_one {L : List Vt} {q : Int → Bool} {u v : Vt} (hu : Cnt L q u) (hv : Cnt L q v) (e : u.f = v.f) : u = v := by
  have h1 := hu.2.2.2 v hv.1 e.symm hv.2.1
  have h2 := hv.2.2.2 u hu.1 e hu.2.1
  have es : u.s = v.s := by omega
  exact Classical.byContradiction fun ne => hu.2.2.1 u.s hu.2.1 ⟨u, hu.1, v, hv.1, rfl, e.symm, rfl, es.symm, ne⟩
theorem vt_head {a b : Vt} (h1 : a.f = b.f) (h2 : a.s = b.s) : a ≠ b ↔ a.p ≠ b.p := by
  cases a; cases b
  simp only at h1 h2
  subst h1; subst h2
  simp

/-! ### Where a vote of each turn is -/
abbrev Turns := Int → Int → Option Int
def setT (g : Turns) (f s i : Int) : Turns := fun f' s' => if f' = f ∧ s' = s then some i else g f' s'
def GOk (M : List Vt) (q : Int → Bool) (g : Turns) : Prop :=
  (∀ f s, g f s = none → ∀ a ∈ M, a.f = f → a.s = s → q s = false) ∧
  ∀ f s i, g f s = some i → q s = true ∧ ((i = -1 ∧ Dbl M s f) ∨ (¬ Dbl M s f ∧ ∃ (n : Nat) (hn : n < M.length), i = (n : Int) ∧ M[n].f = f ∧ M[n].s = s))
theorem GOk.nil (q : Int → Bool) : GOk [] q (fun _ _ => none) := ⟨(fun _ _ _ a ha => by cases ha), (fun _ _ _ h => by cases h)⟩
theorem dbl_snoc_other {M : List Vt} {v : Vt} {s f : Int} (h : ¬ (v.f = f ∧ v.s = s)) : Dbl (M ++ [v]) s f ↔ Dbl M s f := by
  constructor
  · rintro ⟨a, ha, b, hb, h1, h2, h3, h4, ne⟩
    have ha' : a ∈ M := by
      rcases List.mem_append.1 ha with e | e
      · exact e
      · have : a = v := by simpa using e
        subst this; exact absurd ⟨h1, h3⟩ h
    have hb' : b ∈ M := by
      rcases List.mem_append.1 hb with e | e
      · exact e
      · have : b = v := by simpa using e
        subst this; exact absurd ⟨h2, h4⟩ h
    exact ⟨a, ha', b, hb', h1, h2, h3, h4, ne⟩
  · exact Dbl.of fun x hx => List.mem_append_left _ hx
theorem GOk.other {M : List Vt} {q : Int → Bool} {g g' : Turns} (h : GOk M q g) (v : Vt) {f s : Int} (hn : ¬ (v.f = f ∧ v.s = s) ∨ q s = false) (e : g' f s = g f s) :
    (g' f s = none → ∀ a ∈ M ++ [v], a.f = f → a.s = s → q s = false) ∧
    ∀ i, g' f s = some i → q s = true ∧ ((i = -1 ∧ Dbl (M ++ [v]) s f) ∨ (¬ Dbl (M ++ [v]) s f ∧ ∃ (n : Nat) (hn : n < (M ++ [v]).length), i = (n : Int) ∧ (M ++ [v])[n].f = f ∧ (M ++ [v])[n].s = s)) := by
  rw [e]
  constructor
  · intro h0 a ha hf hs
    rcases hn with hn | hn
    · rcases List.mem_append.1 ha with k | k
      · exact h.1 f s h0 a k hf hs
      · have : a = v := by simpa using k
        subst this; exact absurd ⟨hf, hs⟩ hn
    · exact hn
  · intro i hi
    obtain ⟨h1, h2⟩ := h.2 f s i hi
    have hn' : ¬ (v.f = f ∧ v.s = s) := by
      rcases hn with hn | hn
      · exact hn
      · rw [hn] at h1; cases h1
    refine ⟨h1, ?_⟩
    rw [dbl_snoc_other hn']
    rcases h2 with h2 | ⟨h2, n, hl, h3, h4, h5⟩
    · exact Or.inl h2
    · refine Or.inr ⟨h2, n, by rw [List.length_append]; omega, h3, ?_, ?_⟩
      · rw [List.getElem_append_left hl]; exact h4
      · rw [List.getElem_append_left hl]; exact h5
/-- A vote whose slot does not fit. -/
theorem GOk.skip {M : List Vt} {q : Int → Bool} {g : Turns} (h : GOk M q g) {v : Vt} (hq : q v.s = false) : GOk (M ++ [v]) q g := by
  have hx : ∀ f s, ¬ (v.f = f ∧ v.s = s) ∨ q s = false := fun f s => by
    by_cases e : v.s = s
    · subst e; exact Or.inr hq
    · exact Or.inl fun k => e k.2
  exact ⟨fun f s => (h.other v (hx f s) rfl).1, fun f s => (h.other v (hx f s) rfl).2⟩
/-- The first vote of its turn. -/
theorem GOk.first {M : List Vt} {q : Int → Bool} {g : Turns} (h : GOk M q g) {v : Vt} (hq : q v.s = true) (hg : g v.f v.s = none) : GOk (M ++ [v]) q (setT g v.f v.s (M.length : Int)) := by
  have hno : ∀ a ∈ M, a.f = v.f → a.s = v.s → False := fun a ha h1 h2 => by have := h.1 _ _ hg a ha h1 h2; rw [hq] at this; cases this
  have hall : ∀ a ∈ M ++ [v], a.f = v.f → a.s = v.s → a = v := fun a ha h1 h2 => by
    rcases List.mem_append.1 ha with k | k
    · exact absurd h2 (fun h2 => hno a k h1 h2)
    · simpa using k
  have key : ∀ f s, (setT g v.f v.s (M.length : Int) f s = none → ∀ a ∈ M ++ [v], a.f = f → a.s = s → q s = false) ∧
      ∀ i, setT g v.f v.s (M.length : Int) f s = some i → q s = true ∧ ((i = -1 ∧ Dbl (M ++ [v]) s f) ∨ (¬ Dbl (M ++ [v]) s f ∧ ∃ (n : Nat) (hn : n < (M ++ [v]).length), i = (n : Int) ∧ (M ++ [v])[n].f = f ∧ (M ++ [v])[n].s = s)) := fun f s => by
    by_cases e : v.f = f ∧ v.s = s
    · obtain ⟨e1, e2⟩ := e
      subst e1; subst e2
      have es : setT g v.f v.s (M.length : Int) v.f v.s = some (M.length : Int) := if_pos ⟨rfl, rfl⟩
      rw [es]
      refine ⟨(fun h => by cases h), fun i hi => ?_⟩
      injection hi with hi
      subst hi
      refine ⟨hq, Or.inr ⟨?_, M.length, by simp, rfl, by simp, by simp⟩⟩
      rintro ⟨a, ha, b, hb, h1, h2, h3, h4, ne⟩
      exact ne ((hall a ha h1 h3).trans (hall b hb h2 h4).symm)
    · exact h.other v (Or.inl e) (if_neg fun k => e ⟨k.1.symm, k.2.symm⟩)
  exact ⟨fun f s => (key f s).1, fun f s => (key f s).2⟩
/-- One more vote of a turn that is double. -/
theorem GOk.more {M : List Vt} {q : Int → Bool} {g : Turns} (h : GOk M q g) {v : Vt} (hg : g v.f v.s = some (-1)) : GOk (M ++ [v]) q g := by
  have key : ∀ f s, (g f s = none → ∀ a ∈ M ++ [v], a.f = f → a.s = s → q s = false) ∧
      ∀ i, g f s = some i → q s = true ∧ ((i = -1 ∧ Dbl (M ++ [v]) s f) ∨ (¬ Dbl (M ++ [v]) s f ∧ ∃ (n : Nat) (hn : n < (M ++ [v]).length), i = (n : Int) ∧ (M ++ [v])[n].f = f ∧ (M ++ [v])[n].s = s)) := fun f s => by
    by_cases e : v.f = f ∧ v.s = s
    · obtain ⟨e1, e2⟩ := e
      subst e1; subst e2
      rw [hg]
      refine ⟨(fun h => by cases h), fun i hi => ?_⟩
      injection hi with hi
      subst hi
      obtain ⟨h1, h2⟩ := h.2 _ _ _ hg
      refine ⟨h1, Or.inl ⟨rfl, ?_⟩⟩
      rcases h2 with h2 | ⟨_, n, _, h3, _⟩
      · exact h2.2.of fun x hx => List.mem_append_left _ hx
      · omega
    · exact h.other v (Or.inl e) rfl
  exact ⟨fun f s => (key f s).1, fun f s => (key f s).2⟩
/-- One more vote, which is there. -/
theorem GOk.same {M : List Vt} {q : Int → Bool} {g : Turns} (h : GOk M q g) {v : Vt} {n : Nat} (hn : n < M.length) (hg : g v.f v.s = some (n : Int)) (hv : M[n] = v) : GOk (M ++ [v]) q g := by
  have hmem : v ∈ M := hv ▸ List.getElem_mem hn
  have hsub : ∀ x ∈ M ++ [v], x ∈ M := fun x hx => by
    rcases List.mem_append.1 hx with k | k
    · exact k
    · have : x = v := by simpa using k
      rw [this]; exact hmem
  have hd : ∀ s f, Dbl (M ++ [v]) s f ↔ Dbl M s f := fun s f => ⟨Dbl.of hsub, Dbl.of fun x hx => List.mem_append_left _ hx⟩
  refine ⟨fun f s h0 a ha => h.1 f s h0 a (hsub a ha), fun f s i hi => ?_⟩
  obtain ⟨h1, h2⟩ := h.2 f s i hi
  refine ⟨h1, ?_⟩
  rw [hd]
  rcases h2 with h2 | ⟨h2, n, hl, h3, h4, h5⟩
  · exact Or.inl h2
  · refine Or.inr ⟨h2, n, by rw [List.length_append]; omega, h3, ?_, ?_⟩
    · rw [List.getElem_append_left hl]; exact h4
    · rw [List.getElem_append_left hl]; exact h5
/-- One more vote, for another head. -/
theorem GOk.twice {M : List Vt} {q : Int → Bool} {g : Turns} (h : GOk M q g) {v : Vt} {n : Nat} (hn : n < M.length) (hg : g v.f v.s = some (n : Int)) (hv : M[n] ≠ v) : GOk (M ++ [v]) q (setT g v.f v.s (-1)) := by
  obtain ⟨hq, h2⟩ := h.2 _ _ _ hg
  have hd : Dbl (M ++ [v]) v.s v.f := by
    rcases h2 with h2 | ⟨_, n', hl, h3, h4, h5⟩
    · omega
    · have : n' = n := by omega
      subst this
      exact ⟨M[n'], List.mem_append_left _ (List.getElem_mem hn), v, by simp, h4, rfl, h5, rfl, hv⟩
  have key : ∀ f s, (setT g v.f v.s (-1) f s = none → ∀ a ∈ M ++ [v], a.f = f → a.s = s → q s = false) ∧
      ∀ i, setT g v.f v.s (-1) f s = some i → q s = true ∧ ((i = -1 ∧ Dbl (M ++ [v]) s f) ∨ (¬ Dbl (M ++ [v]) s f ∧ ∃ (n : Nat) (hn : n < (M ++ [v]).length), i = (n : Int) ∧ (M ++ [v])[n].f = f ∧ (M ++ [v])[n].s = s)) := fun f s => by
    by_cases e : v.f = f ∧ v.s = s
    · obtain ⟨e1, e2⟩ := e
      subst e1; subst e2
      have es : setT g v.f v.s (-1) v.f v.s = some (-1) := if_pos ⟨rfl, rfl⟩
      rw [es]
      refine ⟨(fun h => by cases h), fun i hi => ?_⟩
      injection hi with hi
      subst hi
      exact ⟨hq, Or.inl ⟨rfl, hd⟩⟩
    · exact h.other v (Or.inl e) (if_neg fun k => e ⟨k.1.symm, k.2.symm⟩)
  exact ⟨fun f s => (key f s).1, fun f s => (key f s).2⟩
theorem GOk.at_ {M : List Vt} {q : Int → Bool} {g : Turns} (h : GOk M q g) {f s i : Int} (hg : g f s = some i) : i = -1 ∨ ∃ (n : Nat) (hn : n < M.length), i = (n : Int) ∧ M[n].f = f ∧ M[n].s = s := by
  rcases (h.2 _ _ _ hg).2 with h2 | ⟨_, h2⟩
  · exact Or.inl h2.1
  · exact Or.inr h2

/-! ### Where the last vote of each is -/
abbrev Whos := Int → Option Int
def setW (h : Whos) (f i : Int) : Whos := fun f' => if f' = f then some i else h f'
/-- What is no longer to come. -/
def strT (t : Int → Int → Bool) (f s : Int) : Int → Int → Bool := fun f' s' => t f' s' && !decide (f' = f ∧ s' = s)
def strW (t : Int → Bool) (f : Int) : Int → Bool := fun f' => t f' && !decide (f' = f)
theorem strT_false {t : Int → Int → Bool} {f s f' s' : Int} : strT t f s f' s' = false ↔ t f' s' = false ∨ (f' = f ∧ s' = s) := by
  unfold strT
  cases t f' s' <;> simp
theorem strW_false {t : Int → Bool} {f f' : Int} : strW t f f' = false ↔ t f' = false ∨ f' = f := by
  unfold strW
  cases t f' <;> simp
def LInv (L : List Vt) (g : Turns) (t : Int → Int → Bool) (h : Whos) : Prop :=
  (∀ f, h f = none → ∀ s, g f s ≠ none → t f s = true) ∧
  ∀ f i, h f = some i → (i = -1 ∧ ∃ s, g f s = some (-1) ∧ t f s = false) ∨
    ∃ (n : Nat) (hn : n < L.length), i = (n : Int) ∧ L[n].f = f ∧ g f L[n].s = some (n : Int) ∧ t f L[n].s = false ∧ ∀ s, g f s ≠ none → t f s = false → g f s ≠ some (-1) ∧ s ≤ L[n].s
theorem LInv.start (L : List Vt) (g : Turns) : LInv L g (fun f s => (g f s).isSome) (fun _ => none) :=
  ⟨fun f _ s hs => by cases q : g f s with | none => exact absurd q hs | some i => simp [q], fun f i h => by cases h⟩
theorem LInv.other {L : List Vt} {g : Turns} {t : Int → Int → Bool} {h h' : Whos} (hl : LInv L g t h) (f0 s0 : Int) {f : Int} (hf : f ≠ f0) (e : h' f = h f) :
    (h' f = none → ∀ s, g f s ≠ none → strT t f0 s0 f s = true) ∧
    ∀ i, h' f = some i → (i = -1 ∧ ∃ s, g f s = some (-1) ∧ strT t f0 s0 f s = false) ∨
      ∃ (n : Nat) (hn : n < L.length), i = (n : Int) ∧ L[n].f = f ∧ g f L[n].s = some (n : Int) ∧ strT t f0 s0 f L[n].s = false ∧ ∀ s, g f s ≠ none → strT t f0 s0 f s = false → g f s ≠ some (-1) ∧ s ≤ L[n].s := by
  have et : ∀ s, strT t f0 s0 f s = t f s := fun s => by unfold strT; rw [decide_eq_false (fun k => hf k.1)]; simp
  rw [e]
  simp only [et]
  exact ⟨hl.1 f, hl.2 f⟩
/-- The entry of a turn has come: what holds of who it is of, from then on. -/
theorem LInv.step {L : List Vt} {g : Turns} {t : Int → Int → Bool} {h h' : Whos} (hl : LInv L g t h) (f0 s0 : Int) (hf : ∀ f, f ≠ f0 → h' f = h f)
    (h0 : (h' f0 = some (-1) ∧ ∃ s, g f0 s = some (-1) ∧ strT t f0 s0 f0 s = false) ∨ ∃ (n : Nat) (hn : n < L.length), h' f0 = some (n : Int) ∧ L[n].f = f0 ∧ g f0 L[n].s = some (n : Int) ∧ strT t f0 s0 f0 L[n].s = false ∧ ∀ s, g f0 s ≠ none → strT t f0 s0 f0 s = false → g f0 s ≠ some (-1) ∧ s ≤ L[n].s) :
    LInv L g (strT t f0 s0) h' := by
  have key : ∀ f, (h' f = none → ∀ s, g f s ≠ none → strT t f0 s0 f s = true) ∧
    ∀ i, h' f = some i → (i = -1 ∧ ∃ s, g f s = some (-1) ∧ strT t f0 s0 f s = false) ∨
      ∃ (n : Nat) (hn : n < L.length), i = (n : Int) ∧ L[n].f = f ∧ g f L[n].s = some (n : Int) ∧ strT t f0 s0 f L[n].s = false ∧ ∀ s, g f s ≠ none → strT t f0 s0 f s = false → g f s ≠ some (-1) ∧ s ≤ L[n].s := fun f => by
    by_cases e : f = f0
    · subst e
      rcases h0 with ⟨h1, h2⟩ | ⟨n, hn, h1, h2⟩
      · rw [h1]
        exact ⟨(fun k => by cases k), fun i hi => by injection hi with hi; exact Or.inl ⟨hi.symm, h2⟩⟩
      · rw [h1]
        exact ⟨(fun k => by cases k), fun i hi => by injection hi with hi; exact Or.inr ⟨n, hn, hi.symm, h2⟩⟩
    · exact hl.other f0 s0 e (hf f e)
  exact ⟨fun f => (key f).1, fun f => (key f).2⟩
theorem setW_same (h : Whos) (f i : Int) : setW h f i f = some i := if_pos rfl
theorem setW_other (h : Whos) {f f' : Int} (i : Int) (e : f' ≠ f) : setW h f i f' = h f' := if_neg e
/-- .. a double one. -/
theorem LInv.bad {L : List Vt} {g : Turns} {t : Int → Int → Bool} {h : Whos} (hl : LInv L g t h) {f0 s0 : Int} (hg : g f0 s0 = some (-1)) : LInv L g (strT t f0 s0) (setW h f0 (-1)) :=
  hl.step f0 s0 (fun f e => setW_other h _ e) (Or.inl ⟨setW_same _ _ _, s0, hg, strT_false.2 (Or.inr ⟨rfl, rfl⟩)⟩)
/-- .. the first one. -/
theorem LInv.fresh {L : List Vt} {q : Int → Bool} {g : Turns} {t : Int → Int → Bool} {h : Whos} (hG : GOk L q g) (hl : LInv L g t h) {f0 s0 i : Int} (hg : g f0 s0 = some i) (hn : h f0 = none) : LInv L g (strT t f0 s0) (setW h f0 i) := by
  rcases hG.at_ hg with e | ⟨n, hn', e, h1, h2⟩
  · subst e; exact hl.bad hg
  · subst e
    refine hl.step f0 s0 (fun f e => setW_other h _ e) (Or.inr ⟨n, hn', setW_same _ _ _, h1, by rw [h2]; exact hg, by rw [h2]; exact strT_false.2 (Or.inr ⟨rfl, rfl⟩), fun s h3 h4 => ?_⟩)
    rcases strT_false.1 h4 with h4 | ⟨_, h4⟩
    · have := hl.1 f0 hn s h3
      rw [h4] at this; cases this
    · subst h4
      rw [hg, h2]
      exact ⟨fun k => by injection k with k; omega, Int.le_refl _⟩
/-- .. of who is double already. -/
theorem LInv.still {L : List Vt} {g : Turns} {t : Int → Int → Bool} {h : Whos} (hl : LInv L g t h) {f0 : Int} (s0 : Int) (hh : h f0 = some (-1)) : LInv L g (strT t f0 s0) h := by
  refine hl.step f0 s0 (fun f _ => rfl) (Or.inl ⟨hh, ?_⟩)
  rcases hl.2 _ _ hh with ⟨_, s, h1, h2⟩ | ⟨n, _, h1, _⟩
  · exact ⟨s, h1, strT_false.2 (Or.inl h2)⟩
  · omega
/-- .. a later one. -/
theorem LInv.later {L : List Vt} {q : Int → Bool} {g : Turns} {t : Int → Int → Bool} {h : Whos} (hG : GOk L q g) (hl : LInv L g t h) {f0 s0 i : Int} {m : Nat} (hm : m < L.length) (hg : g f0 s0 = some i) (hi : i ≠ -1) (hh : h f0 = some (m : Int)) (hlt : L[m].s < s0) : LInv L g (strT t f0 s0) (setW h f0 i) := by
  rcases hG.at_ hg with e | ⟨n, hn', e, h1, h2⟩
  · exact absurd e hi
  · subst e
    refine hl.step f0 s0 (fun f e => setW_other h _ e) (Or.inr ⟨n, hn', setW_same _ _ _, h1, by rw [h2]; exact hg, by rw [h2]; exact strT_false.2 (Or.inr ⟨rfl, rfl⟩), fun s h3 h4 => ?_⟩)
    rcases strT_false.1 h4 with h4 | ⟨_, h4⟩
    · rcases hl.2 _ _ hh with ⟨k, _⟩ | ⟨m', hm', k, _, _, _, k2⟩
      · omega
      · have : m' = m := by omega
        subst this
        have := k2 s h3 h4
        exact ⟨this.1, by rw [h2]; omega⟩
    · subst h4
      rw [hg, h2]
      exact ⟨fun k => by injection k with k; omega, Int.le_refl _⟩
/-- .. one that is not later. -/
theorem LInv.early {L : List Vt} {q : Int → Bool} {g : Turns} {t : Int → Int → Bool} {h : Whos} (hG : GOk L q g) (hl : LInv L g t h) {f0 s0 i : Int} {m : Nat} (hm : m < L.length) (hg : g f0 s0 = some i) (hi : i ≠ -1) (hh : h f0 = some (m : Int)) (hlt : ¬ L[m].s < s0) : LInv L g (strT t f0 s0) h := by
  rcases hl.2 _ _ hh with ⟨k, _⟩ | ⟨m', hm', k, k0, k1, k3, k2⟩
  · omega
  · have : m' = m := by omega
    subst this
    refine hl.step f0 s0 (fun f _ => rfl) (Or.inr ⟨m', hm', hh, k0, k1, strT_false.2 (Or.inl k3), fun s h3 h4 => ?_⟩)
    rcases strT_false.1 h4 with h4 | ⟨_, h4⟩
    · exact k2 s h3 h4
    · subst h4
      rw [hg]
      exact ⟨fun k => by injection k with k; exact hi k, by omega⟩
def HOk (L : List Vt) (q : Int → Bool) (h : Whos) : Prop :=
  (∀ f, h f = none → ∀ a ∈ L, a.f = f → q a.s = false) ∧
  ∀ f i, h f = some i → (i = -1 ∧ ∀ v, Cnt L q v → v.f ≠ f) ∨ ∃ (n : Nat) (hn : n < L.length), i = (n : Int) ∧ L[n].f = f ∧ Cnt L q L[n]
theorem GOk.dbl {L : List Vt} {q : Int → Bool} {g : Turns} (hG : GOk L q g) {s f : Int} (hq : q s = true) (d : Dbl L s f) : g f s = some (-1) := by
  cases e : g f s with
  | none =>
    obtain ⟨a, ha, b, hb, h1, h2, h3, h4, ne⟩ := d
    have := hG.1 f s e a ha h1 h3
    rw [hq] at this; cases this
  | some i =>
    rcases (hG.2 f s i e).2 with h | ⟨h, _⟩
    · rw [h.1]
    · exact absurd d h
theorem GOk.there {L : List Vt} {q : Int → Bool} {g : Turns} (hG : GOk L q g) {a : Vt} (ha : a ∈ L) (hq : q a.s = true) : g a.f a.s ≠ none := fun e => by
  have := hG.1 _ _ e a ha rfl rfl
  rw [hq] at this; cases this
theorem GOk.notDbl {L : List Vt} {q : Int → Bool} {g : Turns} (hG : GOk L q g) {s f : Int} (hq : q s = true) (h : g f s ≠ some (-1)) : ¬ Dbl L s f := fun d => h (hG.dbl hq d)
theorem GOk.isDbl {L : List Vt} {q : Int → Bool} {g : Turns} (hG : GOk L q g) {s f : Int} (h : g f s = some (-1)) : q s = true ∧ Dbl L s f := by
  obtain ⟨h1, h2⟩ := hG.2 _ _ _ h
  rcases h2 with h2 | ⟨_, n, _, h3, _⟩
  · exact ⟨h1, h2.2⟩
  · omega
theorem LInv.done {L : List Vt} {q : Int → Bool} {g : Turns} {t : Int → Int → Bool} {h : Whos} (hG : GOk L q g) (hl : LInv L g t h) (ht : ∀ f s, g f s ≠ none → t f s = false) : HOk L q h := by
  constructor
  · intro f hf a ha e
    cases hq : q a.s with
    | false => rfl
    | true =>
      subst e
      have h1 := hG.there ha hq
      have := hl.1 _ hf a.s h1
      rw [ht _ _ h1] at this; cases this
  · intro f i hi
    rcases hl.2 f i hi with ⟨h1, s, h2, _⟩ | ⟨n, hn, h1, h2, h3, _, h4⟩
    · refine Or.inl ⟨h1, fun v hv e => ?_⟩
      obtain ⟨k1, k2⟩ := hG.isDbl h2
      subst e
      exact hv.2.2.1 s k1 k2
    · refine Or.inr ⟨n, hn, h1, h2, List.getElem_mem hn, (hG.2 _ _ _ h3).1, fun s hs => ?_, fun a ha e hq => ?_⟩
      · rw [h2]
        refine hG.notDbl hs fun k => ?_
        have k' : g f s ≠ none := by rw [k]; exact fun e => by cases e
        exact (h4 s k' (ht f s k')).1 k
      · have k := hG.there ha hq
        rw [e, h2] at k
        exact (h4 a.s k (ht f a.s k)).2

/-! ### The votes that count, in whatever order -/
def CInv (L : List Vt) (q : Int → Bool) (t : Int → Bool) (R : List Vt) : Prop := R.Pairwise (fun a b => a.f ≠ b.f) ∧ ∀ v, v ∈ R ↔ Cnt L q v ∧ t v.f = false
theorem CInv.start {L : List Vt} {q : Int → Bool} {h : Whos} (hH : HOk L q h) : CInv L q (fun f => (h f).isSome) [] := by
  refine ⟨List.Pairwise.nil, fun v => ⟨(fun k => by cases k), fun ⟨hv, k⟩ => ?_⟩⟩
  cases e : h v.f with
  | none => have := hH.1 _ e v hv.1 rfl; rw [hv.2.1] at this; cases this
  | some i => simp [e] at k
theorem CInv.bad {L : List Vt} {q : Int → Bool} {h : Whos} (hH : HOk L q h) {t : Int → Bool} {R : List Vt} (hc : CInv L q t R) {f0 : Int} (hh : h f0 = some (-1)) : CInv L q (strW t f0) R := by
  refine ⟨hc.1, fun v => ?_⟩
  rw [hc.2 v, strW_false]
  constructor
  · rintro ⟨h1, h2⟩; exact ⟨h1, Or.inl h2⟩
  · rintro ⟨h1, h2 | h2⟩
    · exact ⟨h1, h2⟩
    · rcases hH.2 _ _ hh with ⟨_, k⟩ | ⟨n, _, k, _⟩
      · exact absurd h2 (k v h1)
      · omega
theorem CInv.good {L : List Vt} {q : Int → Bool} {h : Whos} (hH : HOk L q h) {t : Int → Bool} {R : List Vt} (hc : CInv L q t R) {f0 : Int} {n : Nat} (hn : n < L.length) (hh : h f0 = some (n : Int)) (ht : t f0 = true) : CInv L q (strW t f0) (R ++ [L[n]]) := by
  rcases hH.2 _ _ hh with ⟨k, _⟩ | ⟨n', hn', k, kf, kc⟩
  · omega
  · have : n' = n := by omega
    subst this
    constructor
    · rw [List.pairwise_append]
      refine ⟨hc.1, List.pairwise_singleton _ _, fun a ha b hb => ?_⟩
      have : b = L[n'] := by simpa using hb
      subst this
      intro e
      have := ((hc.2 a).1 ha).2
      rw [e, kf, ht] at this
      cases this
    · intro v
      rw [List.mem_append, hc.2 v, strW_false]
      constructor
      · rintro (⟨h1, h2⟩ | h1)
        · exact ⟨h1, Or.inl h2⟩
        · have : v = L[n'] := by simpa using h1
          subst this
          exact ⟨kc, Or.inr kf⟩
      · rintro ⟨h1, h2 | h2⟩
        · exact Or.inl ⟨h1, h2⟩
        · right
          rw [cnt_one h1 kc (h2.trans kf.symm)]
          simp
theorem CInv.done {L : List Vt} {q : Int → Bool} {t : Int → Bool} {R : List Vt} (hc : CInv L q t R) (ht : ∀ v, Cnt L q v → t v.f = false) : R.Pairwise (fun a b => a.f ≠ b.f) ∧ ∀ v, v ∈ R ↔ Cnt L q v :=
  ⟨hc.1, fun v => (hc.2 v).trans ⟨fun h => h.1, fun h => ⟨h, ht v h⟩⟩⟩
/-- Put into order. -/
theorem cnts_of_sorted {L : List Vt} {q : Int → Bool} {R S : List Vt} (h : R.Pairwise (fun a b => a.f ≠ b.f) ∧ ∀ v, v ∈ R ↔ Cnt L q v) (hp : S.Perm R) (hs : S.Pairwise fun a b => a.f ≤ b.f) : Cnts L q S := by
  refine ⟨?_, fun v => hp.mem_iff.trans (h.2 v)⟩
  have hd : S.Pairwise (fun a b => a.f ≠ b.f) := (hp.pairwise_iff (fun {_ _} k => Ne.symm k)).2 h.1
  exact (hs.and hd).imp fun {a b} k => by have := k.1; have := k.2; omega

/-! ### Who is double, in whatever order -/
def DInv (g : Turns) (slot : Int) (t : Int → Int → Bool) (W : List Int) : Prop := W.Nodup ∧ ∀ f, f ∈ W ↔ g f slot = some (-1) ∧ t f slot = false
theorem DInv.start (g : Turns) (slot : Int) : DInv g slot (fun f s => (g f s).isSome) [] :=
  ⟨List.Pairwise.nil, fun f => ⟨(fun k => by cases k), fun ⟨h1, h2⟩ => by simp [h1] at h2⟩⟩
theorem DInv.bad {g : Turns} {slot : Int} {t : Int → Int → Bool} {W : List Int} (h : DInv g slot t W) {f0 : Int} (hg : g f0 slot = some (-1)) (ht : t f0 slot = true) : DInv g slot (strT t f0 slot) (W ++ [f0]) := by
  constructor
  · rw [List.nodup_append]
    refine ⟨h.1, List.pairwise_singleton _ _, fun a ha b hb => ?_⟩
    have : b = f0 := by simpa using hb
    subst this
    intro e
    subst e
    have := ((h.2 a).1 ha).2
    rw [ht] at this; cases this
  · intro f
    rw [List.mem_append, h.2 f, strT_false]
    constructor
    · rintro (⟨h1, h2⟩ | h1)
      · exact ⟨h1, Or.inl h2⟩
      · have : f = f0 := by simpa using h1
        subst this
        exact ⟨hg, Or.inr ⟨rfl, rfl⟩⟩
    · rintro ⟨h1, h2 | ⟨h2, _⟩⟩
      · exact Or.inl ⟨h1, h2⟩
      · right; simp [h2]
theorem DInv.good {g : Turns} {slot : Int} {t : Int → Int → Bool} {W : List Int} (h : DInv g slot t W) {f0 i : Int} (hg : g f0 slot = some i) (hi : i ≠ -1) : DInv g slot (strT t f0 slot) W := by
  refine ⟨h.1, fun f => ?_⟩
  rw [h.2 f, strT_false]
  constructor
  · rintro ⟨h1, h2⟩; exact ⟨h1, Or.inl h2⟩
  · rintro ⟨h1, h2 | ⟨h2, _⟩⟩
    · exact ⟨h1, h2⟩
    · subst h2
      rw [hg] at h1
      injection h1 with h1
      exact absurd h1 hi
theorem DInv.done {L : List Vt} {slot : Int} {g : Turns} (hG : GOk L (isQ slot) g) {t : Int → Int → Bool} {W : List Int} (h : DInv g slot t W) (ht : ∀ f, g f slot ≠ none → t f slot = false) : W.Nodup ∧ ∀ f, f ∈ W ↔ Dbl L slot f := by
  refine ⟨h.1, fun f => (h.2 f).trans ⟨fun k => (hG.isDbl k.1).2, fun d => ?_⟩⟩
  have k := hG.dbl (isQ_iff.2 rfl) d
  exact ⟨k, ht f (by rw [k]; exact fun e => by cases e)⟩
theorem dbls_of_sorted {L : List Vt} {slot : Int} {W S : List Int} (h : W.Nodup ∧ ∀ f, f ∈ W ↔ Dbl L slot f) (hp : S.Perm W) (hs : S.Pairwise fun a b => a ≤ b) : Dbls L slot S := by
  refine ⟨?_, fun f => hp.mem_iff.trans (h.2 f)⟩
  have hd : S.Pairwise (fun a b => a ≠ b) := hp.nodup_iff.2 h.1
  exact (hs.and hd).imp fun {a b} k => by have := k.1; have := k.2; omega
end

section
open Go.ChangeShapes Go.WideShapes Go.ChangeAt Go.RowKit

/-- Its numbers are numbers, its words are words. -/
def Wf64 (a : Int) : Prop := -9223372036854775808 ≤ a ∧ a ≤ 9223372036854775807
theorem Wf64.wf {a : Int} (h : Wf64 a) : (Lit.int .i64 a).wf = true := Go.WalkArith.wf_i64 h
theorem Wf64.of {a : Int} (h : (Lit.int .i64 a).wf = true) : Wf64 a := bounds_i64 h
def WfV (v : Vt) : Prop := Wf64 v.f ∧ Wf64 v.s ∧ v.p.1 < 18446744073709551616 ∧ v.p.2 < 18446744073709551616
def WfVs (L : List Vt) : Prop := ∀ v ∈ L, WfV v
def vtCells (v : Vt) : List Value := [.int .i64 v.f, .int .i64 v.s, .int .u64 v.p.1, .int .u64 v.p.2]
def votesCells (l : List Vt) : List Value := l.flatMap vtCells
theorem votesCells_at : ∀ {l : List Vt} {i : Nat} (hi : i < l.length) {j : Nat} {u : Value}, (vtCells l[i])[j]? = some u → (votesCells l)[i * 4 + j]? = some u
  | b :: l, 0, _, j, u, h => by
    have hj : j < (vtCells b).length := (List.getElem?_eq_some_iff.1 h).1
    show (vtCells b ++ votesCells l)[0 * 4 + j]? = _
    rw [Nat.zero_mul, Nat.zero_add, List.getElem?_append_left hj]; exact h
  | b :: l, i + 1, hi, j, u, h => by
    show (vtCells b ++ votesCells l)[(i + 1) * 4 + j]? = _
    have h5 : (vtCells b).length = 4 := rfl
    rw [List.getElem?_append_right (by omega), h5, show (i + 1) * 4 + j - 4 = i * 4 + j by omega]
    exact votesCells_at (l := l) (by simpa using hi) h
theorem votesCells_length (l : List Vt) : (votesCells l).length = l.length * 4 := by
  induction l with
  | nil => rfl
  | cons b l ih => show (vtCells b ++ votesCells l).length = _; rw [List.length_append, ih, List.length_cons]; show 4 + _ = _; omega
theorem votesCells_append (l m : List Vt) : votesCells l ++ votesCells m = votesCells (l ++ m) := by simp [votesCells]
theorem votesCells_one (l : List Vt) : ∀ u ∈ votesCells l, u.oneCell' = true := fun u hu => by
  simp only [votesCells, List.mem_flatMap] at hu
  obtain ⟨x, _, hu⟩ := hu
  simp [vtCells] at hu
  rcases hu with rfl | rfl | rfl | rfl <;> rfl
theorem votesCells_inv {l : List Vt} {j : Nat} {u : Value} (h : (votesCells l)[j]? = some u) : ∃ (i k : Nat) (hi : i < l.length), k < 4 ∧ j = i * 4 + k ∧ (vtCells l[i])[k]? = some u := by
  have hj := (List.getElem?_eq_some_iff.1 h).1
  rw [votesCells_length] at hj
  have hi : j / 4 < l.length := by omega
  have hk : j % 4 < (vtCells l[j / 4]).length := by show j % 4 < 4; omega
  refine ⟨j / 4, j % 4, hi, by omega, by omega, ?_⟩
  have e := votesCells_at hi (List.getElem?_eq_getElem hk)
  rw [show j / 4 * 4 + j % 4 = j by omega, h] at e
  rw [List.getElem?_eq_getElem hk]
  exact e.symm
/-- Vote i of a list. -/
theorem vote_at {w : World} {B : Nat} {A : Option Addr} {l : List Vt} (h : CellsAt w B A (votesCells l)) {i : Nat} (hi : i < l.length) :
    ∃ z o, A = some ⟨z, o, none⟩ ∧ z < B ∧ w.cell? ⟨z, o + i * 4, none⟩ = some (.int .i64 l[i].f) ∧ w.cell? ⟨z, o + i * 4 + 1, none⟩ = some (.int .i64 l[i].s) ∧ w.cell? ⟨z, o + i * 4 + 2, none⟩ = some (.int .u64 l[i].p.1) ∧ w.cell? ⟨z, o + i * 4 + 3, none⟩ = some (.int .u64 l[i].p.2) := by
  obtain ⟨z, o, e, hb, hc⟩ := h.plain (by rw [votesCells_length]; omega)
  exact ⟨z, o, e, hb, hc _ _ (votesCells_at hi (j := 0) rfl), hc _ _ (votesCells_at hi (j := 1) rfl), hc _ _ (votesCells_at hi (j := 2) rfl), hc _ _ (votesCells_at hi (j := 3) rfl)⟩
/-- Are two votes the same? -/
def sameV (a b : Vt) : Bool := decide (a.f = b.f ∧ a.s = b.s ∧ a.p.1 = b.p.1 ∧ a.p.2 = b.p.2)
theorem sameV_iff {a b : Vt} : sameV a b = true ↔ a = b := by
  unfold sameV
  rw [decide_eq_true_iff]
  constructor
  · rintro ⟨h1, h2, h3, h4⟩
    cases a; cases b
    simp only at h1 h2 h3 h4
    rw [Vt.mk.injEq]
    exact ⟨h1, h2, Prod.ext h3 h4⟩
  · rintro rfl; exact ⟨rfl, rfl, rfl, rfl⟩
theorem sameV_no {a b : Vt} (h : sameV a b = false) : a ≠ b := fun e => by rw [sameV_iff.2 e] at h; cases h
theorem eqV (a b : Vt) (w : World) : Sem.run Try.prog (Op.equalIn 10000 45 (.agg #[.int .i64 a.f, .int .i64 a.s, .int .u64 a.p.1, .int .u64 a.p.2]) (.agg #[.int .i64 b.f, .int .i64 b.s, .int .u64 b.p.1, .int .u64 b.p.2])) w = .ok (sameV a b) w := by
  rw [eqVote]
  congr 1
  rw [Bool.eq_iff_iff]
  unfold sameV
  simp
  omega

/-! ### A list of votes of one's own -/
theorem Try.infoV : (Try.prog.info? 45).map (fun i => (i.zero, i.size, i.bytes)) = some (some (.agg #[.int .i64 0, .int .i64 0, .int .u64 0, .int .u64 0]), 4, 32) := by kernel_rfl
/-- v holds the votes of l, in a row of its own; all that lay in W lies as it was. -/
def Vts (W : World) (l : List Vt) (v : Value) (w : World) : Prop := w.ownsRow W.heap.size 45 4 v l.length (votesCells l) ∧ Kept W w
theorem Vts.nil (W : World) : Vts W [] (.slice none 0 0) W := ⟨World.ownsRow_nil _ _ _ _, Kept.refl _⟩
theorem Vts.none {W w : World} (k : Kept W w) : Vts W [] (.slice none 0 0) w := ⟨World.ownsRow_nil _ _ _ _, k⟩
theorem Vts.alloc {W w : World} {l : List Vt} {v : Value} (h : Vts W l v w) (o : Obj) : Vts W l v (w.alloc o) := ⟨h.1.alloc o, h.2.alloc o⟩
theorem Vts.kept {W w w' : World} {l : List Vt} {v : Value} (h : Vts W l v w) (k : Kept w w') : Vts W l v w' := by
  refine ⟨⟨h.1.1, ?_⟩, h.2.trans k⟩
  rcases h.1.2 with h2 | ⟨g, cap, cur, hv, hg, hh, r⟩
  · exact Or.inl h2
  · exact Or.inr ⟨g, cap, cur, hv, hg, by rw [k.heap (h.1.lt g (by rw [hv]; rfl)).2]; exact hh, r⟩
theorem votes_one_at {w : World} {z : Nat} {x : Vt} (h : HasCells w z [.int .i64 x.f, .int .i64 x.s, .int .u64 x.p.1, .int .u64 x.p.2]) : CellsAt w w.heap.size (some ⟨z, 0, none⟩) (votesCells [x]) := by
  intro j u hu
  refine ⟨_, rfl, h.1, ?_⟩
  rw [add_none, Nat.zero_add]
  exact h.2 j u (by simpa [votesCells, vtCells] using hu)
/-- append of votes. -/
theorem wpList_vts {ops : Array Oper} {rest : List Oper} {o : Oper} {a : Act} {Q : Exit → Act → World → Prop} (w : World) (hgd : o.guard = none) (s x : Operand)
    (ho : o.op = .call { callee := .builtin .append, args := #[s, x], argTypes := #[27, 27] })
    (W : World) (l : List Vt) (v : Value) (hs : a.eval s = v) (HB : Vts W l v w) (B : Nat) (A : Option Addr) (m c : Nat) (news : List Vt) (hx : a.eval x = .slice A m c) (hl : news.length = m)
    (hr : CellsAt w B A (votesCells news)) (hlen : l.length + m ≤ 10000000)
    (h : ∀ v' w', Vts W (l ++ news) v' w' → w.grownBy w' v.ownBlock → wpList Try.prog ops Q rest (a.put o.dst v') w') : wpList Try.prog ops Q (o :: rest) a w := by
  obtain ⟨i0, hi0, hz0, hz1, hz2⟩ := info_of Try.infoV
  refine wpList_app w hgd s x _ ho W.heap.size 45 i0 _ 4 32 Try.underlying27 hi0 hz0 hz1 hz2 rfl (by omega) v l.length (votesCells l) hs HB.1 B A m c (votesCells news) hx (by rw [votesCells_length, hl]) hr (votesCells_one _)
    (by unfold maxLen; omega) (by omega) HB.2.size_le ?_
  intro v' w' own g _
  refine h v' w' ⟨?_, HB.2.grown g fun i hi => (HB.1.lt i hi).1⟩ g
  rw [votesCells_append] at own
  rw [List.length_append, hl]
  exact own
/-- What hands back the votes of l, as a list that is new. -/
def VtsNew (l : List Vt) (w : World) (e : Ending) (w' : World) : Prop :=
  ∃ A c, e = .returned (.slice A l.length c) ∧ CellsAt w' w'.heap.size A (votesCells l) ∧ Kept w w'
theorem Vts.slice {W w : World} {l : List Vt} {v : Value} (h : Vts W l v w) : ∃ A c, v = .slice A l.length c := by
  rcases h.1.2 with ⟨hv, h0⟩ | ⟨g, cap, cur, hv, _⟩
  · rw [h0]; exact ⟨_, _, hv⟩
  · exact ⟨_, _, hv⟩
theorem Vts.new {W w : World} {l : List Vt} {A : Option Addr} {c : Nat} (h : Vts W l (.slice A l.length c) w) : VtsNew l W (.returned (.slice A l.length c)) w := ⟨A, c, rfl, CellsAt.of_own h.1, h.2⟩
/-- The votes from place k on. -/
theorem from_votes {w : World} {B : Nat} {A : Option Addr} {l : List Vt} (h : CellsAt w B A (votesCells l)) (c k : Nat) (hk : k ≤ l.length) (hc : l.length ≤ c) :
    ∃ A', (∀ w', (Instr.slice 27 (.slice A l.length c) (some (.int .i64 (k : Int))) none none).run Try.prog w' = .ok (.slice A' (l.length - k) (c - k)) w') ∧ CellsAt w B A' (votesCells (l.drop k)) := by
  obtain ⟨i, hi, _, hs, _⟩ := info_of Try.infoV
  refine ⟨_, fun w' => run_from _ _ i Try.underlying27 hi A l.length c k hk w', ?_⟩
  have e : votesCells l = votesCells (l.take k) ++ votesCells (l.drop k) := by rw [votesCells_append, List.take_append_drop]
  by_cases q : c = k
  · have : l.drop k = [] := List.drop_eq_nil_of_le (by omega)
    rw [this]
    exact CellsAt.nil
  · rw [if_neg q, hs]
    rw [e] at h
    have := cells_from h
    rw [votesCells_length, List.length_take, Nat.min_eq_left hk] at this
    exact this
end

section
open Go.ChangeShapes Go.WideShapes Go.ChangeAt Go.RowKit

section
variable {H : Type} {enc : TypeId × Value → H} {W : World} {base : Nat} {sp : Nat → Bool} {held : Bool} {r : Reach} {b0 : Nat} {v : Value} {d : DataW H} {ps : List MemPlace}

theorem Try.cVt : Try.prog.cellsOf 45 = 4 := by kernel_rfl
theorem read_vote {fuel : Nat} {l : List Value} {x : DataW H × List MemPlace} (h : DataW.trod enc Try.prog W base sp held fuel 45 l = some x) : ∃ b : Vt, l = vtCells b ∧ WfV b := by
  obtain ⟨xs, m, _, _, hl, hn, hi⟩ := DataW.trod_struct Try.underlying45 h
  rw [Try.cVt] at hl
  match l, hl with
  | [c0, c1, c2, c3], _ =>
    have hn' : xs.length = 3 := hn
    have h0 : DataW.trod enc Try.prog W base sp held m 3 (([c0, c1, c2, c3].drop 0).take (Try.prog.cellsOf 3)) = xs[0]? := hi 0 _ rfl
    have h1 : DataW.trod enc Try.prog W base sp held m 3 (([c0, c1, c2, c3].drop 1).take (Try.prog.cellsOf 3)) = xs[1]? := hi 1 _ rfl
    have h2 : DataW.trod enc Try.prog W base sp held m 39 (([c0, c1, c2, c3].drop 2).take (Try.prog.cellsOf 39)) = xs[2]? := hi 2 _ rfl
    rw [List.getElem?_eq_getElem (by omega)] at h0 h1 h2
    rw [Try.cI] at h0 h1
    rw [Try.cID] at h2
    obtain ⟨a, rfl, a1, a2⟩ := read_int (c := c0) h0
    obtain ⟨b, rfl, b1, b2⟩ := read_int (c := c1) h1
    obtain ⟨p, rfl, rfl, hp, hq⟩ := read_id (c0 := c2) (c1 := c3) h2
    exact ⟨⟨a, b, p⟩, rfl, ⟨a1, a2⟩, ⟨b1, b2⟩, hp, hq⟩
theorem open_vt (hval : Value.okWide Try.prog W r b0 45 v) (hd : DataW.Trod enc Try.prog W base sp held 45 v d ps) : ∃ b : Vt, v = .agg #[.int .i64 b.f, .int .i64 b.s, .int .u64 b.p.1, .int .u64 b.p.2] ∧ WfV b := by
  simp only [Value.okWide, Try.underlying45] at hval
  obtain ⟨cs, rfl, _, _⟩ := hval
  obtain ⟨fuel, hf⟩ := hd
  obtain ⟨b, hb, hw⟩ := read_vote hf
  exact ⟨b, agg_of hb, hw⟩
theorem read_votes {fuel : Nat} {cs : List Value} {x : DataW H × List MemPlace} (h : DataW.trod enc Try.prog W base sp held fuel 27 cs = some x) :
    ∃ (A : Option Addr) (c : Nat) (l : List Vt), cs = [.slice A l.length c] ∧ l.length ≤ maxLen ∧ l.length ≤ c ∧ WfVs l ∧ CellsAt W W.heap.size A (votesCells l) := by
  rcases Go.Deep.open_slice Try.underlying27 h with ⟨hcs, _⟩ | ⟨a, len, cap, m, n, D, Pl, hcs, hb, hl, hm, hmm, _, hi⟩
  · exact ⟨none, 0, [], hcs, Nat.zero_le _, Nat.zero_le _, (fun _ h => by cases h), CellsAt.nil⟩
  · have hlm : len ≤ m := by rw [hmm]; split <;> omega
    have hall : ∀ i, ∃ b : Vt, i < len → (∀ k u, (vtCells b)[k]? = some u → W.cell? (a.add (i * 4 + k)) = some u) ∧ WfV b := fun i => by
      by_cases q : i < len
      · obtain ⟨cs', hc, ht⟩ := hi i (by omega)
        obtain ⟨b, rfl, hb⟩ := read_vote ht
        obtain ⟨_, hcl, hat⟩ := World.cells?_some hc
        refine ⟨b, fun _ => ⟨fun k u hu => ?_, hb⟩⟩
        have hk : k < 4 := (List.getElem?_eq_some_iff.1 hu).1
        have := hat k (by rw [Try.cVt]; exact hk)
        rw [Try.cVt, Go.Deep.add_add] at this
        rw [this]
        exact hu
      · exact ⟨⟨0, 0, (0, 0)⟩, fun q' => absurd q' q⟩
    let F : Nat → Vt := fun i => (hall i).choose
    have hF : ∀ i, i < len → (∀ k u, (vtCells (F i))[k]? = some u → W.cell? (a.add (i * 4 + k)) = some u) ∧ WfV (F i) := fun i => (hall i).choose_spec
    have hlen : ((List.range len).map F).length = len := by simp
    refine ⟨some a, cap, (List.range len).map F, by rw [hlen]; exact hcs, by rw [hlen]; omega, by rw [hlen]; exact hl, ?_, ?_⟩
    · intro b hb
      obtain ⟨i, hi, rfl⟩ := List.mem_map.1 hb
      exact (hF i (List.mem_range.1 hi)).2
    · intro j u hu
      obtain ⟨i, k, hil, hk, rfl, e⟩ := votesCells_inv hu
      rw [hlen] at hil
      have hc := (hF i hil).1 k u (by simpa using e)
      have hb := World.block_lt_of_cell? W _ hc
      rw [block_add] at hb
      exact ⟨a, rfl, hb, hc⟩
theorem open_votes (hval : Value.okWide Try.prog W r b0 27 v) (hd : DataW.Trod enc Try.prog W base sp held 27 v d ps) :
    ∃ (A : Option Addr) (c : Nat) (l : List Vt), v = .slice A l.length c ∧ l.length ≤ maxLen ∧ l.length ≤ c ∧ WfVs l ∧ CellsAt W W.heap.size A (votesCells l) := by
  obtain ⟨A, n, c, rfl⟩ := okWide_slice Try.underlying27 hval
  obtain ⟨fuel, hf⟩ := hd
  obtain ⟨A', c', l, hcs, h1, h2, h3, h4⟩ := read_votes hf
  simp [Value.cells] at hcs
  obtain ⟨rfl, rfl, rfl⟩ := hcs
  exact ⟨_, _, l, rfl, h1, h2, h3, h4⟩
end
end

section
theorem dbl_iff {L M : List Vt} (h : ∀ v, v ∈ L ↔ v ∈ M) (s f : Int) : Dbl L s f ↔ Dbl M s f := ⟨Dbl.of fun v => (h v).1, Dbl.of fun v => (h v).2⟩
theorem cnt_iff {L M : List Vt} (h : ∀ v, v ∈ L ↔ v ∈ M) (q : Int → Bool) (v : Vt) : Cnt L q v ↔ Cnt M q v := by
  unfold Cnt
  simp only [h, dbl_iff h]
theorem Dbls.same {L M : List Vt} (h : ∀ v, v ∈ L ↔ v ∈ M) {s : Int} {R S : List Int} (hR : Dbls L s R) (hS : Dbls M s S) : R = S :=
  hR.unique ⟨hS.1, fun f => (hS.2 f).trans (dbl_iff h s f).symm⟩
theorem Cnts.same {L M : List Vt} (h : ∀ v, v ∈ L ↔ v ∈ M) {q : Int → Bool} {R S : List Vt} (hR : Cnts L q R) (hS : Cnts M q S) : R = S :=
  hR.unique ⟨hS.1, fun v => (hS.2 v).trans (cnt_iff h q v).symm⟩
theorem mem_cut (l : List Vt) (j : Nat) (v : Vt) : v ∈ l ↔ v ∈ [] ++ l.drop j ++ l := by
  constructor
  · intro h; exact List.mem_append_right _ h
  · intro h
    rcases List.mem_append.1 h with h | h
    · exact List.mem_of_mem_drop (by simpa using h)
    · exact h
theorem WfVs.cut {l : List Vt} (h : WfVs l) (j : Nat) : WfVs ([] ++ l.drop j ++ l) := fun v hv => h v ((mem_cut l j v).2 hv)

/-! ### How often somebody is there -/
theorem count_none {α : Type} (k : α → Int) {f : Int} {R : List α} (h : ∀ v ∈ R, k v ≠ f) : R.countP (fun a => decide (k a = f)) = 0 := by
  rw [List.countP_eq_zero]
  intro a ha
  simpa using h a ha
theorem count_one {α : Type} (k : α → Int) {f : Int} : ∀ {R : List α}, R.Pairwise (fun a b => k a < k b) → ∀ v ∈ R, k v = f → R.countP (fun a => decide (k a = f)) = 1
  | [], _, v, hv, _ => by cases hv
  | a :: R, hR, v, hv, e => by
    have hR' := List.pairwise_cons.1 hR
    rw [List.countP_cons]
    by_cases ha : k a = f
    · rw [count_none k fun b hb => by have := hR'.1 b hb; omega]
      simp [ha]
    · rcases List.mem_cons.1 hv with h | h
      · subst h; exact absurd e ha
      · rw [count_one k hR'.2 v h e]
        simp [ha]
theorem countP_snoc {α : Type} (p : α → Bool) (M : List α) (v : α) : (M ++ [v]).countP p = M.countP p + (if p v then 1 else 0) := by
  rw [List.countP_append, List.countP_singleton]
/-- Each who has a vote of a slot: it counts, or they are double. -/
theorem own_counts {L : List Vt} {x : Vt} (hx : x ∈ L) (hd : ¬ Dbl L x.s x.f) : Cnt L (isQ x.s) x :=
  ⟨hx, isQ_iff.2 rfl, fun s hs => by rw [isQ_iff.1 hs]; exact hd, fun a _ _ hq => Int.le_of_eq (isQ_iff.1 hq)⟩
theorem each_one {L : List Vt} {x : Vt} (hx : x ∈ L) {R : List Vt} (hR : Cnts L (isQ x.s) R) {v : Vt} (hv : v ∈ R) (e : v.f = x.f) : v = x := by
  have hc := (hR.2 v).1 hv
  have hd : ¬ Dbl L x.s x.f := by have := hc.2.2.1 x.s (isQ_iff.2 rfl); rw [e] at this; exact this
  exact cnt_one hc (own_counts hx hd) e
theorem each_sum {L : List Vt} {x : Vt} (hx : x ∈ L) {R : List Vt} (hR : Cnts L (isQ x.s) R) {D : List Int} (hD : Dbls L x.s D) : R.countP (fun v => decide (v.f = x.f)) + D.countP (fun f => decide (f = x.f)) = 1 := by
  by_cases hd : Dbl L x.s x.f
  · rw [count_none Vt.f fun v hv e => ((hR.2 v).1 hv).2.2.1 x.s (isQ_iff.2 rfl) (by rw [e]; exact hd)]
    have := count_one (k := fun f : Int => f) hD.1 x.f ((hD.2 _).2 hd) rfl
    omega
  · rw [count_one Vt.f hR.1 x ((hR.2 x).2 (own_counts hx hd)) rfl]
    have := count_none (k := fun f : Int => f) (R := D) (f := x.f) fun v hv e => hd (by rw [← e]; exact (hD.2 v).1 hv)
    omega

/-! ### What counts, one by one -/
theorem Cnts.mem {L : List Vt} {q : Int → Bool} {R : List Vt} (h : Cnts L q R) {j : Nat} (hj : j < R.length) : R[j] ∈ L := ((h.2 _).1 (List.getElem_mem hj)).1
theorem Cnts.fits {L : List Vt} {q : Int → Bool} {R : List Vt} (h : Cnts L q R) {j : Nat} (hj : j < R.length) : q R[j].s = true := ((h.2 _).1 (List.getElem_mem hj)).2.1
theorem Cnts.rise {L : List Vt} {q : Int → Bool} {R : List Vt} (h : Cnts L q R) {i j : Nat} (hj : j < R.length) (hij : i < j) : R[i].f < R[j].f := List.pairwise_iff_getElem.1 h.1 i j (by omega) hj hij
theorem Cnts.notDbl {L : List Vt} {q : Int → Bool} {R : List Vt} (h : Cnts L q R) {j : Nat} (hj : j < R.length) {s : Int} (hs : q s = true) {D : List Int} (hD : Dbls L s D) {k : Nat} (hk : k < D.length) : ¬ D[k] = R[j].f := fun e => by
  have h1 := ((h.2 _).1 (List.getElem_mem hj)).2.2.1 s hs
  have h2 := (hD.2 _).1 (List.getElem_mem hk)
  rw [e] at h2
  exact h1 h2

/-! ### The last one -/
theorem max_slot : ∀ {M : List Vt}, M ≠ [] → ∃ v ∈ M, ∀ a ∈ M, a.s ≤ v.s
  | [], h => absurd rfl h
  | [a], _ => ⟨a, by simp, fun b hb => by have : b = a := by simpa using hb
                                          rw [this]; exact Int.le_refl _⟩
  | a :: b :: M, _ => by
    obtain ⟨v, hv, h⟩ := max_slot (M := b :: M) (by simp)
    by_cases e : a.s ≤ v.s
    · refine ⟨v, List.mem_cons_of_mem _ hv, fun c hc => ?_⟩
      rcases List.mem_cons.1 hc with h1 | h1
      · rw [h1]; exact e
      · exact h c h1
    · refine ⟨a, List.mem_cons_self, fun c hc => ?_⟩
      rcases List.mem_cons.1 hc with h1 | h1
      · rw [h1]; exact Int.le_refl _
      · have := h c h1; omega
theorem last_ex {L : List Vt} {q : Int → Bool} {x : Vt} (hx : x ∈ L) (hq : q x.s = true) (hno : ∀ s, q s = true → ¬ Dbl L s x.f) : ∃ v, Cnt L q v ∧ v.f = x.f := by
  obtain ⟨v, hv, h⟩ := max_slot (M := L.filter fun a => decide (a.f = x.f) && q a.s) (fun e => by
    have : x ∈ L.filter fun a => decide (a.f = x.f) && q a.s := List.mem_filter.2 ⟨hx, by simp [hq]⟩
    rw [e] at this; cases this)
  have hv' := List.mem_filter.1 hv
  have hf : v.f = x.f := by have := hv'.2; simp at this; exact this.1
  have hs : q v.s = true := by have := hv'.2; simp at this; exact this.2
  refine ⟨v, ⟨hv'.1, hs, fun s hs => by rw [hf]; exact hno s hs, fun a ha e hqa => h a (List.mem_filter.2 ⟨ha, by simp [e, hf, hqa]⟩)⟩, hf⟩
theorem later_le {L : List Vt} {u : Int} {R : List Vt} (hR : Cnts L (upQ u) R) {x : Vt} (hx : x ∈ L) (hu : x.s ≤ u) {v : Vt} (hv : v ∈ R) (e : v.f = x.f) : x.s ≤ v.s := ((hR.2 v).1 hv).2.2.2 x hx e.symm (upQ_iff.2 hu)
theorem later_bad {L : List Vt} {u : Int} {R : List Vt} (hR : Cnts L (upQ u) R) {x : Vt} (hx : x ∈ L) (hu : x.s ≤ u) (hno : ∀ v ∈ R, v.f ≠ x.f) (hd : ∀ a ∈ L, a.f = x.f → a.s ≤ u → ¬ Dbl L a.s x.f) : False := by
  obtain ⟨v, hv, e⟩ := last_ex hx (upQ_iff.2 hu) fun s hs d => by
    obtain ⟨a, ha, b, hb, h1, h2, h3, h4, ne⟩ := d
    exact hd a ha h1 (by rw [h3]; exact upQ_iff.1 hs) ⟨a, ha, b, hb, h1, h2, rfl, by rw [h4, h3], ne⟩
  exact hno v ((hR.2 v).2 hv) e
end

section
set_option linter.unusedSimpArgs false
set_option linter.unusedVariables false
open Go.ChangeShapes Go.WideShapes Go.ChangeAt Go.RowKit

theorem vtCells_length (x : Vt) : (vtCells x).length = 4 := rfl
theorem votesCells_set : ∀ {l : List Vt} {i j : Nat} {u : Value} {t : Vt} (hi : i < l.length) (_ : j < 4) (_ : (vtCells l[i]).set j u = vtCells t), (votesCells l).set (i * 4 + j) u = votesCells (l.set i t)
  | b :: l, 0, j, u, t, _, hj, h => by
    show (vtCells b ++ votesCells l).set (0 * 4 + j) u = vtCells t ++ votesCells l
    rw [Nat.zero_mul, Nat.zero_add, List.set_append_left _ _ (by rw [vtCells_length]; exact hj)]
    rw [show (vtCells b).set j u = vtCells t from h]
  | b :: l, i + 1, j, u, t, hi, hj, h => by
    show (vtCells b ++ votesCells l).set ((i + 1) * 4 + j) u = vtCells b ++ votesCells (l.set i t)
    have h5 : (vtCells b).length = 4 := rfl
    rw [List.set_append_right _ _ (by omega), h5, show (i + 1) * 4 + j - 4 = i * 4 + j by omega]
    rw [votesCells_set (l := l) (by simpa using hi) hj h]
theorem vtown_set {w : World} {base : Nat} {e : TypeId} {size n n' cap g : Nat} {xs : List Value} (h : w.ownsRow base e size (.slice (some ⟨g, 0, .none⟩) n cap) n' xs) (j : Nat) (u : Value) (hj : j < xs.length) :
    (w.setCell ⟨g, j, .none⟩ u).ownsRow base e size (.slice (some ⟨g, 0, .none⟩) n cap) n' (xs.set j u) := by
  refine ⟨by rw [List.length_set]; exact h.1, ?_⟩
  rcases h.2 with ⟨hv, _⟩ | ⟨g', cap', cur, hv, hb, hg, hn, hm, hs, ht⟩
  · cases hv
  · cases hv
    refine Or.inr ⟨g, cap, cur.setIfInBounds j u, rfl, hb, ?_, hn, hm, by simpa using hs, ?_⟩
    · simp [World.setCell, Array.getElem?_modify, hg]
    · rw [Array.toList_setIfInBounds, List.take_set, ht]
theorem Vts.lower {W W1 w : World} {l : List Vt} {v : Value} (h : Vts W1 l v w) (k : Kept W W1) : Vts W l v w := by
  refine ⟨⟨h.1.1, ?_⟩, k.trans h.2⟩
  rcases h.1.2 with h2 | ⟨g, cap, cur, hv, hg, r⟩
  · exact Or.inl h2
  · exact Or.inr ⟨g, cap, cur, hv, Nat.le_trans k.size_le hg, r⟩
theorem Vts.cells {W w : World} {l : List Vt} {A : Option Addr} {n c : Nat} (h : Vts W l (.slice A n c) w) (hn : n = l.length) : CellsAt w w.heap.size A (votesCells l) := by
  subst hn; exact CellsAt.of_own h.1
theorem Vts.long {W w : World} {l : List Vt} {A : Option Addr} {n c : Nat} (h : Vts W l (.slice A n c) w) : n = l.length := by
  obtain ⟨A', c', e⟩ := h.slice
  injection e
theorem Vts.cap {W w : World} {l : List Vt} {A : Option Addr} {n c : Nat} (h : Vts W l (.slice A n c) w) : n ≤ c := by
  rcases h.1.2 with ⟨e, _⟩ | ⟨g, cap, cur, hv, hg, hh, h1, _⟩
  · injection e; omega
  · rw [h.long]; injection hv; omega
/-- One that is not empty lies in a block that is new. -/
theorem Vts.form {W w : World} {l : List Vt} {A : Option Addr} {n c : Nat} (h : Vts W l (.slice A n c) w) (h0 : 0 < l.length) : ∃ g, A = some ⟨g, 0, .none⟩ ∧ W.heap.size ≤ g ∧ g < w.heap.size := by
  rcases h.1.2 with ⟨_, e⟩ | ⟨g, cap, cur, hv, hg, hh, _⟩
  · omega
  · injection hv with e1
    exact ⟨g, e1, hg, (Array.getElem?_eq_some_iff.1 hh).1⟩
theorem Vts.frozen {W w : World} {l : List Vt} {g n c : Nat} (h : Vts W l (.slice (some ⟨g, 0, .none⟩) n c) w) (j : Nat) : w.frozen? ⟨g, j, .none⟩ = false := by
  rcases h.1.2 with ⟨hv, _⟩ | ⟨g', cap', cur, hv, hb, hg, _⟩
  · cases hv
  · cases hv
    simp [World.frozen?, hg]
theorem Vts.ge {W w : World} {l : List Vt} {g n c : Nat} (h : Vts W l (.slice (some ⟨g, 0, .none⟩) n c) w) : W.heap.size ≤ g ∧ g < w.heap.size := h.1.lt g rfl
/-- A cell of number i is written. -/
theorem Vts.set {W w : World} {l : List Vt} {g n c : Nat} (h : Vts W l (.slice (some ⟨g, 0, .none⟩) n c) w) {i : Nat} (hi : i < l.length) {j : Nat} (hj : j < 4) {u : Value} {t : Vt} (ht : (vtCells l[i]).set j u = vtCells t) :
    Vts W (l.set i t) (.slice (some ⟨g, 0, .none⟩) n c) (w.setCell ⟨g, i * 4 + j, .none⟩ u) := by
  refine ⟨?_, h.2.setCell (p := ⟨g, i * 4 + j, .none⟩) h.ge.1 u⟩
  have := vtown_set h.1 (i * 4 + j) u (by rw [votesCells_length]; omega)
  rw [votesCells_set hi hj ht] at this
  rw [List.length_set]
  exact this
theorem Vts.step {W w : World} {l : List Vt} {g n c i j : Nat} {x y : Vt} {u : Value} (h : Vts W (l.set i x) (.slice (some ⟨g, 0, .none⟩) n c) w) (hi : i < l.length) (hj : j < 4) (ht : (vtCells x).set j u = vtCells y) :
    Vts W (l.set i y) (.slice (some ⟨g, 0, .none⟩) n c) (w.setCell ⟨g, i * 4 + j, .none⟩ u) := by
  have h2 := h.set (i := i) (j := j) (u := u) (t := y) (by rw [List.length_set]; exact hi) hj (by rw [List.getElem_set_self]; exact ht)
  rwa [List.set_set] at h2
/-- A place is written. -/
theorem Vts.put {W w : World} {l : List Vt} {g n c i : Nat} (h : Vts W l (.slice (some ⟨g, 0, .none⟩) n c) w) (hi : i < l.length) (t : Vt) :
    Vts W (l.set i t) (.slice (some ⟨g, 0, .none⟩) n c) ((((w.setCell ⟨g, i * 4, .none⟩ (.int .i64 t.f)).setCell ⟨g, i * 4 + 1, .none⟩ (.int .i64 t.s)).setCell ⟨g, i * 4 + 2, .none⟩ (.int .u64 t.p.1)).setCell ⟨g, i * 4 + 3, .none⟩ (.int .u64 t.p.2)) := by
  obtain ⟨a0, a1, a2, a3⟩ := t
  have h0 : Vts W (l.set i l[i]) (.slice (some ⟨g, 0, .none⟩) n c) w := by rw [List.set_getElem_self]; exact h
  generalize l[i] = x at h0
  obtain ⟨b0, b1, b2, b3⟩ := x
  have h1 := h0.step (j := 0) (u := .int .i64 a0) (y := ⟨a0, b1, (b2, b3)⟩) hi (by omega) rfl
  have h2 := h1.step (j := 1) (u := .int .i64 a1) (y := ⟨a0, a1, (b2, b3)⟩) hi (by omega) rfl
  have h3 := h2.step (j := 2) (u := .int .u64 a2) (y := ⟨a0, a1, (a2, b3)⟩) hi (by omega) rfl
  exact h3.step (j := 3) (u := .int .u64 a3) (y := ⟨a0, a1, (a2, a3)⟩) hi (by omega) rfl
theorem Vts.at {W w : World} {l : List Vt} {g n c : Nat} (h : Vts W l (.slice (some ⟨g, 0, .none⟩) n c) w) {i : Nat} (hi : i < l.length) :
    w.cell? ⟨g, i * 4, .none⟩ = some (.int .i64 l[i].f) ∧ w.cell? ⟨g, i * 4 + 1, .none⟩ = some (.int .i64 l[i].s) ∧ w.cell? ⟨g, i * 4 + 2, .none⟩ = some (.int .u64 l[i].p.1) ∧ w.cell? ⟨g, i * 4 + 3, .none⟩ = some (.int .u64 l[i].p.2) := by
  obtain ⟨z, o, e, _, h0, h1, h2, h3⟩ := vote_at (h.cells h.long) hi
  injection e with e
  cases e
  rw [Nat.zero_add] at h0 h1 h2 h3
  exact ⟨h0, h1, h2, h3⟩
/-- s[:k:k]. -/
theorem run_upto3 (t e : TypeId) (i : TypeInfo) (ht : Try.prog.underlying t = some (.slice e)) (hi : Try.prog.info? e = some i) (A : Option Addr) (n c k : Nat) (hk : k ≤ c) (w : World) :
    (Instr.slice t (.slice A n c) none (some (.int .i64 (k : Int))) (some (.int .i64 (k : Int)))).run Try.prog w = .ok (.slice A k k) w := by
  have hb : ∀ m code, k ≤ m → (Instr.sliceBound (.int .i64 (k : Int)) m code).run Try.prog w = .ok k w := fun m code hm => by
    rw [run_sliceBound _ _ _ _ _ (by omega) (by omega)]; simp
  have hz : A.map (fun x => x.add 0) = A := by have := map_add0 0 A; simpa using this
  simp [Instr.slice, run_underlying ht, Instr.sliceBounds, hb c _ hk, hb k _ (Nat.le_refl k), sizeOf, typeInfo, hi, Result.andThen, hz]
theorem upto3_votes (A : Option Addr) (n c k : Nat) (hk : k ≤ c) (w : World) : (Instr.slice 27 (.slice A n c) none (some (.int .i64 (k : Int))) (some (.int .i64 (k : Int)))).run Try.prog w = .ok (.slice A k k) w := by
  obtain ⟨i, hi, _⟩ := info_of Try.infoV
  exact run_upto3 _ _ i Try.underlying27 hi A n c k hk w
theorem cells_votes_take {w : World} {B : Nat} {A : Option Addr} {l : List Vt} (h : CellsAt w B A (votesCells l)) (k : Nat) : CellsAt w B A (votesCells (l.take k)) := by
  have e : votesCells l = votesCells (l.take k) ++ votesCells (l.drop k) := by rw [votesCells_append, List.take_append_drop]
  rw [e] at h
  exact cells_prefix h
/-- What lies in the row, when those ahead of number j are gone through, and the i of them that q takes are put in front. -/
structure CutI (q : Vt → Bool) (l : List Vt) (i j : Nat) (S : List Vt) : Prop where
  ij : i ≤ j
  le : j ≤ l.length
  len : S.length = l.length
  head : S.take i = (l.take j).filter q
  tail : ∀ m, j ≤ m → S[m]? = l[m]?
theorem CutI.start (q : Vt → Bool) (l : List Vt) : CutI q l 0 0 l := ⟨Nat.le_refl _, Nat.zero_le _, rfl, rfl, fun _ _ => rfl⟩
theorem CutI.skip {q : Vt → Bool} {l : List Vt} {i j : Nat} {S : List Vt} (I : CutI q l i j S) (hj : j < l.length) (h : q l[j] = false) : CutI q l i (j + 1) S := by
  refine ⟨by have := I.ij; omega, hj, I.len, ?_, fun m hm => I.tail m (by omega)⟩
  rw [List.take_succ_eq_append_getElem hj, List.filter_append, List.filter_cons_of_neg (by rw [h]; decide), List.filter_nil, List.append_nil]
  exact I.head
theorem CutI.keep {q : Vt → Bool} {l : List Vt} {i j : Nat} {S : List Vt} (I : CutI q l i j S) (hj : j < l.length) (h : q l[j] = true) : CutI q l (i + 1) (j + 1) (S.set i l[j]) := by
  have hij := I.ij
  have hlen := I.len
  refine ⟨by omega, hj, by simp [hlen], ?_, fun m hm => ?_⟩
  · rw [List.take_succ_eq_append_getElem (by simp; omega), List.getElem_set_self, List.take_succ_eq_append_getElem hj, List.filter_append, List.filter_cons_of_pos h, List.filter_nil, ← I.head]
    congr 1
    rw [List.take_set, List.set_eq_of_length_le (by rw [List.length_take]; omega)]
  · rw [List.getElem?_set_ne (by omega)]
    exact I.tail m (by omega)
theorem CutI.at {q : Vt → Bool} {l : List Vt} {i j : Nat} {S : List Vt} (I : CutI q l i j S) (hj : j < l.length) : ∃ h : j < S.length, S[j] = l[j] := by
  have h := I.tail j (Nat.le_refl _)
  refine ⟨by rw [I.len]; exact hj, ?_⟩
  rw [List.getElem?_eq_getElem (by rw [I.len]; exact hj), List.getElem?_eq_getElem hj] at h
  injection h
end

section
open Go.ChangeShapes Go.WideShapes Go.ChangeAt Go.RowKit

theorem wf_more {L : List Vt} {v : Vt} (h : WfVs L) (hv : WfV v) : WfVs (L ++ [v]) := fun u hu => by
  rcases List.mem_append.1 hu with k | k
  · exact h u k
  · rw [show u = v by simpa using k]; exact hv


/-! ### append at a step -/
theorem wp_vts {o : Oper} {a : Act} {K : Act → World → Prop} {Q : Exit → Act → World → Prop} (w : World) (s x : Operand)
    (ho : o.op = .call { callee := .builtin .append, args := #[s, x], argTypes := #[27, 27] })
    (W : World) (l : List Vt) (v : Value) (hs : a.eval s = v) (HB : Vts W l v w) (B : Nat) (A : Option Addr) (m c : Nat) (news : List Vt) (hx : a.eval x = .slice A m c) (hl : news.length = m)
    (hr : CellsAt w B A (votesCells news)) (hlen : l.length + m ≤ 1000000)
    (h : ∀ A' c' w', Vts W (l ++ news) (.slice A' (l ++ news).length c') w' → K (a.put o.dst (.slice A' (l ++ news).length c')) w') : o.wp Try.prog a w K Q := by
  obtain ⟨i0, hi0, hz0, hz1, hz2⟩ := info_of Try.infoV
  refine wp_app w s x _ ho W.heap.size 45 i0 _ 4 32 Try.underlying27 hi0 hz0 hz1 hz2 rfl (by omega) v l.length (votesCells l) hs HB.1 B A m c (votesCells news) hx (by rw [votesCells_length, hl]) hr (votesCells_one _)
    (by unfold maxLen; omega) (by omega) HB.2.size_le ?_
  intro v' w' own g _
  have e : (l ++ news).length = l.length + m := by rw [List.length_append, hl]
  rw [← e, votesCells_append] at own
  obtain ⟨A', c', rfl⟩ : ∃ A c, v' = .slice A (l ++ news).length c := by
    rcases own.2 with ⟨hv, h0⟩ | ⟨g, cap, cur, hv, _⟩
    · rw [h0]; exact ⟨_, _, hv⟩
    · exact ⟨_, _, hv⟩
  exact h A' c' w' ⟨own, HB.2.grown g fun i hi => (HB.1.lt i hi).1⟩
theorem step_vts {ops : Array Oper} {o : Oper} {a : Act} {K : Act → World → Prop} {Q : Exit → Act → World → Prop} {E : Prop} (w : World) (hgd : Region.wanted o (yielded ops a.tmps) = true) (s x : Operand)
    (ho : o.op = .call { callee := .builtin .append, args := #[s, x], argTypes := #[27, 27] })
    (W : World) (l : List Vt) (v : Value) (hs : a.eval s = v) (HB : Vts W l v w) (B : Nat) (A : Option Addr) (m c : Nat) (news : List Vt) (hx : a.eval x = .slice A m c) (hl : news.length = m)
    (hr : CellsAt w B A (votesCells news)) (hlen : l.length + m ≤ 1000000)
    (h : ∀ A' c' w', Vts W (l ++ news) (.slice A' (l ++ news).length c') w' → K (a.put o.dst (.slice A' (l ++ news).length c')) w') :
    if Region.wanted o (yielded ops a.tmps) = true then Oper.wp Try.prog o a w K Q else E := by
  rw [if_pos hgd]
  exact wp_vts w s x ho W l v hs HB B A m c news hx hl hr hlen h
theorem step_vnil {ops : Array Oper} {o : Oper} {a : Act} {K : Act → World → Prop} {Q : Exit → Act → World → Prop} {E : Prop} (w : World) (hgd : Region.wanted o (yielded ops a.tmps) = true) (x : Operand)
    (ho : o.op = .call { callee := .builtin .append, args := #[.const (.slice none 0 0), x], argTypes := #[27, 27] })
    (B : Nat) (A : Option Addr) (m c : Nat) (news : List Vt) (hx : a.eval x = .slice A m c) (hl : news.length = m)
    (hr : CellsAt w B A (votesCells news)) (hlen : m ≤ 1000000)
    (h : ∀ A' c' w', Vts w news (.slice A' news.length c') w' → K (a.put o.dst (.slice A' news.length c')) w') :
    if Region.wanted o (yielded ops a.tmps) = true then Oper.wp Try.prog o a w K Q else E :=
  step_vts w hgd _ x ho w [] _ rfl (Vts.nil w) B A m c news hx hl hr (by simp; omega) h
theorem keep4 {W w w' : World} {b : Nat} {x0 x1 x2 x3 : Value} (hb : b < W.heap.size)
    (h : w.cell? ⟨b, 0, none⟩ = some x0 ∧ w.cell? ⟨b, 1, none⟩ = some x1 ∧ w.cell? ⟨b, 2, none⟩ = some x2 ∧ w.cell? ⟨b, 3, none⟩ = some x3 ∧ Kept W w) (k : Kept w w') :
    w'.cell? ⟨b, 0, none⟩ = some x0 ∧ w'.cell? ⟨b, 1, none⟩ = some x1 ∧ w'.cell? ⟨b, 2, none⟩ = some x2 ∧ w'.cell? ⟨b, 3, none⟩ = some x3 ∧ Kept W w' := by
  obtain ⟨h0, h1, h2, h3, hk⟩ := h
  have hb' : b < w.heap.size := Nat.lt_of_lt_of_le hb hk.size_le
  exact ⟨(k.cell (p := ⟨b, 0, none⟩) hb').trans h0, (k.cell (p := ⟨b, 1, none⟩) hb').trans h1, (k.cell (p := ⟨b, 2, none⟩) hb').trans h2, (k.cell (p := ⟨b, 3, none⟩) hb').trans h3, hk.trans k⟩
theorem keep0 {W w w' : World} {b : Nat} {x0 : Value} (hb : b < W.heap.size) (h : w.cell? ⟨b, 0, none⟩ = some x0 ∧ Kept W w) (k : Kept w w') : w'.cell? ⟨b, 0, none⟩ = some x0 ∧ Kept W w' :=
  ⟨(k.cell (p := ⟨b, 0, none⟩) (Nat.lt_of_lt_of_le hb h.2.size_le)).trans h.1, h.2.trans k⟩
theorem votes_one (w : World) (t : TypeId) (b : Vt) (z : Nat) (hz : z = w.heap.size) : CellsAt (w.alloc (.cells #[.int .i64 b.f, .int .i64 b.s, .int .u64 b.p.1, .int .u64 b.p.2] t)) (w.alloc (.cells #[.int .i64 b.f, .int .i64 b.s, .int .u64 b.p.1, .int .u64 b.p.2] t)).heap.size (some ⟨z, 0, none⟩) (votesCells [b]) := votes_one_at (HasCells.new w #[.int .i64 b.f, .int .i64 b.s, .int .u64 b.p.1, .int .u64 b.p.2] t z hz)
end

section
set_option linter.unusedSimpArgs false
set_option linter.unusedVariables false
open Go.ChangeShapes Go.WideShapes Go.ChangeAt Go.RowKit

/-- A row of one's own lies in no block of another type. -/
theorem own_apart {w : World} {base : Nat} {e : TypeId} {size n : Nat} {v : Value} {xs : List Value} (h : w.ownsRow base e size v n xs) {z : Nat} {ys : Array Value} {t : TypeId} (hz : AtB w z ys t) (ht : t ≠ e) : some z ≠ v.ownBlock := by
  intro q
  rcases h.2 with ⟨hv, _⟩ | ⟨g, cap, cur, hv, _, hh, _⟩
  · rw [hv] at q; cases q
  · rw [hv] at q
    injection q with q
    simp only at q
    subst q
    unfold AtB at hz
    rw [hz] at hh
    injection hh with hh
    injection hh with _ hh
    exact ht hh
theorem AtB.grown {w w' : World} {z : Nat} {xs : Array Value} {t : TypeId} (h : AtB w z xs t) {row : Option Nat} (g : w.grownBy w' row) (hne : some z ≠ row) : AtB w' z xs t := (g.block z h.lt hne).trans h
/-- Votes of one's own stay as they are where a block of another type is written. -/
theorem vts_past_box {W w : World} {l : List Vt} {v : Value} (h : Vts W l v w) {z : Nat} {ys : Array Value} {t : TypeId} (hz : AtB w z ys t) (ht : t ≠ 45) (hW : W.heap.size ≤ z) (j : Nat) (u : Value) : Vts W l v (w.setCell ⟨z, j, none⟩ u) := by
  have hne := own_apart h.1 hz ht
  refine ⟨⟨h.1.1, ?_⟩, h.2.setCell (p := ⟨z, j, none⟩) hW u⟩
  rcases h.1.2 with h2 | ⟨gr, cap, cur, hv, hg, hh, r⟩
  · exact Or.inl h2
  · refine Or.inr ⟨gr, cap, cur, hv, hg, ?_, r⟩
    rw [heap_setCell_other w _ gr u (fun e => hne (by rw [hv, e]; rfl))]
    exact hh
section
variable {ops : Array Oper} {o : Oper} {a : Act} {K : Act → World → Prop} {Q : Exit → Act → World → Prop} {E : Prop} (w : World)
/-- 'append' onto votes of one's own: blocks of other types stay as they are. -/
theorem step_vgrow (hgd : Region.wanted o (yielded ops a.tmps) = true) (s x : Operand)
    (ho : o.op = .call { callee := .builtin .append, args := #[s, x], argTypes := #[27, 27] })
    (W : World) (l : List Vt) (v : Value) (hs : a.eval s = v) (HB : Vts W l v w) (B : Nat) (A : Option Addr) (m c : Nat) (news : List Vt) (hx : a.eval x = .slice A m c) (hl : news.length = m)
    (hr : CellsAt w B A (votesCells news)) (hlen : l.length + m ≤ 1000000)
    (h : ∀ A' c' w', Vts W (l ++ news) (.slice A' (l ++ news).length c') w' → w.grownBy w' v.ownBlock → K (a.put o.dst (.slice A' (l ++ news).length c')) w') :
    if Region.wanted o (yielded ops a.tmps) = true then Oper.wp Try.prog o a w K Q else E := by
  rw [if_pos hgd]
  obtain ⟨i0, hi0, hz0, hz1, hz2⟩ := info_of Try.infoV
  refine wp_app w s x _ ho W.heap.size 45 i0 _ 4 32 Try.underlying27 hi0 hz0 hz1 hz2 rfl (by omega) v l.length (votesCells l) hs HB.1 B A m c (votesCells news) hx (by rw [votesCells_length, hl]) hr (votesCells_one _)
    (by unfold maxLen; omega) (by omega) HB.2.size_le ?_
  intro v' w' own g _
  have e : (l ++ news).length = l.length + m := by rw [List.length_append, hl]
  rw [← e, votesCells_append] at own
  obtain ⟨A', c', rfl⟩ : ∃ A c, v' = .slice A (l ++ news).length c := by
    rcases own.2 with ⟨hv, h0⟩ | ⟨g, cap, cur, hv, _⟩
    · rw [h0]; exact ⟨_, _, hv⟩
    · exact ⟨_, _, hv⟩
  exact h A' c' w' ⟨own, HB.2.grown g fun i hi => (HB.1.lt i hi).1⟩ g
/-- .. onto nothing: all stays as it is. -/
theorem step_vnew (hgd : Region.wanted o (yielded ops a.tmps) = true) (x : Operand)
    (ho : o.op = .call { callee := .builtin .append, args := #[.const (.slice none 0 0), x], argTypes := #[27, 27] })
    (W : World) (hW : Kept W w) (B : Nat) (A : Option Addr) (m c : Nat) (news : List Vt) (hx : a.eval x = .slice A m c) (hl : news.length = m)
    (hr : CellsAt w B A (votesCells news)) (hlen : m ≤ 1000000)
    (h : ∀ A' c' w', Vts W news (.slice A' news.length c') w' → Kept w w' → K (a.put o.dst (.slice A' news.length c')) w') :
    if Region.wanted o (yielded ops a.tmps) = true then Oper.wp Try.prog o a w K Q else E :=
  step_vgrow w hgd _ x ho W [] _ rfl (Vts.none hW) B A m c news hx hl hr (by simp; omega) fun A' c' w' h1 g => h A' c' w' h1 ((Kept.refl w).grown g fun k hk => by cases hk)
end
theorem upto_vts (A : Option Addr) (n c k : Nat) (hk : k ≤ c) (w : World) : (Instr.slice 27 (.slice A n c) none (some (.int .i64 (k : Int))) none).run Try.prog w = .ok (.slice A k c) w := by
  obtain ⟨i, hi, _, _, _⟩ := info_of Try.infoV
  exact run_upto _ _ i Try.underlying27 hi A n c k hk w
theorem vts_take {w : World} {B : Nat} {A : Option Addr} {l : List Vt} (h : CellsAt w B A (votesCells l)) (k : Nat) : CellsAt w B A (votesCells (l.take k)) := by
  have e : votesCells l = votesCells (l.take k) ++ votesCells (l.drop k) := by rw [votesCells_append, List.take_append_drop]
  rw [e] at h
  exact cells_prefix h
theorem turned_mem {α : Type} {l : List α} (n : Nat) {a : α} : a ∈ l.drop n ++ l.take n ↔ a ∈ l := by
  rw [List.mem_append, Or.comm, ← List.mem_append, List.take_append_drop]
theorem cut2 {P : Program} {c : Code} {Q : Exit → Act → World → Prop} {a : Act} {w : World} {α β : Type} (f : α → β → Act) (R : α → β → World → Prop)
    (h : ∀ Q' : Exit → Act → World → Prop, RowKit.Hid (∀ s1 s2 w', R s1 s2 w' → Q' .normal (f s1 s2) w') → c.wp P Q' a w) (hq : ∀ s1 s2 w', R s1 s2 w' → Q .normal (f s1 s2) w') : c.wp P Q a w := h Q (Lib.hid hq)
theorem cut5 {P : Program} {c : Code} {Q : Exit → Act → World → Prop} {a : Act} {w : World} {α β γ δ ε : Type} (f : α → β → γ → δ → ε → Act) (R : α → β → γ → δ → ε → World → Prop)
    (h : ∀ Q' : Exit → Act → World → Prop, RowKit.Hid (∀ s1 s2 s3 s4 s5 w', R s1 s2 s3 s4 s5 w' → Q' .normal (f s1 s2 s3 s4 s5) w') → c.wp P Q' a w) (hq : ∀ s1 s2 s3 s4 s5 w', R s1 s2 s3 s4 s5 w' → Q .normal (f s1 s2 s3 s4 s5) w') : c.wp P Q a w := h Q (Lib.hid hq)
theorem cut6 {P : Program} {c : Code} {Q : Exit → Act → World → Prop} {a : Act} {w : World} {α β γ δ ε ζ : Type} (f : α → β → γ → δ → ε → ζ → Act) (R : α → β → γ → δ → ε → ζ → World → Prop)
    (h : ∀ Q' : Exit → Act → World → Prop, RowKit.Hid (∀ s1 s2 s3 s4 s5 s6 w', R s1 s2 s3 s4 s5 s6 w' → Q' .normal (f s1 s2 s3 s4 s5 s6) w') → c.wp P Q' a w) (hq : ∀ s1 s2 s3 s4 s5 s6 w', R s1 s2 s3 s4 s5 s6 w' → Q .normal (f s1 s2 s3 s4 s5 s6) w') : c.wp P Q a w := h Q (Lib.hid hq)
end

end Go.Proofs.Ytacdiicnfoejoaa
