/-
  Plain mathematics of package tree: names of blocks, whether blocks may be, where a name is, what stands on what, and chains.
  The contracts of package tree's calls Name and isBeginning.
  Lists of blocks and of ids, cell by cell; the map of a tree's places by their names.
  The contracts of package tree's calls stands, slotOf and standsRight.
  The contract of package tree's call places: whether blocks may be, and where each is, by its name.
  A list of ids of one's own, onto which is appended; a list of ids that is handed back.
  The contracts of package tree's calls May, Find and Slot.
  Ids held against one another, as what is so of them; the contract of package tree's call Kids.
  The contracts of slices.Index and slices.Contains on ids.
  The contract of package tree's call Chain.
  Boxed ids held over a region that draws its order; the contract of package tree's call Under.
  The calls of package tree at the beginning's id; the chapter's example, which every law of layer 6 asks first: it is so.
  The arguments of layer 6's laws, opened: a block, a list of blocks (an id, a word and a number: MixOpen, NumOpen).
  What layer 6's laws ask, in plain words: what is not there, or may not be, is told nothing of.
  A list of blocks of one's own, onto which is appended at a step of a region that draws its order; the first k of a list.
  Ids of a chain are made of words.
  The beginning's id, told.
  Blocks of one's own that hold given cells.
-/
import Derived.Maps.OwnIn
import Derived.WideKeyPair
import Derived.WalkArith
import Derived.WalkMore
import Derived.ScopeJumps
import Derived.Deep.Slices
import Derived.Test.YtacdiicnfoejoaaMixG
import Derived.Test.YtacdiicnfoejoaaGround
namespace Go.Proofs.Ytacdiicnfoejoaa
set_option maxRecDepth 100000
set_option linter.unusedVariables false
set_option linter.unusedSimpArgs false
section
/-- A block: its slot, who it is from, its parent, its salt. -/
structure Bk where
  s : Int
  f : Int
  p : Nat × Nat
  t : Nat
abbrev Id2 := Nat × Nat
def zid : Id2 := (0, 0)
/-- A number as a word. -/
def wd (a : Int) : Nat := (a % 18446744073709551616).toNat
theorem wd_lt (a : Int) : wd a < 18446744073709551616 := by unfold wd; omega
def nameL (b : Bk) : List Nat := [1, wd b.s, wd b.f, b.p.1, b.p.2, b.t]
def nameB (b : Bk) : Id2 := idOf (nameL b)
def namesB (l : List Bk) : List Id2 := l.map nameB
theorem namesB_length (l : List Bk) : (namesB l).length = l.length := by simp [namesB]
theorem namesB_snoc (l : List Bk) (b : Bk) : namesB (l ++ [b]) = namesB l ++ [nameB b] := by simp [namesB]
theorem namesB_take (l : List Bk) (k : Nat) : (namesB l).take k = namesB (l.take k) := by simp [namesB, List.map_take]

/-! ### Where a name is -/
def posN : List Id2 → Id2 → Option Nat
  | [], _ => none
  | n :: ns, x => if n = x then some 0 else (posN ns x).map (· + 1)
theorem posN_cons (n : Id2) (ns : List Id2) (x : Id2) : posN (n :: ns) x = if n = x then some 0 else (posN ns x).map (· + 1) := rfl
theorem posN_some {x : Id2} : ∀ {ns : List Id2} {i : Nat}, posN ns x = some i → ns[i]? = some x
  | [], i, h => by simp [posN] at h
  | n :: ns, i, h => by
    unfold posN at h
    by_cases e : n = x
    · rw [if_pos e] at h; cases h; simp [e]
    · rw [if_neg e] at h
      cases q : posN ns x with
      | none => rw [q] at h; cases h
      | some j =>
        rw [q] at h
        cases h
        simpa using posN_some q
theorem posN_lt {x : Id2} {ns : List Id2} {i : Nat} (h : posN ns x = some i) : i < ns.length := (List.getElem?_eq_some_iff.1 (posN_some h)).1
theorem posN_none {x : Id2} : ∀ {ns : List Id2}, posN ns x = none ↔ x ∉ ns
  | [] => by simp [posN]
  | n :: ns => by
    unfold posN
    by_cases e : n = x
    · rw [if_pos e]; simp [e]
    · rw [if_neg e]
      rw [Option.map_eq_none_iff, posN_none]
      simp [Ne.symm e]
theorem posN_append {x : Id2} (ms : List Id2) : ∀ (ns : List Id2), posN (ns ++ ms) x = (match posN ns x with | some i => some i | none => (posN ms x).map (· + ns.length))
  | [] => by show posN ms x = (posN ms x).map (· + 0); simp
  | n :: ns => by
    rw [List.cons_append, posN_cons, posN_cons]
    by_cases e : n = x
    · rw [if_pos e, if_pos e]
    · rw [if_neg e, if_neg e, posN_append ms ns]
      cases posN ns x with
      | some i => rfl
      | none =>
        cases posN ms x with
        | none => rfl
        | some j => simp; omega
theorem posN_append_some {x : Id2} {ns : List Id2} {i : Nat} (h : posN ns x = some i) (ms : List Id2) : posN (ns ++ ms) x = some i := by rw [posN_append, h]
theorem posN_snoc (ns : List Id2) (n x : Id2) : posN (ns ++ [n]) x = (match posN ns x with | some i => some i | none => if n = x then some ns.length else none) := by
  rw [posN_append]
  cases posN ns x with
  | some i => rfl
  | none => by_cases e : n = x <;> simp [posN, e]
theorem posN_take {x : Id2} {ns : List Id2} {k i : Nat} (h : posN (ns.take k) x = some i) : posN ns x = some i := by
  have := posN_append_some h (ns.drop k)
  rwa [List.take_append_drop] at this

/-- Where the block of that name is. -/
def posB (l : List Bk) (x : Id2) : Option Nat := posN (namesB l) x
theorem posB_lt {l : List Bk} {x : Id2} {i : Nat} (h : posB l x = some i) : i < l.length := by have := posN_lt h; rwa [namesB_length] at this
theorem posB_name {l : List Bk} {x : Id2} {i : Nat} (h : posB l x = some i) : nameB (l[i]'(posB_lt h)) = x := by
  have := posN_some h
  unfold namesB at this
  rw [List.getElem?_map, List.getElem?_eq_getElem (posB_lt h)] at this
  simpa using this

/-! ### What may be -/
def slotB (l : List Bk) (x : Id2) : Option Int := match posB l x with
  | some i => (l[i]?).map Bk.s
  | none => if x = zid then some 0 else none
def standsB (l : List Bk) (x : Id2) : Bool := (posB l x).isSome || decide (x = zid)
def rightB (l : List Bk) (b : Bk) : Bool := match slotB l b.p with
  | some s => decide (s < b.s)
  | none => false
def okB (l : List Bk) (b : Bk) : Bool := !standsB l (nameB b) && rightB l b
def mayTo (l : List Bk) : Nat → Bool
  | 0 => true
  | k + 1 => mayTo l k && (match l[k]? with | some b => okB (l.take k) b | none => true)
def mayB (l : List Bk) : Bool := mayTo l l.length

theorem mayTo_succ {l : List Bk} {k : Nat} (h : k < l.length) : mayTo l (k + 1) = (mayTo l k && okB (l.take k) l[k]) := by
  rw [mayTo, List.getElem?_eq_getElem h]
theorem mayTo_take (l : List Bk) (j : Nat) : ∀ k, k ≤ j → mayTo (l.take j) k = mayTo l k
  | 0, _ => rfl
  | k + 1, h => by
    rw [mayTo, mayTo, mayTo_take l j k (by omega), List.getElem?_take_of_lt (by omega), List.take_take, Nat.min_eq_left (by omega)]
theorem mayTo_le {l : List Bk} : ∀ {k j : Nat}, mayTo l k = true → j ≤ k → mayTo l j = true
  | 0, j, h, hj => by rw [Nat.le_zero.1 hj]; exact h
  | k + 1, j, h, hj => by
    rw [mayTo, Bool.and_eq_true] at h
    rcases Nat.lt_or_ge j (k + 1) with q | q
    · exact mayTo_le h.1 (by omega)
    · rw [show j = k + 1 by omega, mayTo, Bool.and_eq_true]; exact h
theorem mayB_take {l : List Bk} (h : mayB l = true) (j : Nat) (hj : j ≤ l.length) : mayB (l.take j) = true := by
  unfold mayB
  rw [List.length_take, Nat.min_eq_left hj, mayTo_take _ _ _ (Nat.le_refl _)]
  exact mayTo_le h hj
theorem mayB_snoc (l : List Bk) (b : Bk) : mayB (l ++ [b]) = (mayB l && okB l b) := by
  unfold mayB
  rw [List.length_append, List.length_singleton, mayTo_succ (by simp)]
  have e : (l ++ [b]).take l.length = l := by simp
  rw [e, ← mayTo_take (l ++ [b]) l.length l.length (Nat.le_refl _), e]
  simp
theorem mayB_ok {l : List Bk} (h : mayB l = true) {i : Nat} (hi : i < l.length) : okB (l.take i) l[i] = true := by
  have := mayTo_le h (show i + 1 ≤ l.length from hi)
  rw [mayTo_succ hi, Bool.and_eq_true] at this
  exact this.2
theorem mayTo_no {l : List Bk} {k : Nat} (hk : k ≤ l.length) (h : mayTo l k = false) : mayB l = false := by
  cases q : mayB l with
  | false => rfl
  | true => rw [mayTo_le q hk] at h; cases h

theorem standsB_iff {l : List Bk} {x : Id2} : standsB l x = true ↔ (∃ i, posB l x = some i) ∨ x = zid := by
  unfold standsB
  rw [Bool.or_eq_true, Option.isSome_iff_exists, decide_eq_true_iff]
theorem slotB_isSome (l : List Bk) (x : Id2) : (slotB l x).isSome = standsB l x := by
  unfold slotB standsB
  cases h : posB l x with
  | some i => simp [posB_lt h]
  | none => by_cases e : x = zid <;> simp [e]

section
variable {l : List Bk} (h : mayB l = true)
include h
/-- No name is the beginning's. -/
theorem may_zero : posB l zid = none := by
  cases q : posB l zid with
  | none => rfl
  | some i =>
    have k := mayB_ok h (posB_lt q)
    unfold okB standsB at k
    rw [posB_name q] at k
    simp at k
/-- Each block is found where it is. -/
theorem may_pos {i : Nat} (hi : i < l.length) : posB l (nameB l[i]) = some i := by
  have k := mayB_ok h hi
  unfold okB standsB at k
  have e : posB (l.take i) (nameB l[i]) = none := by
    cases q : posB (l.take i) (nameB l[i]) with
    | none => rfl
    | some j => simp [q] at k
  have e2 : posB (l.take (i + 1)) (nameB l[i]) = some i := by
    unfold posB at e ⊢
    rw [List.take_succ_eq_append_getElem hi, namesB_snoc, posN_snoc, e]
    simp [namesB_length, Nat.min_eq_left (Nat.le_of_lt hi)]
  unfold posB at e2 ⊢
  rw [← namesB_take] at e2
  exact posN_take e2
/-- The parent of a block stands ahead, and is of a lesser slot. -/
theorem may_parent {i : Nat} (hi : i < l.length) : ((∃ (j : Nat) (hj : j < i), posB l l[i].p = some j ∧ (l[j]'(by omega)).s < l[i].s) ∨ (l[i].p = zid ∧ 0 < l[i].s)) := by
  have k := mayB_ok h hi
  unfold okB rightB slotB at k
  rw [Bool.and_eq_true] at k
  have k := k.2
  cases q : posB (l.take i) l[i].p with
  | some j =>
    left
    have hj := posB_lt q
    rw [List.length_take] at hj
    have hji : j < i := by omega
    refine ⟨j, hji, ?_, ?_⟩
    · unfold posB at q ⊢
      rw [← namesB_take] at q
      exact posN_take q
    · rw [q] at k
      simp only [List.getElem?_take_of_lt hji, List.getElem?_eq_getElem (show j < l.length by omega), Option.map_some] at k
      simpa using k
  | none =>
    right
    rw [q] at k
    by_cases e : l[i].p = zid
    · simp [e] at k; exact ⟨e, k⟩
    · simp [e] at k
theorem may_stands {i : Nat} (hi : i < l.length) : standsB l l[i].p = true := by
  rcases may_parent h hi with ⟨j, _, q, _⟩ | ⟨e, _⟩
  · exact standsB_iff.2 (Or.inl ⟨j, q⟩)
  · exact standsB_iff.2 (Or.inr e)
end

/-! ### Kids -/
def kidsB (l : List Bk) (x : Id2) : List Id2 := namesB (l.filter fun b => decide (b.p = x))
def kidsC (l : List Bk) (x : Id2) : List Id2 := if mayB l then kidsB l x else []
theorem kidsB_hit {l : List Bk} {b : Bk} {x : Id2} (h : b.p = x) : kidsB (l ++ [b]) x = kidsB l x ++ [nameB b] := by simp [kidsB, namesB, h]
theorem kidsB_miss {l : List Bk} {b : Bk} {x : Id2} (h : b.p ≠ x) : kidsB (l ++ [b]) x = kidsB l x := by simp [kidsB, namesB, h]
theorem kidsB_le (l : List Bk) (x : Id2) : (kidsB l x).length ≤ l.length := by
  unfold kidsB; rw [namesB_length]; exact List.length_filter_le _ _

/-! ### Chains -/
/-- 0 of what is no name, else one more than its place. -/
def rank (l : List Bk) (x : Id2) : Nat := match posB l x with
  | some i => i + 1
  | none => 0
def chainF (l : List Bk) : Nat → Id2 → List Id2
  | 0, _ => []
  | k + 1, x => x :: (match posB l x with | some i => chainF l k ((l[i]?).map Bk.p |>.getD zid) | none => [])
/-- id and all that it stands on. -/
def chainB (l : List Bk) (x : Id2) : List Id2 := chainF l (rank l x + 1) x
def chainC (l : List Bk) (x : Id2) : List Id2 := if mayB l && standsB l x then chainB l x else []
def underC (l : List Bk) (low x : Id2) : Bool := decide (low ∈ chainC l x)
def findC (l : List Bk) (x : Id2) : Int := if mayB l then (match posB l x with | some i => (i : Int) | none => -1) else -1
def slotC (l : List Bk) (x : Id2) : Int × Bool := if mayB l then (match slotB l x with | some s => (s, true) | none => (0, false)) else (0, false)

theorem rank_le (l : List Bk) (x : Id2) : rank l x ≤ l.length := by
  unfold rank
  cases h : posB l x with
  | some i => exact posB_lt h
  | none => exact Nat.zero_le _
theorem rank_none {l : List Bk} {x : Id2} (h : posB l x = none) : rank l x = 0 := by unfold rank; rw [h]
theorem rank_some {l : List Bk} {x : Id2} {i : Nat} (h : posB l x = some i) : rank l x = i + 1 := by unfold rank; rw [h]

section
variable {l : List Bk} (h : mayB l = true)
include h
theorem rank_parent {i : Nat} (hi : i < l.length) : rank l l[i].p ≤ i := by
  rcases may_parent h hi with ⟨j, hj, q, _⟩ | ⟨e, _⟩
  · rw [rank_some q]; omega
  · rw [e, rank_none (may_zero h)]; omega
theorem chainF_eq : ∀ (a b : Nat) (x : Id2), rank l x < a → rank l x < b → chainF l a x = chainF l b x
  | 0, _, _, h0, _ => by omega
  | _, 0, _, _, h0 => by omega
  | a + 1, b + 1, x, ha, hb => by
    unfold chainF
    cases q : posB l x with
    | none => rfl
    | some i =>
      have hi := posB_lt q
      have hr := rank_parent h hi
      rw [rank_some q] at ha hb
      simp only [List.getElem?_eq_getElem hi, Option.map_some, Option.getD_some]
      rw [chainF_eq a b _ (by omega) (by omega)]
theorem chainB_some {x : Id2} {i : Nat} (q : posB l x = some i) : chainB l x = x :: chainB l (l[i]'(posB_lt q)).p := by
  have hi := posB_lt q
  have hr := rank_parent h hi
  unfold chainB
  rw [rank_some q, chainF]
  simp only [q, List.getElem?_eq_getElem hi, Option.map_some, Option.getD_some]
  rw [chainF_eq h (i + 1) (rank l l[i].p + 1) _ (by omega) (by omega)]
end
theorem chainB_none {l : List Bk} {x : Id2} (q : posB l x = none) : chainB l x = [x] := by
  unfold chainB; rw [rank_none q, chainF]; simp only [q]
theorem chainF_head (l : List Bk) (k : Nat) (x : Id2) : ∃ r, chainF l (k + 1) x = x :: r := ⟨_, rfl⟩
theorem chainB_head (l : List Bk) (x : Id2) : ∃ r, chainB l x = x :: r := ⟨_, rfl⟩
theorem chainB_self (l : List Bk) (x : Id2) : x ∈ chainB l x := by obtain ⟨r, e⟩ := chainB_head l x; rw [e]; simp
theorem chainF_length (l : List Bk) : ∀ (k : Nat) (x : Id2), (chainF l k x).length ≤ k
  | 0, _ => by simp [chainF]
  | k + 1, x => by
    unfold chainF
    cases posB l x with
    | none => simp
    | some i => simp only [List.length_cons]; have := chainF_length l k (((l[i]?).map Bk.p).getD zid); omega
theorem chainB_length (l : List Bk) (x : Id2) : (chainB l x).length ≤ l.length + 1 := by
  have := chainF_length l (rank l x + 1) x
  have := rank_le l x
  unfold chainB; omega

theorem mem_chainC {l : List Bk} {a x : Id2} (k : a ∈ chainC l x) : mayB l = true ∧ standsB l x = true ∧ a ∈ chainB l x := by
  unfold chainC at k
  by_cases e : (mayB l && standsB l x) = true
  · rw [if_pos e] at k
    rw [Bool.and_eq_true] at e
    exact ⟨e.1, e.2, k⟩
  · rw [if_neg e] at k; cases k
theorem chainC_yes {l : List Bk} {x : Id2} (h : mayB l = true) (k : standsB l x = true) : chainC l x = chainB l x := by unfold chainC; rw [h, k]; rfl
theorem chainC_no {l : List Bk} {x : Id2} (h : mayB l = true → standsB l x = false) : chainC l x = [] := by
  unfold chainC
  cases q : mayB l with
  | false => rfl
  | true => rw [h q]; rfl
theorem chainC_length (l : List Bk) (x : Id2) : (chainC l x).length ≤ l.length + 1 := by
  unfold chainC
  split
  · exact chainB_length l x
  · simp

/-! ### What follows -/
section
variable {l : List Bk} (h : mayB l = true)
include h
/-- All that is on a chain stands; its chain is the chain's end. -/
theorem chain_suffix : ∀ (n : Nat) {x a : Id2}, rank l x = n → standsB l x = true → a ∈ chainB l x → standsB l a = true ∧ chainB l a <:+ chainB l x := by
  intro n
  induction n using Nat.strongRecOn with
  | ind n ih =>
    intro x a hn hs ha
    cases q : posB l x with
    | none =>
      rw [chainB_none q] at ha
      simp at ha
      subst ha
      exact ⟨hs, List.suffix_refl _⟩
    | some i =>
      have hi := posB_lt q
      rw [chainB_some h q] at ha ⊢
      rcases List.mem_cons.1 ha with rfl | ha
      · exact ⟨hs, by rw [← chainB_some h q]; exact List.suffix_refl _⟩
      · have hr := rank_parent h hi
        rw [rank_some q] at hn
        obtain ⟨h1, h2⟩ := ih (rank l l[i].p) (by omega) rfl (may_stands h hi) ha
        exact ⟨h1, h2.trans (List.suffix_cons _ _)⟩
theorem chain_zero : ∀ (n : Nat) {x : Id2}, rank l x = n → standsB l x = true → (chainB l x).getLast? = some zid := by
  intro n
  induction n using Nat.strongRecOn with
  | ind n ih =>
    intro x hn hs
    cases q : posB l x with
    | none =>
      rw [chainB_none q]
      rcases standsB_iff.1 hs with ⟨i, e⟩ | e
      · rw [q] at e; cases e
      · rw [e]; rfl
    | some i =>
      have hi := posB_lt q
      have hr := rank_parent h hi
      rw [rank_some q] at hn
      rw [chainB_some h q, List.getLast?_cons, ih (rank l l[i].p) (by omega) rfl (may_stands h hi)]
      rfl
end

theorem underC_true {l : List Bk} {low x : Id2} : underC l low x = true ↔ low ∈ chainC l x := by unfold underC; exact decide_eq_true_iff
theorem under_self {l : List Bk} {a : Id2} (h : 0 < (chainC l a).length) : underC l a a = true := by
  rw [underC_true]
  unfold chainC at h ⊢
  by_cases e : (mayB l && standsB l a) = true
  · rw [if_pos e]; exact chainB_self l a
  · rw [if_neg e] at h; simp at h
theorem under_zero {l : List Bk} {a : Id2} (h : 0 < (chainC l a).length) : underC l zid a = true := by
  rw [underC_true]
  unfold chainC at h ⊢
  by_cases e : (mayB l && standsB l a) = true
  · rw [if_pos e]
    rw [Bool.and_eq_true] at e
    exact List.mem_of_getLast? (chain_zero e.1 _ rfl e.2)
  · rw [if_neg e] at h; simp at h
theorem under_trans {l : List Bk} {a b c : Id2} (h1 : underC l a b = true) (h2 : underC l b c = true) : underC l a c = true := by
  rw [underC_true] at h1 h2 ⊢
  obtain ⟨m, s1, k1⟩ := mem_chainC h1
  obtain ⟨_, s2, k2⟩ := mem_chainC h2
  rw [chainC_yes m s2]
  exact (chain_suffix m _ rfl s2 k2).2.mem k1
theorem under_both {l : List Bk} {a b c : Id2} (h1 : underC l a c = true) (h2 : underC l b c = true) : underC l a b = true ∨ underC l b a = true := by
  rw [underC_true] at h1 h2
  obtain ⟨m, s1, k1⟩ := mem_chainC h1
  obtain ⟨_, _, k2⟩ := mem_chainC h2
  obtain ⟨sa, ca⟩ := chain_suffix m _ rfl s1 k1
  obtain ⟨sb, cb⟩ := chain_suffix m _ rfl s1 k2
  rw [underC_true, underC_true, chainC_yes m sa, chainC_yes m sb]
  rcases List.suffix_or_suffix_of_suffix ca cb with q | q
  · exact Or.inl (q.mem (chainB_self l a))
  · exact Or.inr (q.mem (chainB_self l b))
theorem under_anti {l : List Bk} {a b : Id2} (h1 : underC l a b = true) (h2 : underC l b a = true) : a = b := by
  rw [underC_true] at h1 h2
  obtain ⟨m, s1, k1⟩ := mem_chainC h1
  obtain ⟨_, s2, k2⟩ := mem_chainC h2
  have e := (chain_suffix m _ rfl s1 k1).2.eq_of_length_le (chain_suffix m _ rfl s2 k2).2.length_le
  obtain ⟨r, e1⟩ := chainB_head l a
  obtain ⟨r', e2⟩ := chainB_head l b
  rw [e1, e2] at e
  cases e
  rfl
/-- A chain, link by link. -/
theorem chain_link {l : List Bk} (h : mayB l = true) : ∀ (n : Nat) {x : Id2}, rank l x = n → standsB l x = true → ∀ (j : Nat) (y z : Id2), (chainB l x)[j]? = some y → (chainB l x)[j + 1]? = some z →
    ∃ (i : Nat) (hi : i < l.length), posB l y = some i ∧ l[i].p = z := by
  intro n
  induction n using Nat.strongRecOn with
  | ind n ih =>
    intro x hn hs j y z hy hz
    cases q : posB l x with
    | none =>
      rw [chainB_none q] at hz
      simp at hz
    | some i =>
      have hi := posB_lt q
      have hr := rank_parent h hi
      rw [chainB_some h q] at hy hz
      cases j with
      | zero =>
        simp at hy
        subst hy
        rw [List.getElem?_cons_succ] at hz
        obtain ⟨r, e⟩ := chainB_head l l[i].p
        rw [e] at hz
        simp at hz
        exact ⟨i, hi, q, hz⟩
      | succ j =>
        rw [List.getElem?_cons_succ] at hy hz
        rw [rank_some q] at hn
        exact ih (rank l l[i].p) (by omega) rfl (may_stands h hi) j y z hy hz

/-! ### One block more -/
theorem posB_more {l : List Bk} {x : Id2} {i : Nat} (b : Bk) (q : posB l x = some i) : posB (l ++ [b]) x = some i := by
  unfold posB at q ⊢; rw [namesB_snoc]; exact posN_append_some q _
theorem chain_more {l : List Bk} {b : Bk} (h : mayB l = true) (k : mayB (l ++ [b]) = true) : ∀ (n : Nat) {x : Id2}, rank l x = n → standsB l x = true → chainB (l ++ [b]) x = chainB l x := by
  intro n
  induction n using Nat.strongRecOn with
  | ind n ih =>
    intro x hn hs
    cases q : posB l x with
    | none =>
      rcases standsB_iff.1 hs with ⟨i, e⟩ | e
      · rw [q] at e; cases e
      · rw [chainB_none q, e, chainB_none (may_zero k)]
    | some i =>
      have hi := posB_lt q
      have hr := rank_parent h hi
      rw [rank_some q] at hn
      rw [chainB_some h q, chainB_some k (posB_more b q)]
      have e : (l ++ [b])[i]'(by simp; omega) = l[i] := List.getElem_append_left hi
      rw [e, ih (rank l l[i].p) (by omega) rfl (may_stands h hi)]
theorem stands_more {l : List Bk} {b : Bk} {x : Id2} (hs : standsB l x = true) : standsB (l ++ [b]) x = true := by
  rcases standsB_iff.1 hs with ⟨i, e⟩ | e
  · exact standsB_iff.2 (Or.inl ⟨i, posB_more b e⟩)
  · exact standsB_iff.2 (Or.inr e)
theorem under_more {l : List Bk} {b : Bk} {x low : Id2} (k : mayB (l ++ [b]) = true) (hc : 0 < (chainC l x).length) : underC (l ++ [b]) low x = underC l low x := by
  have h : mayB l = true := by rw [mayB_snoc, Bool.and_eq_true] at k; exact k.1
  have hs : standsB l x = true := by
    cases q : standsB l x with
    | true => rfl
    | false => rw [chainC_no (fun _ => q)] at hc; simp at hc
  unfold underC
  rw [chainC_yes h hs, chainC_yes k (stands_more hs), chain_more h k _ rfl hs]

/-! ### All kids -/
def cntTo (l : List Bk) (k : Nat) : Nat := l.countP fun b => decide (rank l b.p ≤ k)
theorem countP_le_succ {α : Type} (f : α → Nat) (k : Nat) : ∀ m : List α, m.countP (fun b => decide (f b ≤ k + 1)) = m.countP (fun b => decide (f b ≤ k)) + m.countP (fun b => decide (f b = k + 1))
  | [] => rfl
  | b :: m => by
    rw [List.countP_cons, List.countP_cons, List.countP_cons, countP_le_succ f k m]
    by_cases h1 : f b ≤ k
    · simp [h1, show f b ≤ k + 1 by omega, show f b ≠ k + 1 by omega]; omega
    · by_cases h2 : f b = k + 1
      · simp [h2, show ¬ (k + 1 ≤ k) by omega]; omega
      · simp [h1, h2, show ¬ f b ≤ k + 1 by omega]
theorem kidsB_count (l : List Bk) (x : Id2) : (kidsB l x).length = l.countP (fun b => decide (b.p = x)) := by
  unfold kidsB; rw [namesB_length, List.countP_eq_length_filter]
theorem cnt_zero {l : List Bk} (h : mayB l = true) : (kidsB l zid).length = cntTo l 0 := by
  rw [kidsB_count]
  unfold cntTo
  refine List.countP_congr fun b hb => ?_
  obtain ⟨i, hi, rfl⟩ := List.getElem_of_mem hb
  simp only [decide_eq_true_iff]
  constructor
  · intro e; rw [e, rank_none (may_zero h)]; exact Nat.le_refl _
  · intro e
    rcases standsB_iff.1 (may_stands h hi) with ⟨j, q⟩ | q
    · rw [rank_some q] at e; omega
    · exact q
theorem cnt_succ {l : List Bk} (h : mayB l = true) {i : Nat} (hi : i < l.length) : cntTo l (i + 1) = cntTo l i + (kidsB l (nameB l[i])).length := by
  unfold cntTo
  rw [kidsB_count]
  refine (countP_le_succ (fun b : Bk => rank l b.p) i l).trans ?_
  congr 1
  refine List.countP_congr fun b hb => ?_
  obtain ⟨k, hk, rfl⟩ := List.getElem_of_mem hb
  simp only [decide_eq_true_iff]
  constructor
  · intro e
    cases q : posB l l[k].p with
    | none => rw [rank_none q] at e; omega
    | some j =>
      rw [rank_some q] at e
      have : j = i := by omega
      subst this
      exact (posB_name q).symm
  · intro e; rw [e, rank_some (may_pos h hi)]
theorem cnt_all {l : List Bk} : cntTo l l.length = l.length := by
  unfold cntTo
  rw [List.countP_eq_length]
  intro b _
  simpa using rank_le l b.p

/-! ### Names and salts -/
theorem idStep_inj {p : Id2} {x y : Nat} (hp : p.1 < 18446744073709551616) (hx : x < 18446744073709551616) (hy : y < 18446744073709551616) (e : idStep p x = idStep p y) : x = y := by
  have e1 : (idStep p x).1 = (idStep p y).1 := by rw [e]
  exact stepN_inj hp hx hy e1
theorem idStep_injL {p q : Id2} {x : Nat} (hp : p.1 < 18446744073709551616 ∧ p.2 < 18446744073709551616) (hq : q.1 < 18446744073709551616 ∧ q.2 < 18446744073709551616) (hx : x < 18446744073709551616) (e : idStep p x = idStep q x) : p = q := by
  have e1 : (idStep p x).1 = (idStep q x).1 := by rw [e]
  have e2 : (idStep p x).2 = (idStep q x).2 := by rw [e]
  unfold idStep at e1 e2
  simp only at e1 e2
  rw [stepN_comm p.1, stepN_comm q.1] at e1
  rw [stepN_comm p.2, stepN_comm q.2] at e2
  exact Prod.ext (stepN_inj hx hp.1 hq.1 e1) (stepN_inj (notN_lt _) hp.2 hq.2 e2)
theorem nameB_salt {b : Bk} {u v : Nat} (hu : u < 18446744073709551616) (hv : v < 18446744073709551616) (e : nameB { b with t := u } = nameB { b with t := v }) : u = v := by
  have k : ∀ t, nameB { b with t := t } = idStep (idStep (idFold [1, wd b.s, wd b.f, b.p.1, b.p.2]) t) 6 := fun t => by
    show idOf ([1, wd b.s, wd b.f, b.p.1, b.p.2] ++ [t]) = _
    unfold idOf
    rw [idFold_snoc]
    rfl
  rw [k, k] at e
  exact idStep_inj (idFold_lt _).1 hu hv (idStep_injL (idStep_lt _ _) (idStep_lt _ _) (by omega) e)
end

section
open Go.ChangeShapes Go.WideShapes Go.ChangeAt Go.RowKit

/-- Its words are words. -/
def WfI (x : Id2) : Prop := x.1 < 18446744073709551616 ∧ x.2 < 18446744073709551616
def WfB (b : Bk) : Prop := WfI b.p ∧ b.t < 18446744073709551616
theorem WfI.zid : WfI zid := ⟨by decide, by decide⟩
theorem nameB_lt (b : Bk) : WfI (nameB b) := idOf_lt _
theorem wd_int (a : Int) : IntKind.u64.wrap a = ((wd a : Nat) : Int) := by rw [IntKind.wrap_u64]; unfold wd; omega
theorem nameL_lt {b : Bk} (h : WfB b) : ∀ x ∈ nameL b, x < 18446744073709551616 := by
  intro x hx
  simp only [nameL, List.mem_cons, List.not_mem_nil, or_false] at hx
  rcases hx with rfl | rfl | rfl | rfl | rfl | rfl
  · decide
  · exact wd_lt _
  · exact wd_lt _
  · exact h.1.1
  · exact h.1.2
  · exact h.2

/-- Six words in a block of their own. -/
theorem words_six {w : World} {z : Nat} {b : Bk} (h : HasCells w z [.int .u64 1, .int .u64 (wd b.s : Nat), .int .u64 (wd b.f : Nat), .int .u64 b.p.1, .int .u64 b.p.2, .int .u64 b.t]) :
    WordsAt w w.heap.size (some ⟨z, 0, none⟩) (nameL b) := by
  intro j x hx
  refine ⟨_, rfl, h.1, ?_⟩
  have e : (⟨z, 0, none⟩ : Addr).add j = ⟨z, j, none⟩ := add_none z 0 j |>.trans (by simp)
  rw [e]
  refine h.2 j _ ?_
  unfold nameL at hx
  match j, hx with
  | 0, hx => cases hx; rfl
  | 1, hx => cases hx; rfl
  | 2, hx => cases hx; rfl
  | 3, hx => cases hx; rfl
  | 4, hx => cases hx; rfl
  | 5, hx => cases hx; rfl
  | j + 6, hx => simp at hx

set_option maxRecDepth 100000 in
set_option maxHeartbeats 1600000 in
theorem name_any (b : Bk) (hb : WfB b) (w : World) :
    Calls Try.prog 16 #[.agg #[.int .i64 b.s, .int .i64 b.f, .int .u64 b.p.1, .int .u64 b.p.2, .int .u64 b.t]] w fun e w' => e = .returned (.agg #[.int .u64 (nameB b).1, .int .u64 (nameB b).2]) ∧ Kept w w' := by
  have HB := Lib.hid hb
  have HX := Lib.hid (nameL_lt hb)
  have HS := Lib.hid (wd_int b.s)
  have HF := Lib.hid (wd_int b.f)
  clear hb
  go_enter Try.func16, Try.ntmps16
  go_wp2_with fail
  rw [HS.out, HF.out]
  have H6 := Lib.hid (HasCells.new ((w.alloc (.cells #[.int .i64 b.s, .int .i64 b.f, .int .u64 b.p.1, .int .u64 b.p.2, .int .u64 b.t] 42)).alloc (.cells #[.int .u64 0, .int .u64 0] 39)) #[.int .u64 1, .int .u64 (wd b.s : Nat), .int .u64 (wd b.f : Nat), .int .u64 b.p.1, .int .u64 b.p.2, .int .u64 b.t] 70 (w.heap.size + 1 + 1) (by simp))
  have H2 := Lib.hid ((HasCells.new (w.alloc (.cells #[.int .i64 b.s, .int .i64 b.f, .int .u64 b.p.1, .int .u64 b.p.2, .int .u64 b.t] 42)) #[.int .u64 0, .int .u64 0] 39 (w.heap.size + 1) (by simp)).alloc (.cells #[.int .u64 1, .int .u64 (wd b.s : Nat), .int .u64 (wd b.f : Nat), .int .u64 b.p.1, .int .u64 b.p.2, .int .u64 b.t] 70))
  have HK := Lib.hid ((((Kept.refl w).alloc (.cells #[.int .i64 b.s, .int .i64 b.f, .int .u64 b.p.1, .int .u64 b.p.2, .int .u64 b.t] 42)).alloc (.cells #[.int .u64 0, .int .u64 0] 39)).alloc (.cells #[.int .u64 1, .int .u64 (wd b.s : Nat), .int .u64 (wd b.f : Nat), .int .u64 b.p.1, .int .u64 b.p.2, .int .u64 b.t] 70))
  have HZ := Lib.hid (show ∀ j, (((w.alloc (.cells #[.int .i64 b.s, .int .i64 b.f, .int .u64 b.p.1, .int .u64 b.p.2, .int .u64 b.t] 42)).alloc (.cells #[.int .u64 0, .int .u64 0] 39)).alloc (.cells #[.int .u64 1, .int .u64 (wd b.s : Nat), .int .u64 (wd b.f : Nat), .int .u64 b.p.1, .int .u64 b.p.2, .int .u64 b.t] 70)).frozen? ⟨w.heap.size + 1, j, none⟩ = false by intro j; simp [go_sem])
  generalize ((w.alloc (.cells #[.int .i64 b.s, .int .i64 b.f, .int .u64 b.p.1, .int .u64 b.p.2, .int .u64 b.t] 42)).alloc (.cells #[.int .u64 0, .int .u64 0] 39)).alloc (.cells #[.int .u64 1, .int .u64 (wd b.s : Nat), .int .u64 (wd b.f : Nat), .int .u64 b.p.1, .int .u64 b.p.2, .int .u64 b.t] 70) = W at *
  refine (of_any _ 6 6 (nameL b) rfl (by omega) W HX.out (words_six H6.out)).mono ?_
  rintro e W1 ⟨rfl, k1⟩
  have d0 := (H2.out.kept k1).at0
  have d1 := (H2.out.kept k1).at1
  have e0 : W1.frozen? ⟨w.heap.size + 1, 0, none⟩ = false := (k1.frozen H2.out.1).trans (HZ.out 0)
  have e1 : W1.frozen? ⟨w.heap.size + 1, 1, none⟩ = false := (k1.frozen H2.out.1).trans (HZ.out 1)
  have hz : w.heap.size + 1 < W1.heap.size := (H2.out.kept k1).1
  have K1 := Lib.hid (HK.out.trans k1)
  have HP := Lib.hid (show nameB b = idOf (nameL b) from rfl)
  clear k1 HZ H2 H6 HK
  generalize idOf (nameL b) = p at *
  go_wp2_with fail
  refine bodyPost_ret (v := .agg #[.int .u64 p.1, .int .u64 p.2]) (by simp [results, Try.results16, go_sem, d0, d1]) rfl ⟨by rw [HP.out], ?_⟩
  exact (K1.out.setCell (p := ⟨w.heap.size + 1, 0, none⟩) (by simp) _).setCell (p := ⟨w.heap.size + 1, 1, none⟩) (by simp) _

/-! ### The beginning -/
def isZ (x : Id2) : Bool := decide (x = zid)
theorem isZ_int (x : Id2) : (((x.1 : Int) == 0) && ((x.2 : Int) == 0)) = isZ x := by
  obtain ⟨a, b⟩ := x
  unfold isZ zid
  rw [Bool.eq_iff_iff]
  simp
attribute [local go_sem high] eqId10 in
set_option maxHeartbeats 400000 in
theorem isBeg_any (x : Id2) (w : World) :
    Calls Try.prog 59 #[.agg #[.int .u64 x.1, .int .u64 x.2]] w fun e w' => e = .returned (.bool (isZ x)) ∧ Kept w w' := by
  have HZ := Lib.hid (isZ_int x)
  go_enter Try.func59, Try.ntmps59
  go_wp2
  go_ret
  exact ⟨by rw [← HZ.out]; rfl, (Kept.refl _).alloc _⟩
end

section
open Go.ChangeShapes Go.WideShapes Go.ChangeAt Go.RowKit

def bkCells (b : Bk) : List Value := [.int .i64 b.s, .int .i64 b.f, .int .u64 b.p.1, .int .u64 b.p.2, .int .u64 b.t]
def blockCells (l : List Bk) : List Value := l.flatMap bkCells
def idCells (x : Id2) : List Value := [.int .u64 x.1, .int .u64 x.2]
def idsCells (l : List Id2) : List Value := l.flatMap idCells
theorem blockCells_at : ∀ {l : List Bk} {i : Nat} (hi : i < l.length) {j : Nat} {u : Value}, (bkCells l[i])[j]? = some u → (blockCells l)[i * 5 + j]? = some u
  | b :: l, 0, _, j, u, h => by
    have hj : j < (bkCells b).length := (List.getElem?_eq_some_iff.1 h).1
    show (bkCells b ++ blockCells l)[0 * 5 + j]? = _
    rw [Nat.zero_mul, Nat.zero_add, List.getElem?_append_left hj]; exact h
  | b :: l, i + 1, hi, j, u, h => by
    show (bkCells b ++ blockCells l)[(i + 1) * 5 + j]? = _
    have h5 : (bkCells b).length = 5 := rfl
    rw [List.getElem?_append_right (by omega), h5, show (i + 1) * 5 + j - 5 = i * 5 + j by omega]
    exact blockCells_at (l := l) (by simpa using hi) h
theorem idsCells_at : ∀ {l : List Id2} {i : Nat} (hi : i < l.length) {j : Nat} {u : Value}, (idCells l[i])[j]? = some u → (idsCells l)[i * 2 + j]? = some u
  | b :: l, 0, _, j, u, h => by
    have hj : j < (idCells b).length := (List.getElem?_eq_some_iff.1 h).1
    show (idCells b ++ idsCells l)[0 * 2 + j]? = _
    rw [Nat.zero_mul, Nat.zero_add, List.getElem?_append_left hj]; exact h
  | b :: l, i + 1, hi, j, u, h => by
    show (idCells b ++ idsCells l)[(i + 1) * 2 + j]? = _
    have h5 : (idCells b).length = 2 := rfl
    rw [List.getElem?_append_right (by omega), h5, show (i + 1) * 2 + j - 2 = i * 2 + j by omega]
    exact idsCells_at (l := l) (by simpa using hi) h
theorem blockCells_length (l : List Bk) : (blockCells l).length = l.length * 5 := by
  induction l with
  | nil => rfl
  | cons b l ih => show (bkCells b ++ blockCells l).length = _; rw [List.length_append, ih, List.length_cons]; show 5 + _ = _; omega
theorem idsCells_length (l : List Id2) : (idsCells l).length = l.length * 2 := by
  induction l with
  | nil => rfl
  | cons b l ih => show (idCells b ++ idsCells l).length = _; rw [List.length_append, ih, List.length_cons]; show 2 + _ = _; omega
theorem idsCells_append (l m : List Id2) : idsCells l ++ idsCells m = idsCells (l ++ m) := by simp [idsCells]
theorem idsCells_one (l : List Id2) : ∀ u ∈ idsCells l, u.oneCell' = true := fun u hu => by
  simp only [idsCells, List.mem_flatMap] at hu
  obtain ⟨x, _, hu⟩ := hu
  simp [idCells] at hu
  rcases hu with rfl | rfl <;> rfl
/-- Block i of a list. -/
theorem block_at {w : World} {B : Nat} {A : Option Addr} {l : List Bk} (h : CellsAt w B A (blockCells l)) {i : Nat} (hi : i < l.length) :
    ∃ z o, A = some ⟨z, o, none⟩ ∧ z < B ∧ w.cell? ⟨z, o + i * 5, none⟩ = some (.int .i64 l[i].s) ∧ w.cell? ⟨z, o + i * 5 + 1, none⟩ = some (.int .i64 l[i].f) ∧ w.cell? ⟨z, o + i * 5 + 2, none⟩ = some (.int .u64 l[i].p.1) ∧ w.cell? ⟨z, o + i * 5 + 3, none⟩ = some (.int .u64 l[i].p.2) ∧ w.cell? ⟨z, o + i * 5 + 4, none⟩ = some (.int .u64 l[i].t) := by
  obtain ⟨z, o, e, hb, hc⟩ := h.plain (by rw [blockCells_length]; omega)
  exact ⟨z, o, e, hb, hc _ _ (blockCells_at hi (j := 0) rfl), hc _ _ (blockCells_at hi (j := 1) rfl), hc _ _ (blockCells_at hi (j := 2) rfl), hc _ _ (blockCells_at hi (j := 3) rfl), hc _ _ (blockCells_at hi (j := 4) rfl)⟩
/-- Id i of a list. -/
theorem id_at {w : World} {B : Nat} {A : Option Addr} {l : List Id2} (h : CellsAt w B A (idsCells l)) {i : Nat} (hi : i < l.length) :
    ∃ z o, A = some ⟨z, o, none⟩ ∧ z < B ∧ w.cell? ⟨z, o + i * 2, none⟩ = some (.int .u64 l[i].1) ∧ w.cell? ⟨z, o + i * 2 + 1, none⟩ = some (.int .u64 l[i].2) := by
  obtain ⟨z, o, e, hb, hc⟩ := h.plain (by rw [idsCells_length]; omega)
  exact ⟨z, o, e, hb, hc _ _ (idsCells_at hi (j := 0) rfl), hc _ _ (idsCells_at hi (j := 1) rfl)⟩

/-! ### The map -/
theorem Try.arrID : WideMaps.ArrKey Try.prog 39 23 2 := ⟨Try.underlying39, by kernel_rfl, by kernel_rfl, by kernel_rfl⟩
theorem Try.keyedID : Maps.Keyed Try.prog 39 := Maps.Keyed.of_law Try.arrID.law
/-- What an id reads as, as a key. -/
def keyI (x : Id2) : Lit := .string (keyBytes [.int .u64 x.1, .int .u64 x.2])
theorem key_of {x : Id2} (h : WfI x) : keyOf Try.prog 39 (.agg #[.int .u64 x.1, .int .u64 x.2]) = some (keyI x) := WideMaps.keyOf_pair Try.arrID Try.underlying23 Try.someTypes (wf_u64 h.1) (wf_u64 h.2)
theorem keyI_inj {x y : Id2} (hx : WfI x) (hy : WfI y) (e : keyI x = keyI y) : x = y := by
  have k := Try.keyedID.inj (key_of hx) (by rw [e]; exact key_of hy)
  obtain ⟨a, b⟩ := x
  obtain ⟨c, d⟩ := y
  simp at k
  have k1 : (a : Int) = (c : Int) := k.1
  have k2 : (b : Int) = (d : Int) := k.2
  exact Prod.ext (by simp; omega) (by simp; omega)

/-- Block m holds where each of the names ns is. -/
def MapOf (ns : List Id2) (b m : Nat) (D : DataW Unit) (w : World) : Prop :=
  w.ownsMap Try.prog 39 (plainElem Try.prog 3) b m D ∧ ∀ x : Id2, WfI x → (match posN ns x with
    | some i => Maps.has D (keyI x) = true ∧ ∀ z, D.atKey (keyI x) z = .lit (.int .i64 (i : Int))
    | none => Maps.has D (keyI x) = false)
theorem MapOf.made (w : World) : MapOf [] w.heap.size 0 (.map []) (w.alloc (.map #[] 0)) := ⟨World.ownsMap_made w _ _ _, fun _ _ => rfl⟩
theorem MapOf.kept {ns : List Id2} {b m : Nat} {D : DataW Unit} {w w' : World} (h : MapOf ns b m D w) (k : Kept w w') : MapOf ns b m D w' := by
  refine ⟨?_, h.2⟩
  obtain ⟨es, clock, hb, r⟩ := h.1
  exact ⟨es, clock, (k.heap (Array.getElem?_eq_some_iff.1 hb).1).trans hb, r⟩
theorem MapOf.hit {ns : List Id2} {b m : Nat} {D : DataW Unit} {w : World} (h : MapOf ns b m D w) {x : Id2} (hx : WfI x) {i : Nat} (q : posN ns x = some i) : Maps.has D (keyI x) = true ∧ ∀ z, D.atKey (keyI x) z = .lit (.int .i64 (i : Int)) := by
  have := h.2 x hx; rw [q] at this; exact this
theorem MapOf.miss {ns : List Id2} {b m : Nat} {D : DataW Unit} {w : World} (h : MapOf ns b m D w) {x : Id2} (hx : WfI x) (q : posN ns x = none) : Maps.has D (keyI x) = false := by
  have := h.2 x hx; rw [q] at this; exact this
theorem MapOf.put {ns : List Id2} {b m : Nat} {D : DataW Unit} {w : World} (h : MapOf ns b m D w) {n : Id2} (hn : WfI n) (q : posN ns n = none) (x : Id2) (hx : WfI x) : (match posN (ns ++ [n]) x with
    | some i => Maps.has (D.put (keyI n) (.lit (.int .i64 (ns.length : Int)))) (keyI x) = true ∧ ∀ z, (D.put (keyI n) (.lit (.int .i64 (ns.length : Int)))).atKey (keyI x) z = .lit (.int .i64 (i : Int))
    | none => Maps.has (D.put (keyI n) (.lit (.int .i64 (ns.length : Int)))) (keyI x) = false) := by
  have hk : WideAt.IsKeyLit (keyI n) := Try.keyedID.key (key_of hn)
  rw [posN_snoc]
  by_cases e : n = x
  · subst e
    rw [q, if_pos rfl]
    exact ⟨Maps.has_put_same h.1.isMap hk _, fun z => Maps.atKey_put_same h.1.isMap hk _ z⟩
  · have hne : keyI x ≠ keyI n := fun k => e (keyI_inj hn hx k.symm)
    have hx' := h.2 x hx
    cases p : posN ns x with
    | some i =>
      rw [p] at hx'
      simp only
      exact ⟨(Maps.has_put_other hne _).trans hx'.1, fun z => (Maps.atKey_put_other hne _ z).trans (hx'.2 z)⟩
    | none =>
      rw [p] at hx'
      simp only [if_neg e]
      exact (Maps.has_put_other hne _).trans hx'
end

section
open Go.ChangeShapes Go.WideShapes Go.ChangeAt Go.RowKit

/-! ### Asking the map -/
section
variable (w : World) {ops : Array Oper} {rest : List Oper} {o : Oper} {a : Act} {Q : Exit → Act → World → Prop}
theorem wpList_place_hit (hg : o.guard = none) (m x : Operand) (hop : o.op = Op.lookup 61 m x true) (ns : List Id2) (b n : Nat) (D : DataW Unit) (hm : a.eval m = .map (some b)) (hM : MapOf ns b n D w) (i : Id2) (hx : a.eval x = .agg #[.int .u64 i.1, .int .u64 i.2]) (hi : WfI i)
    (k : Nat) (q : posN ns i = some k) (hK : wpList Try.prog ops Q rest (a.put o.dst (.tuple #[.int .i64 (k : Int), .bool true])) w) : wpList Try.prog ops Q (o :: rest) a w := by
  refine wpList_lookup_own_ok_int w hg m x 61 hop 39 3 .i64 Try.keyedID Try.underlying61 Try.underlying3 (Try.zeroValue3 _) b n D hm hM.1 _ _ hx (key_of hi) ?_
  intro c hat _
  have h := hM.hit hi q
  rw [h.2] at hat
  cases hat
  rw [h.1]
  exact hK
theorem wpList_place_miss (hg : o.guard = none) (m x : Operand) (hop : o.op = Op.lookup 61 m x true) (ns : List Id2) (b n : Nat) (D : DataW Unit) (hm : a.eval m = .map (some b)) (hM : MapOf ns b n D w) (i : Id2) (hx : a.eval x = .agg #[.int .u64 i.1, .int .u64 i.2]) (hi : WfI i)
    (q : posN ns i = none) (hK : wpList Try.prog ops Q rest (a.put o.dst (.tuple #[.int .i64 0, .bool false])) w) : wpList Try.prog ops Q (o :: rest) a w := by
  refine wpList_lookup_own_ok_int w hg m x 61 hop 39 3 .i64 Try.keyedID Try.underlying61 Try.underlying3 (Try.zeroValue3 _) b n D hm hM.1 _ _ hx (key_of hi) ?_
  intro c hat _
  have h := hM.miss hi q
  rw [Maps.atKey_of_not_has h] at hat
  cases hat
  rw [h]
  exact hK
end

def standsN (ns : List Id2) (x : Id2) : Bool := (posN ns x).isSome || decide (x = zid)
theorem standsN_hit {ns : List Id2} {x : Id2} {i : Nat} (q : posN ns x = some i) : standsN ns x = true := by unfold standsN; rw [q]; rfl
theorem standsN_miss {ns : List Id2} {x : Id2} (q : posN ns x = none) : standsN ns x = isZ x := by unfold standsN isZ; rw [q]; rfl

set_option maxHeartbeats 800000 in
theorem stands_any (ns : List Id2) (b m : Nat) (D : DataW Unit) (x : Id2) (hx : WfI x) (w : World) (hM : MapOf ns b m D w) :
    Calls Try.prog 57 #[.map (some b), .agg #[.int .u64 x.1, .int .u64 x.2]] w fun e w' => e = .returned (.bool (standsN ns x)) ∧ Kept w w' := by
  have HM := Lib.hid (hM.kept ((Kept.refl w).alloc (.cells #[.int .u64 x.1, .int .u64 x.2] 39)))
  have HX := Lib.hid hx
  clear hM hx
  cases q : posN ns x with
  | some i =>
    have HS := Lib.hid (standsN_hit q)
    have HQ := Lib.hid q
    clear q
    go_enter Try.func57, Try.ntmps57
    go_wp2_with (at_lookup; refine wpList_place_hit _ rfl _ _ rfl ns b m D rfl HM.out x rfl HX.out i HQ.out ?_)
    go_ret
    exact ⟨by rw [HS.out]; rfl, (Kept.refl _).alloc _⟩
  | none =>
    have HS := Lib.hid (standsN_miss q)
    have HQ := Lib.hid q
    clear q
    go_enter Try.func57, Try.ntmps57
    go_wp2_with (at_lookup; refine wpList_place_miss _ rfl _ _ rfl ns b m D rfl HM.out x rfl HX.out HQ.out ?_)
    refine (isBeg_any x _).mono ?_
    rintro e W1 ⟨rfl, k1⟩
    have K1 := Lib.hid (((Kept.refl w).alloc _).trans k1)
    clear k1
    go_wp2_with fail
    go_ret
    exact ⟨by rw [HS.out]; rfl, K1.out⟩

/-! ### slotOf -/
def slotV (o : Option Int) : Value := .tuple #[.int .i64 (o.getD 0), .bool o.isSome]
theorem slotB_hit {l : List Bk} {x : Id2} {i : Nat} (q : posB l x = some i) : slotB l x = some (l[i]'(posB_lt q)).s := by
  unfold slotB; rw [q]; simp [posB_lt q]
theorem slotB_miss {l : List Bk} {x : Id2} (q : posB l x = none) : slotB l x = if x = zid then some 0 else none := by unfold slotB; rw [q]
theorem slotV_miss {l : List Bk} {x : Id2} (q : posB l x = none) : slotV (slotB l x) = .tuple #[.int .i64 0, .bool (isZ x)] := by
  rw [slotB_miss q]; unfold slotV isZ
  by_cases e : x = zid <;> simp [e]

set_option maxHeartbeats 800000 in
theorem slotOf_any (A : Option Addr) (c : Nat) (l : List Bk) (k : Nat) (hk : k ≤ l.length) (hl : l.length ≤ 1000000) (b m : Nat) (D : DataW Unit) (x : Id2) (hx : WfI x) (w : World) (hA : CellsAt w w.heap.size A (blockCells l)) (hM : MapOf (namesB (l.take k)) b m D w) :
    Calls Try.prog 46 #[.slice A l.length c, .map (some b), .agg #[.int .u64 x.1, .int .u64 x.2]] w fun e w' => e = .returned (slotV (slotB (l.take k) x)) ∧ Kept w w' := by
  have HM := Lib.hid (hM.kept ((Kept.refl w).alloc (.cells #[.int .u64 x.1, .int .u64 x.2] 39)))
  have HA := Lib.hid (hA.kept ((Kept.refl w).alloc (.cells #[.int .u64 x.1, .int .u64 x.2] 39)))
  have HX := Lib.hid hx
  clear hM hx hA
  cases q : posB (l.take k) x with
  | some i =>
    have hi := posB_lt q
    have hil : i < l.length := by rw [List.length_take] at hi; omega
    have HS := Lib.hid (show slotB (l.take k) x = some l[i].s by rw [slotB_hit q, List.getElem_take])
    have HQ := Lib.hid q
    obtain ⟨z, o, rfl, hb, c0, cr⟩ := block_at HA.out hil
    clear q hi cr
    go_enter Try.func46, Try.ntmps46
    go_wp2_with (at_lookup; refine wpList_place_hit _ rfl _ _ rfl _ b m D rfl HM.out x rfl HX.out i HQ.out ?_)
    go_ret2
    exact ⟨by rw [HS.out]; rfl, (Kept.refl _).alloc _⟩
  | none =>
    have HS := Lib.hid (slotV_miss q)
    have HQ := Lib.hid q
    clear q
    go_enter Try.func46, Try.ntmps46
    go_wp2_with (at_lookup; refine wpList_place_miss _ rfl _ _ rfl _ b m D rfl HM.out x rfl HX.out HQ.out ?_)
    refine (isBeg_any x _).mono ?_
    rintro e W1 ⟨rfl, k1⟩
    have K1 := Lib.hid (((Kept.refl w).alloc _).trans k1)
    clear k1
    go_wp2_with fail
    go_ret2
    exact ⟨by rw [HS.out]; rfl, K1.out⟩

/-! ### standsRight -/
theorem rightB_some {l : List Bk} {b : Bk} {s : Int} (q : slotB l b.p = some s) : rightB l b = decide (s < b.s) := by unfold rightB; rw [q]
theorem rightB_none {l : List Bk} {b : Bk} (q : slotB l b.p = none) : rightB l b = false := by unfold rightB; rw [q]
set_option maxHeartbeats 800000 in
theorem right_any (A : Option Addr) (c : Nat) (l : List Bk) (k : Nat) (hk : k ≤ l.length) (hl : l.length ≤ 1000000) (b m : Nat) (D : DataW Unit) (x : Bk) (hx : WfB x) (w : World) (hA : CellsAt w w.heap.size A (blockCells l)) (hM : MapOf (namesB (l.take k)) b m D w) :
    Calls Try.prog 58 #[.slice A l.length c, .map (some b), .agg #[.int .i64 x.s, .int .i64 x.f, .int .u64 x.p.1, .int .u64 x.p.2, .int .u64 x.t]] w fun e w' => e = .returned (.bool (rightB (l.take k) x)) ∧ Kept w w' := by
  have HM := Lib.hid (hM.kept ((Kept.refl w).alloc (.cells #[.int .i64 x.s, .int .i64 x.f, .int .u64 x.p.1, .int .u64 x.p.2, .int .u64 x.t] 42)))
  have HA := Lib.hid (hA.kept ((Kept.refl w).alloc (.cells #[.int .i64 x.s, .int .i64 x.f, .int .u64 x.p.1, .int .u64 x.p.2, .int .u64 x.t] 42)))
  have HC := Lib.hid (HasCells.new w #[.int .i64 x.s, .int .i64 x.f, .int .u64 x.p.1, .int .u64 x.p.2, .int .u64 x.t] 42 w.heap.size rfl)
  have HX := Lib.hid hx
  clear hM hx hA
  go_enter Try.func58, Try.ntmps58
  go_wp2_with fail
  refine (slotOf_any A c l k hk hl b m D x.p HX.out.1 _ HA.out HM.out).mono ?_
  rintro e W1 ⟨rfl, k1⟩
  obtain ⟨c0, c1, c2, c3, c4⟩ := (HC.out.kept k1).five
  have K1 := Lib.hid (((Kept.refl w).alloc _).trans k1)
  clear k1
  cases q : slotB (l.take k) x.p with
  | none =>
    have HR := Lib.hid (rightB_none q)
    simp only [slotV, Option.getD_none, Option.isSome_none]
    clear q
    go_wp2_with fail
    go_ret
    exact ⟨by rw [HR.out]; rfl, K1.out⟩
  | some s =>
    have HR := Lib.hid (rightB_some q)
    simp only [slotV, Option.getD_some, Option.isSome_some]
    clear q
    go_wp2_with fail
    go_ret
    exact ⟨by rw [HR.out]; rfl, K1.out⟩
end

section
open Go.ChangeShapes Go.WideShapes Go.ChangeAt Go.RowKit

theorem run_makeHint (n : Nat) (w : World) : (Instr.makeMap 61 (some (.int .i64 (n : Int)))).run Try.prog w = .ok (.map (some w.heap.size)) (w.alloc (.map #[] 0)) := by
  simp [Instr.makeMap, run_underlying Try.underlying61, go_sem]
/-- What places hands back. -/
def PlacesOf (l : List Bk) (w : World) (e : Ending) (w' : World) : Prop :=
  Kept w w' ∧ ((mayB l = true ∧ ∃ b m D, e = .returned (.tuple #[.map (some b), .bool true]) ∧ w.heap.size ≤ b ∧ MapOf (namesB l) b m D w') ∨ (mayB l = false ∧ e = .returned (.tuple #[.map none, .bool false])))
def WfL (l : List Bk) : Prop := ∀ b ∈ l, WfB b

theorem may_step {l : List Bk} {k : Nat} (hk : k < l.length) (h : mayTo l k = true) : mayTo l (k + 1) = (!standsN (namesB (l.take k)) (nameB l[k]) && rightB (l.take k) l[k]) := by
  rw [mayTo_succ hk, h]; rfl
theorem names_step {l : List Bk} {k : Nat} (hk : k < l.length) : namesB (l.take (k + 1)) = namesB (l.take k) ++ [nameB l[k]] := by
  rw [List.take_succ_eq_append_getElem hk, namesB_snoc]
theorem not_stands {ns : List Id2} {n : Id2} (h : standsN ns n = false) : posN ns n = none := by
  cases q : posN ns n with
  | none => rfl
  | some i => rw [standsN_hit q] at h; cases h

set_option maxRecDepth 100000 in
set_option maxHeartbeats 1600000 in
theorem places_any (A : Option Addr) (c : Nat) (l : List Bk) (hl : l.length ≤ 1000000) (hw : WfL l) (w : World) (hA : CellsAt w w.heap.size A (blockCells l)) :
    Calls Try.prog 45 #[.slice A l.length c] w (PlacesOf l w) := by
  have HA := Lib.hid hA
  have HW := Lib.hid hw
  have hmm := run_makeHint l.length w
  have HM := Lib.hid (MapOf.made w)
  clear hA hw
  go_enter Try.func45, Try.ntmps45
  go_wp2_with fail
  go_loopw [13] (fun i w' => ∃ k m D, k ≤ l.length ∧ m ≤ k ∧ i = .int .i64 (k : Nat) ∧ MapOf (namesB (l.take k)) w.heap.size m D w' ∧ Kept w w' ∧ mayTo l k = true) (fun i _ => l.length - (intOf i).toNat)
  case atStart =>
    exact ⟨0, 0, .map [], by omega, by omega, rfl, HM.out, (Kept.refl w).alloc _, rfl⟩
  case round =>
    obtain ⟨k, m, D, hk, hmk, rfl, hM, hK, hy⟩ := hrel
    have HR := Lib.hid hM
    have HK := Lib.hid hK
    have HY := Lib.hid hy
    clear hM hK hy HM
    by_cases hlt : k < l.length
    · obtain ⟨z, o, rfl, hb, c0, c1, c2, c3, c4⟩ := block_at (HA.out.kept HK.out) hlt
      have HX := Lib.hid (HW.out l[k] (List.getElem_mem hlt))
      have HO := Lib.hid (may_step hlt HY.out)
      have HTT := Lib.hid (names_step hlt)
      generalize l[k] = x at *
      go_wp2_with fail
      refine (name_any x HX.out _).mono ?_
      rintro e W1 ⟨rfl, k1⟩
      have HB1 := Lib.hid (((HasCells.new wr #[.int .i64 x.s, .int .i64 x.f, .int .u64 x.p.1, .int .u64 x.p.2, .int .u64 x.t] 42 wr.heap.size rfl).kept k1).alloc (.cells #[.int .u64 (nameB x).1, .int .u64 (nameB x).2] 39))
      have HK1 := Lib.hid (((HK.out.alloc _).trans k1).alloc (.cells #[.int .u64 (nameB x).1, .int .u64 (nameB x).2] 39))
      have HM1 := Lib.hid (((HR.out.kept ((Kept.refl wr).alloc _)).kept k1).kept ((Kept.refl W1).alloc (.cells #[.int .u64 (nameB x).1, .int .u64 (nameB x).2] 39)))
      have HC1 := Lib.hid (HasCells.new W1 #[.int .u64 (nameB x).1, .int .u64 (nameB x).2] 39 W1.heap.size rfl)
      have HN := Lib.hid (nameB_lt x)
      clear k1 c0 c1 c2 c3 c4 HR HK
      generalize nameB x = n at *
      go_wp2_with fail
      generalize W1.alloc (.cells #[.int .u64 n.1, .int .u64 n.2] 39) = W2 at *
      generalize W1.heap.size = z1 at *
      generalize wr.heap.size = z0 at *
      refine (stands_any _ _ m D n HN.out W2 HM1.out).mono ?_
      rintro e W3 ⟨rfl, k3⟩
      have HK3 := Lib.hid (HK1.out.trans k3)
      have HM3 := Lib.hid (HM1.out.kept k3)
      have HC3 := Lib.hid (HC1.out.kept k3)
      have HA3 := Lib.hid (HA.out.kept (HK1.out.trans k3))
      obtain ⟨c0, c1, c2, c3, c4⟩ := (HB1.out.kept k3).five
      have HB3 := Lib.hid (HB1.out.kept k3)
      clear k3 HK1 HM1 HC1 HB1
      cases hs : standsN (namesB (l.take k)) n with
      | true =>
        have HE := Lib.hid (show mayB l = false from mayTo_no hlt (by rw [HO.out, hs]; rfl))
        clear hs
        go_wp2_with fail
        go_ret2
        exact ⟨HK3.out, Or.inr ⟨HE.out, rfl⟩⟩
      | false =>
        have HS := Lib.hid hs
        clear hs
        go_wp2_with fail
        refine (right_any _ c l k hk hl _ m D x HX.out W3 HA3.out HM3.out).mono ?_
        rintro e W4 ⟨rfl, k4⟩
        have HK4 := Lib.hid (HK3.out.trans k4)
        have HM4 := Lib.hid (HM3.out.kept k4)
        have HC4 := Lib.hid (HC3.out.kept k4)
        clear k4 HK3 HM3 HC3 HB3 c0 c1 c2 c3 c4
        cases hr : rightB (l.take k) x with
        | false =>
          have HE := Lib.hid (show mayB l = false from mayTo_no hlt (by rw [HO.out, hr, Bool.and_false]))
          clear hr
          go_wp2_with fail
          go_ret2
          exact ⟨HK4.out, Or.inr ⟨HE.out, rfl⟩⟩
        | true =>
          have HE := Lib.hid (show mayTo l (k + 1) = true by rw [HO.out, hr, HS.out]; rfl)
          have HQ := Lib.hid (not_stands HS.out)
          have HLn := Lib.hid (show (namesB (l.take k)).length = k by rw [namesB_length, List.length_take]; omega)
          have hown := HM4.out.1
          have hkey := key_of HN.out
          have hmx : m < maxLen := by unfold maxLen; omega
          have hval : plainElem (H := Unit) Try.prog 3 (.int .i64 (k : Int)) = some (.lit (.int .i64 (k : Int)), []) := plainElem_int Try.underlying3 (Go.WalkArith.wf_i64 (by omega))
          obtain ⟨c0, c1⟩ := HC4.out.two
          clear hr
          go_wp2_with (at_mapUpdate; refine wpList_mapUpdate_own _ rfl _ _ _ 61 rfl 39 3 Try.keyedID Try.underlying61 _ _ _ _ rfl hown hmx _ _ _ rfl rfl hkey (.lit (.int .i64 (k : Int))) [] hval ?_; intro w1 hown1 hgrow1)
          go_roundw
          case rel =>
            refine ⟨k + 1, m + 1, D.put (keyI n) (.lit (.int .i64 (k : Int))), by omega, by omega, by go_num, ⟨hown1, ?_⟩, HK4.out.grown hgrow1 (fun i hi => by cases hi; exact Nat.le_refl _), HE.out⟩
            intro y hy
            have := HM4.out.put HN.out HQ.out y hy
            rw [HLn.out, ← HTT.out] at this
            exact this
          case measure => simp [intOf]; omega
    · have hkl : k = l.length := by omega
      subst hkl
      have HT := Lib.hid (show l.take l.length = l from List.take_length)
      go_wp2_with fail
      go_ret2
      exact ⟨HK.out, Or.inl ⟨HY.out, w.heap.size, m, D, rfl, Nat.le_refl _, by rw [HT.out] at HR; exact HR.out⟩⟩
end

section
open Go.ChangeShapes Go.WideShapes Go.ChangeAt Go.RowKit

theorem Try.infoID : (Try.prog.info? 39).map (fun i => (i.zero, i.size, i.bytes)) = some (some (.agg #[.int .u64 0, .int .u64 0]), 2, 16) := by kernel_rfl
/-- v holds the ids of l, in a row of its own; all that lay in W lies as it was. -/
def Ids (W : World) (l : List Id2) (v : Value) (w : World) : Prop := w.ownsRow W.heap.size 39 2 v l.length (idsCells l) ∧ Kept W w
theorem Ids.nil (W : World) : Ids W [] (.slice none 0 0) W := ⟨World.ownsRow_nil _ _ _ _, Kept.refl _⟩
theorem Ids.none {W w : World} (k : Kept W w) : Ids W [] (.slice none 0 0) w := ⟨World.ownsRow_nil _ _ _ _, k⟩
theorem Ids.alloc {W w : World} {l : List Id2} {v : Value} (h : Ids W l v w) (o : Obj) : Ids W l v (w.alloc o) := ⟨h.1.alloc o, h.2.alloc o⟩
theorem Ids.kept {W w w' : World} {l : List Id2} {v : Value} (h : Ids W l v w) (k : Kept w w') : Ids W l v w' := by
  refine ⟨⟨h.1.1, ?_⟩, h.2.trans k⟩
  rcases h.1.2 with h2 | ⟨g, cap, cur, hv, hg, hh, r⟩
  · exact Or.inl h2
  · exact Or.inr ⟨g, cap, cur, hv, hg, by rw [k.heap (h.1.lt g (by rw [hv]; rfl)).2]; exact hh, r⟩
theorem ids_one_at {w : World} {z : Nat} {x : Id2} (h : HasCells w z [.int .u64 x.1, .int .u64 x.2]) : CellsAt w w.heap.size (some ⟨z, 0, none⟩) (idsCells [x]) := by
  intro j u hu
  refine ⟨_, rfl, h.1, ?_⟩
  rw [add_none, Nat.zero_add]
  exact h.2 j u (by simpa [idsCells, idCells] using hu)
/-- What hands back the ids of l, as a list that is new. -/
def IdsNew (l : List Id2) (w : World) (e : Ending) (w' : World) : Prop :=
  ∃ A c, e = .returned (.slice A l.length c) ∧ CellsAt w' w'.heap.size A (idsCells l) ∧ (∀ ad, A = some ad → w.heap.size ≤ ad.block) ∧ Kept w w'
theorem Ids.slice {W w : World} {l : List Id2} {v : Value} (h : Ids W l v w) : ∃ A c, v = .slice A l.length c := by
  rcases h.1.2 with ⟨hv, h0⟩ | ⟨g, cap, cur, hv, _⟩
  · rw [h0]; exact ⟨_, _, hv⟩
  · exact ⟨_, _, hv⟩
theorem Ids.new {W w : World} {l : List Id2} {A : Option Addr} {c : Nat} (h : Ids W l (.slice A l.length c) w) : IdsNew l W (.returned (.slice A l.length c)) w := by
  refine ⟨A, c, rfl, CellsAt.of_own h.1, ?_, h.2⟩
  intro ad hA
  subst hA
  rcases h.1.2 with ⟨hv, _⟩ | ⟨g, cap, cur, hv, hg, _⟩
  · cases hv
  · cases hv; exact hg
theorem IdsNew.nil {w w' : World} (k : Kept w w') : IdsNew [] w (.returned (.slice none 0 0)) w' := ⟨none, 0, rfl, CellsAt.nil, (fun _ h => by cases h), k⟩
end

section
open Go.ChangeShapes Go.WideShapes Go.ChangeAt Go.RowKit

set_option maxHeartbeats 800000 in
theorem may_any (A : Option Addr) (c : Nat) (l : List Bk) (hl : l.length ≤ 1000000) (hw : WfL l) (w : World) (hA : CellsAt w w.heap.size A (blockCells l)) :
    Calls Try.prog 25 #[.slice A l.length c] w fun e w' => e = .returned (.bool (mayB l)) ∧ Kept w w' := by
  have HP := Lib.hid (places_any A c l hl hw w hA)
  clear hw hA
  go_enter Try.func25, Try.ntmps25
  go_wp2_with fail
  refine HP.out.mono ?_
  rintro e W1 ⟨k1, ⟨hm, b, m, D, rfl, _, _⟩ | ⟨hm, rfl⟩⟩
  all_goals
    have HM := Lib.hid hm
    have K1 := Lib.hid k1
    clear hm k1
    go_wp2_with fail
    go_ret
    exact ⟨by rw [HM.out]; rfl, K1.out⟩

/-- In no map nothing is found. -/
theorem look_nil {x : Id2} (hx : WfI x) (w : World) : (Instr.lookup 61 (.map none) (.agg #[.int .u64 x.1, .int .u64 x.2]) true).run Try.prog w = .ok (.tuple #[.int .i64 0, .bool false]) w := by
  have h1 : (Instr.checkKey true 10000 39 (.agg #[.int .u64 x.1, .int .u64 x.2])).run Try.prog w = .ok () w := Try.keyedID.check w true (key_of hx)
  have h2 : (Instr.findKey 39 (.agg #[.int .u64 x.1, .int .u64 x.2]) []).run Try.prog w = .ok none w := by
    rcases Try.keyedID.find w (key_of hx) [] (fun _ h => by cases h) with ⟨h, _⟩ | ⟨j, e, _, h, _⟩
    · exact h
    · simp at h
  have h3 : (zeroValue 3).run Try.prog w = .ok (.int .i64 0) w := Try.zeroValue3 w
  simp [Instr.lookup, run_underlying Try.underlying61, h1, h2, h3, Result.andThen]
theorem findC_hit {l : List Bk} {x : Id2} {i : Nat} (h : mayB l = true) (q : posB l x = some i) : findC l x = (i : Int) := by unfold findC; rw [if_pos h, q]
theorem findC_miss {l : List Bk} {x : Id2} (h : mayB l = true) (q : posB l x = none) : findC l x = -1 := by unfold findC; rw [if_pos h, q]
theorem findC_no {l : List Bk} {x : Id2} (h : mayB l = false) : findC l x = -1 := by unfold findC; rw [h]; rfl
def slotPV (p : Int × Bool) : Value := .tuple #[.int .i64 p.1, .bool p.2]
theorem slotC_yes {l : List Bk} (x : Id2) (h : mayB l = true) : slotV (slotB l x) = slotPV (slotC l x) := by
  unfold slotC slotV slotPV
  rw [if_pos h]
  cases slotB l x <;> rfl
theorem slotC_no {l : List Bk} (x : Id2) (h : mayB l = false) : slotC l x = (0, false) := by unfold slotC; rw [h]; rfl
set_option maxHeartbeats 800000 in
theorem slot_any (A : Option Addr) (c : Nat) (l : List Bk) (hl : l.length ≤ 1000000) (hw : WfL l) (x : Id2) (hx : WfI x) (w : World) (hA : CellsAt w w.heap.size A (blockCells l)) :
    Calls Try.prog 23 #[.slice A l.length c, .agg #[.int .u64 x.1, .int .u64 x.2]] w fun e w' => e = .returned (slotPV (slotC l x)) ∧ Kept w w' := by
  have HP := Lib.hid (places_any A c l hl hw _ (hA.kept ((Kept.refl w).alloc (.cells #[.int .u64 x.1, .int .u64 x.2] 39))))
  have HX := Lib.hid hx
  have HA := Lib.hid (hA.kept ((Kept.refl w).alloc (.cells #[.int .u64 x.1, .int .u64 x.2] 39)))
  have HC := Lib.hid (HasCells.new w #[.int .u64 x.1, .int .u64 x.2] 39 w.heap.size rfl)
  clear hw hA hx
  go_enter Try.func23, Try.ntmps23
  go_wp2_with fail
  refine HP.out.mono ?_
  rintro e W1 ⟨k1, ⟨hm, b, m, D, rfl, _, hM⟩ | ⟨hm, rfl⟩⟩
  · have HM := Lib.hid hM
    have K1 := Lib.hid (((Kept.refl w).alloc _).trans k1)
    have HF := Lib.hid (slotC_yes x hm)
    have HA1 := Lib.hid (HA.out.kept k1)
    have HT := Lib.hid (show l.take l.length = l from List.take_length)
    obtain ⟨c0, c1⟩ := (HC.out.kept k1).two
    clear hm k1 hM
    go_wp2_with fail
    refine (slotOf_any A c l l.length (Nat.le_refl _) hl b m D x HX.out _ HA1.out (by rw [HT.out]; exact HM.out)).mono ?_
    rintro e W2 ⟨rfl, k2⟩
    rw [HT.out, HF.out]
    have K2 := Lib.hid (K1.out.trans k2)
    unfold slotPV
    clear k2 c0 c1
    go_wp2_with fail
    go_ret2
    exact ⟨rfl, K2.out⟩
  · have HF := Lib.hid (slotC_no x hm)
    have K1 := Lib.hid (((Kept.refl w).alloc _).trans k1)
    clear hm k1
    go_wp2_with fail
    go_ret2
    exact ⟨by rw [HF.out]; rfl, K1.out⟩
end

section
open Go.ChangeShapes Go.WideShapes Go.ChangeAt Go.RowKit

def sameI (x y : Id2) : Bool := decide (x = y)
theorem sameI_yes {x y : Id2} (h : x = y) : sameI x y = true := decide_eq_true h
theorem sameI_no {x y : Id2} (h : ¬ x = y) : sameI x y = false := decide_eq_false h
theorem sameI_int (x y : Id2) : (((x.1 : Int) == (y.1 : Int)) && ((x.2 : Int) == (y.2 : Int))) = sameI x y := by
  obtain ⟨a, b⟩ := x
  obtain ⟨c, d⟩ := y
  unfold sameI
  rw [Bool.eq_iff_iff]
  simp
  omega
theorem eqIdN (x y : Id2) (w : World) : Sem.run Try.prog (Op.equalIn 10000 39 (.agg #[.int .u64 x.1, .int .u64 x.2]) (.agg #[.int .u64 y.1, .int .u64 y.2])) w = .ok (sameI x y) w := by rw [eqId10, sameI_int]
theorem eqIdZ (x : Id2) (w : World) : Sem.run Try.prog (Op.equalIn 10000 39 (.agg #[.int .u64 x.1, .int .u64 x.2]) (.agg #[.int .u64 0, .int .u64 0])) w = .ok (isZ x) w := by rw [eqId10, isZ_int]

theorem kidsC_yes {l : List Bk} (x : Id2) (h : mayB l = true) : kidsC l x = kidsB l x := by unfold kidsC; rw [if_pos h]
theorem kidsC_no {l : List Bk} (x : Id2) (h : mayB l = false) : kidsC l x = [] := by unfold kidsC; rw [h]; rfl
theorem kids_hit {l : List Bk} {x : Id2} {k : Nat} (hk : k < l.length) (e : l[k].p = x) : kidsB (l.take (k + 1)) x = kidsB (l.take k) x ++ [nameB l[k]] := by
  rw [List.take_succ_eq_append_getElem hk, kidsB_hit e]
theorem kids_miss {l : List Bk} {x : Id2} {k : Nat} (hk : k < l.length) (e : ¬ l[k].p = x) : kidsB (l.take (k + 1)) x = kidsB (l.take k) x := by
  rw [List.take_succ_eq_append_getElem hk, kidsB_miss e]
end

section
open Go.ChangeShapes Go.WideShapes Go.ChangeAt Go.RowKit

/-- Where an id is in a list; -1: nowhere. -/
def posV (ns : List Id2) (x : Id2) : Int := match posN ns x with | some i => (i : Int) | none => -1
theorem posN_hit {ns : List Id2} {x : Id2} {k : Nat} (hk : k < ns.length) (h : x ∉ ns.take k) (e : ns[k] = x) : posN ns x = some k := by
  have h1 : posN (ns.take (k + 1)) x = some k := by
    rw [List.take_succ_eq_append_getElem hk, posN_snoc, posN_none.2 h, e]
    simp [List.length_take, Nat.min_eq_left (Nat.le_of_lt hk)]
  exact posN_take h1
theorem posV_hit {ns : List Id2} {x : Id2} {k : Nat} (hk : k < ns.length) (h : x ∉ ns.take k) (e : ns[k] = x) : posV ns x = k := by unfold posV; rw [posN_hit hk h e]
theorem posV_none {ns : List Id2} {x : Id2} (h : x ∉ ns) : posV ns x = -1 := by unfold posV; rw [posN_none.2 h]
theorem not_in_step {ns : List Id2} {x : Id2} {k : Nat} (hk : k < ns.length) (h : x ∉ ns.take k) (e : ¬ ns[k] = x) : x ∉ ns.take (k + 1) := by
  rw [List.take_succ_eq_append_getElem hk]
  simp only [List.mem_append, List.mem_singleton, not_or]
  exact ⟨h, fun q => e q.symm⟩
theorem posV_geq (ns : List Id2) (x : Id2) : decide (0 ≤ posV ns x) = decide (x ∈ ns) := by
  unfold posV
  cases q : posN ns x with
  | none => simp [posN_none.1 q]
  | some i => simp [List.mem_of_getElem? (posN_some q)]
end

section
open Go.ChangeShapes Go.WideShapes Go.ChangeAt Go.RowKit

theorem standsN_B (l : List Bk) (x : Id2) : standsN (namesB l) x = standsB l x := rfl
theorem grown_setT (w : World) (a : Addr) (v : Value) : w.grownBy (w.setCell a v) (some a.block) := by
  refine ⟨rfl, rfl, rfl, by simp, fun i hi hne => ?_⟩
  exact Below.heap_setCell w a v i (fun e => hne (by rw [e]))
theorem MapOf.grown {ns : List Id2} {b m : Nat} {D : DataW Unit} {w w' : World} {row : Option Nat} (h : MapOf ns b m D w) (g : w.grownBy w' row) (hne : some b ≠ row) : MapOf ns b m D w' := ⟨h.1.kept g hne, h.2⟩

/-- What stays along a chain: the id's two cells in block z, the map in block b, all that lay in w; rows of one's own lie from base on. -/
structure Along (l : List Bk) (w : World) (b base m : Nat) (D : DataW Unit) (cur : Id2) (w' : World) : Prop where
  zb : w.heap.size < base
  bb : b < base
  ne : w.heap.size < b
  size : base ≤ w'.heap.size
  cells : HasCells w' w.heap.size [.int .u64 cur.1, .int .u64 cur.2]
  f0 : w'.frozen? ⟨w.heap.size, 0, none⟩ = false
  f1 : w'.frozen? ⟨w.heap.size, 1, none⟩ = false
  map : MapOf (namesB l) b m D w'
  kept : Kept w w'
theorem Along.grown {l : List Bk} {w : World} {b base m : Nat} {D : DataW Unit} {cur : Id2} {w' w2 : World} {row : Option Nat} (h : Along l w b base m D cur w') (g : w'.grownBy w2 row) (hr : ∀ k, row = some k → base ≤ k) : Along l w b base m D cur w2 where
  zb := h.zb
  bb := h.bb
  ne := h.ne
  size := Nat.le_trans h.size g.size
  cells := ⟨Nat.lt_of_lt_of_le h.cells.1 g.size, fun j u hu => g.cell (h.cells.2 j u hu) (fun e => by have := hr _ e.symm; have := h.zb; simp at *; omega)⟩
  f0 := (g.frozen_far _ h.cells.1 (fun e => by have := hr _ e.symm; have := h.zb; simp at *; omega)).trans h.f0
  f1 := (g.frozen_far _ h.cells.1 (fun e => by have := hr _ e.symm; have := h.zb; simp at *; omega)).trans h.f1
  map := h.map.grown g (fun e => by have := hr _ e.symm; have := h.bb; omega)
  kept := h.kept.grown g (fun k hk => by have := hr k hk; have := h.zb; omega)
theorem Along.alloc {l : List Bk} {w : World} {b base m : Nat} {D : DataW Unit} {cur : Id2} {w' : World} (h : Along l w b base m D cur w') (o : Obj) : Along l w b base m D cur (w'.alloc o) :=
  h.grown (World.grownBy_alloc w' o none) (fun _ e => by cases e)
theorem Along.set {l : List Bk} {w : World} {b base m : Nat} {D : DataW Unit} {cur : Id2} {w' : World} (h : Along l w b base m D cur w') (p : Id2) :
    Along l w b base m D p ((w'.setCell ⟨w.heap.size, 0, none⟩ (.int .u64 p.1)).setCell ⟨w.heap.size, 1, none⟩ (.int .u64 p.2)) where
  zb := h.zb
  bb := h.bb
  ne := h.ne
  size := by simpa using h.size
  cells := by
    refine ⟨by simpa using h.cells.1, fun j u hu => ?_⟩
    have c0 := h.cells.at0
    have c1 := h.cells.at1
    match j, hu with
    | 0, hu =>
      cases hu
      rw [World.cell?_setCell_other _ _ _ _ (by simp), World.cell?_setCell_same' _ _ _ (by simp [c0])]
    | 1, hu =>
      cases hu
      rw [World.cell?_setCell_same' _ _ _ (by rw [World.cell?_setCell_other _ _ _ _ (by simp)]; simp [c1])]
    | j + 2, hu => simp at hu
  f0 := by simpa using h.f0
  f1 := by simpa using h.f1
  map := (h.map.grown (grown_setT _ ⟨w.heap.size, 0, none⟩ _) (fun e => by cases e; exact Nat.lt_irrefl _ h.ne)).grown (grown_setT _ ⟨w.heap.size, 1, none⟩ _) (fun e => by cases e; exact Nat.lt_irrefl _ h.ne)
  kept := (h.kept.setCell (p := ⟨w.heap.size, 0, none⟩) (Nat.le_refl _) _).setCell (p := ⟨w.heap.size, 1, none⟩) (Nat.le_refl _) _
theorem row_set {w : World} {base : Nat} {e : TypeId} {size : Nat} {v : Value} {n : Nat} {xs : List Value} (h : w.ownsRow base e size v n xs) {z : Nat} (hz : z < base) (p : Id2) :
    ((w.setCell ⟨z, 0, none⟩ (.int .u64 p.1)).setCell ⟨z, 1, none⟩ (.int .u64 p.2)).ownsRow base e size v n xs := by
  have k : ∀ (w0 : World), w0.ownsRow base e size v n xs → ∀ (a : Addr) (u : Value), a.block = z → (w0.setCell a u).ownsRow base e size v n xs := fun w0 h0 a u ha =>
    h0.kept (grown_setT w0 a u) (by
      cases q : v.ownBlock with
      | none => exact Or.inl rfl
      | some g => exact Or.inr (fun e => by have := (h0.lt g q).1; cases e; omega))
  exact k _ (k _ h _ _ rfl) _ _ rfl

/-- The chain as far as it goes, and the id at which it stands. -/
def ChainAt (l : List Bk) (x : Id2) (w : World) (b : Nat) (cur : Id2) (v : Value) (w' : World) : Prop :=
  ∃ base m D pre, Along l w b base m D cur w' ∧ w'.ownsRow base 39 2 v pre.length (idsCells pre) ∧ chainC l x = pre ++ chainB l cur ∧ pre.length + (chainB l cur).length ≤ l.length + 1 ∧ WfI cur ∧ standsB l cur = true ∧ mayB l = true

/-- The id at which a chain stands, as read. -/
def curOf (z : Nat) (w : World) : Id2 := match w.cell? ⟨z, 0, none⟩, w.cell? ⟨z, 1, none⟩ with
  | some (.int _ a), some (.int _ b) => (a.toNat, b.toNat)
  | _, _ => zid
theorem curOf_has {z : Nat} {w : World} {x : Id2} (h : HasCells w z [.int .u64 x.1, .int .u64 x.2]) : curOf z w = x := by
  unfold curOf
  rw [h.at0, h.at1]
  simp

/-- What holds at each jump. -/
def ChainJ (A : Option Addr) (c : Nat) (l : List Bk) (x : Id2) (w : World) (a' : Act) (w' : World) : Prop :=
  ∃ (b : Nat) (cur : Id2) (v : Value) (u8 u9 u23 u24 u25 u26 u27 u28 u29 u30 u31 u32 u33 u34 u35 u36 u37 u38 : Value), a' = { tmps := #[.slice A l.length c, .agg #[.int .u64 x.1, .int .u64 x.2], undef, .pointer (some ⟨w.heap.size, 0, none⟩), .slice none 0 0, .map (some b), .bool true, v, u8, u9, .tuple #[.map (some b), .bool true], .slice A l.length c, .tuple #[.map (some b), .bool true], .map (some b), .bool true, .bool true, .bool false, .bool false, .map (some b), .agg #[.int .u64 x.1, .int .u64 x.2], .bool true, .bool false, .bool false, u23, u24, u25, u26, u27, u28, u29, u30, u31, u32, u33, u34, u35, u36, u37, u38, undef], defers := [] } ∧ ChainAt l x w b cur v w'

theorem row_new' {W : World} {base : Nat} {e : TypeId} {size n c : Nat} {A : Option Addr} {xs : List Value} (h : W.ownsRow base e size (.slice A n c) n xs) {ad : Addr} (hA : A = some ad) : base ≤ ad.block := by
  subst hA
  rcases h.2 with ⟨hv, _⟩ | ⟨g, cap, cur, hv, hg, _⟩
  · cases hv
  · cases hv; exact hg
theorem row_slice' {W : World} {base : Nat} {e : TypeId} {size n : Nat} {v : Value} {xs : List Value} (h : W.ownsRow base e size v n xs) : ∃ A c, v = .slice A n c := by
  rcases h.2 with ⟨hv, h0⟩ | ⟨g, cap, cur, hv, _⟩
  · subst h0; exact ⟨_, _, hv⟩
  · exact ⟨_, _, hv⟩
theorem parent_wf {l : List Bk} (hw : WfL l) {i : Nat} (hi : i < l.length) : WfI l[i].p := (hw _ (List.getElem_mem hi)).1

/-- As IdsNew; and there is room for what the list holds. -/
def IdsFit (l : List Id2) (w : World) (e : Ending) (w' : World) : Prop :=
  ∃ A c, e = .returned (.slice A l.length c) ∧ l.length ≤ c ∧ CellsAt w' w'.heap.size A (idsCells l) ∧ (∀ ad, A = some ad → w.heap.size ≤ ad.block) ∧ Kept w w'
theorem IdsFit.nil {w w' : World} (k : Kept w w') : IdsFit [] w (.returned (.slice none 0 0)) w' := ⟨none, 0, rfl, Nat.le_refl _, CellsAt.nil, (fun _ h => by cases h), k⟩
theorem row_fits {W : World} {base : Nat} {e : TypeId} {size n m c : Nat} {A : Option Addr} {xs : List Value} (h : W.ownsRow base e size (.slice A m c) n xs) (hm : m = n) : n ≤ c := by
  rcases h.2 with ⟨hv, h0⟩ | ⟨g, cap, cur, hv, _, _, hc, _⟩
  · cases hv; omega
  · cases hv; exact hc
end

section
open Go.ChangeShapes Go.WideShapes Go.ChangeAt Go.RowKit

theorem keep1 {W w w' : World} {b : Nat} {x0 x1 : Value} (hb : b < W.heap.size) (h : w.cell? ⟨b, 0, none⟩ = some x0 ∧ w.cell? ⟨b, 1, none⟩ = some x1 ∧ Kept W w) (k : Kept w w') :
    w'.cell? ⟨b, 0, none⟩ = some x0 ∧ w'.cell? ⟨b, 1, none⟩ = some x1 ∧ Kept W w' := by
  obtain ⟨h0, h1, hk⟩ := h
  have hb' : b < w.heap.size := Nat.lt_of_lt_of_le hb hk.size_le
  exact ⟨(k.cell (p := ⟨b, 0, none⟩) hb').trans h0, (k.cell (p := ⟨b, 1, none⟩) hb').trans h1, hk.trans k⟩
theorem keep2 {W w w' : World} {b d : Nat} {x0 x1 y0 y1 : Value} (hb : b < W.heap.size) (hd : d < W.heap.size)
    (h : w.cell? ⟨b, 0, none⟩ = some x0 ∧ w.cell? ⟨b, 1, none⟩ = some x1 ∧ w.cell? ⟨d, 0, none⟩ = some y0 ∧ w.cell? ⟨d, 1, none⟩ = some y1 ∧ Kept W w) (k : Kept w w') :
    w'.cell? ⟨b, 0, none⟩ = some x0 ∧ w'.cell? ⟨b, 1, none⟩ = some x1 ∧ w'.cell? ⟨d, 0, none⟩ = some y0 ∧ w'.cell? ⟨d, 1, none⟩ = some y1 ∧ Kept W w' := by
  obtain ⟨h0, h1, g0, g1, hk⟩ := h
  obtain ⟨r0, r1, rk⟩ := keep1 hb ⟨h0, h1, hk⟩ k
  obtain ⟨s0, s1, _⟩ := keep1 hd ⟨g0, g1, hk⟩ k
  exact ⟨r0, r1, s0, s1, rk⟩
end

section
open Go.ChangeShapes Go.WideShapes Go.ChangeAt Go.RowKit

section
variable (A : Option Addr) (c : Nat) (l : List Bk) (hl : l.length ≤ 1000000) (hw : WfL l) (w : World) (hA : CellsAt w w.heap.size A (blockCells l))
include hl hw hA
end

/-- The example's block. -/
def bOne : Bk := ⟨1, 0, (0, 0), 0⟩
theorem bOne_wf : WfL [bOne] := fun b hb => by simp at hb; subst hb; exact ⟨⟨by decide, by decide⟩, by decide⟩
theorem oneT_may : mayB [bOne] = true := by decide +kernel
theorem one_find : findC [bOne] (nameB bOne) = 0 := by decide +kernel
theorem one_slot : slotC [bOne] (nameB bOne) = (1, true) := by decide +kernel
theorem one_kids : (kidsC [bOne] zid).length = 1 := by decide +kernel
theorem one_chain : (chainC [bOne] (nameB bOne)).length = 2 := by decide +kernel
theorem one_under : underC [bOne] zid (nameB bOne) = true := by decide +kernel
theorem one_not : underC [bOne] (nameB bOne) zid = false := by decide +kernel

theorem blocks_one (w : World) (t : TypeId) (b : Bk) (z : Nat) (hz : z = w.heap.size) : CellsAt (w.alloc (.cells #[.int .i64 b.s, .int .i64 b.f, .int .u64 b.p.1, .int .u64 b.p.2, .int .u64 b.t] t)) (w.alloc (.cells #[.int .i64 b.s, .int .i64 b.f, .int .u64 b.p.1, .int .u64 b.p.2, .int .u64 b.t] t)).heap.size (some ⟨z, 0, none⟩) (blockCells [b]) := by
  intro j u hu
  have h := HasCells.new w #[.int .i64 b.s, .int .i64 b.f, .int .u64 b.p.1, .int .u64 b.p.2, .int .u64 b.t] t z hz
  refine ⟨_, rfl, h.1, ?_⟩
  rw [add_none, Nat.zero_add]
  exact h.2 j u (by simpa [blockCells, bkCells] using hu)

section
variable (A : Option Addr) (c : Nat) (w : World) (hA : CellsAt w w.heap.size A (blockCells [bOne]))
theorem name_one : Calls Try.prog 16 #[.agg #[.int .i64 1, .int .i64 0, .int .u64 0, .int .u64 0, .int .u64 0]] w fun e w' => e = .returned (.agg #[.int .u64 (nameB bOne).1, .int .u64 (nameB bOne).2]) ∧ Kept w w' := name_any bOne (bOne_wf _ (by simp)) w
include hA
theorem may_one : Calls Try.prog 25 #[.slice A 1 c] w fun e w' => e = .returned (.bool true) ∧ Kept w w' := by
  have h := may_any A c [bOne] (by decide) bOne_wf w hA
  rw [oneT_may] at h
  exact h
theorem slot_one : Calls Try.prog 23 #[.slice A 1 c, .agg #[.int .u64 (nameB bOne).1, .int .u64 (nameB bOne).2]] w fun e w' => e = .returned (.tuple #[.int .i64 1, .bool true]) ∧ Kept w w' := by
  have h := slot_any A c [bOne] (by decide) bOne_wf (nameB bOne) (nameB_lt _) w hA
  rw [one_slot] at h
  exact h
end
end

section
open Go.ChangeShapes Go.WideShapes Go.ChangeAt Go.RowKit

section
variable {H : Type} {enc : TypeId × Value → H} {W : World} {base : Nat} {sp : Nat → Bool} {held : Bool} {r : Reach} {b0 : Nat} {v : Value} {d : DataW H} {ps : List MemPlace}

theorem open_bk (hval : Value.okWide Try.prog W r b0 42 v) (hd : DataW.Trod enc Try.prog W base sp held 42 v d ps) : ∃ b : Bk, v = .agg #[.int .i64 b.s, .int .i64 b.f, .int .u64 b.p.1, .int .u64 b.p.2, .int .u64 b.t] ∧ WfB b := by
  obtain ⟨s, f, p, t, rfl, h1, h2, h3⟩ := open_block hval hd
  exact ⟨⟨s, f, p, t⟩, rfl, ⟨h1, h2⟩, h3⟩
theorem read_block {fuel : Nat} {l : List Value} {x : DataW H × List MemPlace} (h : DataW.trod enc Try.prog W base sp held fuel 42 l = some x) : ∃ b : Bk, l = bkCells b ∧ WfB b := by
  obtain ⟨xs, m, _, _, hl, hn, hi⟩ := DataW.trod_struct Try.underlying42 h
  rw [Try.cBlock] at hl
  match l, hl with
  | [c0, c1, c2, c3, c4], _ =>
    have hn' : xs.length = 4 := hn
    have h0 : DataW.trod enc Try.prog W base sp held m 3 (([c0, c1, c2, c3, c4].drop 0).take (Try.prog.cellsOf 3)) = xs[0]? := hi 0 _ rfl
    have h1 : DataW.trod enc Try.prog W base sp held m 3 (([c0, c1, c2, c3, c4].drop 1).take (Try.prog.cellsOf 3)) = xs[1]? := hi 1 _ rfl
    have h2 : DataW.trod enc Try.prog W base sp held m 39 (([c0, c1, c2, c3, c4].drop 2).take (Try.prog.cellsOf 39)) = xs[2]? := hi 2 _ rfl
    have h3 : DataW.trod enc Try.prog W base sp held m 23 (([c0, c1, c2, c3, c4].drop 4).take (Try.prog.cellsOf 23)) = xs[3]? := hi 3 _ rfl
    rw [List.getElem?_eq_getElem (by omega)] at h0 h1 h2 h3
    rw [Try.cI] at h0 h1
    rw [Try.cID] at h2
    rw [Try.cU] at h3
    obtain ⟨a, rfl, _⟩ := read_int (c := c0) h0
    obtain ⟨b, rfl, _⟩ := read_int (c := c1) h1
    obtain ⟨p, rfl, rfl, hp, hq⟩ := read_id (c0 := c2) (c1 := c3) h2
    obtain ⟨t, rfl, ht⟩ := read_u64 (c := c4) h3
    exact ⟨⟨a, b, p, t⟩, rfl, ⟨hp, hq⟩, ht⟩
theorem blockCells_inv {l : List Bk} {j : Nat} {u : Value} (h : (blockCells l)[j]? = some u) : ∃ (i k : Nat) (hi : i < l.length), k < 5 ∧ j = i * 5 + k ∧ (bkCells l[i])[k]? = some u := by
  have hj := (List.getElem?_eq_some_iff.1 h).1
  rw [blockCells_length] at hj
  have hi : j / 5 < l.length := by omega
  have hk : j % 5 < (bkCells l[j / 5]).length := by show j % 5 < 5; omega
  refine ⟨j / 5, j % 5, hi, by omega, by omega, ?_⟩
  have e := blockCells_at hi (List.getElem?_eq_getElem hk)
  rw [show j / 5 * 5 + j % 5 = j by omega, h] at e
  rw [List.getElem?_eq_getElem hk]
  exact e.symm
theorem read_blocks {fuel : Nat} {cs : List Value} {x : DataW H × List MemPlace} (h : DataW.trod enc Try.prog W base sp held fuel 26 cs = some x) :
    ∃ (A : Option Addr) (c : Nat) (l : List Bk), cs = [.slice A l.length c] ∧ l.length ≤ maxLen ∧ l.length ≤ c ∧ WfL l ∧ CellsAt W W.heap.size A (blockCells l) := by
  rcases Go.Deep.open_slice Try.underlying26 h with ⟨hcs, _⟩ | ⟨a, len, cap, m, n, D, Pl, hcs, hb, hl, hm, hmm, _, hi⟩
  · exact ⟨none, 0, [], hcs, Nat.zero_le _, Nat.zero_le _, (fun _ h => by cases h), CellsAt.nil⟩
  · have hlm : len ≤ m := by rw [hmm]; split <;> omega
    have hall : ∀ i, ∃ b : Bk, i < len → (∀ k u, (bkCells b)[k]? = some u → W.cell? (a.add (i * 5 + k)) = some u) ∧ WfB b := fun i => by
      by_cases q : i < len
      · obtain ⟨cs', hc, ht⟩ := hi i (by omega)
        obtain ⟨b, rfl, hb⟩ := read_block ht
        obtain ⟨_, hcl, hat⟩ := World.cells?_some hc
        refine ⟨b, fun _ => ⟨fun k u hu => ?_, hb⟩⟩
        have hk : k < 5 := (List.getElem?_eq_some_iff.1 hu).1
        have := hat k (by rw [Try.cBlock]; exact hk)
        rw [Try.cBlock, Go.Deep.add_add] at this
        rw [this]
        exact hu
      · exact ⟨⟨0, 0, (0, 0), 0⟩, fun q' => absurd q' q⟩
    let F : Nat → Bk := fun i => (hall i).choose
    have hF : ∀ i, i < len → (∀ k u, (bkCells (F i))[k]? = some u → W.cell? (a.add (i * 5 + k)) = some u) ∧ WfB (F i) := fun i => (hall i).choose_spec
    have hlen : ((List.range len).map F).length = len := by simp
    refine ⟨some a, cap, (List.range len).map F, by rw [hlen]; exact hcs, by rw [hlen]; omega, by rw [hlen]; exact hl, ?_, ?_⟩
    · intro b hb
      obtain ⟨i, hi, rfl⟩ := List.mem_map.1 hb
      exact (hF i (List.mem_range.1 hi)).2
    · intro j u hu
      obtain ⟨i, k, hil, hk, rfl, e⟩ := blockCells_inv hu
      rw [hlen] at hil
      have hc := (hF i hil).1 k u (by simpa using e)
      have hb := World.block_lt_of_cell? W _ hc
      rw [block_add] at hb
      exact ⟨a, rfl, hb, hc⟩
theorem open_blocks (hval : Value.okWide Try.prog W r b0 26 v) (hd : DataW.Trod enc Try.prog W base sp held 26 v d ps) :
    ∃ (A : Option Addr) (c : Nat) (l : List Bk), v = .slice A l.length c ∧ l.length ≤ maxLen ∧ l.length ≤ c ∧ WfL l ∧ CellsAt W W.heap.size A (blockCells l) := by
  obtain ⟨A, n, c, rfl⟩ := okWide_slice Try.underlying26 hval
  obtain ⟨fuel, hf⟩ := hd
  obtain ⟨A', c', l, hcs, h1, h2, h3, h4⟩ := read_blocks hf
  simp [Value.cells] at hcs
  obtain ⟨rfl, rfl, rfl⟩ := hcs
  exact ⟨_, _, l, rfl, h1, h2, h3, h4⟩
end
end

section
theorem none_slot {l : List Bk} {x : Id2} (h : mayB l = true → standsB l x = false) : slotC l x = (0, false) := by
  unfold slotC
  cases q : mayB l with
  | false => rfl
  | true =>
    rw [if_pos rfl]
    have := slotB_isSome l x
    rw [h q] at this
    cases k : slotB l x with
    | none => rfl
    | some s => rw [k] at this; cases this
theorem none_find {l : List Bk} {x : Id2} (h : mayB l = true → standsB l x = false) : findC l x = -1 := by
  unfold findC
  cases q : mayB l with
  | false => rfl
  | true =>
    rw [if_pos rfl]
    have := h q
    unfold standsB at this
    cases k : posB l x with
    | none => rfl
    | some s => rw [k] at this; cases this
theorem none_chain {l : List Bk} {x : Id2} (h : mayB l = true → standsB l x = false) : chainC l x = [] := chainC_no h
theorem none_under {l : List Bk} {x : Id2} (low : Id2) (h : mayB l = true → standsB l x = false) : underC l low x = false := by
  unfold underC; rw [chainC_no h]; rfl
end

section
open Go.ChangeShapes Go.WideShapes Go.ChangeAt Go.RowKit

/-! ### The first k of a list -/
theorem Try.infoBk : (Try.prog.info? 42).map (fun i => (i.zero, i.size, i.bytes)) = some (some (.agg #[.int .i64 0, .int .i64 0, .int .u64 0, .int .u64 0, .int .u64 0]), 5, 40) := by kernel_rfl
theorem upto_blocks (A : Option Addr) (n c k : Nat) (hk : k ≤ c) (w : World) : (Instr.slice 26 (.slice A n c) none (some (.int .i64 (k : Int))) none).run Try.prog w = .ok (.slice A k c) w := by
  obtain ⟨i, hi, _⟩ := info_of Try.infoBk
  exact run_upto _ _ i Try.underlying26 hi A n c k hk w
theorem cells_blocks_take {w : World} {B : Nat} {A : Option Addr} {l : List Bk} (h : CellsAt w B A (blockCells l)) (k : Nat) : CellsAt w B A (blockCells (l.take k)) := by
  have e : blockCells l = blockCells (l.take k) ++ blockCells (l.drop k) := by
    unfold blockCells; rw [← List.flatMap_append, List.take_append_drop]
  rw [e] at h
  exact cells_prefix h
theorem cells_ids_take {w : World} {B : Nat} {A : Option Addr} {l : List Id2} (h : CellsAt w B A (idsCells l)) (k : Nat) : CellsAt w B A (idsCells (l.take k)) := by
  have e : idsCells l = idsCells (l.take k) ++ idsCells (l.drop k) := by
    unfold idsCells; rw [← List.flatMap_append, List.take_append_drop]
  rw [e] at h
  exact cells_prefix h

/-! ### A list of blocks of one's own -/
theorem blockCells_append (l m : List Bk) : blockCells l ++ blockCells m = blockCells (l ++ m) := by simp [blockCells]
theorem blockCells_one (l : List Bk) : ∀ u ∈ blockCells l, u.oneCell' = true := fun u hu => by
  simp only [blockCells, List.mem_flatMap] at hu
  obtain ⟨x, _, hu⟩ := hu
  simp [bkCells] at hu
  rcases hu with rfl | rfl | rfl | rfl | rfl <;> rfl
/-- v holds the blocks of l, in a row of its own; all that lay in W lies as it was. -/
def Bks (W : World) (l : List Bk) (v : Value) (w : World) : Prop := w.ownsRow W.heap.size 42 5 v l.length (blockCells l) ∧ Kept W w
theorem Bks.nil (W : World) : Bks W [] (.slice none 0 0) W := ⟨World.ownsRow_nil _ _ _ _, Kept.refl _⟩
theorem Bks.alloc {W w : World} {l : List Bk} {v : Value} (h : Bks W l v w) (o : Obj) : Bks W l v (w.alloc o) := ⟨h.1.alloc o, h.2.alloc o⟩
theorem Bks.cells {W w : World} {l : List Bk} {A : Option Addr} {n c : Nat} (h : Bks W l (.slice A n c) w) (hn : n = l.length) : CellsAt w w.heap.size A (blockCells l) := by
  subst hn
  exact CellsAt.of_own h.1
theorem wp_bks {o : Oper} {a : Act} {K : Act → World → Prop} {Q : Exit → Act → World → Prop} (w : World) (s x : Operand)
    (ho : o.op = .call { callee := .builtin .append, args := #[s, x], argTypes := #[26, 26] })
    (W : World) (l : List Bk) (v : Value) (hs : a.eval s = v) (HB : Bks W l v w) (B : Nat) (A : Option Addr) (m c : Nat) (news : List Bk) (hx : a.eval x = .slice A m c) (hl : news.length = m)
    (hr : CellsAt w B A (blockCells news)) (hlen : l.length + m ≤ 1000000)
    (h : ∀ A' c' w', Bks W (l ++ news) (.slice A' (l ++ news).length c') w' → K (a.put o.dst (.slice A' (l ++ news).length c')) w') : o.wp Try.prog a w K Q := by
  obtain ⟨i0, hi0, hz0, hz1, hz2⟩ := info_of Try.infoBk
  refine wp_app w s x _ ho W.heap.size 42 i0 _ 5 40 Try.underlying26 hi0 hz0 hz1 hz2 rfl (by omega) v l.length (blockCells l) hs HB.1 B A m c (blockCells news) hx (by rw [blockCells_length, hl]) hr (blockCells_one _)
    (by unfold maxLen; omega) (by omega) HB.2.size_le ?_
  intro v' w' own g _
  have e : (l ++ news).length = l.length + m := by rw [List.length_append, hl]
  rw [← e, blockCells_append] at own
  obtain ⟨A', c', rfl⟩ : ∃ A c, v' = .slice A (l ++ news).length c := by
    rcases own.2 with ⟨hv, h0⟩ | ⟨g, cap, cur, hv, _⟩
    · rw [h0]; exact ⟨_, _, hv⟩
    · exact ⟨_, _, hv⟩
  exact h A' c' w' ⟨own, HB.2.grown g fun i hi => (HB.1.lt i hi).1⟩
theorem step_bks {ops : Array Oper} {o : Oper} {a : Act} {K : Act → World → Prop} {Q : Exit → Act → World → Prop} {E : Prop} (w : World) (hgd : Region.wanted o (yielded ops a.tmps) = true) (s x : Operand)
    (ho : o.op = .call { callee := .builtin .append, args := #[s, x], argTypes := #[26, 26] })
    (W : World) (l : List Bk) (v : Value) (hs : a.eval s = v) (HB : Bks W l v w) (B : Nat) (A : Option Addr) (m c : Nat) (news : List Bk) (hx : a.eval x = .slice A m c) (hl : news.length = m)
    (hr : CellsAt w B A (blockCells news)) (hlen : l.length + m ≤ 1000000)
    (h : ∀ A' c' w', Bks W (l ++ news) (.slice A' (l ++ news).length c') w' → K (a.put o.dst (.slice A' (l ++ news).length c')) w') :
    if Region.wanted o (yielded ops a.tmps) = true then Oper.wp Try.prog o a w K Q else E := by
  rw [if_pos hgd]
  exact wp_bks w s x ho W l v hs HB B A m c news hx hl hr hlen h
theorem step_bnil {ops : Array Oper} {o : Oper} {a : Act} {K : Act → World → Prop} {Q : Exit → Act → World → Prop} {E : Prop} (w : World) (hgd : Region.wanted o (yielded ops a.tmps) = true) (x : Operand)
    (ho : o.op = .call { callee := .builtin .append, args := #[.const (.slice none 0 0), x], argTypes := #[26, 26] })
    (B : Nat) (A : Option Addr) (m c : Nat) (news : List Bk) (hx : a.eval x = .slice A m c) (hl : news.length = m)
    (hr : CellsAt w B A (blockCells news)) (hlen : m ≤ 1000000)
    (h : ∀ A' c' w', Bks w news (.slice A' news.length c') w' → K (a.put o.dst (.slice A' news.length c')) w') :
    if Region.wanted o (yielded ops a.tmps) = true then Oper.wp Try.prog o a w K Q else E :=
  step_bks w hgd _ x ho w [] _ rfl (Bks.nil w) B A m c news hx hl hr (by simp; omega) h
theorem keep5 {W w w' : World} {b : Nat} {x0 x1 x2 x3 x4 : Value} (hb : b < W.heap.size)
    (h : w.cell? ⟨b, 0, none⟩ = some x0 ∧ w.cell? ⟨b, 1, none⟩ = some x1 ∧ w.cell? ⟨b, 2, none⟩ = some x2 ∧ w.cell? ⟨b, 3, none⟩ = some x3 ∧ w.cell? ⟨b, 4, none⟩ = some x4 ∧ Kept W w) (k : Kept w w') :
    w'.cell? ⟨b, 0, none⟩ = some x0 ∧ w'.cell? ⟨b, 1, none⟩ = some x1 ∧ w'.cell? ⟨b, 2, none⟩ = some x2 ∧ w'.cell? ⟨b, 3, none⟩ = some x3 ∧ w'.cell? ⟨b, 4, none⟩ = some x4 ∧ Kept W w' := by
  obtain ⟨h0, h1, h2, h3, h4, hk⟩ := h
  have hb' : b < w.heap.size := Nat.lt_of_lt_of_le hb hk.size_le
  exact ⟨(k.cell (p := ⟨b, 0, none⟩) hb').trans h0, (k.cell (p := ⟨b, 1, none⟩) hb').trans h1, (k.cell (p := ⟨b, 2, none⟩) hb').trans h2, (k.cell (p := ⟨b, 3, none⟩) hb').trans h3, (k.cell (p := ⟨b, 4, none⟩) hb').trans h4, hk.trans k⟩
end

section
set_option linter.unusedSimpArgs false
set_option linter.unusedVariables false
open Go.ChangeShapes Go.WideShapes Go.ChangeAt Go.RowKit

theorem parentC_wf {l : List Bk} (hw : WfL l) {i : Nat} (hi : i < l.length) : WfI l[i].p := (hw l[i] (List.getElem_mem hi)).1
theorem chainB_wf {l : List Bk} (hw : WfL l) (h : mayB l = true) : ∀ (n : Nat) {x : Id2}, rank l x = n → standsB l x = true → WfI x → ∀ y ∈ chainB l x, WfI y := by
  intro n
  induction n using Nat.strongRecOn with
  | ind n ih =>
    intro x hn hs hx y hy
    cases q : posB l x with
    | none =>
      rw [chainB_none q] at hy
      simp at hy
      rw [hy]; exact hx
    | some i =>
      have hi := posB_lt q
      have hr := rank_parent h hi
      rw [rank_some q] at hn
      rw [chainB_some h q] at hy
      rcases List.mem_cons.1 hy with rfl | hy
      · exact hx
      · exact ih (rank l l[i].p) (by omega) rfl (may_stands h hi) (parentC_wf hw hi) y hy
theorem chain_wfC {l : List Bk} (hw : WfL l) (x : Id2) (hx : WfI x) : ∀ y ∈ chainC l x, WfI y := fun y hy => by
  unfold chainC at hy
  split at hy
  · rename_i h
    rw [Bool.and_eq_true] at h
    exact chainB_wf hw h.1 _ rfl h.2 hx y hy
  · cases hy
end

section
open Go.ChangeShapes Go.WideShapes Go.ChangeAt Go.RowKit

theorem isZ_eq {x : Id2} (h : isZ x = true) : x = zid := of_decide_eq_true h
theorem isZ_ne {x : Id2} (h : isZ x = false) : x ≠ zid := of_decide_eq_false h
theorem eqZZ (w : World) : Sem.run Try.prog (Op.equalIn 10000 39 (.agg #[.int .u64 0, .int .u64 0]) (.agg #[.int .u64 0, .int .u64 0])) w = .ok true w := by rw [eqId10]; rfl
end

section
set_option linter.unusedSimpArgs false
set_option linter.unusedVariables false
open Go.ChangeShapes Go.WideShapes Go.ChangeAt Go.RowKit

/-- A block of its own that holds the cells xs. -/
def AtB (w : World) (z : Nat) (xs : Array Value) (t : TypeId) : Prop := w.heap[z]? = some (.cells xs t (0, 0))
theorem AtB.lt {w : World} {z : Nat} {xs : Array Value} {t : TypeId} (h : AtB w z xs t) : z < w.heap.size := (Array.getElem?_eq_some_iff.1 h).1
theorem AtB.cell {w : World} {z j : Nat} {xs : Array Value} {t : TypeId} (h : AtB w z xs t) : w.cell? ⟨z, j, none⟩ = xs[j]? := by rw [cell_of_row w z j _ _ _ h]
theorem AtB.fr {w : World} {z : Nat} {xs : Array Value} {t : TypeId} (h : AtB w z xs t) (j : Nat) : w.frozen? ⟨z, j, none⟩ = false := frozen_of_row w z j _ _ h
theorem AtB.new (w : World) (xs : Array Value) (t : TypeId) : AtB (w.alloc (.cells xs t)) w.heap.size xs t := heap_alloc_new w _
theorem AtB.kept {w w' : World} {z : Nat} {xs : Array Value} {t : TypeId} (h : AtB w z xs t) (k : Kept w w') : AtB w' z xs t := (k.heap h.lt).trans h
theorem AtB.other {w : World} {z : Nat} {xs : Array Value} {t : TypeId} (h : AtB w z xs t) {p : Addr} (hp : p.block ≠ z) (u : Value) : AtB (w.setCell p u) z xs t := by
  unfold AtB
  rw [heap_setCell_other w p z u (fun e => hp e.symm)]
  exact h
theorem AtB.set {w : World} {z : Nat} {xs : Array Value} {t : TypeId} (h : AtB w z xs t) (j : Nat) (y : Value) : AtB (w.setCell ⟨z, j, none⟩ y) z (xs.setIfInBounds j y) t := heap_setCell_same w z j _ _ y h
theorem AtB.set2 {w : World} {z : Nat} {a b : Value} {t : TypeId} (h : AtB w z #[a, b] t) (c d : Value) : AtB ((w.setCell ⟨z, 0, none⟩ c).setCell ⟨z, 1, none⟩ d) z #[c, d] t := (h.set 0 c).set 1 d
theorem AtB.has {w : World} {z : Nat} {xs : Array Value} {t : TypeId} (h : AtB w z xs t) : HasCells w z xs.toList := ⟨h.lt, fun j u hu => by rw [h.cell]; simpa using hu⟩
theorem AtB.set1 {w : World} {z : Nat} {x : Value} {t : TypeId} (h : AtB w z #[x] t) (y : Value) : AtB (w.setCell ⟨z, 0, none⟩ y) z #[y] t := heap_setCell_same w z 0 _ _ y h
/-- A row of others than what lies in the cell that is written stays as it is. -/
theorem CellsAt.past {w : World} {A : Option Addr} {xs : List Value} (h : CellsAt w w.heap.size A xs) {p : Addr} {u : Value} (hp : w.cell? p = some u) (hu : u ∉ xs) (v : Value) : CellsAt (w.setCell p v) (w.setCell p v).heap.size A xs := fun j y hy => by
  obtain ⟨ad, e, hb, hc⟩ := h j y hy
  refine ⟨ad, e, by simpa using hb, ?_⟩
  rw [World.cell?_setCell_other _ _ _ _ (fun q => ?_)]
  · exact hc
  · rw [← q, hp] at hc
    injection hc with hc
    exact hu (by rw [hc]; exact List.mem_of_getElem? hy)
end

end Go.Proofs.Ytacdiicnfoejoaa
