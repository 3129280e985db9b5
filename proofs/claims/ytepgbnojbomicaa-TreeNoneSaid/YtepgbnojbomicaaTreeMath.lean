/-
  Plain mathematics of package tree: names of blocks, whether blocks may be, where a name is, what stands on what, and chains.
-/
import Derived.Test.YtepgbnojbomicaaMixMath
namespace Go.Proofs.Ytepgbnojbomicaa

/-- A block: its slot, who it is from, its parent, its salt. -/
structure Bk where
  s : Int
  f : Int
  p : Nat × Nat
  t : Nat
abbrev Id2 := Nat × Nat
def zid : Id2 := (0, 0)
/-- A number as a word. -/
def wd (a : Int) : Nat := (a % 18446744073709551616).toNat
theorem wd_lt (a : Int) : wd a < 18446744073709551616 := by unfold wd; omega
def nameL (b : Bk) : List Nat := [1, wd b.s, wd b.f, b.p.1, b.p.2, b.t]
def nameB (b : Bk) : Id2 := idOf (nameL b)
def namesB (l : List Bk) : List Id2 := l.map nameB
theorem namesB_length (l : List Bk) : (namesB l).length = l.length := by simp [namesB]
theorem namesB_snoc (l : List Bk) (b : Bk) : namesB (l ++ [b]) = namesB l ++ [nameB b] := by simp [namesB]
theorem namesB_take (l : List Bk) (k : Nat) : (namesB l).take k = namesB (l.take k) := by simp [namesB, List.map_take]

/-! ### Where a name is -/
def posN : List Id2 → Id2 → Option Nat
  | [], _ => none
  | n :: ns, x => if n = x then some 0 else (posN ns x).map (· + 1)
theorem posN_cons (n : Id2) (ns : List Id2) (x : Id2) : posN (n :: ns) x = if n = x then some 0 else (posN ns x).map (· + 1) := rfl
theorem posN_some {x : Id2} : ∀ {ns : List Id2} {i : Nat}, posN ns x = some i → ns[i]? = some x
  | [], i, h => by simp [posN] at h
  | n :: ns, i, h => by
    unfold posN at h
    by_cases e : n = x
    · rw [if_pos e] at h; cases h; simp [e]
    · rw [if_neg e] at h
      cases q : posN ns x with
      | none => rw [q] at h; cases h
      | some j =>
        rw [q] at h
        cases h
        simpa using posN_some q
theorem posN_lt {x : Id2} {ns : List Id2} {i : Nat} (h : posN ns x = some i) : i < ns.length := (List.getElem?_eq_some_iff.1 (posN_some h)).1
theorem posN_none {x : Id2} : ∀ {ns : List Id2}, posN ns x = none ↔ x ∉ ns
  | [] => by simp [posN]
  | n :: ns => by
    unfold posN
    by_cases e : n = x
    · rw [if_pos e]; simp [e]
    · rw [if_neg e]
      rw [Option.map_eq_none_iff, posN_none]
      simp [Ne.symm e]
theorem posN_append {x : Id2} (ms : List Id2) : ∀ (ns : List Id2), posN (ns ++ ms) x = (match posN ns x with | some i => some i | none => (posN ms x).map (· + ns.length))
  | [] => by show posN ms x = (posN ms x).map (· + 0); simp
  | n :: ns => by
    rw [List.cons_append, posN_cons, posN_cons]
    by_cases e : n = x
    · rw [if_pos e, if_pos e]
    · rw [if_neg e, if_neg e, posN_append ms ns]
      cases posN ns x with
      | some i => rfl
      | none =>
        cases posN ms x with
        | none => rfl
        | some j => simp; omega
theorem posN_append_some {x : Id2} {ns : List Id2} {i : Nat} (h : posN ns x = some i) (ms : List Id2) : posN (ns ++ ms) x = some i := by rw [posN_append, h]
theorem posN_snoc (ns : List Id2) (n x : Id2) : posN (ns ++ [n]) x = (match posN ns x with | some i => some i | none => if n = x then some ns.length else none) := by
  rw [posN_append]
  cases posN ns x with
  | some i => rfl
  | none => by_cases e : n = x <;> simp [posN, e]
theorem posN_take {x : Id2} {ns : List Id2} {k i : Nat} (h : posN (ns.take k) x = some i) : posN ns x = some i := by
  have := posN_append_some h (ns.drop k)
  rwa [List.take_append_drop] at this

/-- Where the block of that name is. -/
def posB (l : List Bk) (x : Id2) : Option Nat := posN (namesB l) x
theorem posB_lt {l : List Bk} {x : Id2} {i : Nat} (h : posB l x = some i) : i < l.length := by have := posN_lt h; rwa [namesB_length] at this
theorem posB_name {l : List Bk} {x : Id2} {i : Nat} (h : posB l x = some i) : nameB (l[i]'(posB_lt h)) = x := by
  have := posN_some h
  unfold namesB at this
  rw [List.getElem?_map, List.getElem?_eq_getElem (posB_lt h)] at this
  simpa using this

/-! ### What may be -/
def slotB (l : List Bk) (x : Id2) : Option Int := match posB l x with
  | some i => (l[i]?).map Bk.s
  | none => if x = zid then some 0 else none
def standsB (l : List Bk) (x : Id2) : Bool := (posB l x).isSome || decide (x = zid)
def rightB (l : List Bk) (b : Bk) : Bool := match slotB l b.p with
  | some s => decide (s < b.s)
  | none => false
def okB (l : List Bk) (b : Bk) : Bool := !standsB l (nameB b) && rightB l b
def mayTo (l : List Bk) : Nat → Bool
  | 0 => true
  | k + 1 => mayTo l k && (match l[k]? with | some b => okB (l.take k) b | none => true)
def mayB (l : List Bk) : Bool := mayTo l l.length

theorem mayTo_succ {l : List Bk} {k : Nat} (h : k < l.length) : mayTo l (k + 1) = (mayTo l k && okB (l.take k) l[k]) := by
  rw [mayTo, List.getElem?_eq_getElem h]
theorem mayTo_take (l : List Bk) (j : Nat) : ∀ k, k ≤ j → mayTo (l.take j) k = mayTo l k
  | 0, _ => rfl
  | k + 1, h => by
    rw [mayTo, mayTo, mayTo_take l j k (by omega), List.getElem?_take_of_lt (by omega), List.take_take, Nat.min_eq_left (by omega)]
theorem mayTo_le {l : List Bk} : ∀ {k j : Nat}, mayTo l k = true → j ≤ k → mayTo l j = true
  | 0, j, h, hj => by rw [Nat.le_zero.1 hj]; exact h
  | k + 1, j, h, hj => by
    rw [mayTo, Bool.and_eq_true] at h
    rcases Nat.lt_or_ge j (k + 1) with q | q
    · exact mayTo_le h.1 (by omega)
    · rw [show j = k + 1 by omega, mayTo, Bool.and_eq_true]; exact h
theorem mayB_take {l : List Bk} (h : mayB l = true) (j : Nat) (hj : j ≤ l.length) : mayB (l.take j) = true := by
  unfold mayB
  rw [List.length_take, Nat.min_eq_left hj, mayTo_take _ _ _ (Nat.le_refl _)]
  exact mayTo_le h hj
theorem mayB_snoc (l : List Bk) (b : Bk) : mayB (l ++ [b]) = (mayB l && okB l b) := by
  unfold mayB
  rw [List.length_append, List.length_singleton, mayTo_succ (by simp)]
  have e : (l ++ [b]).take l.length = l := by simp
  rw [e, ← mayTo_take (l ++ [b]) l.length l.length (Nat.le_refl _), e]
  simp
theorem mayB_ok {l : List Bk} (h : mayB l = true) {i : Nat} (hi : i < l.length) : okB (l.take i) l[i] = true := by
  have := mayTo_le h (show i + 1 ≤ l.length from hi)
  rw [mayTo_succ hi, Bool.and_eq_true] at this
  exact this.2
theorem mayTo_no {l : List Bk} {k : Nat} (hk : k ≤ l.length) (h : mayTo l k = false) : mayB l = false := by
  cases q : mayB l with
  | false => rfl
  | true => rw [mayTo_le q hk] at h; cases h

theorem standsB_iff {l : List Bk} {x : Id2} : standsB l x = true ↔ (∃ i, posB l x = some i) ∨ x = zid := by
  unfold standsB
  rw [Bool.or_eq_true, Option.isSome_iff_exists, decide_eq_true_iff]
theorem slotB_isSome (l : List Bk) (x : Id2) : (slotB l x).isSome = standsB l x := by
  unfold slotB standsB
  cases h : posB l x with
  | some i => simp [posB_lt h]
  | none => by_cases e : x = zid <;> simp [e]

section
variable {l : List Bk} (h : mayB l = true)
include h
/-- No name is the beginning's. -/
theorem may_zero : posB l zid = none := by
  cases q : posB l zid with
  | none => rfl
  | some i =>
    have k := mayB_ok h (posB_lt q)
    unfold okB standsB at k
    rw [posB_name q] at k
    simp at k
/-- Each block is found where it is. -/
theorem may_pos {i : Nat} (hi : i < l.length) : posB l (nameB l[i]) = some i := by
  have k := mayB_ok h hi
  unfold okB standsB at k
  have e : posB (l.take i) (nameB l[i]) = none := by
    cases q : posB (l.take i) (nameB l[i]) with
    | none => rfl
    | some j => simp [q] at k
  have e2 : posB (l.take (i + 1)) (nameB l[i]) = some i := by
    unfold posB at e ⊢
    rw [List.take_succ_eq_append_getElem hi, namesB_snoc, posN_snoc, e]
    simp [namesB_length, Nat.min_eq_left (Nat.le_of_lt hi)]
  unfold posB at e2 ⊢
  rw [← namesB_take] at e2
  exact posN_take e2
/-- The parent of a block stands ahead, and is of a lesser slot. -/
theorem may_parent {i : Nat} (hi : i < l.length) : ((∃ (j : Nat) (hj : j < i), posB l l[i].p = some j ∧ (l[j]'(by omega)).s < l[i].s) ∨ (l[i].p = zid ∧ 0 < l[i].s)) := by
  have k := mayB_ok h hi
  unfold okB rightB slotB at k
  rw [Bool.and_eq_true] at k
  have k := k.2
  cases q : posB (l.take i) l[i].p with
  | some j =>
    left
    have hj := posB_lt q
    rw [List.length_take] at hj
    have hji : j < i := by omega
    refine ⟨j, hji, ?_, ?_⟩
    · unfold posB at q ⊢
      rw [← namesB_take] at q
      exact posN_take q
    · rw [q] at k
      simp only [List.getElem?_take_of_lt hji, List.getElem?_eq_getElem (show j < l.length by omega), Option.map_some] at k
      simpa using k
  | none =>
    right
    rw [q] at k
    by_cases e : l[i].p = zid
    · simp [e] at k; exact ⟨e, k⟩
    · simp [e] at k
theorem may_stands {i : Nat} (hi : i < l.length) : standsB l l[i].p = true := by
  rcases may_parent h hi with ⟨j, _, q, _⟩ | ⟨e, _⟩
  · exact standsB_iff.2 (Or.inl ⟨j, q⟩)
  · exact standsB_iff.2 (Or.inr e)
end

/-! ### Kids -/
def kidsB (l : List Bk) (x : Id2) : List Id2 := namesB (l.filter fun b => decide (b.p = x))
def kidsC (l : List Bk) (x : Id2) : List Id2 := if mayB l then kidsB l x else []
theorem kidsB_hit {l : List Bk} {b : Bk} {x : Id2} (h : b.p = x) : kidsB (l ++ [b]) x = kidsB l x ++ [nameB b] := by simp [kidsB, namesB, h]
theorem kidsB_miss {l : List Bk} {b : Bk} {x : Id2} (h : b.p ≠ x) : kidsB (l ++ [b]) x = kidsB l x := by simp [kidsB, namesB, h]
theorem kidsB_le (l : List Bk) (x : Id2) : (kidsB l x).length ≤ l.length := by
  unfold kidsB; rw [namesB_length]; exact List.length_filter_le _ _

/-! ### Chains -/
/-- 0 of what is no name, else one more than its place. -/
def rank (l : List Bk) (x : Id2) : Nat := match posB l x with
  | some i => i + 1
  | none => 0
def chainF (l : List Bk) : Nat → Id2 → List Id2
  | 0, _ => []
  | k + 1, x => x :: (match posB l x with | some i => chainF l k ((l[i]?).map Bk.p |>.getD zid) | none => [])
/-- id and all that it stands on. -/
def chainB (l : List Bk) (x : Id2) : List Id2 := chainF l (rank l x + 1) x
def chainC (l : List Bk) (x : Id2) : List Id2 := if mayB l && standsB l x then chainB l x else []
def underC (l : List Bk) (low x : Id2) : Bool := decide (low ∈ chainC l x)
def findC (l : List Bk) (x : Id2) : Int := if mayB l then (match posB l x with | some i => (i : Int) | none => -1) else -1
def slotC (l : List Bk) (x : Id2) : Int × Bool := if mayB l then (match slotB l x with | some s => (s, true) | none => (0, false)) else (0, false)

theorem rank_le (l : List Bk) (x : Id2) : rank l x ≤ l.length := by
  unfold rank
  cases h : posB l x with
  | some i => exact posB_lt h
  | none => exact Nat.zero_le _
theorem rank_none {l : List Bk} {x : Id2} (h : posB l x = none) : rank l x = 0 := by unfold rank; rw [h]
theorem rank_some {l : List Bk} {x : Id2} {i : Nat} (h : posB l x = some i) : rank l x = i + 1 := by unfold rank; rw [h]

section
variable {l : List Bk} (h : mayB l = true)
include h
theorem rank_parent {i : Nat} (hi : i < l.length) : rank l l[i].p ≤ i := by
  rcases may_parent h hi with ⟨j, hj, q, _⟩ | ⟨e, _⟩
  · rw [rank_some q]; omega
  · rw [e, rank_none (may_zero h)]; omega
theorem chainF_eq : ∀ (a b : Nat) (x : Id2), rank l x < a → rank l x < b → chainF l a x = chainF l b x
  | 0, _, _, h0, _ => by omega
  | _, 0, _, _, h0 => by omega
  | a + 1, b + 1, x, ha, hb => by
    unfold chainF
    cases q : posB l x with
    | none => rfl
    | some i =>
      have hi := posB_lt q
      have hr := rank_parent h hi
      rw [rank_some q] at ha hb
      simp only [List.getElem?_eq_getElem hi, Option.map_some, Option.getD_some]
      rw [chainF_eq a b _ (by omega) (by omega)]
theorem chainB_some {x : Id2} {i : Nat} (q : posB l x = some i) : chainB l x = x :: chainB l (l[i]'(posB_lt q)).p := by
  have hi := posB_lt q
  have hr := rank_parent h hi
  unfold chainB
  rw [rank_some q, chainF]
  simp only [q, List.getElem?_eq_getElem hi, Option.map_some, Option.getD_some]
  rw [chainF_eq h (i + 1) (rank l l[i].p + 1) _ (by omega) (by omega)]
end
theorem chainB_none {l : List Bk} {x : Id2} (q : posB l x = none) : chainB l x = [x] := by
  unfold chainB; rw [rank_none q, chainF]; simp only [q]
theorem chainF_head (l : List Bk) (k : Nat) (x : Id2) : ∃ r, chainF l (k + 1) x = x :: r := ⟨_, rfl⟩
theorem chainB_head (l : List Bk) (x : Id2) : ∃ r, chainB l x = x :: r := ⟨_, rfl⟩
theorem chainB_self (l : List Bk) (x : Id2) : x ∈ chainB l x := by obtain ⟨r, e⟩ := chainB_head l x; rw [e]; simp
theorem chainF_length (l : List Bk) : ∀ (k : Nat) (x : Id2), (chainF l k x).length ≤ k
  | 0, _ => by simp [chainF]
  | k + 1, x => by
    unfold chainF
    cases posB l x with
    | none => simp
    | some i => simp only [List.length_cons]; have := chainF_length l k (((l[i]?).map Bk.p).getD zid); omega
theorem chainB_length (l : List Bk) (x : Id2) : (chainB l x).length ≤ l.length + 1 := by
  have := chainF_length l (rank l x + 1) x
  have := rank_le l x
  unfold chainB; omega

theorem mem_chainC {l : List Bk} {a x : Id2} (k : a ∈ chainC l x) : mayB l = true ∧ standsB l x = true ∧ a ∈ chainB l x := by
  unfold chainC at k
  by_cases e : (mayB l && standsB l x) = true
  · rw [if_pos e] at k
    rw [Bool.and_eq_true] at e
    exact ⟨e.1, e.2, k⟩
  · rw [if_neg e] at k; cases k
theorem chainC_yes {l : List Bk} {x : Id2} (h : mayB l = true) (k : standsB l x = true) : chainC l x = chainB l x := by unfold chainC; rw [h, k]; rfl
theorem chainC_no {l : List Bk} {x : Id2} (h : mayB l = true → standsB l x = false) : chainC l x = [] := by
  unfold chainC
  cases q : mayB l with
  | false => rfl
  | true => rw [h q]; rfl
theorem chainC_length (l : List Bk) (x : Id2) : (chainC l x).length ≤ l.length + 1 := by
  unfold chainC
  split
  · exact chainB_length l x
  · simp

/-! ### What follows -/
section
variable {l : List Bk} (h : mayB l = true)
include h
/-- All that is on a chain stands; its chain is the chain's end. -/
theorem chain_suffix : ∀ (n : Nat) {x a : Id2}, rank l x = n → standsB l x = true → a ∈ chainB l x → standsB l a = true ∧ chainB l a <:+ chainB l x := by
  intro n
  induction n using Nat.strongRecOn with
  | ind n ih =>
    intro x a hn hs ha
    cases q : posB l x with
    | none =>
      rw [chainB_none q] at ha
      simp at ha
      subst ha
      exact ⟨hs, List.suffix_refl _⟩
    | some i =>
      have hi := posB_lt q
      rw [chainB_some h q] at ha ⊢
      rcases List.mem_cons.1 ha with rfl | ha
      · exact ⟨hs, by rw [← chainB_some h q]; exact List.suffix_refl _⟩
      · have hr := rank_parent h hi
        rw [rank_some q] at hn
        obtain ⟨h1, h2⟩ := ih (rank l l[i].p) (by omega) rfl (may_stands h hi) ha
        exact ⟨h1, h2.trans (List.suffix_cons _ _)⟩
theorem chain_zero : ∀ (n : Nat) {x : Id2}, rank l x = n → standsB l x = true → (chainB l x).getLast? = some zid := by
  intro n
  induction n using Nat.strongRecOn with
  | ind n ih =>
    intro x hn hs
    cases q : posB l x with
    | none =>
      rw [chainB_none q]
      rcases standsB_iff.1 hs with ⟨i, e⟩ | e
      · rw [q] at e; cases e
      · rw [e]; rfl
    | some i =>
      have hi := posB_lt q
      have hr := rank_parent h hi
      rw [rank_some q] at hn
      rw [chainB_some h q, List.getLast?_cons, ih (rank l l[i].p) (by omega) rfl (may_stands h hi)]
      rfl
end

theorem underC_true {l : List Bk} {low x : Id2} : underC l low x = true ↔ low ∈ chainC l x := by unfold underC; exact decide_eq_true_iff
theorem under_self {l : List Bk} {a : Id2} (h : 0 < (chainC l a).length) : underC l a a = true := by
  rw [underC_true]
  unfold chainC at h ⊢
  by_cases e : (mayB l && standsB l a) = true
  · rw [if_pos e]; exact chainB_self l a
  · rw [if_neg e] at h; simp at h
theorem under_zero {l : List Bk} {a : Id2} (h : 0 < (chainC l a).length) : underC l zid a = true := by
  rw [underC_true]
  unfold chainC at h ⊢
  by_cases e : (mayB l && standsB l a) = true
  · rw [if_pos e]
    rw [Bool.and_eq_true] at e
    exact List.mem_of_getLast? (chain_zero e.1 _ rfl e.2)
  · rw [if_neg e] at h; simp at h
theorem under_trans {l : List Bk} {a b c : Id2} (h1 : underC l a b = true) (h2 : underC l b c = true) : underC l a c = true := by
  rw [underC_true] at h1 h2 ⊢
  obtain ⟨m, s1, k1⟩ := mem_chainC h1
  obtain ⟨_, s2, k2⟩ := mem_chainC h2
  rw [chainC_yes m s2]
  exact (chain_suffix m _ rfl s2 k2).2.mem k1
theorem under_both {l : List Bk} {a b c : Id2} (h1 : underC l a c = true) (h2 : underC l b c = true) : underC l a b = true ∨ underC l b a = true := by
  rw [underC_true] at h1 h2
  obtain ⟨m, s1, k1⟩ := mem_chainC h1
  obtain ⟨_, _, k2⟩ := mem_chainC h2
  obtain ⟨sa, ca⟩ := chain_suffix m _ rfl s1 k1
  obtain ⟨sb, cb⟩ := chain_suffix m _ rfl s1 k2
  rw [underC_true, underC_true, chainC_yes m sa, chainC_yes m sb]
  rcases List.suffix_or_suffix_of_suffix ca cb with q | q
  · exact Or.inl (q.mem (chainB_self l a))
  · exact Or.inr (q.mem (chainB_self l b))
theorem under_anti {l : List Bk} {a b : Id2} (h1 : underC l a b = true) (h2 : underC l b a = true) : a = b := by
  rw [underC_true] at h1 h2
  obtain ⟨m, s1, k1⟩ := mem_chainC h1
  obtain ⟨_, s2, k2⟩ := mem_chainC h2
  have e := (chain_suffix m _ rfl s1 k1).2.eq_of_length_le (chain_suffix m _ rfl s2 k2).2.length_le
  obtain ⟨r, e1⟩ := chainB_head l a
  obtain ⟨r', e2⟩ := chainB_head l b
  rw [e1, e2] at e
  cases e
  rfl
/-- A chain, link by link. -/
theorem chain_link {l : List Bk} (h : mayB l = true) : ∀ (n : Nat) {x : Id2}, rank l x = n → standsB l x = true → ∀ (j : Nat) (y z : Id2), (chainB l x)[j]? = some y → (chainB l x)[j + 1]? = some z →
    ∃ (i : Nat) (hi : i < l.length), posB l y = some i ∧ l[i].p = z := by
  intro n
  induction n using Nat.strongRecOn with
  | ind n ih =>
    intro x hn hs j y z hy hz
    cases q : posB l x with
    | none =>
      rw [chainB_none q] at hz
      simp at hz
    | some i =>
      have hi := posB_lt q
      have hr := rank_parent h hi
      rw [chainB_some h q] at hy hz
      cases j with
      | zero =>
        simp at hy
        subst hy
        rw [List.getElem?_cons_succ] at hz
        obtain ⟨r, e⟩ := chainB_head l l[i].p
        rw [e] at hz
        simp at hz
        exact ⟨i, hi, q, hz⟩
      | succ j =>
        rw [List.getElem?_cons_succ] at hy hz
        rw [rank_some q] at hn
        exact ih (rank l l[i].p) (by omega) rfl (may_stands h hi) j y z hy hz

/-! ### One block more -/
theorem posB_more {l : List Bk} {x : Id2} {i : Nat} (b : Bk) (q : posB l x = some i) : posB (l ++ [b]) x = some i := by
  unfold posB at q ⊢; rw [namesB_snoc]; exact posN_append_some q _
theorem chain_more {l : List Bk} {b : Bk} (h : mayB l = true) (k : mayB (l ++ [b]) = true) : ∀ (n : Nat) {x : Id2}, rank l x = n → standsB l x = true → chainB (l ++ [b]) x = chainB l x := by
  intro n
  induction n using Nat.strongRecOn with
  | ind n ih =>
    intro x hn hs
    cases q : posB l x with
    | none =>
      rcases standsB_iff.1 hs with ⟨i, e⟩ | e
      · rw [q] at e; cases e
      · rw [chainB_none q, e, chainB_none (may_zero k)]
    | some i =>
      have hi := posB_lt q
      have hr := rank_parent h hi
      rw [rank_some q] at hn
      rw [chainB_some h q, chainB_some k (posB_more b q)]
      have e : (l ++ [b])[i]'(by simp; omega) = l[i] := List.getElem_append_left hi
      rw [e, ih (rank l l[i].p) (by omega) rfl (may_stands h hi)]
theorem stands_more {l : List Bk} {b : Bk} {x : Id2} (hs : standsB l x = true) : standsB (l ++ [b]) x = true := by
  rcases standsB_iff.1 hs with ⟨i, e⟩ | e
  · exact standsB_iff.2 (Or.inl ⟨i, posB_more b e⟩)
  · exact standsB_iff.2 (Or.inr e)
theorem under_more {l : List Bk} {b : Bk} {x low : Id2} (k : mayB (l ++ [b]) = true) (hc : 0 < (chainC l x).length) : underC (l ++ [b]) low x = underC l low x := by
  have h : mayB l = true := by rw [mayB_snoc, Bool.and_eq_true] at k; exact k.1
  have hs : standsB l x = true := by
    cases q : standsB l x with
    | true => rfl
    | false => rw [chainC_no (fun _ => q)] at hc; simp at hc
  unfold underC
  rw [chainC_yes h hs, chainC_yes k (stands_more hs), chain_more h k _ rfl hs]

/-! ### All kids -/
def cntTo (l : List Bk) (k : Nat) : Nat := l.countP fun b => decide (rank l b.p ≤ k)
theorem countP_le_succ {α : Type} (f : α → Nat) (k : Nat) : ∀ m : List α, m.countP (fun b => decide (f b ≤ k + 1)) = m.countP (fun b => decide (f b ≤ k)) + m.countP (fun b => decide (f b = k + 1))
  | [] => rfl
  | b :: m => by
    rw [List.countP_cons, List.countP_cons, List.countP_cons, countP_le_succ f k m]
    by_cases h1 : f b ≤ k
    · simp [h1, show f b ≤ k + 1 by omega, show f b ≠ k + 1 by omega]; omega
    · by_cases h2 : f b = k + 1
      · simp [h2, show ¬ (k + 1 ≤ k) by omega]; omega
      · simp [h1, h2, show ¬ f b ≤ k + 1 by omega]
theorem kidsB_count (l : List Bk) (x : Id2) : (kidsB l x).length = l.countP (fun b => decide (b.p = x)) := by
  unfold kidsB; rw [namesB_length, List.countP_eq_length_filter]
theorem cnt_zero {l : List Bk} (h : mayB l = true) : (kidsB l zid).length = cntTo l 0 := by
  rw [kidsB_count]
  unfold cntTo
  refine List.countP_congr fun b hb => ?_
  obtain ⟨i, hi, rfl⟩ := List.getElem_of_mem hb
  simp only [decide_eq_true_iff]
  constructor
  · intro e; rw [e, rank_none (may_zero h)]; exact Nat.le_refl _
  · intro e
    rcases standsB_iff.1 (may_stands h hi) with ⟨j, q⟩ | q
    · rw [rank_some q] at e; omega
    · exact q
theorem cnt_succ {l : List Bk} (h : mayB l = true) {i : Nat} (hi : i < l.length) : cntTo l (i + 1) = cntTo l i + (kidsB l (nameB l[i])).length := by
  unfold cntTo
  rw [kidsB_count]
  refine (countP_le_succ (fun b : Bk => rank l b.p) i l).trans ?_
  congr 1
  refine List.countP_congr fun b hb => ?_
  obtain ⟨k, hk, rfl⟩ := List.getElem_of_mem hb
  simp only [decide_eq_true_iff]
  constructor
  · intro e
    cases q : posB l l[k].p with
    | none => rw [rank_none q] at e; omega
    | some j =>
      rw [rank_some q] at e
      have : j = i := by omega
      subst this
      exact (posB_name q).symm
  · intro e; rw [e, rank_some (may_pos h hi)]
theorem cnt_all {l : List Bk} : cntTo l l.length = l.length := by
  unfold cntTo
  rw [List.countP_eq_length]
  intro b _
  simpa using rank_le l b.p

/-! ### Names and salts -/
theorem idStep_inj {p : Id2} {x y : Nat} (hp : p.1 < 18446744073709551616) (hx : x < 18446744073709551616) (hy : y < 18446744073709551616) (e : idStep p x = idStep p y) : x = y := by
  have e1 : (idStep p x).1 = (idStep p y).1 := by rw [e]
  exact stepN_inj hp hx hy e1
theorem idStep_injL {p q : Id2} {x : Nat} (hp : p.1 < 18446744073709551616 ∧ p.2 < 18446744073709551616) (hq : q.1 < 18446744073709551616 ∧ q.2 < 18446744073709551616) (hx : x < 18446744073709551616) (e : idStep p x = idStep q x) : p = q := by
  have e1 : (idStep p x).1 = (idStep q x).1 := by rw [e]
  have e2 : (idStep p x).2 = (idStep q x).2 := by rw [e]
  unfold idStep at e1 e2
  simp only at e1 e2
  rw [stepN_comm p.1, stepN_comm q.1] at e1
  rw [stepN_comm p.2, stepN_comm q.2] at e2
  exact Prod.ext (stepN_inj hx hp.1 hq.1 e1) (stepN_inj (notN_lt _) hp.2 hq.2 e2)
theorem nameB_salt {b : Bk} {u v : Nat} (hu : u < 18446744073709551616) (hv : v < 18446744073709551616) (e : nameB { b with t := u } = nameB { b with t := v }) : u = v := by
  have k : ∀ t, nameB { b with t := t } = idStep (idStep (idFold [1, wd b.s, wd b.f, b.p.1, b.p.2]) t) 6 := fun t => by
    show idOf ([1, wd b.s, wd b.f, b.p.1, b.p.2] ++ [t]) = _
    unfold idOf
    rw [idFold_snoc]
    rfl
  rw [k, k] at e
  exact idStep_inj (idFold_lt _).1 hu hv (idStep_injL (idStep_lt _ _) (idStep_lt _ _) (by omega) e)

end Go.Proofs.Ytepgbnojbomicaa
