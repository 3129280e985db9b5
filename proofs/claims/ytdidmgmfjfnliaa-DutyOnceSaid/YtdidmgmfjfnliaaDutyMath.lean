/-
  Who does what, as plain numbers: confs that may be, what validators weigh, committees, proposers.
-/
import Derived.Test.YtdidmgmfjfnliaaShufMath
namespace Go.Proofs.Ytdidmgmfjfnliaa

/-- A conf as read. -/
structure Cf where
  ws : List Int
  seed : Nat
  ep : Int
  nu : Int
  de : Int

def betaC (nu de : Int) : Bool := decide (1 ≤ de ∧ de ≤ 1000 ∧ 0 ≤ nu ∧ nu ≤ de)
def mayC (k : Cf) : Bool := decide (1 ≤ k.ws.length ∧ k.ws.length ≤ 12 ∧ (∀ x ∈ k.ws, 0 ≤ x ∧ x ≤ 1099511627776) ∧ 1 ≤ k.ep ∧ k.ep ≤ 8 ∧ 1 ≤ k.de ∧ k.de ≤ 1000 ∧ 0 ≤ k.nu ∧ k.nu ≤ k.de)
theorem mayC_yes {k : Cf} (h : mayC k = true) : 1 ≤ k.ws.length ∧ k.ws.length ≤ 12 ∧ (∀ x ∈ k.ws, 0 ≤ x ∧ x ≤ 1099511627776) ∧ 1 ≤ k.ep ∧ k.ep ≤ 8 ∧ 1 ≤ k.de ∧ k.de ≤ 1000 ∧ 0 ≤ k.nu ∧ k.nu ≤ k.de := of_decide_eq_true h

/-! ### What validators weigh -/
/-- What one of them weighs. -/
def wAt (ws : List Int) (i : Nat) : Int := ws[i]?.getD 0
theorem wAt_mem {ws : List Int} {i : Nat} (h : i < ws.length) : wAt ws i ∈ ws := by simp [wAt, h]
theorem mem_wAt {ws : List Int} {x : Int} (h : x ∈ ws) : ∃ i, i < ws.length ∧ wAt ws i = x := by
  obtain ⟨i, hi, rfl⟩ := List.mem_iff_getElem.1 h
  exact ⟨i, hi, by simp [wAt, hi]⟩
/-- What those in q weigh of whom p is so. -/
def weighOf (p : Nat → Bool) (ws : List Int) : List Nat → Int := List.foldl (fun s i => s + (if p i = true then wAt ws i else 0)) 0
theorem weighOf_snoc (p : Nat → Bool) (ws : List Int) (q : List Nat) (i : Nat) : weighOf p ws (q ++ [i]) = weighOf p ws q + (if p i = true then wAt ws i else 0) := by simp [weighOf]
/-- What those of the first j validators weigh of whom p is so. -/
def weighTo (p : Nat → Bool) (ws : List Int) : Nat → Int
  | 0 => 0
  | j + 1 => weighTo p ws j + (if p j = true then wAt ws j else 0)
def weighAll (p : Nat → Bool) (ws : List Int) : Int := weighTo p ws ws.length
/-- Is somebody in a list? -/
def inList (l : List Int) (j : Nat) : Bool := decide ((j : Int) ∈ l)
def weightC (k : Cf) (l : List Int) : Int := if mayC k = true then weighAll (inList l) k.ws else 0
def totalC (k : Cf) : Int := if mayC k = true then weighAll (fun _ => true) k.ws else 0

section
variable {p q : Nat → Bool} {ws : List Int}
theorem weight_at (h : ∀ x ∈ ws, 0 ≤ x ∧ x ≤ 1099511627776) (j : Nat) : 0 ≤ wAt ws j ∧ wAt ws j ≤ 1099511627776 := by
  by_cases hj : j < ws.length
  · exact h _ (wAt_mem hj)
  · simp [wAt, show ws.length ≤ j by omega]
theorem weighOf_range (p : Nat → Bool) (ws : List Int) (j : Nat) : weighOf p ws (List.range j) = weighTo p ws j := by
  induction j with
  | zero => rfl
  | succ j ih => rw [List.range_succ, weighOf_snoc, ih]; rfl
theorem weighOf_bounds (h : ∀ x ∈ ws, 0 ≤ x ∧ x ≤ 1099511627776) (q : List Nat) : 0 ≤ weighOf p ws q ∧ weighOf p ws q ≤ 1099511627776 * (q.length : Int) := by
  rcases List.eq_nil_or_concat q with rfl | ⟨q, i, rfl⟩
  · simp [weighOf]
  · have hw := weight_at h i
    have ih := weighOf_bounds h q
    rw [List.concat_eq_append, weighOf_snoc]
    simp only [List.length_append, List.length_cons, List.length_nil]
    split <;> omega
termination_by q.length
decreasing_by subst_vars; simp
theorem weighTo_bounds (h : ∀ x ∈ ws, 0 ≤ x ∧ x ≤ 1099511627776) (j : Nat) : 0 ≤ weighTo p ws j ∧ weighTo p ws j ≤ 1099511627776 * (j : Int) := by
  induction j with
  | zero => simp [weighTo]
  | succ j ih =>
    have hw := weight_at h j
    unfold weighTo
    split <;> omega
theorem weighTo_mono (h : ∀ x ∈ ws, 0 ≤ x ∧ x ≤ 1099511627776) (hpq : ∀ j, p j = true → q j = true) (j : Nat) : weighTo p ws j ≤ weighTo q ws j := by
  induction j with
  | zero => simp [weighTo]
  | succ j ih =>
    have hw := weight_at h j
    unfold weighTo
    by_cases hp : p j = true
    · rw [if_pos hp, if_pos (hpq j hp)]; omega
    · rw [if_neg hp]; split <;> omega
theorem weighTo_congr {n : Nat} (hpq : ∀ j, j < n → p j = q j) : weighTo p ws n = weighTo q ws n := by
  induction n with
  | zero => rfl
  | succ n ih =>
    unfold weighTo
    rw [ih fun j hj => hpq j (by omega), hpq n (by omega)]
theorem weighTo_none {n : Nat} (hp : ∀ j, j < n → p j = false) : weighTo p ws n = 0 := by
  induction n with
  | zero => rfl
  | succ n ih =>
    unfold weighTo
    rw [ih fun j hj => hp j (by omega), hp n (by omega)]
    simp
/-- Both together, and those in both once more. -/
theorem weighTo_both (j : Nat) : weighTo (fun i => p i || q i) ws j + weighTo (fun i => p i && q i) ws j = weighTo p ws j + weighTo q ws j := by
  induction j with
  | zero => simp [weighTo]
  | succ j ih =>
    unfold weighTo
    cases p j <;> cases q j <;> simp <;> omega
end

/-! ### Who votes, who proposes -/
/-- Is who of the slot's committee (epochs of E slots, n validators)? -/
def memN (seed n E s who : Nat) : Bool := decide (atN (stepN seed (s / E)) n who % E = s % E)
def dutyC (k : Cf) (slot : Int) : Bool := mayC k && decide (1 ≤ slot ∧ slot ≤ 1048576)
def commOf (p : Nat → Bool) (q : List Nat) : List Int := (q.filter p).map fun i : Nat => (i : Int)
theorem commOf_hit {p : Nat → Bool} (q : List Nat) {i : Nat} (h : p i = true) : commOf p (q ++ [i]) = commOf p q ++ [(i : Int)] := by simp [commOf, h]
theorem commOf_miss {p : Nat → Bool} (q : List Nat) {i : Nat} (h : p i = false) : commOf p (q ++ [i]) = commOf p q := by simp [commOf, h]
theorem commOf_length (p : Nat → Bool) (q : List Nat) : (commOf p q).length ≤ q.length := by
  have := List.length_filter_le p q
  simpa [commOf] using this
def commTo (p : Nat → Bool) (j : Nat) : List Int := commOf p (List.range j)
def memC (k : Cf) (slot : Int) : Nat → Bool := memN k.seed k.ws.length k.ep.toNat slot.toNat
def commC (k : Cf) (slot : Int) : List Int := if dutyC k slot = true then commTo (memC k slot) k.ws.length else []
def validC (k : Cf) (who : Int) : Bool := decide (0 ≤ who ∧ who < k.ws.length)
def inC (k : Cf) (slot who : Int) : Bool := dutyC k slot && (validC k who && memC k slot who.toNat)
def propN (seed n s : Nat) : Nat := stepN (stepN seed 4294967296) s % n
def propC (k : Cf) (slot : Int) : Int := if dutyC k slot = true then ((propN k.seed k.ws.length slot.toNat : Nat) : Int) else -1

theorem dutyC_yes {k : Cf} {slot : Int} (h : dutyC k slot = true) : mayC k = true ∧ 1 ≤ slot ∧ slot ≤ 1048576 := by
  simp only [dutyC, Bool.and_eq_true, decide_eq_true_eq] at h
  exact ⟨h.1, h.2.1, h.2.2⟩
theorem commTo_zero (p : Nat → Bool) : commTo p 0 = [] := rfl
theorem commTo_hit {p : Nat → Bool} {j : Nat} (h : p j = true) : commTo p (j + 1) = commTo p j ++ [(j : Int)] := by simp [commTo, commOf, List.range_succ, h]
theorem commTo_miss {p : Nat → Bool} {j : Nat} (h : p j = false) : commTo p (j + 1) = commTo p j := by simp [commTo, commOf, List.range_succ, h]
theorem commTo_length (p : Nat → Bool) (j : Nat) : (commTo p j).length ≤ j := by
  have := commOf_length p (List.range j)
  simpa [commTo] using this
theorem mem_commTo {p : Nat → Bool} {j : Nat} {x : Int} : x ∈ commTo p j ↔ ∃ i : Nat, i < j ∧ p i = true ∧ x = i := by
  simp only [commTo, commOf, List.mem_map, List.mem_filter, List.mem_range]
  exact ⟨fun ⟨i, h, e⟩ => ⟨i, h.1, h.2, e.symm⟩, fun ⟨i, h, hp, e⟩ => ⟨i, ⟨h, hp⟩, e.symm⟩⟩
theorem inList_comm {p : Nat → Bool} {n : Nat} (j : Nat) (hj : j < n) : inList (commTo p n) j = p j := by
  unfold inList
  cases h : p j with
  | true => exact decide_eq_true (mem_commTo.2 ⟨j, hj, h, rfl⟩)
  | false =>
    refine decide_eq_false fun hm => ?_
    obtain ⟨i, _, hp, e⟩ := mem_commTo.1 hm
    obtain rfl : j = i := by omega
    rw [h] at hp; cases hp

end Go.Proofs.Ytdidmgmfjfnliaa
