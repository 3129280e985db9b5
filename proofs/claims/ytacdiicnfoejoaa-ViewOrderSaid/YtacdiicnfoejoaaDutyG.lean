/-
  Who does what, as plain numbers: confs that may be, what validators weigh, committees, proposers.
  Going through a conf's validators by a function to range over: the contracts of validators, and of what it hands back.
  The contract of package duty's call May.
  The contract of package duty's call Total.
  The contracts of package duty's calls In and Proposer, and of those beneath them.
  The contract of package duty's call Committee.
  The contract of package duty's call validatorsIn: who is in a list, as the keys of a map.
  The chapter's example, which every law of layer 5 asks first: it is so; the arguments of layer 5's laws, opened.
  A conf's box held over a region that draws its order; epochs of one slot.
  Lists put together, and what they weigh; append of a list of numbers at a step of a region that draws its order.
  An epoch's slots, as plain numbers: each validator is of just one of their committees, and all of these weigh the total.
  The contract of the statements' own has of layer 14.
-/
import Derived.RangeFuncNested
import Derived.RangeFuncBound
import Derived.RangeFuncCalls
import Derived.RangeFuncLeaves
import Derived.RangeFuncBox
import Derived.Shelf.Abstract
import Derived.Shelf.RegionOpen
import Derived.WalkKit
import Derived.OwnWalkIn
import Derived.TacticsInMore
import Derived.LoopNIn
import Derived.LoopIn
import Derived.Deep.RegionHeld3
import Derived.Maps.OwnIn
import Derived.WalkArith
import Derived.Deep.OwnRows
import Derived.Test.YtacdiicnfoejoaaMixG
import Derived.Test.YtacdiicnfoejoaaGround
import Derived.Test.YtacdiicnfoejoaaShufG
namespace Go.Proofs.Ytacdiicnfoejoaa
set_option maxRecDepth 100000
set_option linter.unusedVariables false
set_option linter.unusedSimpArgs false
section
/-- A conf as read. -/
structure Cf where
  ws : List Int
  seed : Nat
  ep : Int
  nu : Int
  de : Int

def betaC (nu de : Int) : Bool := decide (1 ≤ de ∧ de ≤ 1000 ∧ 0 ≤ nu ∧ nu ≤ de)
def mayC (k : Cf) : Bool := decide (1 ≤ k.ws.length ∧ k.ws.length ≤ 12 ∧ (∀ x ∈ k.ws, 0 ≤ x ∧ x ≤ 1099511627776) ∧ 1 ≤ k.ep ∧ k.ep ≤ 8 ∧ 1 ≤ k.de ∧ k.de ≤ 1000 ∧ 0 ≤ k.nu ∧ k.nu ≤ k.de)
theorem mayC_yes {k : Cf} (h : mayC k = true) : 1 ≤ k.ws.length ∧ k.ws.length ≤ 12 ∧ (∀ x ∈ k.ws, 0 ≤ x ∧ x ≤ 1099511627776) ∧ 1 ≤ k.ep ∧ k.ep ≤ 8 ∧ 1 ≤ k.de ∧ k.de ≤ 1000 ∧ 0 ≤ k.nu ∧ k.nu ≤ k.de := of_decide_eq_true h

/-! ### What validators weigh -/
/-- What one of them weighs. -/
def wAt (ws : List Int) (i : Nat) : Int := ws[i]?.getD 0
theorem wAt_mem {ws : List Int} {i : Nat} (h : i < ws.length) : wAt ws i ∈ ws := by simp [wAt, h]
theorem mem_wAt {ws : List Int} {x : Int} (h : x ∈ ws) : ∃ i, i < ws.length ∧ wAt ws i = x := by
  obtain ⟨i, hi, rfl⟩ := List.mem_iff_getElem.1 h
  exact ⟨i, hi, by simp [wAt, hi]⟩
/-- What those in q weigh of whom p is so. -/
def weighOf (p : Nat → Bool) (ws : List Int) : List Nat → Int := List.foldl (fun s i => s + (if p i = true then wAt ws i else 0)) 0
theorem weighOf_snoc (p : Nat → Bool) (ws : List Int) (q : List Nat) (i : Nat) : weighOf p ws (q ++ [i]) = weighOf p ws q + (if p i = true then wAt ws i else 0) := by simp [weighOf]
/-- What those of the first j validators weigh of whom p is so. -/
def weighTo (p : Nat → Bool) (ws : List Int) : Nat → Int
  | 0 => 0
  | j + 1 => weighTo p ws j + (if p j = true then wAt ws j else 0)
def weighAll (p : Nat → Bool) (ws : List Int) : Int := weighTo p ws ws.length
/-- Is somebody in a list? -/
def inList (l : List Int) (j : Nat) : Bool := decide ((j : Int) ∈ l)
def weightC (k : Cf) (l : List Int) : Int := if mayC k = true then weighAll (inList l) k.ws else 0
def totalC (k : Cf) : Int := if mayC k = true then weighAll (fun _ => true) k.ws else 0

section
variable {p q : Nat → Bool} {ws : List Int}
theorem weight_at (h : ∀ x ∈ ws, 0 ≤ x ∧ x ≤ 1099511627776) (j : Nat) : 0 ≤ wAt ws j ∧ wAt ws j ≤ 1099511627776 := by
  by_cases hj : j < ws.length
  · exact h _ (wAt_mem hj)
  · simp [wAt, show ws.length ≤ j by omega]
theorem weighOf_range (p : Nat → Bool) (ws : List Int) (j : Nat) : weighOf p ws (List.range j) = weighTo p ws j := by
  induction j with
  | zero => rfl
  | succ j ih => rw [List.range_succ, weighOf_snoc, ih]; rfl
theorem weighOf_bounds (h : ∀ x ∈ ws, 0 ≤ x ∧ x ≤ 1099511627776) (q : List Nat) : 0 ≤ weighOf p ws q ∧ weighOf p ws q ≤ 1099511627776 * (q.length : Int) := by
  rcases List.eq_nil_or_concat q with rfl | ⟨q, i, rfl⟩
  · simp [weighOf]
  · have hw := weight_at h i
    have ih := weighOf_bounds h q
    rw [List.concat_eq_append, weighOf_snoc]
    simp only [List.length_append, List.length_cons, List.length_nil]
    split <;> omega
termination_by q.length
decreasing_by subst_vars; simp
theorem weighTo_bounds (h : ∀ x ∈ ws, 0 ≤ x ∧ x ≤ 1099511627776) (j : Nat) : 0 ≤ weighTo p ws j ∧ weighTo p ws j ≤ 1099511627776 * (j : Int) := by
  induction j with
  | zero => simp [weighTo]
  | succ j ih =>
    have hw := weight_at h j
    unfold weighTo
    split <;> omega
theorem weighTo_mono (h : ∀ x ∈ ws, 0 ≤ x ∧ x ≤ 1099511627776) (hpq : ∀ j, p j = true → q j = true) (j : Nat) : weighTo p ws j ≤ weighTo q ws j := by
  induction j with
  | zero => simp [weighTo]
  | succ j ih =>
    have hw := weight_at h j
    unfold weighTo
    by_cases hp : p j = true
    · rw [if_pos hp, if_pos (hpq j hp)]; omega
    · rw [if_neg hp]; split <;> omega
theorem weighTo_congr {n : Nat} (hpq : ∀ j, j < n → p j = q j) : weighTo p ws n = weighTo q ws n := by
  induction n with
  | zero => rfl
  | succ n ih =>
    unfold weighTo
    rw [ih fun j hj => hpq j (by omega), hpq n (by omega)]
theorem weighTo_none {n : Nat} (hp : ∀ j, j < n → p j = false) : weighTo p ws n = 0 := by
  induction n with
  | zero => rfl
  | succ n ih =>
    unfold weighTo
    rw [ih fun j hj => hp j (by omega), hp n (by omega)]
    simp
/-- Both together, and those in both once more. -/
theorem weighTo_both (j : Nat) : weighTo (fun i => p i || q i) ws j + weighTo (fun i => p i && q i) ws j = weighTo p ws j + weighTo q ws j := by
  induction j with
  | zero => simp [weighTo]
  | succ j ih =>
    unfold weighTo
    cases p j <;> cases q j <;> simp <;> omega
end

/-! ### Who votes, who proposes -/
/-- Is who of the slot's committee (epochs of E slots, n validators)? -/
def memN (seed n E s who : Nat) : Bool := decide (atN (stepN seed (s / E)) n who % E = s % E)
def dutyC (k : Cf) (slot : Int) : Bool := mayC k && decide (1 ≤ slot ∧ slot ≤ 1048576)
def commOf (p : Nat → Bool) (q : List Nat) : List Int := (q.filter p).map fun i : Nat => (i : Int)
theorem commOf_hit {p : Nat → Bool} (q : List Nat) {i : Nat} (h : p i = true) : commOf p (q ++ [i]) = commOf p q ++ [(i : Int)] := by simp [commOf, h]
theorem commOf_miss {p : Nat → Bool} (q : List Nat) {i : Nat} (h : p i = false) : commOf p (q ++ [i]) = commOf p q := by simp [commOf, h]
theorem commOf_length (p : Nat → Bool) (q : List Nat) : (commOf p q).length ≤ q.length := by
  have := List.length_filter_le p q
  simpa [commOf] using this
def commTo (p : Nat → Bool) (j : Nat) : List Int := commOf p (List.range j)
def memC (k : Cf) (slot : Int) : Nat → Bool := memN k.seed k.ws.length k.ep.toNat slot.toNat
def commC (k : Cf) (slot : Int) : List Int := if dutyC k slot = true then commTo (memC k slot) k.ws.length else []
def validC (k : Cf) (who : Int) : Bool := decide (0 ≤ who ∧ who < k.ws.length)
def inC (k : Cf) (slot who : Int) : Bool := dutyC k slot && (validC k who && memC k slot who.toNat)
def propN (seed n s : Nat) : Nat := stepN (stepN seed 4294967296) s % n
def propC (k : Cf) (slot : Int) : Int := if dutyC k slot = true then ((propN k.seed k.ws.length slot.toNat : Nat) : Int) else -1

theorem dutyC_yes {k : Cf} {slot : Int} (h : dutyC k slot = true) : mayC k = true ∧ 1 ≤ slot ∧ slot ≤ 1048576 := by
  simp only [dutyC, Bool.and_eq_true, decide_eq_true_eq] at h
  exact ⟨h.1, h.2.1, h.2.2⟩
theorem commTo_zero (p : Nat → Bool) : commTo p 0 = [] := rfl
theorem commTo_hit {p : Nat → Bool} {j : Nat} (h : p j = true) : commTo p (j + 1) = commTo p j ++ [(j : Int)] := by simp [commTo, commOf, List.range_succ, h]
theorem commTo_miss {p : Nat → Bool} {j : Nat} (h : p j = false) : commTo p (j + 1) = commTo p j := by simp [commTo, commOf, List.range_succ, h]
theorem commTo_length (p : Nat → Bool) (j : Nat) : (commTo p j).length ≤ j := by
  have := commOf_length p (List.range j)
  simpa [commTo] using this
theorem mem_commTo {p : Nat → Bool} {j : Nat} {x : Int} : x ∈ commTo p j ↔ ∃ i : Nat, i < j ∧ p i = true ∧ x = i := by
  simp only [commTo, commOf, List.mem_map, List.mem_filter, List.mem_range]
  exact ⟨fun ⟨i, h, e⟩ => ⟨i, h.1, h.2, e.symm⟩, fun ⟨i, h, hp, e⟩ => ⟨i, ⟨h, hp⟩, e.symm⟩⟩
theorem inList_comm {p : Nat → Bool} {n : Nat} (j : Nat) (hj : j < n) : inList (commTo p n) j = p j := by
  unfold inList
  cases h : p j with
  | true => exact decide_eq_true (mem_commTo.2 ⟨j, hj, h, rfl⟩)
  | false =>
    refine decide_eq_false fun hm => ?_
    obtain ⟨i, _, hp, e⟩ := mem_commTo.1 hm
    obtain rfl : j = i := by omega
    rw [h] at hp; cases hp
end

section
open Go.ChangeShapes Go.WideShapes Go.ChangeAt Go.RowKit Go.Shelf

attribute [local go_sem] Oper.semAt_some

/-- A validator: its number, and that there is one. -/
abbrev Vl (n : Nat) := { i : Nat // i < n }
/-- Who has come when j rounds are over. -/
def valsTo (n j : Nat) : List (Vl n) := (List.range j).filterMap fun i => if h : i < n then some ⟨i, h⟩ else none
theorem valsTo_succ {n j : Nat} (h : j < n) : valsTo n (j + 1) = valsTo n j ++ [⟨j, h⟩] := by simp [valsTo, List.range_succ, List.filterMap_append, h]
theorem valsTo_map {n j : Nat} (h : j ≤ n) : (valsTo n j).map (·.1) = List.range j := by
  induction j with
  | zero => rfl
  | succ j ih => rw [valsTo_succ (by omega), List.map_append, ih (by omega), List.range_succ]; rfl
theorem valsTo_length {n j : Nat} (h : j ≤ n) : (valsTo n j).length = j := by
  have := congrArg List.length (valsTo_map h)
  simpa using this

theorem ints_cell {w : World} {B : Nat} {A : Option Addr} {l : List Int} (h : CellsAt w B A (intCells l)) {j : Nat} (hj : j < l.length) : ∃ ad : Addr, A = some ad ∧ ad.block < B ∧ w.cell? (ad.add j) = some (.int .i64 (wAt l j)) :=
  h j _ (by simp [intCells, List.getElem?_map, List.getElem?_eq_getElem hj, wAt])

set_option maxHeartbeats 800000 in
theorem vals_any (A : Option Addr) (c : Nat) (k : Cf) (w : World) :
    Calls Try.prog 41 #[.agg #[.slice A k.ws.length c, .int .u64 k.seed, .int .i64 k.ep, .int .i64 k.nu, .int .i64 k.de]] w fun e w' => e = .returned (.func (.func 55) #[] #[.pointer (some ⟨w.heap.size, 0, none⟩)]) ∧ w' = w.alloc (.cells #[.slice A k.ws.length c, .int .u64 k.seed, .int .i64 k.ep, .int .i64 k.nu, .int .i64 k.de] 25) := by
  go_enter Try.func41, Try.ntmps41
  go_wp2
  go_ret
  exact ⟨rfl, rfl⟩

set_option maxRecDepth 100000 in
set_option maxHeartbeats 2000000 in
/-- What validators hands back, for every loop body that keeps what lay below n₀. -/
theorem vals1_in (n : Nat) (hn : 1 ≤ n) (l Bs n₀ : Nat) (A : Option Addr) (c : Nat) (k : Cf) (hlen : k.ws.length ≤ 1000) (J Jx : List (Vl k.ws.length) → World → Prop)
    (hY : ∀ pre x W, J pre W → pre.length < k.ws.length → YieldAt Fence.wide (n - 1) Try.prog l #[.int .i64 (x.1 : Int), .int .i64 (wAt k.ws x.1)] W fun e W' =>
      (e = .returned (.bool true) ∧ J (pre ++ [x]) W' ∧ Below n₀ W W') ∨ (e = .returned (.bool false) ∧ Jx (pre ++ [x]) W'))
    (W : World) (hBs : W.cell? ⟨Bs, 0, none⟩ = some (.slice A k.ws.length c)) (hc : CellsAt W n₀ A (intCells k.ws)) (h0 : J [] W) :
    CallsIn Fence.wide n Try.prog 55 #[.func (.yield l) #[] #[], .pointer (some ⟨Bs, 0, none⟩)] W fun e W' => (∃ v, e = .returned v) ∧
      ((∃ ys, ys = valsTo k.ws.length k.ws.length ∧ J ys W') ∨ (∃ pre, (∃ j, j ≤ k.ws.length ∧ pre = valsTo k.ws.length j) ∧ Jx pre W')) := by
  refine callsIn_of_wp Try.func55 rfl trivial ?_ rfl
  simp only [Try.ntmps55, List.size_toArray, List.length_cons, List.length_nil, Nat.reduceAdd, Nat.reduceSub, Array.replicate_succ, Array.replicate_zero, List.push_toArray, List.append_toArray, List.nil_append, List.cons_append]
  have HC := Lib.hid hc
  clear hc
  gi_wp2
  gi_loopw [8] (fun i wr => ∃ j : Nat, j ≤ k.ws.length ∧ i = .int .i64 j ∧ J (valsTo k.ws.length j) wr ∧ Below n₀ W wr)
    (fun i _ => k.ws.length - (intOf i).toNat)
  case atStart => exact ⟨0, Nat.zero_le _, rfl, h0, Below.refl _ _⟩
  case round =>
    obtain ⟨j, hj, rfl, hJs, hnx⟩ := hrel
    by_cases hlt : j < k.ws.length
    · obtain ⟨fn, tmps, assign, body, hy, hR⟩ := hY _ ⟨j, hlt⟩ wr hJs (by rw [valsTo_length hj]; exact hlt)
      dsimp only at hy
      obtain ⟨ad, rfl, hb, hcell⟩ := ints_cell HC.out hlt
      have hcx : wr.cell? (ad.add j) = some (.int .i64 (wAt k.ws j)) := (hnx.cell (by rw [block_add]; exact hb)).trans hcell
      have HS := Lib.hid (valsTo_succ hlt)
      clear hcell
      gi_wp2
      refine hR.mono ?_
      rintro e W3 (⟨rfl, hJ3, hk3⟩ | ⟨rfl, hJx3⟩)
      · gi_wp2
        go_roundw
        case rel => exact ⟨j + 1, by omega, by simp, by rw [HS.out]; exact hJ3, hnx.trans hk3⟩
        case measure => simp [intOf]; omega
      · gi_wp2
        refine bodyPost_ret (results_none rfl _ _ _) rfl ?_
        exact ⟨⟨_, rfl⟩, .inr ⟨_, ⟨j + 1, by omega, HS.out.symm⟩, hJx3⟩⟩
    · obtain rfl : j = k.ws.length := by omega
      gi_wp2
      go_end0
      exact ⟨⟨_, rfl⟩, .inl ⟨_, rfl, hJs⟩⟩

/-- It can be ranged over: all validators, rising, each with what it weighs; or the first ones of them. -/
theorem vals_stops (n : Nat) (hn : 1 ≤ n) (Bs n₀ : Nat) (A : Option Addr) (c : Nat) (k : Cf) (hlen : k.ws.length ≤ 1000) (w : World) (hBs : Bs < w.heap.size) (hn₀ : n₀ ≤ w.heap.size)
    (hc : w.cell? ⟨Bs, 0, none⟩ = some (.slice A k.ws.length c)) (hI : CellsAt w n₀ A (intCells k.ws)) :
    SeqStopsK Fence.wide n Try.prog 55 #[.pointer (some ⟨Bs, 0, none⟩)] (fun x : Vl k.ws.length => #[Value.int .i64 (x.1 : Int), Value.int .i64 (wAt k.ws x.1)]) (Below n₀) (fun ys => ys = valsTo k.ws.length k.ws.length)
      (fun pre => ∃ j, j ≤ k.ws.length ∧ pre = valsTo k.ws.length j) k.ws.length w := fun l J Jx W hW _ _ hY h0 =>
  vals1_in n hn l Bs n₀ A c k hlen J Jx hY W ((hW.cell (p := ⟨Bs, 0, none⟩) hBs).trans hc) (hI.keep fun _ hp => hW.cell (Nat.lt_of_lt_of_le hp hn₀)) h0

/-- A loop over validators: I tells what is so when those in a list have come, Ix how it is left early. -/
theorem range_vals {g : Operand} {ps : Array Tmp} {assign body : Code} {Q : Exit → Act → World → Prop} {a : Act} {w : World} (Bs n₀ : Nat) (A : Option Addr) (c : Nat) (k : Cf) (hlen : k.ws.length ≤ 1000)
    (hg : a.eval g = .func (.func 55) #[] #[.pointer (some ⟨Bs, 0, none⟩)]) (hps : ps.size = 2) (hBs : Bs < w.heap.size) (hn₀ : n₀ ≤ w.heap.size)
    (hc : w.cell? ⟨Bs, 0, none⟩ = some (.slice A k.ws.length c)) (hA : CellsAt w n₀ A (intCells k.ws))
    (I : List Nat → World → Prop) (Ix : Code → List Nat → World → Prop) (hI : OwnFrom w.heap.size I) (hIx : ∀ x, OwnFrom w.heap.size (Ix x)) (h0 : I [] w) (a₁ : Nat → Act)
    (hassign : ∀ (l : Nat) (i : Nat) (W : World) (K : Act → World → Prop), K (a₁ i) W →
      assign.wpIn (Fence.wide.inRound l) 1 Try.prog (Exit.then K (fun _ _ _ => False)) { tmps := (ps.zip #[Value.int .i64 (i : Int), Value.int .i64 (wAt k.ws i)]).foldl (fun t (p, v) => t.setIfInBounds p v) a.tmps, defers := [] } W)
    (hbody : ∀ (l : Nat) (q : List Nat) (i : Nat) (W : World), i < k.ws.length → I q W → q.length < k.ws.length → body.wpIn (Fence.wide.inRound l) 1 Try.prog (ownPostG w.heap.size (Below n₀) I Ix (q ++ [i]) W) (a₁ i) W)
    (hdone : ∀ (D : Nat) (W : World), w.heap.size ≤ D → I (List.range k.ws.length) W → W.heap[D]? = some (.deferred (some [])) → Q .normal { a with defers := { target := .collected D, args := #[] } :: a.defers } W)
    (hstop : ∀ (D : Nat) (x : Code) (j : Nat) (W : World), w.heap.size ≤ D → j ≤ k.ws.length → Ix x (List.range j) W → W.heap[D]? = some (.deferred (some [])) → x.wpIn Fence.wide 3 Try.prog Q { a with defers := { target := .collected D, args := #[] } :: a.defers } W) :
    (Code.rangeFunc g ps assign body).wpIn Fence.wide 3 Try.prog Q a w := by
  refine wpIn_rangeFunc_ownG rfl (by omega) (gf := 55) (lb := #[.pointer (some ⟨Bs, 0, none⟩)]) hg trivial (enters_of Try.func55 (by kernel_rfl) rfl)
    (vals_stops (3 - 1) (by omega) Bs n₀ A c k hlen w hBs hn₀ hc hA) belowK_t (belowK_b hn₀) (Below.refl _ _) (fun _ => hps.symm)
    (fun pre W => I (pre.map (·.1)) W) (fun x pre W => Ix x (pre.map (·.1)) W) (fun (s : List (Vl k.ws.length)) W W' row hs hg hr => hI (s.map (·.1)) W W' row hs hg hr) (fun x (s : List (Vl k.ws.length)) W W' row hs hg hr => hIx x (s.map (·.1)) W W' row hs hg hr) h0 (fun x => a₁ x.1)
    (fun l x W K hK => hassign l x.1 W K hK) ?_ ?_ ?_
  · intro l pre x W hi hl
    refine wpIn_mono (hbody l (pre.map (·.1)) x.1 W x.2 hi (by simpa using hl)) ?_
    have e : (pre ++ [x]).map (·.1) = pre.map (·.1) ++ [x.1] := by simp
    intro ex a' W' h
    cases ex with
    | normal => exact ⟨h.1, h.2.1, by show I ((pre ++ [x]).map (·.1)) W'; rw [e]; exact h.2.2⟩
    | ret => exact ⟨h.1, by show Ix .ret ((pre ++ [x]).map (·.1)) W'; rw [e]; exact h.2⟩
    | exit id => exact ⟨h.1, by show Ix (.exit id) ((pre ++ [x]).map (·.1)) W'; rw [e]; exact h.2⟩
    | goto t => exact ⟨h.1, by show Ix (.goto t) ((pre ++ [x]).map (·.1)) W'; rw [e]; exact h.2⟩
    | panic ch => exact h.elim
    | outgrown => exact h.elim
  · rintro D xs W hD rfl hi hK
    exact hdone D W hD (by rw [← valsTo_map (Nat.le_refl _)]; exact hi) hK
  · rintro D x pre W hD ⟨j, hj, rfl⟩ hi hK
    exact hstop D x j W hD hj (by rw [← valsTo_map hj]; exact hi) hK
end

section
open Go.ChangeShapes Go.WideShapes Go.ChangeAt Go.RowKit Go.Shelf

attribute [local go_sem] Oper.semAt_some

set_option maxHeartbeats 800000 in
theorem beta_any (nu de : Int) (w : World) : Calls Try.prog 42 #[.int .i64 nu, .int .i64 de] w fun e w' => e = .returned (.bool (betaC nu de)) ∧ w' = w := by
  by_cases h1 : 1 ≤ de
  · by_cases h2 : de ≤ 1000
    · by_cases h3 : 0 ≤ nu
      · by_cases h4 : nu ≤ de
        · have HB := Lib.hid (show betaC nu de = true from decide_eq_true ⟨h1, h2, h3, h4⟩)
          go_enter Try.func42, Try.ntmps42
          go_wp2
          go_ret
          exact ⟨by rw [HB.out]; rfl, rfl⟩
        · have HB := Lib.hid (show betaC nu de = false from decide_eq_false (by omega))
          go_enter Try.func42, Try.ntmps42
          go_wp2
          go_ret
          exact ⟨by rw [HB.out]; rfl, rfl⟩
      · have HB := Lib.hid (show betaC nu de = false from decide_eq_false (by omega))
        go_enter Try.func42, Try.ntmps42
        go_wp2
        go_ret
        exact ⟨by rw [HB.out]; rfl, rfl⟩
    · have HB := Lib.hid (show betaC nu de = false from decide_eq_false (by omega))
      go_enter Try.func42, Try.ntmps42
      go_wp2
      go_ret
      exact ⟨by rw [HB.out]; rfl, rfl⟩
  · have HB := Lib.hid (show betaC nu de = false from decide_eq_false (by omega))
    go_enter Try.func42, Try.ntmps42
    go_wp2
    go_ret
    exact ⟨by rw [HB.out]; rfl, rfl⟩

set_option maxHeartbeats 800000 in
theorem may_small (A : Option Addr) (c : Nat) (k : Cf) (w : World) (h : ¬ (1 ≤ k.ws.length ∧ k.ws.length ≤ 12)) :
    Calls Try.prog 21 #[.agg #[.slice A k.ws.length c, .int .u64 k.seed, .int .i64 k.ep, .int .i64 k.nu, .int .i64 k.de]] w fun e w' => e = .returned (.bool (mayC k)) ∧ Kept w w' := by
  have HM := Lib.hid (show mayC k = false from decide_eq_false fun hm => h ⟨hm.1, hm.2.1⟩)
  by_cases h1 : k.ws.length < 1
  · clear h
    go_enter Try.func21, Try.ntmps21
    go_wp2
    refine bodyPost_ret (v := .bool false) (by simp [results, Try.f21, go_sem]) rfl ?_
    exact ⟨by rw [HM.out], ((Kept.refl w).alloc _).alloc _⟩
  · have h2 : k.ws.length > 12 := by omega
    clear h
    go_enter Try.func21, Try.ntmps21
    go_wp2
    refine bodyPost_ret (v := .bool false) (by simp [results, Try.f21, go_sem]) rfl ?_
    exact ⟨by rw [HM.out], ((Kept.refl w).alloc _).alloc _⟩

theorem fine_may {k : Cf} (h1 : 1 ≤ k.ws.length) (h2 : k.ws.length ≤ 12) (h : ∀ i ∈ List.range k.ws.length, 0 ≤ wAt k.ws i ∧ wAt k.ws i ≤ 1099511627776) : mayC k = decide (1 ≤ k.ep ∧ k.ep ≤ 8 ∧ betaC k.nu k.de = true) := by
  have hf : ∀ x ∈ k.ws, 0 ≤ x ∧ x ≤ 1099511627776 := fun x hx => by
    obtain ⟨i, hi, rfl⟩ := mem_wAt hx
    exact h _ (List.mem_range.2 hi)
  refine decide_eq_decide.2 ⟨fun hm => ⟨hm.2.2.2.1, hm.2.2.2.2.1, decide_eq_true hm.2.2.2.2.2⟩, fun ⟨h3, h4, hb⟩ => ⟨h1, h2, hf, h3, h4, of_decide_eq_true hb⟩⟩
theorem bad_may {k : Cf} {j : Nat} (hj : j ≤ k.ws.length) (h : ∃ i ∈ List.range j, (0 ≤ wAt k.ws i → 1099511627776 < wAt k.ws i)) : mayC k = false := by
  obtain ⟨i, hp, hbad⟩ := h
  exact decide_eq_false fun hm => by
    have := hm.2.2.1 _ (wAt_mem (i := i) (by have := List.mem_range.1 hp; omega))
    have := hbad this.1
    omega

set_option maxRecDepth 100000 in
set_option maxHeartbeats 2000000 in
theorem may_some (A : Option Addr) (c : Nat) (k : Cf) (w : World) (hA : CellsAt w w.heap.size A (intCells k.ws)) (h1 : 1 ≤ k.ws.length) (h2 : k.ws.length ≤ 12) :
    Calls Try.prog 21 #[.agg #[.slice A k.ws.length c, .int .u64 k.seed, .int .i64 k.ep, .int .i64 k.nu, .int .i64 k.de]] w fun e w' => e = .returned (.bool (mayC k)) ∧ Kept w w' := by
  have HA := Lib.hid hA
  clear hA
  refine (callsIn_wide (n := 3)).1 ?_
  refine callsIn_of_wp_marks Try.func21 rfl trivial ?_ rfl
  simp only [Try.ntmps21, List.size_toArray, List.length_cons, List.length_nil, Nat.reduceAdd, Nat.reduceSub, Array.replicate_succ, Array.replicate_zero, List.push_toArray, List.append_toArray, List.nil_append, List.cons_append]
  gi_wp2_with (refine ⟨trivial, ?_⟩; gi_at_call 41; refine (callsIn_wide.2 (vals_any A c k _)).mono ?_; rintro e w' ⟨rfl, rfl⟩)
  obtain ⟨w1, hw1⟩ : ∃ w1, w.alloc (.cells #[.slice A k.ws.length c, .int .u64 k.seed, .int .i64 k.ep, .int .i64 k.nu, .int .i64 k.de] 25) = w1 := ⟨_, rfl⟩
  have hsz : w1.heap.size = w.heap.size + 1 := by rw [← hw1]; simp
  have HW := Lib.hid (show HasCells w1 w.heap.size [.slice A k.ws.length c, .int .u64 k.seed, .int .i64 k.ep, .int .i64 k.nu, .int .i64 k.de] by rw [← hw1]; exact HasCells.new w _ _ _ rfl)
  have HK1 := Lib.hid (show Kept w w1 by rw [← hw1]; exact (Kept.refl w).alloc _)
  have HA1 := Lib.hid (show CellsAt w1 w1.heap.size A (intCells k.ws) from HA.out.kept HK1.out)
  rw [hw1]
  clear hw1 HA
  have bR := Boxed.new w1 4 (.bool false)
  have bN := HasCells.new (w1.alloc (.cells #[.bool false] 4)) #[.slice A k.ws.length c, .int .u64 k.seed, .int .i64 k.ep, .int .i64 k.nu, .int .i64 k.de] 25 _ rfl
  have hB0 : Below w1.heap.size w1 ((w1.alloc (.cells #[.bool false] 4)).alloc (.cells #[.slice A k.ws.length c, .int .u64 k.seed, .int .i64 k.ep, .int .i64 k.nu, .int .i64 k.de] 25)) := ((Below.refl _ w1).alloc (Nat.le_refl _) _).alloc (by simp) _
  have hs2 : (w1.alloc (.cells #[.bool false] 4)).heap.size = w.heap.size + 1 + 1 := by simp [hsz]
  rw [hs2] at bN
  rw [hsz] at bR
  refine' range_vals (w.heap.size + 1 + 1) w1.heap.size A c k (by omega) rfl rfl (by simp; omega) (by simp; omega) bN.at0 (HA1.out.keep fun _ hp => hB0.cell hp)
    (fun q W => ((∀ i ∈ q, 0 ≤ wAt k.ws i ∧ wAt k.ws i ≤ 1099511627776) ∧ Boxed W (w.heap.size + 1) 4 (.bool false)) ∧ Below w1.heap.size w1 W)
    (fun x q W => ((x = .ret ∧ ∃ i ∈ q, (0 ≤ wAt k.ws i → 1099511627776 < wAt k.ws i)) ∧ Boxed W (w.heap.size + 1) 4 (.bool false)) ∧ Below w1.heap.size w1 W)
    (OwnFrom.and (OwnFrom.and (ownFrom_pure _ _) (Own.from (boxed_own _ _ _) _)) (ownFrom_below (Nat.le_refl _) (by simp; omega)))
    (fun x => OwnFrom.and (OwnFrom.and (ownFrom_pure _ _) (Own.from (boxed_own _ _ _) _)) (ownFrom_below (Nat.le_refl _) (by simp; omega)))
    ⟨⟨by simp, bR.alloc _⟩, hB0⟩ _ ?assign ?body ?done ?stop
  case assign =>
    intro l i W K hK
    gi_wp2
    exact hK
  case body =>
    clear bR bN hs2 hB0
    rintro l q i W hi ⟨⟨hq, hb⟩, hB⟩ hl
    have hcb := hb.cell
    have hfb := hb.frozen
    have HQ := Lib.hid hq
    have HB := Lib.hid hB
    have HS := Lib.hid hsz
    clear hq hB hsz
    by_cases c1 : wAt k.ws i < 0
    · gi_wp2
      exact ⟨(KeepsOthers.setCell _ _ _).from _, ⟨⟨rfl, i, by simp, by omega⟩, hb.set _⟩, HB.out.setCell (p := ⟨w.heap.size + 1, 0, none⟩) (by rw [HS.out]; exact Nat.le_refl _) _⟩
    · by_cases c2 : wAt k.ws i > 1099511627776
      · gi_wp2
        exact ⟨(KeepsOthers.setCell _ _ _).from _, ⟨⟨rfl, i, by simp, by omega⟩, hb.set _⟩, HB.out.setCell (p := ⟨w.heap.size + 1, 0, none⟩) (by rw [HS.out]; exact Nat.le_refl _) _⟩
      · gi_wp2
        refine ⟨KeepsFrom.refl _ _, Below.refl _ _, ⟨fun x hx => ?_, hb⟩, HB.out⟩
        rcases List.mem_append.1 hx with hx | hx
        · exact HQ.out x hx
        · simp at hx; subst hx; omega
  case done =>
    rintro D W hD ⟨⟨hq, hb⟩, hB⟩ hK
    have hcb := hb.cell
    have hfb := hb.frozen
    have hC := HW.out
    obtain ⟨c0, c1, c2, c3, c4⟩ := (HasCells.five ⟨Nat.lt_of_lt_of_le hC.1 hB.size, fun j u hu => (hB.cell (p := ⟨w.heap.size, j, none⟩) hC.1).trans (hC.2 j u hu)⟩ : _)
    have HB := Lib.hid hB
    have HKW := Lib.hid (show Kept w W from HK1.out.trans hB)
    have HD := Lib.hid (show w.heap.size ≤ D by simp at hD; omega)
    have HM := Lib.hid (fine_may h1 h2 hq)
    clear bR bN hs2 hB0 hq hB hsz hC hD
    have fin : ∀ b, (W.setCell ⟨w.heap.size + 1, 0, none⟩ (.bool b)).heap[D]? = some (.deferred (some [])) ∧ ((W.setCell ⟨w.heap.size + 1, 0, none⟩ (.bool b)).putObj D (.deferred none)).cell? ⟨w.heap.size + 1, 0, none⟩ = some (.bool b) ∧ Kept w ((W.setCell ⟨w.heap.size + 1, 0, none⟩ (.bool b)).putObj D (.deferred none)) := fun b => by
      have hK' := (KeepsOthers.setCell W ⟨w.heap.size + 1, 0, none⟩ (.bool b)).same D _ hK rfl
      exact ⟨hK', cell_kept (hb.set (.bool b)).cell (grownBy_putObj' _ D (.deferred none)) (fun r e => by cases e; exact ⟨_, hK', rfl⟩),
        (HKW.out.setCell (p := ⟨w.heap.size + 1, 0, none⟩) (by simp) _).trans' (belowK_b (w := w) (Nat.le_refl _) _ D _ _ HD.out hK' rfl rfl)⟩
    by_cases c5 : 1 ≤ k.ep
    · by_cases c6 : k.ep ≤ 8
      · have HR := Lib.hid (show mayC k = betaC k.nu k.de by rw [HM.out]; cases betaC k.nu k.de <;> simp [c5, c6])
        gi_wp2_with (refine ⟨trivial, ?_⟩; gi_at_call 42; refine (callsIn_wide.2 (beta_any k.nu k.de _)).mono ?_; rintro e w' ⟨rfl, rfl⟩)
        refine ⟨by simp, .inl ⟨_, _, rfl, run_takeDeferred (fin _).1, ?_⟩⟩
        refine ⟨.bool (betaC k.nu k.de), ?_, by rw [HR.out], (fin _).2.2⟩
        simp [results, Try.f21, go_sem, (fin (betaC k.nu k.de)).2.1]
      · have HR := Lib.hid (show mayC k = false by rw [HM.out]; simp [c6])
        gi_wp2
        refine ⟨trivial, ?_⟩
        gi_wp2
        refine ⟨by simp, .inl ⟨_, _, rfl, run_takeDeferred (fin _).1, ?_⟩⟩
        refine ⟨.bool false, ?_, by rw [HR.out], (fin _).2.2⟩
        simp [results, Try.f21, go_sem, (fin false).2.1]
    · have HR := Lib.hid (show mayC k = false by rw [HM.out]; simp [c5])
      gi_wp2
      refine ⟨trivial, ?_⟩
      gi_wp2
      refine ⟨by simp, .inl ⟨_, _, rfl, run_takeDeferred (fin _).1, ?_⟩⟩
      refine ⟨.bool false, ?_, by rw [HR.out], (fin _).2.2⟩
      simp [results, Try.f21, go_sem, (fin false).2.1]
  case stop =>
    rintro D x j W hD hj ⟨⟨⟨rfl, hbad⟩, hb⟩, hB⟩ hK
    have HR := Lib.hid (bad_may hj hbad)
    have HKW := Lib.hid (show Kept w W from HK1.out.trans hB)
    have HD := Lib.hid (show w.heap.size ≤ D by simp at hD; omega)
    clear hbad bR bN hs2 hB0 hB hsz hD
    gi_wp2
    refine ⟨by simp, .inl ⟨_, _, rfl, run_takeDeferred hK, ?_⟩⟩
    have hc5 := cell_kept hb.cell (grownBy_putObj' _ D (.deferred none)) (fun r e => by cases e; exact ⟨_, hK, rfl⟩)
    refine ⟨.bool false, ?_, by rw [HR.out], HKW.out.trans' (belowK_b (w := w) (Nat.le_refl _) W D _ _ HD.out hK rfl rfl)⟩
    simp [results, Try.f21, go_sem, hc5]
theorem mayD_any (A : Option Addr) (c : Nat) (k : Cf) (w : World) (hA : CellsAt w w.heap.size A (intCells k.ws)) :
    Calls Try.prog 21 #[.agg #[.slice A k.ws.length c, .int .u64 k.seed, .int .i64 k.ep, .int .i64 k.nu, .int .i64 k.de]] w fun e w' => e = .returned (.bool (mayC k)) ∧ Kept w w' := by
  by_cases h : 1 ≤ k.ws.length ∧ k.ws.length ≤ 12
  · exact may_some A c k w hA h.1 h.2
  · exact may_small A c k w h
end

section
open Go.ChangeShapes Go.WideShapes Go.ChangeAt Go.RowKit Go.Shelf

attribute [local go_sem] Oper.semAt_some

/-- A conf's weights, seen from behind a box. -/
theorem conf_box {A : Option Addr} {c : Nat} {k : Cf} {w : World} (hA : CellsAt w w.heap.size A (intCells k.ws)) :
    HasCells (w.alloc (.cells #[.slice A k.ws.length c, .int .u64 k.seed, .int .i64 k.ep, .int .i64 k.nu, .int .i64 k.de] 25)) w.heap.size [.slice A k.ws.length c, .int .u64 k.seed, .int .i64 k.ep, .int .i64 k.nu, .int .i64 k.de] ∧ CellsAt (w.alloc (.cells #[.slice A k.ws.length c, .int .u64 k.seed, .int .i64 k.ep, .int .i64 k.nu, .int .i64 k.de] 25)) (w.alloc (.cells #[.slice A k.ws.length c, .int .u64 k.seed, .int .i64 k.ep, .int .i64 k.nu, .int .i64 k.de] 25)).heap.size A (intCells k.ws) ∧ Kept w (w.alloc (.cells #[.slice A k.ws.length c, .int .u64 k.seed, .int .i64 k.ep, .int .i64 k.nu, .int .i64 k.de] 25)) :=
  ⟨HasCells.new w _ _ _ rfl, hA.kept ((Kept.refl w).alloc _), (Kept.refl w).alloc _⟩
theorem totalC_no {k : Cf} (h : mayC k = false) : totalC k = 0 := by unfold totalC; rw [if_neg (by rw [h]; decide)]
theorem totalC_yes {k : Cf} (h : mayC k = true) : totalC k = weighAll (fun _ => true) k.ws := by unfold totalC; rw [if_pos h]
theorem weightC_no {k : Cf} (l : List Int) (h : mayC k = false) : weightC k l = 0 := by unfold weightC; rw [if_neg (by rw [h]; decide)]
theorem weightC_yes {k : Cf} (l : List Int) (h : mayC k = true) : weightC k l = weighAll (inList l) k.ws := by unfold weightC; rw [if_pos h]
end

section
open Go.ChangeShapes Go.WideShapes Go.ChangeAt Go.RowKit

theorem dutyC_may {k : Cf} {slot : Int} (h : mayC k = false) : dutyC k slot = false := by unfold dutyC; rw [h]; rfl
theorem dutyC_slot {k : Cf} {slot : Int} (h : mayC k = true) : dutyC k slot = decide (1 ≤ slot ∧ slot ≤ 1048576) := by unfold dutyC; rw [h]; rfl

set_option maxHeartbeats 800000 in
theorem has_any (A : Option Addr) (c : Nat) (k : Cf) (slot : Int) (w : World) (hA : CellsAt w w.heap.size A (intCells k.ws)) :
    Calls Try.prog 43 #[.agg #[.slice A k.ws.length c, .int .u64 k.seed, .int .i64 k.ep, .int .i64 k.nu, .int .i64 k.de], .int .i64 slot] w fun e w' => e = .returned (.bool (dutyC k slot)) ∧ Kept w w' := by
  have HA := Lib.hid hA
  clear hA
  cases hm : mayC k with
  | false =>
    have HM := Lib.hid hm
    have HR := Lib.hid (dutyC_may (slot := slot) hm)
    clear hm
    go_enter Try.func43, Try.ntmps43
    go_wp2_with fail
    refine (mayD_any A c k _ (conf_box HA.out).2.1).mono ?_
    rintro e W ⟨rfl, k1⟩
    rw [HM.out]
    have K1 := Lib.hid ((conf_box HA.out).2.2.trans k1)
    clear k1
    go_wp2_with fail
    go_ret
    exact ⟨by rw [HR.out]; rfl, K1.out⟩
  | true =>
    have HM := Lib.hid hm
    have HR := Lib.hid (dutyC_slot (slot := slot) hm)
    clear hm
    by_cases h1 : 1 ≤ slot
    · by_cases h2 : slot ≤ 1048576
      · have HS := Lib.hid (HR.out.trans (decide_eq_true ⟨h1, h2⟩))
        go_enter Try.func43, Try.ntmps43
        go_wp2_with fail
        refine (mayD_any A c k _ (conf_box HA.out).2.1).mono ?_
        rintro e W ⟨rfl, k1⟩
        rw [HM.out]
        have K1 := Lib.hid ((conf_box HA.out).2.2.trans k1)
        clear k1
        go_wp2_with fail
        go_ret
        exact ⟨by rw [HS.out]; first | rfl | (simp; done) | (simp; omega), K1.out⟩
      · have HS := Lib.hid (HR.out.trans (decide_eq_false (by omega)))
        go_enter Try.func43, Try.ntmps43
        go_wp2_with fail
        refine (mayD_any A c k _ (conf_box HA.out).2.1).mono ?_
        rintro e W ⟨rfl, k1⟩
        rw [HM.out]
        have K1 := Lib.hid ((conf_box HA.out).2.2.trans k1)
        clear k1
        go_wp2_with fail
        go_ret
        exact ⟨by rw [HS.out]; first | rfl | (simp; done) | (simp; omega), K1.out⟩
    · have HS := Lib.hid (HR.out.trans (decide_eq_false (by omega)))
      go_enter Try.func43, Try.ntmps43
      go_wp2_with fail
      refine (mayD_any A c k _ (conf_box HA.out).2.1).mono ?_
      rintro e W ⟨rfl, k1⟩
      rw [HM.out]
      have K1 := Lib.hid ((conf_box HA.out).2.2.trans k1)
      clear k1
      go_wp2_with fail
      go_ret
      exact ⟨by rw [HS.out]; first | rfl | (simp; done) | (simp; omega), K1.out⟩

set_option maxHeartbeats 800000 in
theorem valid_any (A : Option Addr) (c : Nat) (k : Cf) (who : Int) (w : World) :
    Calls Try.prog 47 #[.agg #[.slice A k.ws.length c, .int .u64 k.seed, .int .i64 k.ep, .int .i64 k.nu, .int .i64 k.de], .int .i64 who] w fun e w' => e = .returned (.bool (validC k who)) ∧ Kept w w' := by
  by_cases h1 : 0 ≤ who
  · by_cases h2 : who < (k.ws.length : Int)
    · have HS := Lib.hid (show validC k who = true from decide_eq_true ⟨h1, h2⟩)
      go_enter Try.func47, Try.ntmps47
      go_wp2
      go_ret
      exact ⟨by rw [HS.out]; first | rfl | (simp; done) | (simp; omega), (Kept.refl w).alloc _⟩
    · have HS := Lib.hid (show validC k who = false from decide_eq_false (by omega))
      go_enter Try.func47, Try.ntmps47
      go_wp2
      go_ret
      exact ⟨by rw [HS.out]; first | rfl | (simp; done) | (simp; omega), (Kept.refl w).alloc _⟩
  · have HS := Lib.hid (show validC k who = false from decide_eq_false (by omega))
    go_enter Try.func47, Try.ntmps47
    go_wp2
    go_ret
    exact ⟨by rw [HS.out]; first | rfl | (simp; done) | (simp; omega), (Kept.refl w).alloc _⟩

theorem three_keep {W w w' : World} {b : Nat} {x0 x1 x2 : Value} (hb : b < W.heap.size) (h : w.cell? ⟨b, 0, none⟩ = some x0 ∧ w.cell? ⟨b, 1, none⟩ = some x1 ∧ w.cell? ⟨b, 2, none⟩ = some x2 ∧ Kept W w) (k : Kept w w') :
    w'.cell? ⟨b, 0, none⟩ = some x0 ∧ w'.cell? ⟨b, 1, none⟩ = some x1 ∧ w'.cell? ⟨b, 2, none⟩ = some x2 ∧ Kept W w' := by
  have hb' : b < w.heap.size := Nat.lt_of_lt_of_le hb h.2.2.2.size_le
  exact ⟨(k.cell (p := ⟨b, 0, none⟩) hb').trans h.1, (k.cell (p := ⟨b, 1, none⟩) hb').trans h.2.1, (k.cell (p := ⟨b, 2, none⟩) hb').trans h.2.2.1, h.2.2.2.trans k⟩

set_option maxRecDepth 100000 in
set_option maxHeartbeats 1600000 in
theorem member_nat (A : Option Addr) (c : Nat) (k : Cf) (s E who : Nat) (w : World) (hep : k.ep = (E : Int)) (hE : 1 ≤ E) (hE8 : E ≤ 8) (hn0 : 1 ≤ k.ws.length) (hn : k.ws.length ≤ 1000) (hw : who < k.ws.length) (hs : s ≤ 1048576) (hsd : k.seed < 18446744073709551616) :
    Calls Try.prog 48 #[.agg #[.slice A k.ws.length c, .int .u64 k.seed, .int .i64 k.ep, .int .i64 k.nu, .int .i64 k.de], .int .i64 s, .int .i64 who] w fun e w' => e = .returned (.bool (memN k.seed k.ws.length E s who)) ∧ Kept w w' := by
  rw [hep]
  have hEz : ¬ E = 0 := by omega
  have hq : (s : Int).tdiv (E : Int) = ((s / E : Nat) : Int) := (Int.ofNat_tdiv s E).symm
  have hql : s / E ≤ s := Nat.div_le_self s E
  have HM := Lib.hid (show memN k.seed k.ws.length E s who = decide (atN (stepN k.seed (s / E)) k.ws.length who % E = s % E) from rfl)
  have hr : (s : Int).tmod (E : Int) = ((s % E : Nat) : Int) := (Int.ofNat_tmod s E).symm
  generalize s / E = q at *
  have hqw : IntKind.u64.wrap (q : Int) = (q : Int) := by rw [IntKind.wrap_u64]; omega
  have hqi : IntKind.i64.wrap (q : Int) = (q : Int) := by rw [IntKind.wrap_i64]; omega
  have hdl := stepN_lt k.seed q
  have HST := Lib.hid (fun w' => step_any k.seed q hsd (by omega) w')
  generalize stepN k.seed q = d at *
  have HAT := Lib.hid (fun w' => at_yes d k.ws.length who w' hdl hn0 hn hw)
  have hm : ((atN d k.ws.length who : Nat) : Int).tmod (E : Int) = ((atN d k.ws.length who % E : Nat) : Int) := (Int.ofNat_tmod _ E).symm
  generalize atN d k.ws.length who = a at *
  generalize a % E = x at *
  generalize s % E = y at *
  clear hep
  go_enter Try.func48, Try.ntmps48
  go_wp2_with fail
  have HC := Lib.hid (HasCells.new w #[.slice A k.ws.length c, .int .u64 k.seed, .int .i64 (E : Int), .int .i64 k.nu, .int .i64 k.de] 25 w.heap.size rfl)
  have HK := Lib.hid ((Kept.refl w).alloc (.cells #[.slice A k.ws.length c, .int .u64 k.seed, .int .i64 (E : Int), .int .i64 k.nu, .int .i64 k.de] 25))
  generalize w.alloc (.cells #[.slice A k.ws.length c, .int .u64 k.seed, .int .i64 (E : Int), .int .i64 k.nu, .int .i64 k.de] 25) = W at *
  generalize w.heap.size = z at *
  obtain ⟨c0, c1, c2, _, _⟩ := HC.out.five
  have hz := HC.out.1
  go_region_held3 (fun w' => w'.cell? ⟨z, 0, none⟩ = some (.slice A k.ws.length c) ∧ w'.cell? ⟨z, 1, none⟩ = some (.int .u64 k.seed) ∧ w'.cell? ⟨z, 2, none⟩ = some (.int .i64 (E : Int)) ∧ Kept W w')
    (first | exact ⟨c0, c1, c2, Kept.refl _⟩ | exact ⟨c0, c1, c2, (Kept.refl _).drew⟩ | assumption | exact three_keep hz (by assumption) (by assumption))
    (first
      | (go_at_call 44; ((with_reducible refine (HST.out _).mono ?_); rintro e w' ⟨rfl, rfl⟩)))
  rename_i hh
  obtain ⟨d0, d1, d2, dk⟩ := hh
  have HE := Lib.hid (show decide (x = y) = ((x : Int) == (y : Int)) by rw [Bool.eq_iff_iff]; simp; omega)
  go_wp2_with fail
  go_region_held3 (fun w' => w'.cell? ⟨z, 0, none⟩ = some (.slice A k.ws.length c) ∧ w'.cell? ⟨z, 1, none⟩ = some (.int .u64 k.seed) ∧ w'.cell? ⟨z, 2, none⟩ = some (.int .i64 (E : Int)) ∧ Kept W w')
    (first | exact ⟨d0, d1, d2, dk⟩ | exact ⟨d0, d1, d2, dk.drew⟩ | assumption | exact three_keep hz (by assumption) (by assumption))
    (first
      | (go_at_call 60; ((with_reducible refine (HAT.out _).mono ?_); rintro e w' ⟨rfl, kk⟩)))
  all_goals
    rename_i hh
    have hk := Lib.hid (HK.out.trans hh.2.2.2)
    clear hh
    go_wp2_with fail
    go_ret
    exact ⟨by rw [HM.out, HE.out]; rfl, hk.out⟩

/-- A conf that may be, in a slot: its numbers as natural ones. -/
theorem duty_nats {k : Cf} {slot : Int} (h : dutyC k slot = true) : ∃ E s : Nat, k.ep = (E : Int) ∧ slot = (s : Int) ∧ 1 ≤ E ∧ E ≤ 8 ∧ 1 ≤ s ∧ s ≤ 1048576 ∧ 1 ≤ k.ws.length ∧ k.ws.length ≤ 12 := by
  obtain ⟨hm, h1, h2⟩ := dutyC_yes h
  have := mayC_yes hm
  exact ⟨k.ep.toNat, slot.toNat, by omega, by omega, by omega, by omega, by omega, by omega, by omega, by omega⟩
theorem member_any (A : Option Addr) (c : Nat) (k : Cf) (slot who : Int) (w : World) (hd : dutyC k slot = true) (hv : validC k who = true) (hsd : k.seed < 18446744073709551616) :
    Calls Try.prog 48 #[.agg #[.slice A k.ws.length c, .int .u64 k.seed, .int .i64 k.ep, .int .i64 k.nu, .int .i64 k.de], .int .i64 slot, .int .i64 who] w fun e w' => e = .returned (.bool (memC k slot who.toNat)) ∧ Kept w w' := by
  obtain ⟨E, s, he, rfl, h1, h2, h3, h4, h5, h6⟩ := duty_nats hd
  have hv' := of_decide_eq_true hv
  obtain ⟨j, rfl⟩ : ∃ j : Nat, who = (j : Int) := ⟨who.toNat, by omega⟩
  have := member_nat A c k s E j w he h1 h2 h5 (by omega) (by omega) h4 hsd
  unfold memC
  rw [show k.ep.toNat = E by omega, Int.toNat_natCast, Int.toNat_natCast]
  exact this

theorem inC_no {k : Cf} {slot who : Int} (h : dutyC k slot = false) : inC k slot who = false := by unfold inC; rw [h]; rfl
theorem inC_out {k : Cf} {slot who : Int} (h : validC k who = false) : inC k slot who = false := by unfold inC; rw [h]; simp
theorem inC_yes {k : Cf} {slot who : Int} (h : dutyC k slot = true) (h' : validC k who = true) : inC k slot who = memC k slot who.toNat := by unfold inC; rw [h, h', Bool.true_and, Bool.true_and]

set_option maxHeartbeats 1600000 in
theorem in_any (A : Option Addr) (c : Nat) (k : Cf) (slot who : Int) (w : World) (hA : CellsAt w w.heap.size A (intCells k.ws)) (hsd : k.seed < 18446744073709551616) :
    Calls Try.prog 24 #[.agg #[.slice A k.ws.length c, .int .u64 k.seed, .int .i64 k.ep, .int .i64 k.nu, .int .i64 k.de], .int .i64 slot, .int .i64 who] w fun e w' => e = .returned (.bool (inC k slot who)) ∧ Kept w w' := by
  have HC := Lib.hid (conf_box (c := c) hA)
  clear hA
  cases hd : dutyC k slot with
  | false =>
    have HD := Lib.hid hd
    have HR := Lib.hid (inC_no (who := who) hd)
    clear hd
    go_enter Try.func24, Try.ntmps24
    go_wp2_with fail
    refine (has_any A c k slot _ HC.out.2.1).mono ?_
    rintro e W ⟨rfl, k1⟩
    rw [HD.out]
    have K1 := Lib.hid (HC.out.2.2.trans k1)
    clear k1
    go_wp2_with fail
    go_ret
    exact ⟨by rw [HR.out]; rfl, K1.out⟩
  | true =>
    cases hv : validC k who with
    | false =>
      have HD := Lib.hid hd
      have HV := Lib.hid hv
      have HR := Lib.hid (inC_out (slot := slot) hv)
      clear hd hv
      go_enter Try.func24, Try.ntmps24
      go_wp2_with fail
      refine (has_any A c k slot _ HC.out.2.1).mono ?_
      rintro e W ⟨rfl, k1⟩
      rw [HD.out]
      have K1 := Lib.hid (HC.out.2.2.trans k1)
      obtain ⟨c0, c1, c2, c3, c4⟩ := (HC.out.1.kept k1).five
      clear k1
      go_wp2_with fail
      refine (valid_any A c k who _).mono ?_
      rintro e W2 ⟨rfl, k2⟩
      rw [HV.out]
      have K2 := Lib.hid (K1.out.trans k2)
      clear k2 K1 c0 c1 c2 c3 c4
      go_wp2_with fail
      go_ret
      exact ⟨by rw [HR.out]; rfl, K2.out⟩
    | true =>
      have HD := Lib.hid hd
      have HV := Lib.hid hv
      have HR := Lib.hid (inC_yes hd hv)
      have HME := Lib.hid (fun w' => member_any A c k slot who w' hd hv hsd)
      clear hd hv
      go_enter Try.func24, Try.ntmps24
      go_wp2_with fail
      refine (has_any A c k slot _ HC.out.2.1).mono ?_
      rintro e W ⟨rfl, k1⟩
      rw [HD.out]
      have K1 := Lib.hid (HC.out.2.2.trans k1)
      have H1 := Lib.hid (HC.out.1.kept k1)
      obtain ⟨c0, c1, c2, c3, c4⟩ := H1.out.five
      clear k1
      go_wp2_with fail
      refine (valid_any A c k who _).mono ?_
      rintro e W2 ⟨rfl, k2⟩
      rw [HV.out]
      have K2 := Lib.hid (K1.out.trans k2)
      clear c0 c1 c2 c3 c4
      obtain ⟨c0, c1, c2, c3, c4⟩ := (H1.out.kept k2).five
      clear k2 K1
      go_wp2_with fail
      refine (HME.out _).mono ?_
      rintro e W3 ⟨rfl, k3⟩
      have K3 := Lib.hid (K2.out.trans k3)
      clear k3 K2 c0 c1 c2 c3 c4
      go_wp2_with fail
      go_ret
      exact ⟨by rw [HR.out]; rfl, K3.out⟩

theorem propC_no {k : Cf} {slot : Int} (h : dutyC k slot = false) : propC k slot = -1 := by unfold propC; rw [h]; rfl
set_option maxHeartbeats 1600000 in
theorem prop_any (A : Option Addr) (c : Nat) (k : Cf) (slot : Int) (w : World) (hA : CellsAt w w.heap.size A (intCells k.ws)) (hsd : k.seed < 18446744073709551616) :
    Calls Try.prog 22 #[.agg #[.slice A k.ws.length c, .int .u64 k.seed, .int .i64 k.ep, .int .i64 k.nu, .int .i64 k.de], .int .i64 slot] w fun e w' => e = .returned (.int .i64 (propC k slot)) ∧ Kept w w' := by
  have HC := Lib.hid (conf_box (c := c) hA)
  clear hA
  cases hd : dutyC k slot with
  | false =>
    have HD := Lib.hid hd
    have HR := Lib.hid (propC_no hd)
    clear hd
    go_enter Try.func22, Try.ntmps22
    go_wp2_with fail
    refine (has_any A c k slot _ HC.out.2.1).mono ?_
    rintro e W ⟨rfl, k1⟩
    rw [HD.out]
    have K1 := Lib.hid (HC.out.2.2.trans k1)
    clear k1
    go_wp2_with fail
    go_ret
    exact ⟨by rw [HR.out]; rfl, K1.out⟩
  | true =>
    have HD := Lib.hid hd
    obtain ⟨E, s, he, hs, h1, h2, h3, h4, h5, h6⟩ := duty_nats hd
    have HR := Lib.hid (show propC k slot = ((stepN (stepN k.seed 4294967296) s % k.ws.length : Nat) : Int) by unfold propC propN; rw [if_pos hd, hs, Int.toNat_natCast])
    have hsw : IntKind.u64.wrap slot = (s : Int) := by rw [hs, IntKind.wrap_u64]; omega
    have hnw : IntKind.u64.wrap (k.ws.length : Int) = (k.ws.length : Int) := by rw [IntKind.wrap_u64]; omega
    have HS1 := Lib.hid (fun w' => step_any k.seed 4294967296 hsd (by omega) w')
    have HS2 := Lib.hid (fun w' => step_any (stepN k.seed 4294967296) s (stepN_lt _ _) (by omega) w')
    have htm : ((stepN (stepN k.seed 4294967296) s : Nat) : Int).tmod (k.ws.length : Int) = ((stepN (stepN k.seed 4294967296) s % k.ws.length : Nat) : Int) := (Int.ofNat_tmod _ _).symm
    have hlt : stepN (stepN k.seed 4294967296) s % k.ws.length < k.ws.length := Nat.mod_lt _ (by omega)
    have hnz : ¬ k.ws.length = 0 := by omega
    generalize stepN (stepN k.seed 4294967296) s % k.ws.length = x at *
    generalize stepN (stepN k.seed 4294967296) s = y at *
    generalize stepN k.seed 4294967296 = y1 at *
    clear hd he hs
    go_enter Try.func22, Try.ntmps22
    go_wp2_with fail
    refine (has_any A c k slot _ HC.out.2.1).mono ?_
    rintro e W ⟨rfl, k1⟩
    rw [HD.out]
    have K1 := Lib.hid (HC.out.2.2.trans k1)
    have H1 := Lib.hid (HC.out.1.kept k1)
    obtain ⟨c0, c1, c2, c3, c4⟩ := H1.out.five
    clear k1
    go_wp2_with fail
    refine (HS1.out _).mono ?_
    rintro e w' ⟨rfl, rfl⟩
    go_wp2_with fail
    refine (HS2.out _).mono ?_
    rintro e w' ⟨rfl, rfl⟩
    go_wp2_with fail
    go_ret
    exact ⟨by rw [HR.out]; rfl, K1.out⟩
end

section
open Go.ChangeShapes Go.WideShapes Go.ChangeAt Go.RowKit Go.Shelf

attribute [local go_sem] Oper.semAt_some

theorem commC_no {k : Cf} {slot : Int} (h : dutyC k slot = false) : commC k slot = [] := by unfold commC; rw [h]; rfl
theorem commC_yes {k : Cf} {slot : Int} (h : dutyC k slot = true) : commC k slot = commTo (memC k slot) k.ws.length := by unfold commC; rw [if_pos h]
theorem keeps_kept {W W' : World} (h : Kept W W') : KeepsOthers W W' := ⟨h.size_le, fun i o hi _ => (h.heap (Array.getElem?_eq_some_iff.1 hi).1).trans hi⟩
theorem boxed_kept {W W' : World} {B : Nat} {t : TypeId} {v : Value} (h : Boxed W B t v) (k : Kept W W') : Boxed W' B t v := (k.heap h.lt).trans h
theorem row_kept {W W' : World} {base : Nat} {e : TypeId} {size n : Nat} {v : Value} {xs : List Value} (h : W.ownsRow base e size v n xs) (k : Kept W W') : W'.ownsRow base e size v n xs := by
  refine ⟨h.1, ?_⟩
  rcases h.2 with h2 | ⟨g, cap, cur, hv, hg, hh, r⟩
  · exact Or.inl h2
  · exact Or.inr ⟨g, cap, cur, hv, hg, by rw [k.heap (h.lt g (by rw [hv]; rfl)).2]; exact hh, r⟩
theorem row_slice {W : World} {base : Nat} {e : TypeId} {size n : Nat} {v : Value} {xs : List Value} (h : W.ownsRow base e size v n xs) : ∃ A c, v = .slice A n c := by
  rcases h.2 with ⟨hv, h0⟩ | ⟨g, cap, cur, hv, _⟩
  · subst h0; exact ⟨_, _, hv⟩
  · exact ⟨_, _, hv⟩

theorem row_new {W : World} {base : Nat} {e : TypeId} {size n c : Nat} {A : Option Addr} {xs : List Value} (h : W.ownsRow base e size (.slice A n c) n xs) {ad : Addr} (hA : A = some ad) : base ≤ ad.block := by
  subst hA
  rcases h.2 with ⟨hv, _⟩ | ⟨g, cap, cur, hv, hg, _⟩
  · cases hv
  · cases hv; exact hg
end

section
open Go.ChangeShapes Go.WideShapes Go.ChangeAt Go.RowKit

/-- Block b is a map whose keys, as far as they are validators, are those in l. -/
def SetOf (n : Nat) (l : List Int) (b m : Nat) (D : DataW Unit) (w : World) : Prop := w.ownsMap Try.prog 3 unitElem b m D ∧ ∀ j : Nat, j < n → Maps.has D (.int .i64 (j : Int)) = inList l j

/-- .. which is new, and all that lay in w lies as it was. -/
def NewSet (n : Nat) (l : List Int) (w : World) (b : Nat) (w' : World) : Prop := w.heap.size ≤ b ∧ (∃ m D, SetOf n l b m D w') ∧ Kept w w'

theorem inList_nil (j : Nat) : inList [] j = false := rfl
theorem inList_snoc (l : List Int) (x : Int) (j : Nat) : inList (l ++ [x]) j = (inList l j || decide ((j : Int) = x)) := by
  unfold inList
  rw [Bool.eq_iff_iff]
  simp
theorem SetOf.made (n : Nat) (w : World) : SetOf n [] w.heap.size 0 (.map []) (w.alloc (.map #[] 0)) := ⟨World.ownsMap_made w _ _ _, fun _ _ => rfl⟩
theorem SetOf.kept {n : Nat} {l : List Int} {b m : Nat} {D : DataW Unit} {w w' : World} (h : SetOf n l b m D w) (k : Kept w w') : SetOf n l b m D w' := by
  refine ⟨?_, h.2⟩
  obtain ⟨es, clock, hb, r⟩ := h.1
  exact ⟨es, clock, (k.heap (Array.getElem?_eq_some_iff.1 hb).1).trans hb, r⟩
theorem SetOf.skip {n : Nat} {l : List Int} {b m : Nat} {D : DataW Unit} {w : World} (h : SetOf n l b m D w) {x : Int} (hx : ¬ (0 ≤ x ∧ x < n)) : SetOf n (l ++ [x]) b m D w := by
  refine ⟨h.1, fun j hj => ?_⟩
  rw [h.2 j hj, inList_snoc, decide_eq_false (by omega)]
  simp
theorem has_put {n : Nat} {l : List Int} {D : DataW Unit} (hD : Maps.IsMap D) (h : ∀ j : Nat, j < n → Maps.has D (.int .i64 (j : Int)) = inList l j) (x : Int) (d : DataW Unit) (j : Nat) (hj : j < n) :
    Maps.has (D.put (.int .i64 x) d) (.int .i64 (j : Int)) = inList (l ++ [x]) j := by
  rw [inList_snoc]
  by_cases e : (j : Int) = x
  · subst e
    rw [Maps.has_put_same hD (show WideAt.IsKeyLit (.int .i64 (j : Int)) from trivial)]
    simp
  · rw [Maps.has_put_other (by intro h; cases h; exact e rfl), h j hj, decide_eq_false e]
    simp

theorem take_snoc {l : List Int} {j : Nat} (h : j < l.length) : l.take (j + 1) = l.take j ++ [wAt l j] := by
  rw [List.take_succ_eq_append_getElem h]
  simp [wAt, h]
end

section
open Go.ChangeShapes Go.WideShapes Go.ChangeAt Go.RowKit

/-- The example's conf. -/
def kOne : Cf := ⟨[5], 0, 1, 0, 4⟩
theorem one_may : mayC kOne = true := decide_eq_true (by simp [kOne])
theorem one_total : totalC kOne = 5 := by rw [totalC_yes one_may]; decide
theorem mem_one (seed n s who : Nat) : memN seed n 1 s who = true := decide_eq_true (by rw [Nat.mod_one, Nat.mod_one])
theorem one_duty : dutyC kOne 3 = true := by rw [dutyC_slot one_may]; decide
theorem one_mem (j : Nat) : memC kOne 3 j = true := mem_one _ _ _ _
theorem one_comm : commC kOne 3 = [0] := by
  rw [commC_yes one_duty]
  show commTo (memC kOne 3) (0 + 1) = [0]
  rw [commTo_hit (one_mem 0)]
  rfl
theorem one_in : inC kOne 3 0 = true := by rw [inC_yes one_duty (by decide)]; exact one_mem _
theorem one_prop : propC kOne 3 = 0 := by
  unfold propC
  rw [if_pos one_duty]
  unfold propN
  show (((_ % 1 : Nat) : Nat) : Int) = 0
  rw [Nat.mod_one]
  rfl

section
variable (A : Option Addr) (c : Nat) (w : World) (hA : CellsAt w w.heap.size A (intCells [5]))
include hA
theorem one_may_any : Calls Try.prog 21 #[.agg #[.slice A 1 c, .int .u64 0, .int .i64 1, .int .i64 0, .int .i64 4]] w fun e w' => e = .returned (.bool true) ∧ Kept w w' := by
  have h := mayD_any A c kOne w hA
  rw [one_may] at h
  exact h
theorem one_in_any : Calls Try.prog 24 #[.agg #[.slice A 1 c, .int .u64 0, .int .i64 1, .int .i64 0, .int .i64 4], .int .i64 3, .int .i64 0] w fun e w' => e = .returned (.bool true) ∧ Kept w w' := by
  have h := in_any A c kOne 3 0 w hA (by decide)
  rw [one_in] at h
  exact h
theorem one_prop_any : Calls Try.prog 22 #[.agg #[.slice A 1 c, .int .u64 0, .int .i64 1, .int .i64 0, .int .i64 4], .int .i64 3] w fun e w' => e = .returned (.int .i64 0) ∧ Kept w w' := by
  have h := prop_any A c kOne 3 w hA (by decide)
  rw [one_prop] at h
  exact h
end

/-! ### Arguments, opened -/
section
variable {H : Type} {enc : TypeId × Value → H} {W : World} {base : Nat} {sp : Nat → Bool} {held : Bool} {r : Reach} {b0 : Nat} {v : Value} {d : DataW H} {ps : List MemPlace}

theorem Try.oneI : Try.prog.cellsOf 3 = 1 := by kernel_rfl
theorem Try.oneL : Try.prog.cellsOf 22 = 1 := by kernel_rfl
theorem Try.oneU : Try.prog.cellsOf 23 = 1 := by kernel_rfl
theorem Try.fiveC : Try.prog.cellsOf 25 = 5 := by kernel_rfl
theorem read_list {fuel : Nat} {cs : List Value} {x : DataW H × List MemPlace} (h : DataW.trod enc Try.prog W base sp held fuel 22 cs = some x) :
    ∃ (A : Option Addr) (c : Nat) (l : List Int), cs = [.slice A l.length c] ∧ l.length ≤ maxLen ∧ (∀ x ∈ l, -9223372036854775808 ≤ x ∧ x ≤ 9223372036854775807) ∧ CellsAt W W.heap.size A (intCells l) := by
  rcases open_ints Try.underlying22 Try.underlying3 Try.oneI h with ⟨hcs, _⟩ | ⟨a, len, cap, zs, hcs, _, hle, hmax, hall, _, hcell, hwf⟩
  · exact ⟨none, 0, [], hcs, Nat.zero_le _, by simp, CellsAt.nil⟩
  · have hzl : len ≤ zs.length := by rw [hall]; split <;> omega
    have hlen : (zs.take len).length = len := by simp; omega
    refine ⟨some a, cap, zs.take len, by rw [hlen]; exact hcs, by rw [hlen]; omega, ?_, ?_⟩
    · intro z hz
      exact bounds_i64 (hwf z (List.mem_of_mem_take hz))
    · intro j u hu
      have hj : j < len := by
        have := (List.getElem?_eq_some_iff.1 hu).1
        simp at this; omega
      have hc := hcell j (by omega)
      have hb := World.block_lt_of_cell? W _ hc
      rw [block_add] at hb
      refine ⟨a, rfl, hb, ?_⟩
      rw [hc]
      have hz : zs.getD j 0 = zs[j]'(by omega) := by simp [List.getD, List.getElem?_eq_getElem (show j < zs.length by omega)]
      simp only [intCells, List.getElem?_map] at hu
      rw [List.getElem?_take_of_lt hj, List.getElem?_eq_getElem (show j < zs.length by omega)] at hu
      simp at hu
      rw [hz, ← hu]
theorem open_list (hval : Value.okWide Try.prog W r b0 22 v) (hd : DataW.Trod enc Try.prog W base sp held 22 v d ps) :
    ∃ (A : Option Addr) (c : Nat) (l : List Int), v = .slice A l.length c ∧ l.length ≤ maxLen ∧ (∀ x ∈ l, -9223372036854775808 ≤ x ∧ x ≤ 9223372036854775807) ∧ CellsAt W W.heap.size A (intCells l) := by
  obtain ⟨A, n, c, rfl⟩ := okWide_slice Try.underlying22 hval
  obtain ⟨fuel, hf⟩ := hd
  obtain ⟨A', c', l, hcs, h1, h2, h3⟩ := read_list hf
  simp [Value.cells] at hcs
  obtain ⟨rfl, rfl, rfl⟩ := hcs
  exact ⟨_, _, l, rfl, h1, h2, h3⟩
theorem read_num {fuel : Nat} {c : Value} {x : DataW H × List MemPlace} (h : DataW.trod enc Try.prog W base sp held fuel 3 [c] = some x) : ∃ a : Int, c = .int .i64 a ∧ -9223372036854775808 ≤ a ∧ a ≤ 9223372036854775807 := by
  obtain ⟨a, ea, _, wa⟩ := DataW.trod_int Try.underlying3 h
  simp at ea
  have := bounds_i64 wa
  exact ⟨a, ea, this.1, this.2⟩
theorem read_word {fuel : Nat} {c : Value} {x : DataW H × List MemPlace} (h : DataW.trod enc Try.prog W base sp held fuel 23 [c] = some x) : ∃ a : Nat, c = .int .u64 a ∧ a < 18446744073709551616 := by
  obtain ⟨a, ea, _, wa⟩ := DataW.trod_int Try.underlying23 h
  simp at ea
  obtain ⟨x, rfl, hx⟩ := nat_of_u64 wa
  exact ⟨x, ea, hx⟩
/-- A conf as read. -/
theorem open_conf (hval : Value.okWide Try.prog W r b0 25 v) (hd : DataW.Trod enc Try.prog W base sp held 25 v d ps) :
    ∃ (A : Option Addr) (c : Nat) (k : Cf), v = .agg #[.slice A k.ws.length c, .int .u64 k.seed, .int .i64 k.ep, .int .i64 k.nu, .int .i64 k.de] ∧ k.ws.length ≤ maxLen ∧ k.seed < 18446744073709551616 ∧ CellsAt W W.heap.size A (intCells k.ws) := by
  simp only [Value.okWide, Try.underlying25] at hval
  obtain ⟨cs, rfl, _, _⟩ := hval
  obtain ⟨fuel, hf⟩ := hd
  generalize hcs : (Value.agg cs).cells.toList = l at hf
  obtain ⟨xs, m, _, _, hl, hn, hi⟩ := DataW.trod_struct Try.underlying25 hf
  rw [Try.fiveC] at hl
  match l, hl with
  | [c0, c1, c2, c3, c4], _ =>
    have hn' : xs.length = 5 := hn
    have h0 : DataW.trod enc Try.prog W base sp held m 22 (([c0, c1, c2, c3, c4].drop 0).take (Try.prog.cellsOf 22)) = xs[0]? := hi 0 _ rfl
    have h1 : DataW.trod enc Try.prog W base sp held m 23 (([c0, c1, c2, c3, c4].drop 1).take (Try.prog.cellsOf 23)) = xs[1]? := hi 1 _ rfl
    have h2 : DataW.trod enc Try.prog W base sp held m 3 (([c0, c1, c2, c3, c4].drop 2).take (Try.prog.cellsOf 3)) = xs[2]? := hi 2 _ rfl
    have h3 : DataW.trod enc Try.prog W base sp held m 3 (([c0, c1, c2, c3, c4].drop 3).take (Try.prog.cellsOf 3)) = xs[3]? := hi 3 _ rfl
    have h4 : DataW.trod enc Try.prog W base sp held m 3 (([c0, c1, c2, c3, c4].drop 4).take (Try.prog.cellsOf 3)) = xs[4]? := hi 4 _ rfl
    rw [List.getElem?_eq_getElem (by omega)] at h0 h1 h2 h3 h4
    rw [Try.oneL] at h0
    rw [Try.oneU] at h1
    rw [Try.oneI] at h2 h3 h4
    obtain ⟨A, c, ws, e0, hw1, _, hw3⟩ := read_list (cs := [c0]) h0
    obtain ⟨a, rfl, ha⟩ := read_word (c := c1) h1
    obtain ⟨e, rfl, _⟩ := read_num (c := c2) h2
    obtain ⟨n, rfl, _⟩ := read_num (c := c3) h3
    obtain ⟨f, rfl, _⟩ := read_num (c := c4) h4
    obtain rfl : c0 = .slice A ws.length c := by simpa using e0
    refine ⟨A, c, ⟨ws, a, e, n, f⟩, ?_, hw1, ha, hw3⟩
    simp only [Value.cells] at hcs
    rw [← Array.toArray_toList (xs := cs), hcs]
end
end

section
open Go.ChangeShapes Go.WideShapes Go.ChangeAt Go.RowKit

theorem five_keep {W w w' : World} {b : Nat} {x0 x1 x2 x3 x4 : Value} (hb : b < W.heap.size)
    (h : w.cell? ⟨b, 0, none⟩ = some x0 ∧ w.cell? ⟨b, 1, none⟩ = some x1 ∧ w.cell? ⟨b, 2, none⟩ = some x2 ∧ w.cell? ⟨b, 3, none⟩ = some x3 ∧ w.cell? ⟨b, 4, none⟩ = some x4 ∧ Kept W w) (k : Kept w w') :
    w'.cell? ⟨b, 0, none⟩ = some x0 ∧ w'.cell? ⟨b, 1, none⟩ = some x1 ∧ w'.cell? ⟨b, 2, none⟩ = some x2 ∧ w'.cell? ⟨b, 3, none⟩ = some x3 ∧ w'.cell? ⟨b, 4, none⟩ = some x4 ∧ Kept W w' := by
  obtain ⟨h0, h1, h2, h3, h4, hk⟩ := h
  have hb' : b < w.heap.size := Nat.lt_of_lt_of_le hb hk.size_le
  exact ⟨(k.cell (p := ⟨b, 0, none⟩) hb').trans h0, (k.cell (p := ⟨b, 1, none⟩) hb').trans h1, (k.cell (p := ⟨b, 2, none⟩) hb').trans h2, (k.cell (p := ⟨b, 3, none⟩) hb').trans h3, (k.cell (p := ⟨b, 4, none⟩) hb').trans h4, hk.trans k⟩

theorem ten_keep {W w w' : World} {b d : Nat} {x0 x1 x2 x3 x4 y0 y1 y2 y3 y4 : Value} (hb : b < W.heap.size) (hd : d < W.heap.size)
    (h : w.cell? ⟨b, 0, none⟩ = some x0 ∧ w.cell? ⟨b, 1, none⟩ = some x1 ∧ w.cell? ⟨b, 2, none⟩ = some x2 ∧ w.cell? ⟨b, 3, none⟩ = some x3 ∧ w.cell? ⟨b, 4, none⟩ = some x4 ∧
      w.cell? ⟨d, 0, none⟩ = some y0 ∧ w.cell? ⟨d, 1, none⟩ = some y1 ∧ w.cell? ⟨d, 2, none⟩ = some y2 ∧ w.cell? ⟨d, 3, none⟩ = some y3 ∧ w.cell? ⟨d, 4, none⟩ = some y4 ∧ Kept W w) (k : Kept w w') :
    w'.cell? ⟨b, 0, none⟩ = some x0 ∧ w'.cell? ⟨b, 1, none⟩ = some x1 ∧ w'.cell? ⟨b, 2, none⟩ = some x2 ∧ w'.cell? ⟨b, 3, none⟩ = some x3 ∧ w'.cell? ⟨b, 4, none⟩ = some x4 ∧
      w'.cell? ⟨d, 0, none⟩ = some y0 ∧ w'.cell? ⟨d, 1, none⟩ = some y1 ∧ w'.cell? ⟨d, 2, none⟩ = some y2 ∧ w'.cell? ⟨d, 3, none⟩ = some y3 ∧ w'.cell? ⟨d, 4, none⟩ = some y4 ∧ Kept W w' := by
  obtain ⟨h0, h1, h2, h3, h4, g0, g1, g2, g3, g4, hk⟩ := h
  obtain ⟨r0, r1, r2, r3, r4, rk⟩ := five_keep hb ⟨h0, h1, h2, h3, h4, hk⟩ k
  obtain ⟨s0, s1, s2, s3, s4, _⟩ := five_keep hd ⟨g0, g1, g2, g3, g4, hk⟩ k
  exact ⟨r0, r1, r2, r3, r4, s0, s1, s2, s3, s4, rk⟩

/-! ### Epochs of one slot -/
theorem commTo_all {p : Nat → Bool} (h : ∀ j, p j = true) (n : Nat) : (commTo p n).length = n := by
  induction n with
  | zero => rfl
  | succ n ih => rw [commTo_hit (h n), List.length_append, ih]; rfl
theorem all_mem {k : Cf} {slot : Int} (h1 : k.ep = 1) (j : Nat) : memC k slot j = true := by
  unfold memC
  rw [h1]
  exact mem_one _ _ _ _
theorem all_comm {k : Cf} {slot : Int} (hd : dutyC k slot = true) (h1 : k.ep = 1) : (commC k slot).length = k.ws.length := by
  rw [commC_yes hd]
  exact commTo_all (all_mem h1) _
theorem all_in {k : Cf} {slot : Int} (hd : dutyC k slot = true) (h1 : k.ep = 1) (who : Int) : inC k slot who = validC k who := by
  cases h : validC k who with
  | true => rw [inC_yes hd h]; exact all_mem h1 _
  | false => exact inC_out h

theorem comm_len (k : Cf) (slot : Int) : (commC k slot).length ≤ 1000000 := by
  cases h : dutyC k slot with
  | false => rw [commC_no h]; simp
  | true =>
    rw [commC_yes h]
    have := commTo_length (memC k slot) k.ws.length
    have := (mayC_yes (dutyC_yes h).1).2.1
    omega
end

section
open Go.ChangeShapes Go.WideShapes Go.ChangeAt Go.RowKit

theorem wp_ints {o : Oper} {a : Act} {K : Act → World → Prop} {Q : Exit → Act → World → Prop} (w : World) (s x : Operand)
    (ho : o.op = .call { callee := .builtin .append, args := #[s, x], argTypes := #[22, 22] })
    (W : World) (l : List Int) (v : Value) (hs : a.eval s = v) (HB : Ints W l v w) (B : Nat) (A : Option Addr) (m c : Nat) (news : List Int) (hx : a.eval x = .slice A m c) (hl : news.length = m)
    (hr : CellsAt w B A (intCells news)) (hlen : l.length + m ≤ 1000000)
    (h : ∀ A' c' w', Ints W (l ++ news) (.slice A' (l ++ news).length c') w' → K (a.put o.dst (.slice A' (l ++ news).length c')) w') : o.wp Try.prog a w K Q := by
  obtain ⟨i0, hi0, hz0, hz1, hz2⟩ := info_three Try.infoI
  refine wp_app w s x _ ho W.heap.size 3 i0 _ 1 8 Try.underlying22 hi0 hz0 hz1 hz2 rfl (by omega) v l.length (intCells l) hs HB.1 B A m c (intCells news) hx (by simp [hl]) hr (intCells_one _)
    (by unfold maxLen; omega) (by omega) HB.2.size_le ?_
  intro v' w' own g _
  obtain ⟨A', c', rfl⟩ := row_slice own
  have e : (l ++ news).length = l.length + m := by rw [List.length_append, hl]
  rw [← e]
  rw [← e, intCells_append] at own
  exact h A' c' w' ⟨own, HB.2.grown g fun i hi => (HB.1.lt i hi).1⟩
theorem step_ints {ops : Array Oper} {o : Oper} {a : Act} {K : Act → World → Prop} {Q : Exit → Act → World → Prop} {E : Prop} (w : World) (hgd : Region.wanted o (yielded ops a.tmps) = true) (s x : Operand)
    (ho : o.op = .call { callee := .builtin .append, args := #[s, x], argTypes := #[22, 22] })
    (W : World) (l : List Int) (v : Value) (hs : a.eval s = v) (HB : Ints W l v w) (B : Nat) (A : Option Addr) (m c : Nat) (news : List Int) (hx : a.eval x = .slice A m c) (hl : news.length = m)
    (hr : CellsAt w B A (intCells news)) (hlen : l.length + m ≤ 1000000)
    (h : ∀ A' c' w', Ints W (l ++ news) (.slice A' (l ++ news).length c') w' → K (a.put o.dst (.slice A' (l ++ news).length c')) w') :
    if Region.wanted o (yielded ops a.tmps) = true then Oper.wp Try.prog o a w K Q else E := by
  rw [if_pos hgd]
  exact wp_ints w s x ho W l v hs HB B A m c news hx hl hr hlen h
theorem Ints.cells {W w : World} {l : List Int} {A : Option Addr} {n c : Nat} (h : Ints W l (.slice A n c) w) (hn : n = l.length) : CellsAt w w.heap.size A (intCells l) := by
  subst hn
  exact CellsAt.of_own h.1

theorem step_nil {ops : Array Oper} {o : Oper} {a : Act} {K : Act → World → Prop} {Q : Exit → Act → World → Prop} {E : Prop} (w : World) (hgd : Region.wanted o (yielded ops a.tmps) = true) (x : Operand)
    (ho : o.op = .call { callee := .builtin .append, args := #[.const (.slice none 0 0), x], argTypes := #[22, 22] })
    (B : Nat) (A : Option Addr) (m c : Nat) (news : List Int) (hx : a.eval x = .slice A m c) (hl : news.length = m)
    (hr : CellsAt w B A (intCells news)) (hlen : m ≤ 1000000)
    (h : ∀ A' c' w', Ints w news (.slice A' news.length c') w' → K (a.put o.dst (.slice A' news.length c')) w') :
    if Region.wanted o (yielded ops a.tmps) = true then Oper.wp Try.prog o a w K Q else E :=
  step_ints w hgd _ x ho w [] _ rfl (Ints.nil w) B A m c news hx hl hr (by simp; omega) h
theorem CellsAt.new (w : World) (xs : Array Value) (t : TypeId) (b : Nat) (hb : b = w.heap.size) : CellsAt (w.alloc (.cells xs t)) (w.alloc (.cells xs t)).heap.size (some ⟨b, 0, none⟩) xs.toList := fun j y hy => by
  refine ⟨_, rfl, by simp [hb], ?_⟩
  have := (HasCells.new w xs t b hb).2 j y hy
  have e : (⟨b, 0, none⟩ : Addr).add j = ⟨b, j, none⟩ := by
    unfold Addr.add
    split
    · rename_i h; subst h; rfl
    · simp
  rw [e]; exact this

/-! ### What they weigh -/
theorem inList_append (a b : List Int) (j : Nat) : inList (a ++ b) j = (inList a j || inList b j) := by
  unfold inList
  rw [Bool.eq_iff_iff]
  simp
theorem weight_bounds (k : Cf) (l : List Int) : 0 ≤ weightC k l ∧ weightC k l ≤ 13194139533312 := by
  cases h : mayC k with
  | false => rw [weightC_no l h]; omega
  | true =>
    rw [weightC_yes l h]
    have := weighTo_bounds (p := inList l) (mayC_yes h).2.2.1 k.ws.length
    have := (mayC_yes h).2.1
    unfold weighAll
    omega
theorem total_bounds (k : Cf) : 0 ≤ totalC k ∧ totalC k ≤ 13194139533312 := by
  cases h : mayC k with
  | false => rw [totalC_no h]; omega
  | true =>
    rw [totalC_yes h]
    have := weighTo_bounds (p := fun _ => true) (mayC_yes h).2.2.1 k.ws.length
    have := (mayC_yes h).2.1
    unfold weighAll
    omega
theorem weight_both (k : Cf) (a b : List Int) : weightC k (a ++ b) ≤ weightC k a + weightC k b ∧ ((∀ x ∈ a, x ∉ b) → weightC k (a ++ b) = weightC k a + weightC k b) := by
  cases h : mayC k with
  | false => rw [weightC_no _ h, weightC_no _ h, weightC_no _ h]; exact ⟨by omega, fun _ => by omega⟩
  | true =>
    rw [weightC_yes _ h, weightC_yes _ h, weightC_yes _ h]
    unfold weighAll
    have e : weighTo (inList (a ++ b)) k.ws k.ws.length = weighTo (fun i => inList a i || inList b i) k.ws k.ws.length := weighTo_congr fun j _ => inList_append a b j
    have hb := weighTo_both (p := inList a) (q := inList b) (ws := k.ws) k.ws.length
    have h0 := weighTo_bounds (p := fun i => inList a i && inList b i) (mayC_yes h).2.2.1 k.ws.length
    refine ⟨by omega, fun hd => ?_⟩
    have hn : weighTo (fun i => inList a i && inList b i) k.ws k.ws.length = 0 := weighTo_none fun j _ => by
      cases ha : inList a j with
      | false => rfl
      | true => exact decide_eq_false (hd _ (of_decide_eq_true ha))
    omega
theorem weight_same (k : Cf) {a b : List Int} (h : ∀ j, inList a j = inList b j) : weightC k a = weightC k b := by
  cases hm : mayC k with
  | false => rw [weightC_no _ hm, weightC_no _ hm]
  | true =>
    rw [weightC_yes _ hm, weightC_yes _ hm]
    exact weighTo_congr fun j _ => h j
theorem weight_out (k : Cf) {l : List Int} (h : ∀ j : Nat, j < k.ws.length → (j : Int) ∉ l) : weightC k l = 0 := by
  cases hm : mayC k with
  | false => rw [weightC_no _ hm]
  | true =>
    rw [weightC_yes _ hm]
    exact weighTo_none fun j hj => decide_eq_false (h j hj)

/-! ### Have two lists a number together? -/
def meetB (a b : List Int) : Bool := a.any fun x => b.any fun y => x == y
theorem meetB_snoc (a b : List Int) (x : Int) : meetB (a ++ [x]) b = (meetB a b || b.any fun y => x == y) := by simp [meetB]
theorem any_snoc (b : List Int) (x y : Int) : ((b ++ [y]).any fun z => x == z) = ((b.any fun z => x == z) || x == y) := by simp
theorem meetB_no {a b : List Int} (h : meetB a b = false) : ∀ x ∈ a, x ∉ b := fun x hx hy => by
  have : meetB a b = true := List.any_eq_true.2 ⟨x, hx, List.any_eq_true.2 ⟨x, hy, by simp⟩⟩
  rw [h] at this; cases this
end

section
open Go.ChangeShapes Go.WideShapes Go.ChangeAt Go.RowKit

theorem rowIs_kept' {w w' : World} {g : Nat} {t : TypeId} {n : Nat} {f : Nat → Value} (h : w.rowIs g t n f) (k : Kept w w') : w'.rowIs g t n f := h.of_block (k.heap h.lt)
theorem makeNums (n : Nat) (hn : n ≤ 1000) (w : World) : (Instr.makeSlice 22 (.int .i64 (n : Int)) (.int .i64 (n : Int))).run Try.prog w = .ok (.slice (some ⟨w.heap.size, 0, none⟩) n n) (w.alloc (.cells (madeCells #[.int .i64 0] n) 3)) :=
  run_make_row' 22 3 (.int .i64 0) 8 Try.underlying22 (by kernel_rfl) rfl .i64 .i64 n (by omega) (by omega) w

theorem once_keep {W w w' : World} {b : Nat} {p : Addr} {y x0 x1 x2 x3 x4 : Value} (hb : b < W.heap.size) (hp : p.block < W.heap.size)
    (h : w.cell? p = some y ∧ w.cell? ⟨b, 0, none⟩ = some x0 ∧ w.cell? ⟨b, 1, none⟩ = some x1 ∧ w.cell? ⟨b, 2, none⟩ = some x2 ∧ w.cell? ⟨b, 3, none⟩ = some x3 ∧ w.cell? ⟨b, 4, none⟩ = some x4 ∧ Kept W w) (k : Kept w w') :
    w'.cell? p = some y ∧ w'.cell? ⟨b, 0, none⟩ = some x0 ∧ w'.cell? ⟨b, 1, none⟩ = some x1 ∧ w'.cell? ⟨b, 2, none⟩ = some x2 ∧ w'.cell? ⟨b, 3, none⟩ = some x3 ∧ w'.cell? ⟨b, 4, none⟩ = some x4 ∧ Kept W w' := by
  obtain ⟨h0, h⟩ := h
  exact ⟨(k.cell (Nat.lt_of_lt_of_le hp h.2.2.2.2.2.size_le)).trans h0, five_keep hb h k⟩
theorem once_keep2 {W w w' : World} {b : Nat} {p q : Addr} {y z x0 x1 x2 x3 x4 : Value} (hb : b < W.heap.size) (hp : p.block < W.heap.size) (hq : q.block < W.heap.size)
    (h : w.cell? q = some z ∧ w.cell? p = some y ∧ w.cell? ⟨b, 0, none⟩ = some x0 ∧ w.cell? ⟨b, 1, none⟩ = some x1 ∧ w.cell? ⟨b, 2, none⟩ = some x2 ∧ w.cell? ⟨b, 3, none⟩ = some x3 ∧ w.cell? ⟨b, 4, none⟩ = some x4 ∧ Kept W w) (k : Kept w w') :
    w'.cell? q = some z ∧ w'.cell? p = some y ∧ w'.cell? ⟨b, 0, none⟩ = some x0 ∧ w'.cell? ⟨b, 1, none⟩ = some x1 ∧ w'.cell? ⟨b, 2, none⟩ = some x2 ∧ w'.cell? ⟨b, 3, none⟩ = some x3 ∧ w'.cell? ⟨b, 4, none⟩ = some x4 ∧ Kept W w' := by
  obtain ⟨h0, h⟩ := h
  exact ⟨(k.cell (Nat.lt_of_lt_of_le hq h.2.2.2.2.2.2.size_le)).trans h0, once_keep hb hp h k⟩

/-! ### A committee's list -/
theorem comm_sorted (p : Nat → Bool) (n : Nat) : (commTo p n).Pairwise (· < ·) := by
  unfold commTo commOf
  rw [List.pairwise_map]
  exact (List.Pairwise.filter p List.pairwise_lt_range).imp (fun h => by omega)
theorem comm_at {p : Nat → Bool} {n i : Nat} (hi : i < (commTo p n).length) : ∃ y : Nat, wAt (commTo p n) i = (y : Int) ∧ y < n ∧ p y = true ∧ (y : Int) ∉ (commTo p n).take i ∧ ∀ j, j < i → wAt (commTo p n) j < wAt (commTo p n) i := by
  have hs := List.pairwise_iff_getElem.1 (comm_sorted p n)
  have e : ∀ j (hj : j < (commTo p n).length), wAt (commTo p n) j = (commTo p n)[j] := fun j hj => by simp [wAt, hj]
  have hl : ∀ j, j < i → wAt (commTo p n) j < wAt (commTo p n) i := fun j hj => by
    rw [e j (by omega), e i hi]
    exact hs j i (by omega) hi hj
  obtain ⟨y, hy, hp, ey⟩ := mem_commTo.1 (wAt_mem hi)
  refine ⟨y, ey, hy, hp, fun hm => ?_, hl⟩
  obtain ⟨j, hj, hx⟩ := List.mem_iff_getElem.1 hm
  have hj' : j < i := by simp at hj; omega
  have hlt := hl j hj'
  rw [e j (by omega), ey] at hlt
  rw [List.getElem_take] at hx
  omega

/-! ### An epoch -/
def gAt (seed n E e j : Nat) : Nat := atN (stepN seed e) n j % E
theorem mem_slot {seed n E e r : Nat} (hr : r < E) (j : Nat) : memN seed n E (e * E + r) j = decide (gAt seed n E e j = r) := by
  unfold memN gAt
  have h1 : (e * E + r) / E = e := by rw [Nat.mul_comm, Nat.mul_add_div (by omega), Nat.div_eq_of_lt hr, Nat.add_zero]
  have h2 : (e * E + r) % E = r := by rw [Nat.mul_comm, Nat.mul_add_mod, Nat.mod_eq_of_lt hr]
  rw [h1, h2]
theorem weight_comm {k : Cf} (hm : mayC k = true) (p : Nat → Bool) : weightC k (commTo p k.ws.length) = weighTo p k.ws k.ws.length := by
  rw [weightC_yes _ hm]
  exact weighTo_congr fun j hj => inList_comm j hj
theorem weigh_next (g : Nat → Nat) (ws : List Int) (r n : Nat) : weighTo (fun j => decide (g j < r)) ws n + weighTo (fun j => decide (g j = r)) ws n = weighTo (fun j => decide (g j < r + 1)) ws n := by
  induction n with
  | zero => simp [weighTo]
  | succ n ih =>
    simp only [weighTo]
    by_cases h1 : g n < r
    · have h2 : ¬ g n = r := by omega
      have h3 : g n < r + 1 := by omega
      simp [h1, h2, h3]
      omega
    · by_cases h2 : g n = r
      · have h3 : g n < r + 1 := by omega
        simp [h1, h2] at ih ⊢
        omega
      · have h3 : ¬ g n < r + 1 := by omega
        simp [h1, h2, h3]
        omega

/-! ### How often each one was met -/
def timesV (g : Nat → Nat) (r : Nat) (q : List Int) (j : Nat) : Value := .int .i64 (if g j < r ∨ (j : Int) ∈ q then 1 else 0)
theorem times_zero (g : Nat → Nat) (j : Nat) : timesV g 0 [] j = .int .i64 0 := by simp [timesV]
theorem times_old {g : Nat → Nat} {r : Nat} {q : List Int} {y : Nat} (h : g y = r) (hq : (y : Int) ∉ q) : timesV g r q y = .int .i64 0 := by simp [timesV, h, hq]
theorem times_next (g : Nat → Nat) (r : Nat) (q : List Int) (y j : Nat) : (if j = y then Value.int .i64 1 else timesV g r q j) = timesV g r (q ++ [(y : Int)]) j := by
  by_cases e : j = y
  · subst e; simp [timesV]
  · have e' : ¬ (j : Int) = (y : Int) := by omega
    simp [timesV, e, e']
theorem times_end (g : Nat → Nat) (r n j : Nat) (hj : j < n) : timesV g r (commTo (fun j => decide (g j = r)) n) j = timesV g (r + 1) [] j := by
  unfold timesV
  congr 1
  have : (g j < r ∨ (j : Int) ∈ commTo (fun j => decide (g j = r)) n) ↔ (g j < r + 1 ∨ (j : Int) ∈ ([] : List Int)) := by
    rw [mem_commTo]
    constructor
    · rintro (h | ⟨i, _, hp, e⟩)
      · exact Or.inl (by omega)
      · have : j = i := by omega
        subst this
        have := of_decide_eq_true hp
        exact Or.inl (by omega)
    · rintro (h | h)
      · by_cases h2 : g j < r
        · exact Or.inl h2
        · exact Or.inr ⟨j, hj, decide_eq_true (by omega), rfl⟩
      · simp at h
  simp only [this]
theorem times_all {g : Nat → Nat} {E : Nat} {j : Nat} (h : g j < E) : timesV g E [] j = .int .i64 1 := by simp [timesV, h]
end

section
open Go.ChangeShapes Go.WideShapes Go.ChangeAt Go.RowKit

theorem take_missG {l : List Int} {j : Nat} {n : Int} (hj : j < l.length) (h : n ∉ l.take j) (hx : ¬ wAt l j = n) : n ∉ l.take (j + 1) := by
  rw [take_snoc hj]
  simp
  exact ⟨h, fun e => hx e.symm⟩
theorem int_atG {w : World} {B : Nat} {A : Option Addr} {l : List Int} (h : CellsAt w B A (intCells l)) {i : Nat} (hi : i < l.length) : ∃ z o, A = some ⟨z, o, none⟩ ∧ z < B ∧ w.cell? ⟨z, o + i, none⟩ = some (.int .i64 l[i]) := by
  obtain ⟨z, o, e, hb, hc⟩ := h.plain (by rw [intCells_length]; omega)
  exact ⟨z, o, e, hb, hc i _ (by simp [intCells, hi])⟩
theorem ints_newG (x : Int) (w w' : World) (k : Kept (w.alloc (.cells #[.int .i64 x] 3)) w') : CellsAt w' w'.heap.size (some ⟨w.heap.size, 0, none⟩) (intCells [x]) :=
  CellsAt.kept (show CellsAt (w.alloc (.cells #[.int .i64 x] 3)) (w.alloc (.cells #[.int .i64 x] 3)).heap.size (some ⟨w.heap.size, 0, none⟩) (intCells [x]) from fun j y hy => by
    refine ⟨_, rfl, by simp, ?_⟩
    have := (HasCells.new w #[.int .i64 x] 3 w.heap.size rfl).2 j y hy
    have e : (⟨w.heap.size, 0, none⟩ : Addr).add j = ⟨w.heap.size, j, none⟩ := by
      unfold Addr.add
      split
      · rename_i h; subst h; rfl
      · simp
    rw [e]; exact this) k
end

end Go.Proofs.Ytacdiicnfoejoaa
