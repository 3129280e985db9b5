/-
  Going through a conf's validators by a function to range over: the contracts of validators, and of what it hands back.
-/
import Derived.RangeFuncNested
import Derived.RangeFuncBound
import Derived.RangeFuncCalls
import Derived.RangeFuncLeaves
import Derived.RangeFuncBox
import Derived.Shelf.Abstract
import Derived.Shelf.RegionOpen
import Derived.WalkKit
import Derived.OwnWalkIn
import Derived.TacticsInMore
import Derived.LoopNIn
import Derived.LoopIn
import Derived.Test.YtdidmgmfjfnliaaDutyMath
import Derived.Test.YtdidmgmfjfnliaaIntRow
import Derived.Test.YtdidmgmfjfnliaaHas
namespace Go.Proofs.Ytdidmgmfjfnliaa
open Go.ChangeShapes Go.WideShapes Go.ChangeAt Go.RowKit Go.Shelf

attribute [local go_sem] Oper.semAt_some

/-- A validator: its number, and that there is one. -/
abbrev Vl (n : Nat) := { i : Nat // i < n }
/-- Who has come when j rounds are over. -/
def valsTo (n j : Nat) : List (Vl n) := (List.range j).filterMap fun i => if h : i < n then some ⟨i, h⟩ else none
theorem valsTo_succ {n j : Nat} (h : j < n) : valsTo n (j + 1) = valsTo n j ++ [⟨j, h⟩] := by simp [valsTo, List.range_succ, List.filterMap_append, h]
theorem valsTo_map {n j : Nat} (h : j ≤ n) : (valsTo n j).map (·.1) = List.range j := by
  induction j with
  | zero => rfl
  | succ j ih => rw [valsTo_succ (by omega), List.map_append, ih (by omega), List.range_succ]; rfl
theorem valsTo_length {n j : Nat} (h : j ≤ n) : (valsTo n j).length = j := by
  have := congrArg List.length (valsTo_map h)
  simpa using this

theorem ints_cell {w : World} {B : Nat} {A : Option Addr} {l : List Int} (h : CellsAt w B A (intCells l)) {j : Nat} (hj : j < l.length) : ∃ ad : Addr, A = some ad ∧ ad.block < B ∧ w.cell? (ad.add j) = some (.int .i64 (wAt l j)) :=
  h j _ (by simp [intCells, List.getElem?_map, List.getElem?_eq_getElem hj, wAt])

set_option maxHeartbeats 800000 in
theorem vals_any (A : Option Addr) (c : Nat) (k : Cf) (w : World) :
    Calls Try.prog 26 #[.agg #[.slice A k.ws.length c, .int .u64 k.seed, .int .i64 k.ep, .int .i64 k.nu, .int .i64 k.de]] w fun e w' => e = .returned (.func (.func 35) #[] #[.pointer (some ⟨w.heap.size, 0, none⟩)]) ∧ w' = w.alloc (.cells #[.slice A k.ws.length c, .int .u64 k.seed, .int .i64 k.ep, .int .i64 k.nu, .int .i64 k.de] 25) := by
  go_enter Try.func26, Try.ntmps26
  go_wp2
  go_ret
  exact ⟨rfl, rfl⟩

set_option maxRecDepth 100000 in
set_option maxHeartbeats 2000000 in
/-- What validators hands back, for every loop body that keeps what lay below n₀. -/
theorem vals1_in (n : Nat) (hn : 1 ≤ n) (l Bs n₀ : Nat) (A : Option Addr) (c : Nat) (k : Cf) (hlen : k.ws.length ≤ 1000) (J Jx : List (Vl k.ws.length) → World → Prop)
    (hY : ∀ pre x W, J pre W → pre.length < k.ws.length → YieldAt Fence.wide (n - 1) Try.prog l #[.int .i64 (x.1 : Int), .int .i64 (wAt k.ws x.1)] W fun e W' =>
      (e = .returned (.bool true) ∧ J (pre ++ [x]) W' ∧ Below n₀ W W') ∨ (e = .returned (.bool false) ∧ Jx (pre ++ [x]) W'))
    (W : World) (hBs : W.cell? ⟨Bs, 0, none⟩ = some (.slice A k.ws.length c)) (hc : CellsAt W n₀ A (intCells k.ws)) (h0 : J [] W) :
    CallsIn Fence.wide n Try.prog 35 #[.func (.yield l) #[] #[], .pointer (some ⟨Bs, 0, none⟩)] W fun e W' => (∃ v, e = .returned v) ∧
      ((∃ ys, ys = valsTo k.ws.length k.ws.length ∧ J ys W') ∨ (∃ pre, (∃ j, j ≤ k.ws.length ∧ pre = valsTo k.ws.length j) ∧ Jx pre W')) := by
  refine callsIn_of_wp Try.func35 rfl trivial ?_ rfl
  simp only [Try.ntmps35, List.size_toArray, List.length_cons, List.length_nil, Nat.reduceAdd, Nat.reduceSub, Array.replicate_succ, Array.replicate_zero, List.push_toArray, List.append_toArray, List.nil_append, List.cons_append]
  have HC := Lib.hid hc
  clear hc
  gi_wp2
  gi_loopw [8] (fun i wr => ∃ j : Nat, j ≤ k.ws.length ∧ i = .int .i64 j ∧ J (valsTo k.ws.length j) wr ∧ Below n₀ W wr)
    (fun i _ => k.ws.length - (intOf i).toNat)
  case atStart => exact ⟨0, Nat.zero_le _, rfl, h0, Below.refl _ _⟩
  case round =>
    obtain ⟨j, hj, rfl, hJs, hnx⟩ := hrel
    by_cases hlt : j < k.ws.length
    · obtain ⟨fn, tmps, assign, body, hy, hR⟩ := hY _ ⟨j, hlt⟩ wr hJs (by rw [valsTo_length hj]; exact hlt)
      dsimp only at hy
      obtain ⟨ad, rfl, hb, hcell⟩ := ints_cell HC.out hlt
      have hcx : wr.cell? (ad.add j) = some (.int .i64 (wAt k.ws j)) := (hnx.cell (by rw [block_add]; exact hb)).trans hcell
      have HS := Lib.hid (valsTo_succ hlt)
      clear hcell
      gi_wp2
      refine hR.mono ?_
      rintro e W3 (⟨rfl, hJ3, hk3⟩ | ⟨rfl, hJx3⟩)
      · gi_wp2
        go_roundw
        case rel => exact ⟨j + 1, by omega, by simp, by rw [HS.out]; exact hJ3, hnx.trans hk3⟩
        case measure => simp [intOf]; omega
      · gi_wp2
        refine bodyPost_ret (results_none rfl _ _ _) rfl ?_
        exact ⟨⟨_, rfl⟩, .inr ⟨_, ⟨j + 1, by omega, HS.out.symm⟩, hJx3⟩⟩
    · obtain rfl : j = k.ws.length := by omega
      gi_wp2
      go_end0
      exact ⟨⟨_, rfl⟩, .inl ⟨_, rfl, hJs⟩⟩

/-- It can be ranged over: all validators, rising, each with what it weighs; or the first ones of them. -/
theorem vals_stops (n : Nat) (hn : 1 ≤ n) (Bs n₀ : Nat) (A : Option Addr) (c : Nat) (k : Cf) (hlen : k.ws.length ≤ 1000) (w : World) (hBs : Bs < w.heap.size) (hn₀ : n₀ ≤ w.heap.size)
    (hc : w.cell? ⟨Bs, 0, none⟩ = some (.slice A k.ws.length c)) (hI : CellsAt w n₀ A (intCells k.ws)) :
    SeqStopsK Fence.wide n Try.prog 35 #[.pointer (some ⟨Bs, 0, none⟩)] (fun x : Vl k.ws.length => #[Value.int .i64 (x.1 : Int), Value.int .i64 (wAt k.ws x.1)]) (Below n₀) (fun ys => ys = valsTo k.ws.length k.ws.length)
      (fun pre => ∃ j, j ≤ k.ws.length ∧ pre = valsTo k.ws.length j) k.ws.length w := fun l J Jx W hW _ _ hY h0 =>
  vals1_in n hn l Bs n₀ A c k hlen J Jx hY W ((hW.cell (p := ⟨Bs, 0, none⟩) hBs).trans hc) (hI.keep fun _ hp => hW.cell (Nat.lt_of_lt_of_le hp hn₀)) h0

/-- A loop over validators: I tells what is so when those in a list have come, Ix how it is left early. -/
theorem range_vals {g : Operand} {ps : Array Tmp} {assign body : Code} {Q : Exit → Act → World → Prop} {a : Act} {w : World} (Bs n₀ : Nat) (A : Option Addr) (c : Nat) (k : Cf) (hlen : k.ws.length ≤ 1000)
    (hg : a.eval g = .func (.func 35) #[] #[.pointer (some ⟨Bs, 0, none⟩)]) (hps : ps.size = 2) (hBs : Bs < w.heap.size) (hn₀ : n₀ ≤ w.heap.size)
    (hc : w.cell? ⟨Bs, 0, none⟩ = some (.slice A k.ws.length c)) (hA : CellsAt w n₀ A (intCells k.ws))
    (I : List Nat → World → Prop) (Ix : Code → List Nat → World → Prop) (hI : OwnFrom w.heap.size I) (hIx : ∀ x, OwnFrom w.heap.size (Ix x)) (h0 : I [] w) (a₁ : Nat → Act)
    (hassign : ∀ (l : Nat) (i : Nat) (W : World) (K : Act → World → Prop), K (a₁ i) W →
      assign.wpIn (Fence.wide.inRound l) 1 Try.prog (Exit.then K (fun _ _ _ => False)) { tmps := (ps.zip #[Value.int .i64 (i : Int), Value.int .i64 (wAt k.ws i)]).foldl (fun t (p, v) => t.setIfInBounds p v) a.tmps, defers := [] } W)
    (hbody : ∀ (l : Nat) (q : List Nat) (i : Nat) (W : World), i < k.ws.length → I q W → q.length < k.ws.length → body.wpIn (Fence.wide.inRound l) 1 Try.prog (ownPostG w.heap.size (Below n₀) I Ix (q ++ [i]) W) (a₁ i) W)
    (hdone : ∀ (D : Nat) (W : World), w.heap.size ≤ D → I (List.range k.ws.length) W → W.heap[D]? = some (.deferred (some [])) → Q .normal { a with defers := { target := .collected D, args := #[] } :: a.defers } W)
    (hstop : ∀ (D : Nat) (x : Code) (j : Nat) (W : World), w.heap.size ≤ D → j ≤ k.ws.length → Ix x (List.range j) W → W.heap[D]? = some (.deferred (some [])) → x.wpIn Fence.wide 3 Try.prog Q { a with defers := { target := .collected D, args := #[] } :: a.defers } W) :
    (Code.rangeFunc g ps assign body).wpIn Fence.wide 3 Try.prog Q a w := by
  refine wpIn_rangeFunc_ownG rfl (by omega) (gf := 35) (lb := #[.pointer (some ⟨Bs, 0, none⟩)]) hg trivial (enters_of Try.func35 (by kernel_rfl) rfl)
    (vals_stops (3 - 1) (by omega) Bs n₀ A c k hlen w hBs hn₀ hc hA) belowK_t (belowK_b hn₀) (Below.refl _ _) (fun _ => hps.symm)
    (fun pre W => I (pre.map (·.1)) W) (fun x pre W => Ix x (pre.map (·.1)) W) (fun (s : List (Vl k.ws.length)) W W' row hs hg hr => hI (s.map (·.1)) W W' row hs hg hr) (fun x (s : List (Vl k.ws.length)) W W' row hs hg hr => hIx x (s.map (·.1)) W W' row hs hg hr) h0 (fun x => a₁ x.1)
    (fun l x W K hK => hassign l x.1 W K hK) ?_ ?_ ?_
  · intro l pre x W hi hl
    refine wpIn_mono (hbody l (pre.map (·.1)) x.1 W x.2 hi (by simpa using hl)) ?_
    have e : (pre ++ [x]).map (·.1) = pre.map (·.1) ++ [x.1] := by simp
    intro ex a' W' h
    cases ex with
    | normal => exact ⟨h.1, h.2.1, by show I ((pre ++ [x]).map (·.1)) W'; rw [e]; exact h.2.2⟩
    | ret => exact ⟨h.1, by show Ix .ret ((pre ++ [x]).map (·.1)) W'; rw [e]; exact h.2⟩
    | exit id => exact ⟨h.1, by show Ix (.exit id) ((pre ++ [x]).map (·.1)) W'; rw [e]; exact h.2⟩
    | goto t => exact ⟨h.1, by show Ix (.goto t) ((pre ++ [x]).map (·.1)) W'; rw [e]; exact h.2⟩
    | panic ch => exact h.elim
    | outgrown => exact h.elim
  · rintro D xs W hD rfl hi hK
    exact hdone D W hD (by rw [← valsTo_map (Nat.le_refl _)]; exact hi) hK
  · rintro D x pre W hD ⟨j, hj, rfl⟩ hi hK
    exact hstop D x j W hD hj (by rw [← valsTo_map hj]; exact hi) hK

end Go.Proofs.Ytdidmgmfjfnliaa
