/-
  Going through blocks from behind, by a function to range over: the contracts of Backward, and of what it hands back.
-/
import Derived.RangeFuncNested
import Derived.RangeFuncBound
import Derived.RangeFuncCalls
import Derived.RangeFuncLeaves
import Derived.RangeFuncBox
import Derived.Shelf.Abstract
import Derived.Shelf.RegionOpen
import Derived.WalkKit
import Derived.OwnWalkIn
import Derived.TacticsInMore
import Derived.LoopNIn
import Derived.LoopIn
import Derived.Test.YthaofomhlmajbaaDutyG
import Derived.Test.YthaofomhlmajbaaTreeG
import Derived.Test.YthaofomhlmajbaaGround
import Derived.Test.YthaofomhlmajbaaOwnMap
namespace Go.Proofs.Ythaofomhlmajbaa
set_option maxRecDepth 100000
set_option linter.unusedVariables false
set_option linter.unusedSimpArgs false
open Go.ChangeShapes Go.WideShapes Go.ChangeAt Go.RowKit Go.Shelf

attribute [local go_sem] Oper.semAt_some

/-- Who has come when j rounds are over: the last one first. -/
def backTo (n j : Nat) : List (Vl n) := (List.range j).filterMap fun i => if h : n - 1 - i < n then some ⟨n - 1 - i, h⟩ else none
theorem backTo_succ {n j : Nat} (h : j < n) : backTo n (j + 1) = backTo n j ++ [⟨n - 1 - j, by omega⟩] := by
  unfold backTo
  rw [List.range_succ, List.filterMap_append]
  congr 1
  simp only [List.filterMap_cons, List.filterMap_nil]
  rw [dif_pos (by omega : n - 1 - j < n)]
theorem backTo_length {n j : Nat} (h : j ≤ n) : (backTo n j).length = j := by
  induction j with
  | zero => rfl
  | succ j ih => rw [backTo_succ (by omega), List.length_append, ih (by omega)]; rfl

set_option maxHeartbeats 800000 in
theorem back_any (A : Option Addr) (n c : Nat) (w : World) :
    Calls Try.prog 61 #[.slice A n c] w fun e w' => e = .returned (.func (.func 81) #[] #[.pointer (some ⟨w.heap.size, 0, none⟩)]) ∧ w' = w.alloc (.cells #[.slice A n c] 38) := by
  go_enter Try.func61, Try.ntmps61
  go_wp2
  go_ret
  exact ⟨rfl, rfl⟩

/-- What lay below n lies as it was, and block b. -/
def BelowB (n b : Nat) (w w' : World) : Prop := Below n w w' ∧ w'.heap[b]? = w.heap[b]?
theorem BelowB.refl (n b : Nat) (w : World) : BelowB n b w w := ⟨Below.refl _ _, rfl⟩
theorem BelowB.trans {n b : Nat} {u v w : World} (h : BelowB n b u v) (k : BelowB n b v w) : BelowB n b u w := ⟨h.1.trans k.1, k.2.trans h.2⟩
theorem cell_of_heap {w w' : World} {p : Addr} (h : w'.heap[p.block]? = w.heap[p.block]?) : w'.cell? p = w.cell? p := by simp [World.cell?, h]
theorem belowB_b {n₀ b : Nat} {w : World} (hn : n₀ ≤ w.heap.size) (hb : b < w.heap.size) (W : World) (l : Nat) (o o' : Obj) (hl : w.heap.size ≤ l) (h : W.heap[l]? = some o) (h1 : o.isCells = false) (h2 : o.isWalk = false) : BelowB n₀ b W (W.putObj l o') :=
  ⟨belowK_b hn W l o o' hl h h1 h2, (grownBy_putObj' W l o').block b (by have := (Array.getElem?_eq_some_iff.1 h).1; omega) (fun e => by cases e; omega)⟩

set_option maxRecDepth 100000 in
set_option maxHeartbeats 2000000 in
/-- What Backward hands back, for every loop body that keeps what lay below n₀, and block Bs. -/
theorem back1_in (n : Nat) (hn : 1 ≤ n) (l Bs n₀ : Nat) (A : Option Addr) (c : Nat) (L : List Bk) (hlen : L.length ≤ 1000000) (J Jx : List (Vl L.length) → World → Prop)
    (hY : ∀ pre x W, J pre W → pre.length < L.length → YieldAt Fence.wide (n - 1) Try.prog l #[.int .i64 (x.1 : Int), .agg #[.int .i64 (L[x.1]'x.2).s, .int .i64 (L[x.1]'x.2).f, .int .u64 (L[x.1]'x.2).p.1, .int .u64 (L[x.1]'x.2).p.2, .int .u64 (L[x.1]'x.2).t]] W fun e W' =>
      (e = .returned (.bool true) ∧ J (pre ++ [x]) W' ∧ BelowB n₀ Bs W W') ∨ (e = .returned (.bool false) ∧ Jx (pre ++ [x]) W'))
    (W : World) (hBs : W.cell? ⟨Bs, 0, none⟩ = some (.slice A L.length c)) (hc : CellsAt W n₀ A (blockCells L)) (h0 : J [] W) :
    CallsIn Fence.wide n Try.prog 81 #[.func (.yield l) #[] #[], .pointer (some ⟨Bs, 0, none⟩)] W fun e W' => (∃ v, e = .returned v) ∧
      ((∃ ys, ys = backTo L.length L.length ∧ J ys W') ∨ (∃ pre, (∃ j, j ≤ L.length ∧ pre = backTo L.length j) ∧ Jx pre W')) := by
  refine callsIn_of_wp Try.func81 rfl trivial ?_ rfl
  simp only [Try.ntmps81, List.size_toArray, List.length_cons, List.length_nil, Nat.reduceAdd, Nat.reduceSub, Array.replicate_succ, Array.replicate_zero, List.push_toArray, List.append_toArray, List.nil_append, List.cons_append]
  have HC := Lib.hid hc
  have HBs := Lib.hid hBs
  have hw0 : IntKind.i64.wrap ((L.length : Int) - 1) = (L.length : Int) - 1 := by rw [IntKind.wrap_i64]; omega
  clear hc
  gi_wp2
  clear hBs
  gi_loopw [3] (fun i wr => ∃ j : Nat, j ≤ L.length ∧ i = .int .i64 ((L.length : Int) - 1 - (j : Int)) ∧ J (backTo L.length j) wr ∧ BelowB n₀ Bs W wr)
    (fun i _ => (intOf i + 1).toNat)
  case atStart => exact ⟨0, Nat.zero_le _, by first | (simp; done) | (congr 1; omega), h0, BelowB.refl _ _ _⟩
  case round =>
    obtain ⟨j, hj, rfl, hJs, hnx⟩ := hrel
    by_cases hlt : j < L.length
    · obtain ⟨fn, tmps, assign, body, hy, hR⟩ := hY _ ⟨L.length - 1 - j, by omega⟩ wr hJs (by rw [backTo_length hj]; exact hlt)
      dsimp only at hy
      obtain ⟨i, hi⟩ : ∃ i, i = L.length - 1 - j := ⟨_, rfl⟩
      have hil : i < L.length := by omega
      obtain ⟨z, o, rfl, hb, c0, c1, c2, c3, c4⟩ := block_at (HC.out.keep fun p hp => hnx.1.cell hp) hil
      have hbs : wr.cell? ⟨Bs, 0, none⟩ = some (.slice (some ⟨z, o, none⟩) L.length c) := (cell_of_heap (p := ⟨Bs, 0, none⟩) hnx.2).trans HBs.out
      have HS := Lib.hid (backTo_succ hlt)
      have e1 : ((L.length : Int) - 1 - (j : Int)) = (i : Int) := by omega
      have hw1 : IntKind.i64.wrap ((i : Int) - 1) = (i : Int) - 1 := by rw [IntKind.wrap_i64]; omega
      simp only [← hi] at hy
      generalize L[i]'hil = y at hy c0 c1 c2 c3 c4
      rw [e1]
      have HI := Lib.hid hi
      have HE := Lib.hid e1
      clear hi e1
      gi_wp2
      refine hR.mono ?_
      rintro e W3 (⟨rfl, hJ3, hk3⟩ | ⟨rfl, hJx3⟩)
      · gi_wp2
        go_roundw
        case rel => exact ⟨j + 1, by omega, by have := HE.out; first | (congr 1; omega) | (simp; omega), by rw [HS.out]; exact hJ3, hnx.trans hk3⟩
        case measure => have := HE.out; first | (simp [intOf]; done) | (simp [intOf]; omega)
      · gi_wp2
        refine bodyPost_ret (results_none rfl _ _ _) rfl ?_
        exact ⟨⟨_, rfl⟩, .inr ⟨_, ⟨j + 1, by omega, HS.out.symm⟩, hJx3⟩⟩
    · obtain rfl : j = L.length := by omega
      have e1 : ((L.length : Int) - 1 - (L.length : Int)) = -1 := by omega
      rw [e1]
      clear e1
      gi_wp2
      go_end0
      exact ⟨⟨_, rfl⟩, .inl ⟨_, rfl, hJs⟩⟩

/-- It can be ranged over: all blocks, from behind, each with its place; or the first ones of them. -/
theorem back_stops (n : Nat) (hn : 1 ≤ n) (Bs n₀ : Nat) (A : Option Addr) (c : Nat) (L : List Bk) (hlen : L.length ≤ 1000000) (w : World) (hBs : Bs < w.heap.size) (hn₀ : n₀ ≤ w.heap.size)
    (hc : w.cell? ⟨Bs, 0, none⟩ = some (.slice A L.length c)) (hI : CellsAt w n₀ A (blockCells L)) :
    SeqStopsK Fence.wide n Try.prog 81 #[.pointer (some ⟨Bs, 0, none⟩)] (fun x : Vl L.length => #[Value.int .i64 (x.1 : Int), .agg #[.int .i64 (L[x.1]'x.2).s, .int .i64 (L[x.1]'x.2).f, .int .u64 (L[x.1]'x.2).p.1, .int .u64 (L[x.1]'x.2).p.2, .int .u64 (L[x.1]'x.2).t]]) (BelowB n₀ Bs) (fun ys => ys = backTo L.length L.length)
      (fun pre => ∃ j, j ≤ L.length ∧ pre = backTo L.length j) L.length w := fun l J Jx W hW _ _ hY h0 =>
  back1_in n hn l Bs n₀ A c L hlen J Jx hY W ((hW.cell (p := ⟨Bs, 0, none⟩) hBs).trans hc) (hI.keep fun _ hp => hW.cell (Nat.lt_of_lt_of_le hp hn₀)) h0

theorem backTo_get {n j : Nat} (h : j ≤ n) {i : Nat} (hi : i < j) : (backTo n j)[i]? = some ⟨n - 1 - i, by omega⟩ := by
  induction j with
  | zero => omega
  | succ j ih =>
    rw [backTo_succ (by omega)]
    by_cases e : i = j
    · subst e
      rw [List.getElem?_append_right (by rw [backTo_length (by omega)]; exact Nat.le_refl _), backTo_length (by omega), Nat.sub_self]
      rfl
    · rw [List.getElem?_append_left (by rw [backTo_length (by omega)]; omega)]
      exact ih (by omega) (by omega)
theorem backTo_all (L : List Bk) : (backTo L.length L.length).map (fun x : Vl L.length => L[x.1]'x.2) = L.reverse := by
  apply List.ext_getElem?
  intro i
  rw [List.getElem?_map]
  by_cases hi : i < L.length
  · rw [backTo_get (Nat.le_refl _) hi, List.getElem?_reverse hi, List.getElem?_eq_getElem (by omega)]
    rfl
  · rw [List.getElem?_eq_none (by rw [backTo_length (Nat.le_refl _)]; omega), List.getElem?_eq_none (by rw [List.length_reverse]; omega)]
    rfl
/-- A loop over blocks from behind that is never left early: what is so is told by a state, which each block turns, and by how many have come; Ax tells what the loop's variable is. -/
theorem range_back {σ : Type} {g : Operand} {ps : Array Tmp} {assign body : Code} {Q : Exit → Act → World → Prop} {a : Act} {w : World} (Bs n₀ : Nat) (A : Option Addr) (c : Nat) (L : List Bk) (hlen : L.length ≤ 1000000)
    (hg : a.eval g = .func (.func 81) #[] #[.pointer (some ⟨Bs, 0, none⟩)]) (hps : ps.size = 2) (hBs : Bs < w.heap.size) (hn₀ : n₀ ≤ w.heap.size)
    (hc : w.cell? ⟨Bs, 0, none⟩ = some (.slice A L.length c)) (hA : CellsAt w n₀ A (blockCells L))
    (step : σ → Bk → σ) (s0 : σ) (I : Nat → σ → World → Prop) (hI : ∀ n, OwnFrom w.heap.size (I n)) (h0 : I 0 s0 w) (Ax : Nat → Bk → Act → World → Prop) (hAx : ∀ i b a', OwnFrom w.heap.size (fun (_ : Unit) W => Ax i b a' W))
    (hassign : ∀ (l n : Nat) (s : σ) (i : Nat) (b : Bk) (W : World) (K : Act → World → Prop), I n s W → (∀ a' W', KeepsFrom w.heap.size W W' → BelowB n₀ Bs W W' → I n s W' → Ax i b a' W' → K a' W') →
      assign.wpIn (Fence.wide.inRound l) 1 Try.prog (Exit.then K (fun _ _ _ => False)) { tmps := (ps.zip #[Value.int .i64 (i : Int), .agg #[.int .i64 b.s, .int .i64 b.f, .int .u64 b.p.1, .int .u64 b.p.2, .int .u64 b.t]]).foldl (fun t (p, v) => t.setIfInBounds p v) a.tmps, defers := [] } W)
    (hbody : ∀ (l n : Nat) (s : σ) (i : Nat) (b : Bk) (a' : Act) (W : World), b ∈ L → n < L.length → I n s W → Ax i b a' W → body.wpIn (Fence.wide.inRound l) 1 Try.prog (ownPostG w.heap.size (BelowB n₀ Bs) (fun (_ : List (Vl L.length)) => I (n + 1) (step s b)) (fun _ _ _ => False) [] W) a' W)
    (hdone : ∀ (D : Nat) (W : World), w.heap.size ≤ D → I L.length (L.reverse.foldl step s0) W → W.heap[D]? = some (.deferred (some [])) → Q .normal { a with defers := { target := .collected D, args := #[] } :: a.defers } W) :
    (Code.rangeFunc g ps assign body).wpIn Fence.wide 3 Try.prog Q a w := by
  refine wpIn_rangeFunc_ownH rfl (by omega) (gf := 81) (lb := #[.pointer (some ⟨Bs, 0, none⟩)]) hg trivial (enters_of Try.func81 (by kernel_rfl) rfl)
    (back_stops (3 - 1) (by omega) Bs n₀ A c L hlen w hBs hn₀ hc hA) BelowB.trans (belowB_b hn₀ hBs) (Below.refl _ _) (fun _ => hps.symm)
    (fun pre W => I pre.length ((pre.map (fun x : Vl L.length => L[x.1]'x.2)).foldl step s0) W) (fun _ _ _ => False) (fun s W W' row hs hg hr => hI s.length _ W W' row hs hg hr) (fun x s W W' row hs hg hr => hs) h0
    (fun x => Ax x.1 (L[x.1]'x.2)) (fun x a' => hAx x.1 (L[x.1]'x.2) a')
    (fun l pre x W K hi hK => hassign l pre.length _ x.1 (L[x.1]'x.2) W K hi hK) ?_ ?_ ?_
  · intro l pre x a' W _ _ hi ha hl
    refine wpIn_mono (hbody l pre.length _ x.1 (L[x.1]'x.2) a' W (List.getElem_mem _) hl hi ha) ?_
    intro ex a' W' h
    have e1 : (pre ++ [x]).length = pre.length + 1 := by simp
    have e2 : ((pre ++ [x]).map (fun x : Vl L.length => L[x.1]'x.2)).foldl step s0 = step ((pre.map (fun x : Vl L.length => L[x.1]'x.2)).foldl step s0) (L[x.1]'x.2) := by simp
    cases ex with
    | normal => exact ⟨h.1, h.2.1, by show I (pre ++ [x]).length _ W'; rw [e1, e2]; exact h.2.2⟩
    | ret => exact h.2.elim
    | exit id => exact h.2.elim
    | goto t => exact h.2.elim
    | panic ch => exact h.elim
    | outgrown => exact h.elim
  · rintro D xs W hD rfl hi hK
    rw [backTo_length (Nat.le_refl _), backTo_all] at hi
    exact hdone D W hD hi hK
  · rintro D x pre W hD _ hi hK
    exact hi.elim
/-- A block of cells is none that the loop's books turn. -/
theorem own_block {β : Type} (B z : Nat) (cs : Array Value) (t : TypeId) (fr : Nat × Nat) : OwnFrom B (fun (_ : β) W => W.heap[z]? = some (.cells cs t fr)) := fun s W W' row hs hg hr => by
  refine (hg.block z (Array.getElem?_eq_some_iff.1 hs).1 fun e => ?_).trans hs
  obtain ⟨_, o, ho, hc⟩ := hr z e.symm
  rw [hs] at ho
  cases ho
  cases hc
theorem own_map {β α γ : Type} {K : KeyKind α} {V : ValKind γ} {B b m : Nat} {f : β → α → γ} (hb : b < B) : OwnFrom B (fun s W => OwnF K V b m (f s) W) := fun s W W' row hs hg hr =>
  hs.at (hg.block b hs.lt fun e => by have := (hr b e.symm).1; omega)
theorem own_below {β : Type} {n₀ b B : Nat} {w₀ : World} (hn : n₀ ≤ w₀.heap.size) (hb : b < w₀.heap.size) (hB : n₀ ≤ B) (hbB : b < B) : OwnFrom B (fun (_ : β) W => BelowB n₀ b w₀ W) := fun s W W' row hs hg hr =>
  ⟨hs.1.grown hg (Nat.le_trans hn hs.1.size) (fun k e => Nat.le_trans hB (hr k e).1), (hg.block b (Nat.lt_of_lt_of_le hb hs.1.size) fun e => by have := (hr b e.symm).1; omega).trans hs.2⟩
theorem cells_block {w : World} {z : Nat} {cs : Array Value} {t : TypeId} {fr : Nat × Nat} (h : w.heap[z]? = some (.cells cs t fr)) : HasCells w z cs.toList :=
  ⟨(Array.getElem?_eq_some_iff.1 h).1, fun j u hu => by simpa [World.cell?, h] using hu⟩

end Go.Proofs.Ythaofomhlmajbaa
