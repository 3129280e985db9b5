/-
  The parts of sync.Once's slow way in a run of one goroutine, each a contract of its own: the lock, and the two calls that are deferred.
  What a round of a shuffle takes is worked out once: the closure, sync.Once's Do for the first time and afterwards.
  The contracts of package shuffle's calls.
  The contracts of package shuffle's calls, from the loops over the rounds on.
  The rounds of a seed, made anew: one block of 53 cells, held together under one name.
  The contract of package shuffle's call At.
-/
import Derived.Defers
import Derived.Laws.LoneSync
import Derived.RegionCalls
import Derived.Laws.NewBlocks
import Derived.Deep.WholeRow
import Derived.Test.YtacdiicnfoejoaaGround
import Derived.Test.YtacdiicnfoejoaaMixG
namespace Go.Proofs.Ytacdiicnfoejoaa
set_option maxRecDepth 100000
set_option linter.unusedVariables false
set_option linter.unusedSimpArgs false
section
open Go.ChangeShapes Go.WideShapes Go.ChangeAt Go.RowKit

theorem raceDisable (w : World) : (callFunc 79 #[]).run Try.prog w = .ok (.value (.tuple #[])) w := run_call_mark0 Try.func79 (by kernel_rfl) (by kernel_rfl) (by kernel_rfl) .disable (by kernel_rfl) w
theorem raceEnable (w : World) : (callFunc 81 #[]).run Try.prog w = .ok (.value (.tuple #[])) w := run_call_mark0 Try.func81 (by kernel_rfl) (by kernel_rfl) (by kernel_rfl) .enable (by kernel_rfl) w
theorem raceAcquire (a : Addr) (w : World) : (callFunc 82 #[.pointer (some a)]).run Try.prog w = .ok (.value (.tuple #[])) w := run_call_marked Try.func82 (by kernel_rfl) (by kernel_rfl) (by kernel_rfl) .acquire (by kernel_rfl) a w
theorem raceRelease (a : Addr) (w : World) : (callFunc 84 #[.pointer (some a)]).run Try.prog w = .ok (.value (.tuple #[])) w := run_call_marked Try.func84 (by kernel_rfl) (by kernel_rfl) (by kernel_rfl) .releaseMerge (by kernel_rfl) a w
theorem loadU32 {a : Addr} {x : Int} {w : World} (hc : w.cell? a = some (.int .u32 x)) : (callFunc 71 #[.pointer (some a)]).run Try.prog w = .ok (.value (.int .u32 x)) w :=
  run_call_load Try.func71 (by kernel_rfl) (by kernel_rfl) (by kernel_rfl) .u32 (by kernel_rfl) hc

/-- (*sync/atomic.Bool).Load: is the cell not 0? -/
theorem boolLoad (a : Addr) (x : Int) (t : Bool) (w : World) (hc : w.cell? a = some (.int .u32 x)) (ht : (x != 0) = t) :
    Calls Try.prog 69 #[.pointer (some a)] w fun e w' => e = .returned (.bool t) ∧ w = w' := by
  have hl := loadU32 hc
  go_enter Try.func69, Try.ntmps69
  go_wp2
  go_ret
  exact ⟨by rw [← ht]; rfl, rfl⟩

/-- (*sync/atomic.Bool).Store of true, entered as a deferred call: the cell holds 1. -/
theorem store_deferred (a : Addr) (x : Value) (u : FrameMode) (w : World) (hc : w.cell? a = some x) (hz : w.frozen? a = false) :
    CallsD Try.prog 74 #[.pointer (some a), .bool true] u w fun e u' w' => u' = u ∧ (e = .returned (.tuple #[]) ∧ w' = w.drew.setCell a (.int .u32 1)) := by
  have hc' : w.drew.cell? a = some x := by go_simp
  have hz' : w.drew.frozen? a = false := by go_simp
  have hst := run_call_store (P := Try.prog) Try.func77 (by kernel_rfl) (by kernel_rfl) (by kernel_rfl) (by kernel_rfl) (k := .u32) (y := 1) hc' hz'
  go_enter_d Try.func74, Try.ntmps74
  go_wp2
  go_region_calls
  all_goals (go_end0; exact ⟨rfl, rfl⟩)

/-- (*sync.Mutex).Unlock, entered as a deferred call, the lock held and nobody waiting: state 0. -/
theorem unlock_deferred (a : Addr) (u : FrameMode) (w : World) (hc : w.cell? a = some (.int .i32 1)) (hz : w.frozen? a = false) :
    CallsD Try.prog 73 #[.pointer (some a)] u w fun e u' w' => u' = u ∧ (e = .returned (.tuple #[]) ∧ w' = w.setCell a (.int .i32 0)) := by
  have hd := raceDisable
  have he := raceEnable
  have hr := raceRelease
  have hadd := run_call_add (P := Try.prog) Try.func85 (by kernel_rfl) (by kernel_rfl) (by kernel_rfl) .i32 (by kernel_rfl) (y := -1) (s := 0) hc hz (by simp [go_sem]; rfl)
  have hcv := run_convert_to_unsafe (P := Try.prog) (src := 134) (dst := 138) Try.underlying134 Try.underlying138 (by kernel_rfl) hc
  go_enter_d Try.func73, Try.ntmps73
  go_wp2
  go_end0
  go_wp2
  go_end0
  exact ⟨rfl, rfl⟩

/-- (*sync.Mutex).Lock, the lock free: state 1. -/
theorem lock_free (a : Addr) (w : World) (hc : w.cell? a = some (.int .i32 0)) (hz : w.frozen? a = false) :
    Calls Try.prog 72 #[.pointer (some a)] w fun e w' => e = .returned (.tuple #[]) ∧ w' = w.setCell a (.int .i32 1) := by
  have hd := raceDisable
  have he := raceEnable
  have ha := raceAcquire
  have hcas := run_call_cas_hit (P := Try.prog) Try.func80 (by kernel_rfl) (by kernel_rfl) (by kernel_rfl) .i32 (by kernel_rfl) (y := 1) hc hz
  have hc' : (w.setCell a (.int .i32 1)).cell? a = some (.int .i32 1) := World.cell?_setCell_same w a _ hc
  have hcv := run_convert_to_unsafe (P := Try.prog) (src := 134) (dst := 138) Try.underlying134 Try.underlying138 (by kernel_rfl) hc'
  go_enter Try.func72, Try.ntmps72
  go_wp2
  first | go_end0 | (simp only [Exit.inBlock, Exit.then]; refine bodyPost_ret (results_none rfl _ _ _) rfl ?_) | refine bodyPost_ret (results_none rfl _ _ _) rfl ?_
  go_wp2
  go_end0
  exact ⟨rfl, rfl⟩
end

section
open Go.ChangeShapes Go.WideShapes Go.ChangeAt Go.RowKit

set_option maxRecDepth 100000 in
set_option maxHeartbeats 1600000 in
theorem body_any (b o p0 p1 p2 seed n r : Nat) (x3 x4 : Value) (w : World) (ho : 2 ≤ o) (h0b : ¬ p0 = b) (h1b : ¬ p1 = b) (h2b : ¬ p2 = b) (hs : seed < 18446744073709551616) (hn0 : 1 ≤ n) (hn : n ≤ 1000) (hr : r < 10)
    (c0 : w.cell? ⟨p0, 0, none⟩ = some (.pointer (some ⟨b, 0, none⟩))) (c1 : w.cell? ⟨p1, 0, none⟩ = some (.int .i64 r)) (c2 : w.cell? ⟨p2, 0, none⟩ = some (.pointer (some ⟨b, o, none⟩)))
    (cs : w.cell? ⟨b, 0, none⟩ = some (.int .u64 seed)) (cn : w.cell? ⟨b, 1, none⟩ = some (.int .i64 n)) (c3 : w.cell? ⟨b, o + 3, none⟩ = some x3) (c4 : w.cell? ⟨b, o + 4, none⟩ = some x4)
    (f3 : w.frozen? ⟨b, o + 3, none⟩ = false) (f4 : w.frozen? ⟨b, o + 4, none⟩ = false) :
    Calls Try.prog 68 #[.pointer (some ⟨p0, 0, none⟩), .pointer (some ⟨p1, 0, none⟩), .pointer (some ⟨p2, 0, none⟩)] w fun e w' => e = .returned (.tuple #[]) ∧
      w' = ((w.setCell ⟨b, o + 3, none⟩ (.int .i64 (pivotN seed n r))).drew.setCell ⟨b, o + 4, none⟩ (.int .u64 (turnN seed r))).drew := by
  have hwr : IntKind.u64.wrap (r : Int) = ((r : Nat) : Int) := by rw [IntKind.wrap_u64]; omega
  have hwn : IntKind.u64.wrap (n : Int) = ((n : Nat) : Int) := by rw [IntKind.wrap_u64]; omega
  have hnz : ¬ n = 0 := by omega
  have htm : ((stepN seed r : Nat) : Int).tmod (n : Int) = ((pivotN seed n r : Nat) : Int) := by unfold pivotN; rw [Int.ofNat_tmod]
  have hpl : pivotN seed n r < n := pivotN_lt (by omega)
  have hwp : IntKind.i64.wrap ((pivotN seed n r : Nat) : Int) = ((pivotN seed n r : Nat) : Int) := by rw [IntKind.wrap_i64]; omega
  have hwt : IntKind.u64.wrap (1000 + (r : Int)) = ((1000 + r : Nat) : Int) := by rw [IntKind.wrap_u64]; omega
  go_enter Try.func68, Try.ntmps68
  go_wp2_with fail
  refine wp_region_still_tail 17 (by kernel_rfl) (by kernel_rfl) ?_
  change wpStill _ _ w.drew _ _ _
  simp only [List.take_succ_cons, List.take_zero, List.drop_succ_cons, List.drop_zero]
  repeat still_step
  still_call (still_of (step_any seed r hs (by omega) _))
  repeat still_step
  refine wpStill_nil ?_
  change wpList _ _ _ _ _ w.drew
  go_wp2_with fail
  have g0 : (w.setCell ⟨b, o + 3, none⟩ (.int .i64 (pivotN seed n r))).drew.cell? ⟨p0, 0, none⟩ = some (.pointer (some ⟨b, 0, none⟩)) := by rw [World.cell?_drew, World.cell?_setCell_other _ _ _ _ (fun e => h0b (by injection e with e1 _ _; exact e1.symm))]; exact c0
  have g1 : (w.setCell ⟨b, o + 3, none⟩ (.int .i64 (pivotN seed n r))).drew.cell? ⟨p1, 0, none⟩ = some (.int .i64 r) := by rw [World.cell?_drew, World.cell?_setCell_other _ _ _ _ (fun e => h1b (by injection e with e1 _ _; exact e1.symm))]; exact c1
  have g2 : (w.setCell ⟨b, o + 3, none⟩ (.int .i64 (pivotN seed n r))).drew.cell? ⟨p2, 0, none⟩ = some (.pointer (some ⟨b, o, none⟩)) := by rw [World.cell?_drew, World.cell?_setCell_other _ _ _ _ (fun e => h2b (by injection e with e1 _ _; exact e1.symm))]; exact c2
  have gs : (w.setCell ⟨b, o + 3, none⟩ (.int .i64 (pivotN seed n r))).drew.cell? ⟨b, 0, none⟩ = some (.int .u64 seed) := by rw [World.cell?_drew, World.cell?_setCell_other _ _ _ _ (by simp)]; exact cs
  have g4 : (w.setCell ⟨b, o + 3, none⟩ (.int .i64 (pivotN seed n r))).drew.cell? ⟨b, o + 4, none⟩ = some x4 := by rw [World.cell?_drew, World.cell?_setCell_other _ _ _ _ (by simp)]; exact c4
  have k4 : (w.setCell ⟨b, o + 3, none⟩ (.int .i64 (pivotN seed n r))).drew.frozen? ⟨b, o + 4, none⟩ = false := by simpa using f4
  have HT := Lib.hid (show stepN seed (1000 + r) = turnN seed r from rfl)
  clear c0 c1 c2 cs cn c3 c4 f3 f4 htm hwp hpl hwn
  generalize hW : (w.setCell ⟨b, o + 3, none⟩ (.int .i64 (pivotN seed n r))).drew = W1 at *
  have HW := Lib.hid hW
  clear hW
  refine wp_region_still_tail 11 (by kernel_rfl) (by kernel_rfl) ?_
  change wpStill _ _ W1.drew _ _ _
  simp only [List.take_succ_cons, List.take_zero, List.drop_succ_cons, List.drop_zero]
  repeat still_step
  still_call (still_of (step_any seed (1000 + r) hs (by omega) _))
  rw [HT.out]
  repeat still_step
  refine wpStill_nil ?_
  change wpList _ _ _ _ _ W1.drew
  go_wp2_with fail
  go_end0
  exact ⟨rfl, by rw [HW.out]⟩

/-! ### Worlds that differ in one block -/
/-- All but block b lies in w' as it lay in w. -/
structure But (b : Nat) (w w' : World) : Prop where
  os : w'.os = w.os
  tape : w'.tape = w.tape
  output : w'.output = w.output
  size : w.heap.size ≤ w'.heap.size
  block : ∀ k, k < w.heap.size → ¬ k = b → w'.heap[k]? = w.heap[k]?
section
variable {b : Nat} {a w w' : World}
theorem But.refl (b : Nat) (w : World) : But b w w := ⟨rfl, rfl, rfl, Nat.le_refl _, fun _ _ _ => rfl⟩
theorem But.trans (h : But b a w) (k : But b w w') : But b a w' :=
  ⟨k.os.trans h.os, k.tape.trans h.tape, k.output.trans h.output, Nat.le_trans h.size k.size, fun i hi hb => (k.block i (Nat.lt_of_lt_of_le hi h.size) hb).trans (h.block i hi hb)⟩
theorem But.drew (h : But b a w) : But b a w.drew := ⟨h.os, h.tape, h.output, h.size, h.block⟩
theorem But.setCell (h : But b a w) (o : Nat) (u : Value) : But b a (w.setCell ⟨b, o, none⟩ u) :=
  h.trans ⟨rfl, rfl, rfl, by simp [World.setCell], fun k _ hb => Below.heap_setCell _ _ _ _ hb⟩
theorem But.of_kept (h : Kept a w) : But b a w := ⟨h.os, h.tape, h.output, h.size, fun k hk _ => h.block k hk⟩
theorem But.cell (h : But b w w') {p : Addr} (hp : p.block < w.heap.size) (hb : ¬ p.block = b) : w'.cell? p = w.cell? p := World.cell?_of_block (w := w) (h.block p.block hp hb)
theorem But.frozen (h : But b w w') {p : Addr} (hp : p.block < w.heap.size) (hb : ¬ p.block = b) : w'.frozen? p = w.frozen? p := World.frozen?_of_block (w := w) (h.block p.block hp hb)
theorem But.kept (h : But b w w') (k : Kept a w) (hb : a.heap.size ≤ b) : Kept a w' :=
  ⟨h.os.trans k.os, h.tape.trans k.tape, h.output.trans k.output, Nat.le_trans k.size h.size, fun i hi => (h.block i (Nat.lt_of_lt_of_le hi k.size) (by omega)).trans (k.block i hi)⟩
end

/-- What Do leaves, the first time: the round at o of block b is done. -/
structure Did (b o : Nat) (pv tv : Value) (w w' : World) : Prop where
  but : But b w w'
  done : w'.cell? ⟨b, o, none⟩ = some (.int .u32 1)
  free : w'.cell? ⟨b, o + 1, none⟩ = some (.int .i32 0)
  pivot : w'.cell? ⟨b, o + 3, none⟩ = some pv
  turn : w'.cell? ⟨b, o + 4, none⟩ = some tv
  rest : ∀ j, j < o ∨ o + 5 ≤ j → w'.cell? ⟨b, j, none⟩ = w.cell? ⟨b, j, none⟩
  froze : ∀ p, w'.frozen? p = w.frozen? p
theorem did_of (b o : Nat) (pv tv x3 x4 : Value) (w : World) (d0 : w.cell? ⟨b, o, none⟩ = some (.int .u32 0)) (d1 : w.cell? ⟨b, o + 1, none⟩ = some (.int .i32 0))
    (c3 : w.cell? ⟨b, o + 3, none⟩ = some x3) (c4 : w.cell? ⟨b, o + 4, none⟩ = some x4) :
    Did b o pv tv w (((((w.setCell ⟨b, o + 1, none⟩ (.int .i32 1)).setCell ⟨b, o + 3, none⟩ pv).setCell ⟨b, o + 4, none⟩ tv).drew.drew.drew.setCell ⟨b, o, none⟩ (.int .u32 1)).setCell ⟨b, o + 1, none⟩ (.int .i32 0)) := by
  refine ⟨((((((((But.refl b w).setCell _ _).setCell _ _).setCell _ _).drew).drew).drew).setCell _ _).setCell _ _, ?_, ?_, ?_, ?_, ?_, ?_⟩
  · rw [World.cell?_setCell_other _ _ _ _ (by simp), World.cell?_setCell_same' _ _ _ ?_]
    rw [World.cell?_drew, World.cell?_drew, World.cell?_drew, World.cell?_setCell_other _ _ _ _ (by simp), World.cell?_setCell_other _ _ _ _ (by simp), World.cell?_setCell_other _ _ _ _ (by simp), d0]; rfl
  · rw [World.cell?_setCell_same' _ _ _ ?_]
    rw [World.cell?_setCell_other _ _ _ _ (by simp), World.cell?_drew, World.cell?_drew, World.cell?_drew, World.cell?_setCell_other _ _ _ _ (by simp), World.cell?_setCell_other _ _ _ _ (by simp), World.cell?_setCell_same' _ _ _ (by rw [d1]; rfl)]; rfl
  · rw [World.cell?_setCell_other _ _ _ _ (by simp), World.cell?_setCell_other _ _ _ _ (by simp), World.cell?_drew, World.cell?_drew, World.cell?_drew, World.cell?_setCell_other _ _ _ _ (by simp), World.cell?_setCell_same' _ _ _ ?_]
    rw [World.cell?_setCell_other _ _ _ _ (by simp), c3]; rfl
  · rw [World.cell?_setCell_other _ _ _ _ (by simp), World.cell?_setCell_other _ _ _ _ (by simp), World.cell?_drew, World.cell?_drew, World.cell?_drew, World.cell?_setCell_same' _ _ _ ?_]
    rw [World.cell?_setCell_other _ _ _ _ (by simp), World.cell?_setCell_other _ _ _ _ (by simp), c4]; rfl
  · intro j hj
    rw [World.cell?_setCell_other _ _ _ _ (by intro e; injection e; omega), World.cell?_setCell_other _ _ _ _ (by intro e; injection e; omega), World.cell?_drew, World.cell?_drew, World.cell?_drew, World.cell?_setCell_other _ _ _ _ (by intro e; injection e; omega), World.cell?_setCell_other _ _ _ _ (by intro e; injection e; omega), World.cell?_setCell_other _ _ _ _ (by intro e; injection e; omega)]
  · intro p; simp

theorem run_not (x : Bool) (w : World) : (Op.unary .not (.bool x)).run Try.prog w = .ok (.bool (!x)) w := rfl

set_option maxRecDepth 100000 in
set_option maxHeartbeats 1600000 in
/-- (*sync.Once).doSlow, not yet done and the lock free. -/
theorem slow_any (b o p0 p1 p2 seed n r : Nat) (x3 x4 : Value) (w : World) (ho : 2 ≤ o) (h0b : ¬ p0 = b) (h1b : ¬ p1 = b) (h2b : ¬ p2 = b) (hs : seed < 18446744073709551616) (hn0 : 1 ≤ n) (hn : n ≤ 1000) (hr : r < 10)
    (c0 : w.cell? ⟨p0, 0, none⟩ = some (.pointer (some ⟨b, 0, none⟩))) (c1 : w.cell? ⟨p1, 0, none⟩ = some (.int .i64 r)) (c2 : w.cell? ⟨p2, 0, none⟩ = some (.pointer (some ⟨b, o, none⟩)))
    (cs : w.cell? ⟨b, 0, none⟩ = some (.int .u64 seed)) (cn : w.cell? ⟨b, 1, none⟩ = some (.int .i64 n)) (d0 : w.cell? ⟨b, o, none⟩ = some (.int .u32 0)) (d1 : w.cell? ⟨b, o + 1, none⟩ = some (.int .i32 0))
    (c3 : w.cell? ⟨b, o + 3, none⟩ = some x3) (c4 : w.cell? ⟨b, o + 4, none⟩ = some x4)
    (z0 : w.frozen? ⟨b, o, none⟩ = false) (z1 : w.frozen? ⟨b, o + 1, none⟩ = false) (f3 : w.frozen? ⟨b, o + 3, none⟩ = false) (f4 : w.frozen? ⟨b, o + 4, none⟩ = false) :
    Calls Try.prog 70 #[.pointer (some ⟨b, o, none⟩), .func (.func 68) #[] #[.pointer (some ⟨p0, 0, none⟩), .pointer (some ⟨p1, 0, none⟩), .pointer (some ⟨p2, 0, none⟩)]] w fun e w' => e = .returned (.tuple #[]) ∧
      Did b o (.int .i64 (pivotN seed n r)) (.int .u64 (turnN seed r)) w w' := by
  have o0 : ∀ (p : Nat) (u : Value), ¬ p = b → (w.setCell ⟨b, o + 1, none⟩ u).cell? ⟨p, 0, none⟩ = w.cell? ⟨p, 0, none⟩ := fun p u h => World.cell?_setCell_other _ _ _ _ (fun e => h (by injection e with e1 _ _; exact e1.symm))
  have oj : ∀ (j : Nat) (u : Value), ¬ j = o + 1 → (w.setCell ⟨b, o + 1, none⟩ u).cell? ⟨b, j, none⟩ = w.cell? ⟨b, j, none⟩ := fun j u h => World.cell?_setCell_other _ _ _ _ (fun e => h (by injection e with _ e1 _; exact e1.symm))
  have HL := Lib.hid ((oj o (.int .i32 1) (by omega)).trans d0)
  have HD := Lib.hid (did_of b o (.int .i64 (pivotN seed n r)) (.int .u64 (turnN seed r)) x3 x4 w d0 d1 c3 c4)
  have hnot := run_not
  have HB := Lib.hid (body_any b o p0 p1 p2 seed n r x3 x4 (w.setCell ⟨b, o + 1, none⟩ (.int .i32 1)) ho h0b h1b h2b hs hn0 hn hr ((o0 _ _ h0b).trans c0) ((o0 _ _ h1b).trans c1) ((o0 _ _ h2b).trans c2)
    ((oj _ _ (by omega)).trans cs) ((oj _ _ (by omega)).trans cn) ((oj _ _ (by omega)).trans c3) ((oj _ _ (by omega)).trans c4) (by simpa using f3) (by simpa using f4))
  clear c0 c1 c2 cs cn c3 c4 f3 f4 o0 oj hs hr hn hn0
  go_enter_defers Try.func70, Try.ntmps70
  go_wp2_with (go_at_call 72; refine (lock_free ⟨b, o + 1, none⟩ _ (by go_simp) (by go_simp)).mono ?_; rintro e w' ⟨rfl, rfl⟩)
  refine (boolLoad ⟨b, o, none⟩ 0 false _ HL.out rfl).mono ?_
  rintro e w' ⟨rfl, rfl⟩
  go_wp2_with fail
  refine HB.out.mono ?_
  rintro e w' ⟨rfl, rfl⟩
  go_wp2_with fail
  refine leaves_cons (f := 74) (args := #[.pointer (some ⟨b, o, none⟩), .bool true]) (by simp) (by simp [go_sem]) ?_
  refine (store_deferred ⟨b, o, none⟩ (.int .u32 0) .returning _ ?_ (by simp [z0])).mono ?_
  · rw [World.cell?_drew, World.cell?_drew, World.cell?_setCell_other _ _ _ _ (by simp), World.cell?_setCell_other _ _ _ _ (by simp), World.cell?_setCell_other _ _ _ _ (by simp)]
    exact d0
  rintro e u' w'' ⟨rfl, rfl, rfl⟩
  refine leaves_cons (f := 73) (args := #[.pointer (some ⟨b, o + 1, none⟩)]) (by simp [settle]) (by simp [go_sem]) ?_
  refine (unlock_deferred ⟨b, o + 1, none⟩ _ _ ?_ (by simp [z1])).mono ?_
  · rw [World.cell?_setCell_other _ _ _ _ (by simp), World.cell?_drew, World.cell?_drew, World.cell?_drew, World.cell?_setCell_other _ _ _ _ (by simp), World.cell?_setCell_other _ _ _ _ (by simp)]
    exact World.cell?_setCell_same w _ _ d1
  rintro e u' w'' ⟨rfl, rfl, rfl⟩
  exact ⟨_, results_none rfl _ _ _, rfl, HD.out⟩

set_option maxRecDepth 100000 in
set_option maxHeartbeats 1600000 in
/-- (*sync.Once).Do, not yet done and the lock free. -/
theorem do_first (b o p0 p1 p2 seed n r : Nat) (x3 x4 : Value) (w : World) (ho : 2 ≤ o) (h0b : ¬ p0 = b) (h1b : ¬ p1 = b) (h2b : ¬ p2 = b) (hs : seed < 18446744073709551616) (hn0 : 1 ≤ n) (hn : n ≤ 1000) (hr : r < 10)
    (c0 : w.cell? ⟨p0, 0, none⟩ = some (.pointer (some ⟨b, 0, none⟩))) (c1 : w.cell? ⟨p1, 0, none⟩ = some (.int .i64 r)) (c2 : w.cell? ⟨p2, 0, none⟩ = some (.pointer (some ⟨b, o, none⟩)))
    (cs : w.cell? ⟨b, 0, none⟩ = some (.int .u64 seed)) (cn : w.cell? ⟨b, 1, none⟩ = some (.int .i64 n)) (d0 : w.cell? ⟨b, o, none⟩ = some (.int .u32 0)) (d1 : w.cell? ⟨b, o + 1, none⟩ = some (.int .i32 0))
    (c3 : w.cell? ⟨b, o + 3, none⟩ = some x3) (c4 : w.cell? ⟨b, o + 4, none⟩ = some x4)
    (z0 : w.frozen? ⟨b, o, none⟩ = false) (z1 : w.frozen? ⟨b, o + 1, none⟩ = false) (f3 : w.frozen? ⟨b, o + 3, none⟩ = false) (f4 : w.frozen? ⟨b, o + 4, none⟩ = false) :
    Calls Try.prog 67 #[.pointer (some ⟨b, o, none⟩), .func (.func 68) #[] #[.pointer (some ⟨p0, 0, none⟩), .pointer (some ⟨p1, 0, none⟩), .pointer (some ⟨p2, 0, none⟩)]] w fun e w' => e = .returned (.tuple #[]) ∧
      Did b o (.int .i64 (pivotN seed n r)) (.int .u64 (turnN seed r)) w w' := by
  have hnot := run_not
  have HS := Lib.hid (slow_any b o p0 p1 p2 seed n r x3 x4 w ho h0b h1b h2b hs hn0 hn hr c0 c1 c2 cs cn d0 d1 c3 c4 z0 z1 f3 f4)
  have HL := Lib.hid d0
  clear c0 c1 c2 cs cn c3 c4 f3 f4 z0 z1 d0 d1
  go_enter Try.func67, Try.ntmps67
  go_wp2_with fail
  refine (boolLoad ⟨b, o, none⟩ 0 false _ HL.out rfl).mono ?_
  rintro e w' ⟨rfl, rfl⟩
  go_wp2_with fail
  refine HS.out.mono ?_
  rintro e w' ⟨rfl, hd⟩
  have HD := Lib.hid hd
  clear hd
  go_wp2_with fail
  go_end0
  exact ⟨rfl, HD.out⟩

/-- (*sync.Once).Do, done already. -/
theorem do_done (a : Addr) (fv : Value) (w : World) (h0 : w.cell? a = some (.int .u32 1)) :
    Calls Try.prog 67 #[.pointer (some a), fv] w fun e w' => e = .returned (.tuple #[]) ∧ w = w' := by
  have hnot := run_not
  have HL := Lib.hid h0
  clear h0
  go_enter Try.func67, Try.ntmps67
  go_wp2_with fail
  refine (boolLoad a 1 true _ HL.out rfl).mono ?_
  rintro e w' ⟨rfl, rfl⟩
  go_wp2_with fail
  go_end0
  exact ⟨rfl, rfl⟩
end

section
open Go.ChangeShapes Go.WideShapes Go.ChangeAt Go.RowKit

/-! ### Rounds in memory -/
/-- The round at offset o of block b: its lock is free; it is not done, or done, and holds what round r takes. -/
def RoundAt (w : World) (b seed n r o : Nat) : Prop :=
  w.cell? ⟨b, o + 1, none⟩ = some (.int .i32 0) ∧
    ((w.cell? ⟨b, o, none⟩ = some (.int .u32 0) ∧ ∃ x y, w.cell? ⟨b, o + 3, none⟩ = some x ∧ w.cell? ⟨b, o + 4, none⟩ = some y) ∨
     (w.cell? ⟨b, o, none⟩ = some (.int .u32 1) ∧ w.cell? ⟨b, o + 3, none⟩ = some (.int .i64 (pivotN seed n r)) ∧ w.cell? ⟨b, o + 4, none⟩ = some (.int .u64 (turnN seed r))))
/-- Block b holds the rounds of seed and n, of which k places were asked for. -/
structure Rnds (b seed n k : Nat) (w : World) : Prop where
  lt : b < w.heap.size
  cseed : w.cell? ⟨b, 0, none⟩ = some (.int .u64 seed)
  cn : w.cell? ⟨b, 1, none⟩ = some (.int .i64 n)
  round : ∀ r, r < 10 → RoundAt w b seed n r (2 + r * 5)
  asked : w.cell? ⟨b, 52, none⟩ = some (.int .i64 k)
  froze : ∀ o, w.frozen? ⟨b, o, none⟩ = false
section
variable {b seed n k : Nat} {w w' : World}
theorem Rnds.kept (h : Rnds b seed n k w) (hk : Kept w w') : Rnds b seed n k w' := by
  have c : ∀ o, w'.cell? ⟨b, o, none⟩ = w.cell? ⟨b, o, none⟩ := fun o => hk.cell h.lt
  refine ⟨Nat.lt_of_lt_of_le h.lt hk.size_le, by rw [c]; exact h.cseed, by rw [c]; exact h.cn, fun r hr => ?_, by rw [c]; exact h.asked, fun o => by rw [hk.frozen (p := ⟨b, o, none⟩) h.lt]; exact h.froze o⟩
  have := h.round r hr
  unfold RoundAt at this ⊢
  simp only [c]
  exact this
theorem Rnds.did (h : Rnds b seed n k w) {r : Nat} (hr : r < 10) (d : Did b (2 + r * 5) (.int .i64 (pivotN seed n r)) (.int .u64 (turnN seed r)) w w') : Rnds b seed n k w' := by
  refine ⟨Nat.lt_of_lt_of_le h.lt d.but.size, by rw [d.rest 0 (by omega)]; exact h.cseed, by rw [d.rest 1 (by omega)]; exact h.cn, fun q hq => ?_, by rw [d.rest 52 (by omega)]; exact h.asked, fun o => by rw [d.froze]; exact h.froze o⟩
  by_cases e : q = r
  · subst e
    exact ⟨d.free, Or.inr ⟨d.done, d.pivot, d.turn⟩⟩
  · have := h.round q hq
    unfold RoundAt at this ⊢
    rw [d.rest (2 + q * 5 + 1) (by omega), d.rest (2 + q * 5) (by omega), d.rest (2 + q * 5 + 3) (by omega), d.rest (2 + q * 5 + 4) (by omega)]
    exact this
end

set_option maxRecDepth 100000 in
set_option maxHeartbeats 1600000 in
theorem round_any (b seed n k r : Nat) (w : World) (hs : seed < 18446744073709551616) (hn0 : 1 ≤ n) (hn : n ≤ 1000) (hr : r < 10) (H : Rnds b seed n k w) :
    Calls Try.prog 66 #[.pointer (some ⟨b, 0, none⟩), .int .i64 r] w fun e w' => e = .returned (.pointer (some ⟨b, 2 + r * 5, none⟩)) ∧
      Rnds b seed n k w' ∧ But b w w' ∧ w'.cell? ⟨b, 2 + r * 5 + 3, none⟩ = some (.int .i64 (pivotN seed n r)) ∧ w'.cell? ⟨b, 2 + r * 5 + 4, none⟩ = some (.int .u64 (turnN seed r)) := by
  have hmf : ∀ (fn : Fn) (first cap : Array Value) (w : World), (Instr.makeFunc fn first cap).run Try.prog w = .ok (.func fn first cap) w := fun _ _ _ _ => rfl
  have HR := Lib.hid H
  have hlt := H.lt
  clear H
  go_enter Try.func66, Try.ntmps66
  go_wp2_with fail
  go_region
  have K3 : Kept w (((w.alloc (.cells #[.pointer (some ⟨b, 0, none⟩)] 121)).alloc (.cells #[.int .i64 r] 3)).alloc (.cells #[.pointer (some ⟨b, 2 + r * 5, none⟩)] 123)).drew := ((((Kept.refl w).alloc _).alloc _).alloc _).drew
  have g0 : (((w.alloc (.cells #[.pointer (some ⟨b, 0, none⟩)] 121)).alloc (.cells #[.int .i64 r] 3)).alloc (.cells #[.pointer (some ⟨b, 2 + r * 5, none⟩)] 123)).drew.cell? ⟨w.heap.size, 0, none⟩ = some (.pointer (some ⟨b, 0, none⟩)) := by simp [go_sem]
  have g1 : (((w.alloc (.cells #[.pointer (some ⟨b, 0, none⟩)] 121)).alloc (.cells #[.int .i64 r] 3)).alloc (.cells #[.pointer (some ⟨b, 2 + r * 5, none⟩)] 123)).drew.cell? ⟨w.heap.size + 1, 0, none⟩ = some (.int .i64 r) := by simp [go_sem]
  have g2 : (((w.alloc (.cells #[.pointer (some ⟨b, 0, none⟩)] 121)).alloc (.cells #[.int .i64 r] 3)).alloc (.cells #[.pointer (some ⟨b, 2 + r * 5, none⟩)] 123)).drew.cell? ⟨w.heap.size + 1 + 1, 0, none⟩ = some (.pointer (some ⟨b, 2 + r * 5, none⟩)) := by simp [go_sem]
  have gz : w.heap.size + 1 + 1 < (((w.alloc (.cells #[.pointer (some ⟨b, 0, none⟩)] 121)).alloc (.cells #[.int .i64 r] 3)).alloc (.cells #[.pointer (some ⟨b, 2 + r * 5, none⟩)] 123)).drew.heap.size := by simp
  generalize (((w.alloc (.cells #[.pointer (some ⟨b, 0, none⟩)] 121)).alloc (.cells #[.int .i64 r] 3)).alloc (.cells #[.pointer (some ⟨b, 2 + r * 5, none⟩)] 123)).drew = W3 at *
  have HK := Lib.hid K3
  have HR3 := Lib.hid (HR.out.kept K3)
  generalize w.heap.size = z at *
  clear K3 HR
  obtain ⟨hfree, h⟩ := HR3.out.round r hr
  rcases h with ⟨hd, x, y, hx, hy⟩ | ⟨hd, hp, ht⟩
  · have HD := Lib.hid (do_first b (2 + r * 5) z (z + 1) (z + 1 + 1) seed n r x y W3 (by omega) (by omega) (by omega) (by omega) hs hn0 hn hr g0 g1 g2 HR3.out.cseed HR3.out.cn hd hfree hx hy (HR3.out.froze _) (HR3.out.froze _) (HR3.out.froze _) (HR3.out.froze _))
    clear hd hfree hx hy
    go_wp2_with fail
    refine HD.out.mono ?_
    rintro e W4 ⟨rfl, D⟩
    have c2 : W4.cell? ⟨z + 1 + 1, 0, none⟩ = some (.pointer (some ⟨b, 2 + r * 5, none⟩)) := by rw [D.but.cell (by simpa using gz) (by simp; omega)]; exact g2
    have HE := Lib.hid D
    clear D HD g0 g1 g2
    go_wp2_with fail
    go_ret
    exact ⟨rfl, HR3.out.did hr HE.out, (But.of_kept HK.out).trans HE.out.but, HE.out.pivot, HE.out.turn⟩
  · have HD := Lib.hid hd
    have HP := Lib.hid hp
    have HT := Lib.hid ht
    clear hd hp ht hfree
    go_wp2_with fail
    refine (do_done _ _ _ HD.out).mono ?_
    rintro e W4 ⟨rfl, rfl⟩
    go_wp2_with fail
    go_ret
    exact ⟨rfl, HR3.out, But.of_kept HK.out, HP.out, HT.out⟩

theorem mate_int {p n i : Nat} (hi : i < n) : ((p : Int) + (n : Int) - (i : Int)).tmod (n : Int) = ((mateN p n i : Nat) : Int) := by
  unfold mateN
  rw [show (p : Int) + (n : Int) - (i : Int) = ((p + n - i : Nat) : Int) by omega, Int.ofNat_tmod]

set_option maxRecDepth 100000 in
set_option maxHeartbeats 1600000 in
theorem take_any (b seed n k r i : Nat) (w : World) (hs : seed < 18446744073709551616) (hn0 : 1 ≤ n) (hn : n ≤ 1000) (hr : r < 10) (hi : i < n) (H : Rnds b seed n k w) :
    Calls Try.prog 65 #[.pointer (some ⟨b, 0, none⟩), .int .i64 r, .int .i64 i] w fun e w' => e = .returned (.int .i64 (roundN seed n r i)) ∧ Rnds b seed n k w' ∧ But b w w' := by
  have HR := Lib.hid H
  clear H
  have hnz : ¬ n = 0 := by omega
  go_enter Try.func65, Try.ntmps65
  go_wp2_with fail
  refine (round_any b seed n k r w hs hn0 hn hr HR.out).mono ?_
  rintro e W1 ⟨rfl, hR, hB, hp, ht⟩
  have HN := Lib.hid hR
  have HB := Lib.hid hB
  have cn := hR.cn
  have hpl : pivotN seed n r < n := pivotN_lt (by omega)
  have htl := turnN_lt seed r
  have HQ := Lib.hid (show roundN seed n r i = pickN (turnN seed r) i (mateN (pivotN seed n r) n i) from rfl)
  clear hR hB HR
  generalize pivotN seed n r = p at *
  generalize turnN seed r = t at *
  have hm := mate_int (p := p) hi
  have hml : mateN p n i < n := mateN_lt (by omega)
  generalize mateN p n i = m at *
  by_cases hlt : i < m
  · have HX := Lib.hid (show max i m = m by omega)
    have HS := Lib.hid (show pickN t i m = if stepN t m % 2 = 0 then i else m by unfold pickN; rw [HX.out])
    go_wp2_with fail
    go_quiet (fail)
    go_wp2_with fail
    refine (step_any t m htl (by omega) _).mono ?_
    rintro e w' ⟨rfl, rfl⟩
    generalize stepN t m = s at *
    by_cases c : s % 2 = 0
    · have c1 : (s : Int).tmod 2 = 0 := by rw [show (2 : Int) = ((2 : Nat) : Int) from rfl, ← Int.ofNat_tmod, c]; rfl
      have HC := Lib.hid c
      clear c
      go_wp2_with fail
      go_ret
      exact ⟨by rw [HQ.out, HS.out, if_pos HC.out]; rfl, HN.out.kept ((Kept.refl _).drewN _), HB.out.trans (But.of_kept ((Kept.refl _).drewN _))⟩
    · have c1 : (s : Int).tmod 2 = 1 := by rw [show (2 : Int) = ((2 : Nat) : Int) from rfl, ← Int.ofNat_tmod, show s % 2 = 1 by omega]; rfl
      have HC := Lib.hid c
      clear c
      go_wp2_with fail
      go_ret
      exact ⟨by rw [HQ.out, HS.out, if_neg HC.out]; rfl, HN.out.kept ((Kept.refl _).drewN _), HB.out.trans (But.of_kept ((Kept.refl _).drewN _))⟩
  · have HX := Lib.hid (show max i m = i by omega)
    have HS := Lib.hid (show pickN t i m = if stepN t i % 2 = 0 then i else m by unfold pickN; rw [HX.out])
    go_wp2_with fail
    go_quiet (fail)
    go_wp2_with fail
    refine (step_any t i htl (by omega) _).mono ?_
    rintro e w' ⟨rfl, rfl⟩
    generalize stepN t i = s at *
    by_cases c : s % 2 = 0
    · have c1 : (s : Int).tmod 2 = 0 := by rw [show (2 : Int) = ((2 : Nat) : Int) from rfl, ← Int.ofNat_tmod, c]; rfl
      have HC := Lib.hid c
      clear c
      go_wp2_with fail
      go_ret
      exact ⟨by rw [HQ.out, HS.out, if_pos HC.out]; rfl, HN.out.kept ((Kept.refl _).drewN _), HB.out.trans (But.of_kept ((Kept.refl _).drewN _))⟩
    · have c1 : (s : Int).tmod 2 = 1 := by rw [show (2 : Int) = ((2 : Nat) : Int) from rfl, ← Int.ofNat_tmod, show s % 2 = 1 by omega]; rfl
      have HC := Lib.hid c
      clear c
      go_wp2_with fail
      go_ret
      exact ⟨by rw [HQ.out, HS.out, if_neg HC.out]; rfl, HN.out.kept ((Kept.refl _).drewN _), HB.out.trans (But.of_kept ((Kept.refl _).drewN _))⟩
end

section
open Go.ChangeShapes Go.WideShapes Go.ChangeAt Go.RowKit

set_option maxHeartbeats 800000 in
theorem forth_any (b seed n k i : Nat) (w : World) (hs : seed < 18446744073709551616) (hn0 : 1 ≤ n) (hn : n ≤ 1000) (hi : i < n) (H : Rnds b seed n k w) :
    Calls Try.prog 63 #[.pointer (some ⟨b, 0, none⟩), .int .i64 i] w fun e w' => e = .returned (.int .i64 (atN seed n i)) ∧ Rnds b seed n k w' ∧ But b w w' := by
  have HR := Lib.hid H
  clear H
  go_enter Try.func63, Try.ntmps63
  go_wp2_with fail
  go_loopw [1, 6] (fun x c w' => ∃ j : Nat, j ≤ 10 ∧ c = .int .i64 j ∧ x = .int .i64 (forthN seed n j i) ∧ Rnds b seed n k w' ∧ But b w w') (fun _ c _ => 10 - (intOf c).toNat)
  case atStart => exact ⟨0, by omega, rfl, rfl, HR.out, But.refl _ _⟩
  case round =>
    obtain ⟨j, hj, rfl, rfl, hR, hB⟩ := hrel
    have HN := Lib.hid hR
    have HB := Lib.hid hB
    clear hR hB
    by_cases hlt : j < 10
    · have HS := Lib.hid (show roundN seed n j (forthN seed n j i) = forthN seed n (j + 1) i from rfl)
      have hx := forthN_lt (seed := seed) hi j
      generalize forthN seed n j i = x at *
      go_wp2_with fail
      refine (take_any b seed n k j x _ hs hn0 hn hlt hx HN.out).mono ?_
      rintro e W1 ⟨rfl, hR, hB⟩
      rw [HS.out]
      have HN1 := Lib.hid hR
      have HB1 := Lib.hid (HB.out.trans hB)
      clear hR hB
      go_wp2_with fail
      go_roundw
      case rel => exact ⟨j + 1, by omega, by go_num, rfl, HN1.out, HB1.out⟩
      case measure => simp [intOf]; omega
    · have hj10 : j = 10 := by omega
      subst hj10
      have HE := Lib.hid (show forthN seed n 10 i = atN seed n i from rfl)
      go_wp2_with fail
      go_ret
      exact ⟨by rw [← HE.out]; rfl, HN.out, HB.out⟩

/-! ### Which places there are -/
def sizeN (n : Int) : Bool := decide (1 ≤ n ∧ n ≤ 1000)
theorem isSize_any (n : Int) (w : World) :
    Calls Try.prog 64 #[.int .i64 n] w fun e w' => e = .returned (.bool (sizeN n)) ∧ w = w' := by
  by_cases h1 : 1 ≤ n
  · by_cases h2 : n ≤ 1000
    · have HD := Lib.hid (show sizeN n = true from decide_eq_true ⟨h1, h2⟩)
      go_enter Try.func64, Try.ntmps64
      go_wp2
      go_ret
      exact ⟨by rw [HD.out]; first | rfl | (show Ending.returned (.bool (decide (n ≤ 1000))) = _; rw [decide_eq_false (by omega)]) | (show Ending.returned (.bool (decide (i < n))) = _; rw [decide_eq_false (by omega)]), rfl⟩
    · have HD := Lib.hid (show sizeN n = false from decide_eq_false (by omega))
      go_enter Try.func64, Try.ntmps64
      go_wp2
      go_ret
      exact ⟨by rw [HD.out]; first | rfl | (show Ending.returned (.bool (decide (n ≤ 1000))) = _; rw [decide_eq_false (by omega)]) | (show Ending.returned (.bool (decide (i < n))) = _; rw [decide_eq_false (by omega)]), rfl⟩
  · have HD := Lib.hid (show sizeN n = false from decide_eq_false (by omega))
    go_enter Try.func64, Try.ntmps64
    go_wp2
    go_ret
    exact ⟨by rw [HD.out]; first | rfl | (show Ending.returned (.bool (decide (n ≤ 1000))) = _; rw [decide_eq_false (by omega)]) | (show Ending.returned (.bool (decide (i < n))) = _; rw [decide_eq_false (by omega)]), rfl⟩

def mayN (n i : Int) : Bool := decide ((1 ≤ n ∧ n ≤ 1000) ∧ 0 ≤ i ∧ i < n)
set_option maxHeartbeats 800000 in
theorem isPlace_any (n i : Int) (w : World) :
    Calls Try.prog 62 #[.int .i64 n, .int .i64 i] w fun e w' => e = .returned (.bool (mayN n i)) ∧ w = w' := by
  by_cases h1 : 1 ≤ n ∧ n ≤ 1000
  · have H1 := Lib.hid (show sizeN n = true from decide_eq_true h1)
    by_cases h2 : 0 ≤ i
    · by_cases h3 : i < n
      · have HD := Lib.hid (show mayN n i = true from decide_eq_true ⟨h1, h2, h3⟩)
        go_enter Try.func62, Try.ntmps62
        go_wp2_with fail
        refine (isSize_any _ _).mono ?_
        rintro e w' ⟨rfl, rfl⟩
        rw [H1.out]
        go_wp2_with fail
        go_ret
        exact ⟨by rw [HD.out]; first | rfl | (show Ending.returned (.bool (decide (n ≤ 1000))) = _; rw [decide_eq_false (by omega)]) | (show Ending.returned (.bool (decide (i < n))) = _; rw [decide_eq_false (by omega)]), rfl⟩
      · have HD := Lib.hid (show mayN n i = false from decide_eq_false (by omega))
        go_enter Try.func62, Try.ntmps62
        go_wp2_with fail
        refine (isSize_any _ _).mono ?_
        rintro e w' ⟨rfl, rfl⟩
        rw [H1.out]
        go_wp2_with fail
        go_ret
        exact ⟨by rw [HD.out]; first | rfl | (show Ending.returned (.bool (decide (n ≤ 1000))) = _; rw [decide_eq_false (by omega)]) | (show Ending.returned (.bool (decide (i < n))) = _; rw [decide_eq_false (by omega)]), rfl⟩
    · have HD := Lib.hid (show mayN n i = false from decide_eq_false (by omega))
      go_enter Try.func62, Try.ntmps62
      go_wp2_with fail
      refine (isSize_any _ _).mono ?_
      rintro e w' ⟨rfl, rfl⟩
      rw [H1.out]
      go_wp2_with fail
      go_ret
      exact ⟨by rw [HD.out]; first | rfl | (show Ending.returned (.bool (decide (n ≤ 1000))) = _; rw [decide_eq_false (by omega)]) | (show Ending.returned (.bool (decide (i < n))) = _; rw [decide_eq_false (by omega)]), rfl⟩
  · have H1 := Lib.hid (show sizeN n = false from decide_eq_false h1)
    have HD := Lib.hid (show mayN n i = false from decide_eq_false (by omega))
    clear h1
    go_enter Try.func62, Try.ntmps62
    go_wp2_with fail
    refine (isSize_any _ _).mono ?_
    rintro e w' ⟨rfl, rfl⟩
    rw [H1.out]
    go_wp2_with fail
    go_ret
    exact ⟨by rw [HD.out]; first | rfl | (show Ending.returned (.bool (decide (n ≤ 1000))) = _; rw [decide_eq_false (by omega)]) | (show Ending.returned (.bool (decide (i < n))) = _; rw [decide_eq_false (by omega)]), rfl⟩
end

section
open Go.ChangeShapes Go.WideShapes Go.ChangeAt Go.RowKit

/-- The cells of one round that nobody asked for yet. -/
def noRound : List Value := [.int .u32 0, .int .i32 0, .int .u32 0, .int .i64 0, .int .u64 0]
def noRounds : List Value := noRound ++ noRound ++ noRound ++ noRound ++ noRound ++ noRound ++ noRound ++ noRound ++ noRound ++ noRound
def freshC (seed n : Nat) : Array Value := (([.int .u64 seed, .int .i64 n] : List Value) ++ noRounds ++ ([.int .i64 0] : List Value)).toArray
theorem freshC_size (seed n : Nat) : (freshC seed n).size = 53 := by kernel_rfl
theorem freshC_one (seed n : Nat) : (freshC seed n).all (·.oneCell') = true := by
  simp [freshC, noRounds, noRound, Value.oneCell']
theorem freshC_built (seed n : Nat) : Try.prog.built 118 [(0, .int .u64 seed), (1, .int .i64 n)] = some (freshC seed n) := by kernel_rfl
theorem freshC_info : (Try.prog.info? 118).map (·.size) = some 53 := by kernel_rfl

section
variable {P : Program} {ops : Array Oper} {rest : List Oper} {o : Oper} {a : Act} {w : World} {Q : Exit → Act → World → Prop}
theorem wpList_build_eq (hg : o.guard = none) (t : TypeId) (parts : Array (Nat × Operand)) (ho : o.op = .build t parts) (cells : Array Value)
    (hf : P.built t (parts.map fun (i, x) => (i, a.eval x)).toList = some cells) (h : wpList P ops Q rest (a.put o.dst (.agg cells)) w) : wpList P ops Q (o :: rest) a w := by
  refine wpList_build hg t parts ho (by rw [hf]; rfl) ?_
  rw [hf]; exact h
theorem wpList_store_new (hgd : o.guard = none) (t : TypeId) (x y : Operand) (ho : o.op = .store t x y) (c c' : Array Value) (hx : a.eval x = .pointer (some ⟨w.heap.size, 0, none⟩)) (hy : a.eval y = .agg c')
    (hi : (P.info? t).map (·.size) = some c'.size) (hold : c.size = c'.size) (h1 : c'.all (·.oneCell') = true)
    (h : wpList P ops Q rest (a.put o.dst undef) (w.alloc (.cells c' t))) : wpList P ops Q (o :: rest) a (w.alloc (.cells c t)) := by
  refine wpList_store_row hgd t x y ho w.heap.size c' hx hy t c (heap_alloc_last w _) hi hold h1 ?_
  rw [World.setRow_alloc_new]; exact h
end

theorem freshC_cell (seed n j : Nat) (w : World) (t : TypeId) : (w.alloc (.cells (freshC seed n) t)).cell? ⟨w.heap.size, j, none⟩ = (freshC seed n)[j]? := by
  rw [cell_of_row _ _ j (freshC seed n) t (0, 0) (heap_alloc_last w _)]
theorem freshC_froze (seed n j : Nat) (w : World) (t : TypeId) : (w.alloc (.cells (freshC seed n) t)).frozen? ⟨w.heap.size, j, none⟩ = false := by simp
theorem fresh_rounds (seed n : Nat) : ∀ r, r < 10 → (freshC seed n)[2 + r * 5]? = some (.int .u32 0) ∧ (freshC seed n)[2 + r * 5 + 1]? = some (.int .i32 0) ∧ (freshC seed n)[2 + r * 5 + 3]? = some (.int .i64 0) ∧ (freshC seed n)[2 + r * 5 + 4]? = some (.int .u64 0) := by
  intro r hr
  have h : r = 0 ∨ r = 1 ∨ r = 2 ∨ r = 3 ∨ r = 4 ∨ r = 5 ∨ r = 6 ∨ r = 7 ∨ r = 8 ∨ r = 9 := by omega
  rcases h with rfl | rfl | rfl | rfl | rfl | rfl | rfl | rfl | rfl | rfl <;> exact ⟨by kernel_rfl, by kernel_rfl, by kernel_rfl, by kernel_rfl⟩
theorem fresh_rnds (seed n : Nat) (w : World) (t : TypeId) : Rnds w.heap.size seed n 0 (w.alloc (.cells (freshC seed n) t)) := by
  refine ⟨by simp, by rw [freshC_cell]; kernel_rfl, by rw [freshC_cell]; kernel_rfl, fun r hr => ?_, by rw [freshC_cell]; kernel_rfl, fun o => freshC_froze _ _ _ _ _⟩
  obtain ⟨h0, h1, h3, h4⟩ := fresh_rounds seed n r hr
  exact ⟨by rw [freshC_cell]; exact h1, Or.inl ⟨by rw [freshC_cell]; exact h0, _, _, by rw [freshC_cell]; exact h3, by rw [freshC_cell]; exact h4⟩⟩
end

section
open Go.ChangeShapes Go.WideShapes Go.ChangeAt Go.RowKit

set_option maxRecDepth 100000 in
set_option maxHeartbeats 1600000 in
theorem at_yes (seed n i : Nat) (w : World) (hs : seed < 18446744073709551616) (hn0 : 1 ≤ n) (hn : n ≤ 1000) (hi : i < n) :
    Calls Try.prog 60 #[.int .u64 seed, .int .i64 n, .int .i64 i] w fun e w' => e = .returned (.int .i64 (atN seed n i)) ∧ Kept w w' := by
  have HD := Lib.hid (show mayN n i = true from decide_eq_true (by omega))
  go_enter Try.func60, Try.ntmps60
  go_wp2_with fail
  refine (isPlace_any _ _ _).mono ?_
  rintro e w' ⟨rfl, rfl⟩
  rw [HD.out]
  go_wp2_with (first
    | refine wpList_build_eq rfl _ _ rfl (freshC seed n) (freshC_built seed n) ?_
    | refine wpList_store_new rfl _ _ _ rfl _ (freshC seed n) rfl rfl freshC_info rfl (freshC_one seed n) ?_)
  have HR := Lib.hid (fresh_rnds seed n w 118)
  have HK : Kept w (w.alloc (.cells (freshC seed n) 118)) := (Kept.refl w).alloc _
  generalize w.alloc (.cells (freshC seed n) 118) = W1 at *
  refine (forth_any w.heap.size seed n 0 i W1 hs hn0 hn hi HR.out).mono ?_
  rintro e W2 ⟨rfl, hR, hB⟩
  have HB := Lib.hid (hB.kept HK (Nat.le_refl _))
  clear hR hB HR HK
  go_wp2_with fail
  go_ret
  exact ⟨rfl, HB.out⟩

set_option maxHeartbeats 800000 in
theorem at_no (seed : Nat) (n i : Int) (w : World) (h : mayN n i = false) :
    Calls Try.prog 60 #[.int .u64 seed, .int .i64 n, .int .i64 i] w fun e w' => e = .returned (.int .i64 (-1)) ∧ Kept w w' := by
  have HD := Lib.hid h
  clear h
  go_enter Try.func60, Try.ntmps60
  go_wp2_with fail
  refine (isPlace_any _ _ _).mono ?_
  rintro e w' ⟨rfl, rfl⟩
  rw [HD.out]
  go_wp2_with fail
  go_ret
  exact ⟨rfl, Kept.refl _⟩

/-! ### Whatever is asked -/
def atI (seed : Nat) (n i : Int) : Int := if mayN n i = true then ((atN seed n.toNat i.toNat : Nat) : Int) else -1
theorem mayN_yes {n i : Int} (h : mayN n i = true) : ∃ m j : Nat, n = m ∧ i = j ∧ 1 ≤ m ∧ m ≤ 1000 ∧ j < m := by
  have h' := of_decide_eq_true h
  exact ⟨n.toNat, i.toNat, by omega, by omega, by omega, by omega, by omega⟩
theorem mayN_nat {n i : Nat} (hn0 : 1 ≤ n) (hn : n ≤ 1000) (hi : i < n) : mayN n i = true := decide_eq_true (by omega)
theorem mayN_no {n i : Int} (h : ¬ ((1 ≤ n ∧ n ≤ 1000) ∧ 0 ≤ i ∧ i < n)) : mayN n i = false := decide_eq_false h
theorem atI_yes {seed n i : Nat} (hn0 : 1 ≤ n) (hn : n ≤ 1000) (hi : i < n) : atI seed n i = ((atN seed n i : Nat) : Int) := by unfold atI; rw [if_pos (mayN_nat hn0 hn hi)]; rfl
theorem atI_no {seed : Nat} {n i : Int} (h : mayN n i = false) : atI seed n i = -1 := by unfold atI; rw [if_neg (by rw [h]; decide)]
theorem at_any (seed : Nat) (n i : Int) (w : World) (hs : seed < 18446744073709551616) :
    Calls Try.prog 60 #[.int .u64 seed, .int .i64 n, .int .i64 i] w fun e w' => e = .returned (.int .i64 (atI seed n i)) ∧ Kept w w' := by
  cases h : mayN n i with
  | true =>
    obtain ⟨m, j, rfl, rfl, h1, h2, h3⟩ := mayN_yes h
    rw [atI_yes h1 h2 h3]
    exact at_yes seed m j w hs h1 h2 h3
  | false => rw [atI_no h]; exact at_no seed n i w h
end

end Go.Proofs.Ytacdiicnfoejoaa
