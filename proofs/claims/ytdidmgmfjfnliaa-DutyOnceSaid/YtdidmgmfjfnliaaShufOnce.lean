/-
  What a round of a shuffle takes is worked out once: the closure, sync.Once's Do for the first time and afterwards.
-/
import Derived.Test.YtdidmgmfjfnliaaShufMath
import Derived.Test.YtdidmgmfjfnliaaMixStep
import Derived.Test.YtdidmgmfjfnliaaOnce
namespace Go.Proofs.Ytdidmgmfjfnliaa
open Go.ChangeShapes Go.WideShapes Go.ChangeAt Go.RowKit

set_option maxRecDepth 100000 in
set_option maxHeartbeats 1600000 in
theorem body_any (b o p0 p1 p2 seed n r : Nat) (x3 x4 : Value) (w : World) (ho : 2 ≤ o) (h0b : ¬ p0 = b) (h1b : ¬ p1 = b) (h2b : ¬ p2 = b) (hs : seed < 18446744073709551616) (hn0 : 1 ≤ n) (hn : n ≤ 1000) (hr : r < 10)
    (c0 : w.cell? ⟨p0, 0, none⟩ = some (.pointer (some ⟨b, 0, none⟩))) (c1 : w.cell? ⟨p1, 0, none⟩ = some (.int .i64 r)) (c2 : w.cell? ⟨p2, 0, none⟩ = some (.pointer (some ⟨b, o, none⟩)))
    (cs : w.cell? ⟨b, 0, none⟩ = some (.int .u64 seed)) (cn : w.cell? ⟨b, 1, none⟩ = some (.int .i64 n)) (c3 : w.cell? ⟨b, o + 3, none⟩ = some x3) (c4 : w.cell? ⟨b, o + 4, none⟩ = some x4)
    (f3 : w.frozen? ⟨b, o + 3, none⟩ = false) (f4 : w.frozen? ⟨b, o + 4, none⟩ = false) :
    Calls Try.prog 49 #[.pointer (some ⟨p0, 0, none⟩), .pointer (some ⟨p1, 0, none⟩), .pointer (some ⟨p2, 0, none⟩)] w fun e w' => e = .returned (.tuple #[]) ∧
      w' = ((w.setCell ⟨b, o + 3, none⟩ (.int .i64 (pivotN seed n r))).drew.setCell ⟨b, o + 4, none⟩ (.int .u64 (turnN seed r))).drew := by
  have hwr : IntKind.u64.wrap (r : Int) = ((r : Nat) : Int) := by rw [IntKind.wrap_u64]; omega
  have hwn : IntKind.u64.wrap (n : Int) = ((n : Nat) : Int) := by rw [IntKind.wrap_u64]; omega
  have hnz : ¬ n = 0 := by omega
  have htm : ((stepN seed r : Nat) : Int).tmod (n : Int) = ((pivotN seed n r : Nat) : Int) := by unfold pivotN; rw [Int.ofNat_tmod]
  have hpl : pivotN seed n r < n := pivotN_lt (by omega)
  have hwp : IntKind.i64.wrap ((pivotN seed n r : Nat) : Int) = ((pivotN seed n r : Nat) : Int) := by rw [IntKind.wrap_i64]; omega
  have hwt : IntKind.u64.wrap (1000 + (r : Int)) = ((1000 + r : Nat) : Int) := by rw [IntKind.wrap_u64]; omega
  go_enter Try.func49, Try.ntmps49
  go_wp2_with fail
  refine wp_region_still_tail 17 (by kernel_rfl) (by kernel_rfl) ?_
  change wpStill _ _ w.drew _ _ _
  simp only [List.take_succ_cons, List.take_zero, List.drop_succ_cons, List.drop_zero]
  repeat still_step
  still_call (still_of (step_any seed r hs (by omega) _))
  repeat still_step
  refine wpStill_nil ?_
  change wpList _ _ _ _ _ w.drew
  go_wp2_with fail
  have g0 : (w.setCell ⟨b, o + 3, none⟩ (.int .i64 (pivotN seed n r))).drew.cell? ⟨p0, 0, none⟩ = some (.pointer (some ⟨b, 0, none⟩)) := by rw [World.cell?_drew, World.cell?_setCell_other _ _ _ _ (fun e => h0b (by injection e with e1 _ _; exact e1.symm))]; exact c0
  have g1 : (w.setCell ⟨b, o + 3, none⟩ (.int .i64 (pivotN seed n r))).drew.cell? ⟨p1, 0, none⟩ = some (.int .i64 r) := by rw [World.cell?_drew, World.cell?_setCell_other _ _ _ _ (fun e => h1b (by injection e with e1 _ _; exact e1.symm))]; exact c1
  have g2 : (w.setCell ⟨b, o + 3, none⟩ (.int .i64 (pivotN seed n r))).drew.cell? ⟨p2, 0, none⟩ = some (.pointer (some ⟨b, o, none⟩)) := by rw [World.cell?_drew, World.cell?_setCell_other _ _ _ _ (fun e => h2b (by injection e with e1 _ _; exact e1.symm))]; exact c2
  have gs : (w.setCell ⟨b, o + 3, none⟩ (.int .i64 (pivotN seed n r))).drew.cell? ⟨b, 0, none⟩ = some (.int .u64 seed) := by rw [World.cell?_drew, World.cell?_setCell_other _ _ _ _ (by simp)]; exact cs
  have g4 : (w.setCell ⟨b, o + 3, none⟩ (.int .i64 (pivotN seed n r))).drew.cell? ⟨b, o + 4, none⟩ = some x4 := by rw [World.cell?_drew, World.cell?_setCell_other _ _ _ _ (by simp)]; exact c4
  have k4 : (w.setCell ⟨b, o + 3, none⟩ (.int .i64 (pivotN seed n r))).drew.frozen? ⟨b, o + 4, none⟩ = false := by simpa using f4
  have HT := Lib.hid (show stepN seed (1000 + r) = turnN seed r from rfl)
  clear c0 c1 c2 cs cn c3 c4 f3 f4 htm hwp hpl hwn
  generalize hW : (w.setCell ⟨b, o + 3, none⟩ (.int .i64 (pivotN seed n r))).drew = W1 at *
  have HW := Lib.hid hW
  clear hW
  refine wp_region_still_tail 11 (by kernel_rfl) (by kernel_rfl) ?_
  change wpStill _ _ W1.drew _ _ _
  simp only [List.take_succ_cons, List.take_zero, List.drop_succ_cons, List.drop_zero]
  repeat still_step
  still_call (still_of (step_any seed (1000 + r) hs (by omega) _))
  rw [HT.out]
  repeat still_step
  refine wpStill_nil ?_
  change wpList _ _ _ _ _ W1.drew
  go_wp2_with fail
  go_end0
  exact ⟨rfl, by rw [HW.out]⟩

/-! ### Worlds that differ in one block -/
/-- All but block b lies in w' as it lay in w. -/
structure But (b : Nat) (w w' : World) : Prop where
  os : w'.os = w.os
  tape : w'.tape = w.tape
  output : w'.output = w.output
  size : w.heap.size ≤ w'.heap.size
  block : ∀ k, k < w.heap.size → ¬ k = b → w'.heap[k]? = w.heap[k]?
section
variable {b : Nat} {a w w' : World}
theorem But.refl (b : Nat) (w : World) : But b w w := ⟨rfl, rfl, rfl, Nat.le_refl _, fun _ _ _ => rfl⟩
theorem But.trans (h : But b a w) (k : But b w w') : But b a w' :=
  ⟨k.os.trans h.os, k.tape.trans h.tape, k.output.trans h.output, Nat.le_trans h.size k.size, fun i hi hb => (k.block i (Nat.lt_of_lt_of_le hi h.size) hb).trans (h.block i hi hb)⟩
theorem But.drew (h : But b a w) : But b a w.drew := ⟨h.os, h.tape, h.output, h.size, h.block⟩
theorem But.setCell (h : But b a w) (o : Nat) (u : Value) : But b a (w.setCell ⟨b, o, none⟩ u) :=
  h.trans ⟨rfl, rfl, rfl, by simp [World.setCell], fun k _ hb => Below.heap_setCell _ _ _ _ hb⟩
theorem But.of_kept (h : Kept a w) : But b a w := ⟨h.os, h.tape, h.output, h.size, fun k hk _ => h.block k hk⟩
theorem But.cell (h : But b w w') {p : Addr} (hp : p.block < w.heap.size) (hb : ¬ p.block = b) : w'.cell? p = w.cell? p := World.cell?_of_block (w := w) (h.block p.block hp hb)
theorem But.frozen (h : But b w w') {p : Addr} (hp : p.block < w.heap.size) (hb : ¬ p.block = b) : w'.frozen? p = w.frozen? p := World.frozen?_of_block (w := w) (h.block p.block hp hb)
theorem But.kept (h : But b w w') (k : Kept a w) (hb : a.heap.size ≤ b) : Kept a w' :=
  ⟨h.os.trans k.os, h.tape.trans k.tape, h.output.trans k.output, Nat.le_trans k.size h.size, fun i hi => (h.block i (Nat.lt_of_lt_of_le hi k.size) (by omega)).trans (k.block i hi)⟩
end

/-- What Do leaves, the first time: the round at o of block b is done. -/
structure Did (b o : Nat) (pv tv : Value) (w w' : World) : Prop where
  but : But b w w'
  done : w'.cell? ⟨b, o, none⟩ = some (.int .u32 1)
  free : w'.cell? ⟨b, o + 1, none⟩ = some (.int .i32 0)
  pivot : w'.cell? ⟨b, o + 3, none⟩ = some pv
  turn : w'.cell? ⟨b, o + 4, none⟩ = some tv
  rest : ∀ j, j < o ∨ o + 5 ≤ j → w'.cell? ⟨b, j, none⟩ = w.cell? ⟨b, j, none⟩
  froze : ∀ p, w'.frozen? p = w.frozen? p
theorem did_of (b o : Nat) (pv tv x3 x4 : Value) (w : World) (d0 : w.cell? ⟨b, o, none⟩ = some (.int .u32 0)) (d1 : w.cell? ⟨b, o + 1, none⟩ = some (.int .i32 0))
    (c3 : w.cell? ⟨b, o + 3, none⟩ = some x3) (c4 : w.cell? ⟨b, o + 4, none⟩ = some x4) :
    Did b o pv tv w (((((w.setCell ⟨b, o + 1, none⟩ (.int .i32 1)).setCell ⟨b, o + 3, none⟩ pv).setCell ⟨b, o + 4, none⟩ tv).drew.drew.drew.setCell ⟨b, o, none⟩ (.int .u32 1)).setCell ⟨b, o + 1, none⟩ (.int .i32 0)) := by
  refine ⟨((((((((But.refl b w).setCell _ _).setCell _ _).setCell _ _).drew).drew).drew).setCell _ _).setCell _ _, ?_, ?_, ?_, ?_, ?_, ?_⟩
  · rw [World.cell?_setCell_other _ _ _ _ (by simp), World.cell?_setCell_same' _ _ _ ?_]
    rw [World.cell?_drew, World.cell?_drew, World.cell?_drew, World.cell?_setCell_other _ _ _ _ (by simp), World.cell?_setCell_other _ _ _ _ (by simp), World.cell?_setCell_other _ _ _ _ (by simp), d0]; rfl
  · rw [World.cell?_setCell_same' _ _ _ ?_]
    rw [World.cell?_setCell_other _ _ _ _ (by simp), World.cell?_drew, World.cell?_drew, World.cell?_drew, World.cell?_setCell_other _ _ _ _ (by simp), World.cell?_setCell_other _ _ _ _ (by simp), World.cell?_setCell_same' _ _ _ (by rw [d1]; rfl)]; rfl
  · rw [World.cell?_setCell_other _ _ _ _ (by simp), World.cell?_setCell_other _ _ _ _ (by simp), World.cell?_drew, World.cell?_drew, World.cell?_drew, World.cell?_setCell_other _ _ _ _ (by simp), World.cell?_setCell_same' _ _ _ ?_]
    rw [World.cell?_setCell_other _ _ _ _ (by simp), c3]; rfl
  · rw [World.cell?_setCell_other _ _ _ _ (by simp), World.cell?_setCell_other _ _ _ _ (by simp), World.cell?_drew, World.cell?_drew, World.cell?_drew, World.cell?_setCell_same' _ _ _ ?_]
    rw [World.cell?_setCell_other _ _ _ _ (by simp), World.cell?_setCell_other _ _ _ _ (by simp), c4]; rfl
  · intro j hj
    rw [World.cell?_setCell_other _ _ _ _ (by intro e; injection e; omega), World.cell?_setCell_other _ _ _ _ (by intro e; injection e; omega), World.cell?_drew, World.cell?_drew, World.cell?_drew, World.cell?_setCell_other _ _ _ _ (by intro e; injection e; omega), World.cell?_setCell_other _ _ _ _ (by intro e; injection e; omega), World.cell?_setCell_other _ _ _ _ (by intro e; injection e; omega)]
  · intro p; simp

theorem run_not (x : Bool) (w : World) : (Op.unary .not (.bool x)).run Try.prog w = .ok (.bool (!x)) w := rfl

set_option maxRecDepth 100000 in
set_option maxHeartbeats 1600000 in
/-- (*sync.Once).doSlow, not yet done and the lock free. -/
theorem slow_any (b o p0 p1 p2 seed n r : Nat) (x3 x4 : Value) (w : World) (ho : 2 ≤ o) (h0b : ¬ p0 = b) (h1b : ¬ p1 = b) (h2b : ¬ p2 = b) (hs : seed < 18446744073709551616) (hn0 : 1 ≤ n) (hn : n ≤ 1000) (hr : r < 10)
    (c0 : w.cell? ⟨p0, 0, none⟩ = some (.pointer (some ⟨b, 0, none⟩))) (c1 : w.cell? ⟨p1, 0, none⟩ = some (.int .i64 r)) (c2 : w.cell? ⟨p2, 0, none⟩ = some (.pointer (some ⟨b, o, none⟩)))
    (cs : w.cell? ⟨b, 0, none⟩ = some (.int .u64 seed)) (cn : w.cell? ⟨b, 1, none⟩ = some (.int .i64 n)) (d0 : w.cell? ⟨b, o, none⟩ = some (.int .u32 0)) (d1 : w.cell? ⟨b, o + 1, none⟩ = some (.int .i32 0))
    (c3 : w.cell? ⟨b, o + 3, none⟩ = some x3) (c4 : w.cell? ⟨b, o + 4, none⟩ = some x4)
    (z0 : w.frozen? ⟨b, o, none⟩ = false) (z1 : w.frozen? ⟨b, o + 1, none⟩ = false) (f3 : w.frozen? ⟨b, o + 3, none⟩ = false) (f4 : w.frozen? ⟨b, o + 4, none⟩ = false) :
    Calls Try.prog 51 #[.pointer (some ⟨b, o, none⟩), .func (.func 49) #[] #[.pointer (some ⟨p0, 0, none⟩), .pointer (some ⟨p1, 0, none⟩), .pointer (some ⟨p2, 0, none⟩)]] w fun e w' => e = .returned (.tuple #[]) ∧
      Did b o (.int .i64 (pivotN seed n r)) (.int .u64 (turnN seed r)) w w' := by
  have o0 : ∀ (p : Nat) (u : Value), ¬ p = b → (w.setCell ⟨b, o + 1, none⟩ u).cell? ⟨p, 0, none⟩ = w.cell? ⟨p, 0, none⟩ := fun p u h => World.cell?_setCell_other _ _ _ _ (fun e => h (by injection e with e1 _ _; exact e1.symm))
  have oj : ∀ (j : Nat) (u : Value), ¬ j = o + 1 → (w.setCell ⟨b, o + 1, none⟩ u).cell? ⟨b, j, none⟩ = w.cell? ⟨b, j, none⟩ := fun j u h => World.cell?_setCell_other _ _ _ _ (fun e => h (by injection e with _ e1 _; exact e1.symm))
  have HL := Lib.hid ((oj o (.int .i32 1) (by omega)).trans d0)
  have HD := Lib.hid (did_of b o (.int .i64 (pivotN seed n r)) (.int .u64 (turnN seed r)) x3 x4 w d0 d1 c3 c4)
  have hnot := run_not
  have HB := Lib.hid (body_any b o p0 p1 p2 seed n r x3 x4 (w.setCell ⟨b, o + 1, none⟩ (.int .i32 1)) ho h0b h1b h2b hs hn0 hn hr ((o0 _ _ h0b).trans c0) ((o0 _ _ h1b).trans c1) ((o0 _ _ h2b).trans c2)
    ((oj _ _ (by omega)).trans cs) ((oj _ _ (by omega)).trans cn) ((oj _ _ (by omega)).trans c3) ((oj _ _ (by omega)).trans c4) (by simpa using f3) (by simpa using f4))
  clear c0 c1 c2 cs cn c3 c4 f3 f4 o0 oj hs hr hn hn0
  go_enter_defers Try.func51, Try.ntmps51
  go_wp2_with (go_at_call 53; refine (lock_free ⟨b, o + 1, none⟩ _ (by go_simp) (by go_simp)).mono ?_; rintro e w' ⟨rfl, rfl⟩)
  refine (boolLoad ⟨b, o, none⟩ 0 false _ HL.out rfl).mono ?_
  rintro e w' ⟨rfl, rfl⟩
  go_wp2_with fail
  refine HB.out.mono ?_
  rintro e w' ⟨rfl, rfl⟩
  go_wp2_with fail
  refine leaves_cons (f := 55) (args := #[.pointer (some ⟨b, o, none⟩), .bool true]) (by simp) (by simp [go_sem]) ?_
  refine (store_deferred ⟨b, o, none⟩ (.int .u32 0) .returning _ ?_ (by simp [z0])).mono ?_
  · rw [World.cell?_drew, World.cell?_drew, World.cell?_setCell_other _ _ _ _ (by simp), World.cell?_setCell_other _ _ _ _ (by simp), World.cell?_setCell_other _ _ _ _ (by simp)]
    exact d0
  rintro e u' w'' ⟨rfl, rfl, rfl⟩
  refine leaves_cons (f := 54) (args := #[.pointer (some ⟨b, o + 1, none⟩)]) (by simp [settle]) (by simp [go_sem]) ?_
  refine (unlock_deferred ⟨b, o + 1, none⟩ _ _ ?_ (by simp [z1])).mono ?_
  · rw [World.cell?_setCell_other _ _ _ _ (by simp), World.cell?_drew, World.cell?_drew, World.cell?_drew, World.cell?_setCell_other _ _ _ _ (by simp), World.cell?_setCell_other _ _ _ _ (by simp)]
    exact World.cell?_setCell_same w _ _ d1
  rintro e u' w'' ⟨rfl, rfl, rfl⟩
  exact ⟨_, results_none rfl _ _ _, rfl, HD.out⟩

set_option maxRecDepth 100000 in
set_option maxHeartbeats 1600000 in
/-- (*sync.Once).Do, not yet done and the lock free. -/
theorem do_first (b o p0 p1 p2 seed n r : Nat) (x3 x4 : Value) (w : World) (ho : 2 ≤ o) (h0b : ¬ p0 = b) (h1b : ¬ p1 = b) (h2b : ¬ p2 = b) (hs : seed < 18446744073709551616) (hn0 : 1 ≤ n) (hn : n ≤ 1000) (hr : r < 10)
    (c0 : w.cell? ⟨p0, 0, none⟩ = some (.pointer (some ⟨b, 0, none⟩))) (c1 : w.cell? ⟨p1, 0, none⟩ = some (.int .i64 r)) (c2 : w.cell? ⟨p2, 0, none⟩ = some (.pointer (some ⟨b, o, none⟩)))
    (cs : w.cell? ⟨b, 0, none⟩ = some (.int .u64 seed)) (cn : w.cell? ⟨b, 1, none⟩ = some (.int .i64 n)) (d0 : w.cell? ⟨b, o, none⟩ = some (.int .u32 0)) (d1 : w.cell? ⟨b, o + 1, none⟩ = some (.int .i32 0))
    (c3 : w.cell? ⟨b, o + 3, none⟩ = some x3) (c4 : w.cell? ⟨b, o + 4, none⟩ = some x4)
    (z0 : w.frozen? ⟨b, o, none⟩ = false) (z1 : w.frozen? ⟨b, o + 1, none⟩ = false) (f3 : w.frozen? ⟨b, o + 3, none⟩ = false) (f4 : w.frozen? ⟨b, o + 4, none⟩ = false) :
    Calls Try.prog 48 #[.pointer (some ⟨b, o, none⟩), .func (.func 49) #[] #[.pointer (some ⟨p0, 0, none⟩), .pointer (some ⟨p1, 0, none⟩), .pointer (some ⟨p2, 0, none⟩)]] w fun e w' => e = .returned (.tuple #[]) ∧
      Did b o (.int .i64 (pivotN seed n r)) (.int .u64 (turnN seed r)) w w' := by
  have hnot := run_not
  have HS := Lib.hid (slow_any b o p0 p1 p2 seed n r x3 x4 w ho h0b h1b h2b hs hn0 hn hr c0 c1 c2 cs cn d0 d1 c3 c4 z0 z1 f3 f4)
  have HL := Lib.hid d0
  clear c0 c1 c2 cs cn c3 c4 f3 f4 z0 z1 d0 d1
  go_enter Try.func48, Try.ntmps48
  go_wp2_with fail
  refine (boolLoad ⟨b, o, none⟩ 0 false _ HL.out rfl).mono ?_
  rintro e w' ⟨rfl, rfl⟩
  go_wp2_with fail
  refine HS.out.mono ?_
  rintro e w' ⟨rfl, hd⟩
  have HD := Lib.hid hd
  clear hd
  go_wp2_with fail
  go_end0
  exact ⟨rfl, HD.out⟩

/-- (*sync.Once).Do, done already. -/
theorem do_done (a : Addr) (fv : Value) (w : World) (h0 : w.cell? a = some (.int .u32 1)) :
    Calls Try.prog 48 #[.pointer (some a), fv] w fun e w' => e = .returned (.tuple #[]) ∧ w = w' := by
  have hnot := run_not
  have HL := Lib.hid h0
  clear h0
  go_enter Try.func48, Try.ntmps48
  go_wp2_with fail
  refine (boolLoad a 1 true _ HL.out rfl).mono ?_
  rintro e w' ⟨rfl, rfl⟩
  go_wp2_with fail
  go_end0
  exact ⟨rfl, rfl⟩

end Go.Proofs.Ytdidmgmfjfnliaa
