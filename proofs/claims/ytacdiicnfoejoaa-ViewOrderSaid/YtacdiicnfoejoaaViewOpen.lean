/-
  A view that comes in, opened: its blocks and its votes.
-/
import Derived.Test.YtacdiicnfoejoaaTreeG
import Derived.Test.YtacdiicnfoejoaaVoteG
namespace Go.Proofs.Ytacdiicnfoejoaa
set_option maxRecDepth 100000
set_option linter.unusedVariables false
set_option linter.unusedSimpArgs false
open Go.ChangeShapes Go.WideShapes Go.ChangeAt Go.RowKit

section
variable {H : Type} {enc : TypeId × Value → H} {W : World} {base : Nat} {sp : Nat → Bool} {held : Bool} {r : Reach} {b0 : Nat} {v : Value} {d : DataW H} {ps : List MemPlace}

theorem Try.cView : Try.prog.cellsOf 29 = 2 := by kernel_rfl
theorem Try.cBlocks : Try.prog.cellsOf 26 = 1 := by kernel_rfl
theorem Try.cVotes : Try.prog.cellsOf 27 = 1 := by kernel_rfl
theorem open_view (hval : Value.okWide Try.prog W r b0 29 v) (hd : DataW.Trod enc Try.prog W base sp held 29 v d ps) :
    ∃ (A : Option Addr) (c : Nat) (l : List Bk) (B : Option Addr) (e : Nat) (u : List Vt), v = .agg #[.slice A l.length c, .slice B u.length e] ∧ l.length ≤ maxLen ∧ l.length ≤ c ∧ WfL l ∧ CellsAt W W.heap.size A (blockCells l) ∧ u.length ≤ maxLen ∧ u.length ≤ e ∧ WfVs u ∧ CellsAt W W.heap.size B (votesCells u) := by
  simp only [Value.okWide, Try.underlying29] at hval
  obtain ⟨cs, rfl, _, _⟩ := hval
  obtain ⟨fuel, hf⟩ := hd
  generalize hcs : (Value.agg cs).cells.toList = q at hf
  obtain ⟨xs, m, _, _, hl, hn, hi⟩ := DataW.trod_struct Try.underlying29 hf
  rw [Try.cView] at hl
  match q, hl with
  | [c0, c1], _ =>
    have hn' : xs.length = 2 := hn
    have h0 : DataW.trod enc Try.prog W base sp held m 26 (([c0, c1].drop 0).take (Try.prog.cellsOf 26)) = xs[0]? := hi 0 _ rfl
    have h1 : DataW.trod enc Try.prog W base sp held m 27 (([c0, c1].drop 1).take (Try.prog.cellsOf 27)) = xs[1]? := hi 1 _ rfl
    rw [List.getElem?_eq_getElem (by omega)] at h0 h1
    rw [Try.cBlocks] at h0
    rw [Try.cVotes] at h1
    obtain ⟨A, c, l, e0, p1, p2, p3, p4⟩ := read_blocks (cs := [c0]) h0
    obtain ⟨B, e, u, e1, r1, r2, r3, r4⟩ := read_votes (cs := [c1]) h1
    obtain rfl : c0 = .slice A l.length c := by simpa using e0
    obtain rfl : c1 = .slice B u.length e := by simpa using e1
    refine ⟨A, c, l, B, e, u, ?_, p1, p2, p3, p4, r1, r2, r3, r4⟩
    simp only [Value.cells] at hcs
    rw [← Array.toArray_toList (xs := cs), hcs]
end

end Go.Proofs.Ytacdiicnfoejoaa
