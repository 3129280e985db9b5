/-
  A view that comes in, opened: its blocks and its votes; its blocks' numbers are numbers.
-/
import Derived.Test.YtacdiicnfoejoaaViewOpen
import Derived.Test.YtacdiicnfoejoaaViewKeys
namespace Go.Proofs.Ytacdiicnfoejoaa
set_option maxRecDepth 100000
set_option linter.unusedVariables false
set_option linter.unusedSimpArgs false
open Go.ChangeShapes Go.WideShapes Go.ChangeAt Go.RowKit

section
variable {H : Type} {enc : TypeId × Value → H} {W : World} {base : Nat} {sp : Nat → Bool} {held : Bool} {r : Reach} {b0 : Nat} {v : Value} {d : DataW H} {ps : List MemPlace}

theorem read_block64 {fuel : Nat} {l : List Value} {x : DataW H × List MemPlace} (h : DataW.trod enc Try.prog W base sp held fuel 42 l = some x) : ∃ b : Bk, l = bkCells b ∧ WfB b ∧ Wf64B b := by
  obtain ⟨xs, m, _, _, hl, hn, hi⟩ := DataW.trod_struct Try.underlying42 h
  rw [Try.cBlock] at hl
  match l, hl with
  | [c0, c1, c2, c3, c4], _ =>
    have hn' : xs.length = 4 := hn
    have h0 : DataW.trod enc Try.prog W base sp held m 3 (([c0, c1, c2, c3, c4].drop 0).take (Try.prog.cellsOf 3)) = xs[0]? := hi 0 _ rfl
    have h1 : DataW.trod enc Try.prog W base sp held m 3 (([c0, c1, c2, c3, c4].drop 1).take (Try.prog.cellsOf 3)) = xs[1]? := hi 1 _ rfl
    have h2 : DataW.trod enc Try.prog W base sp held m 39 (([c0, c1, c2, c3, c4].drop 2).take (Try.prog.cellsOf 39)) = xs[2]? := hi 2 _ rfl
    have h3 : DataW.trod enc Try.prog W base sp held m 23 (([c0, c1, c2, c3, c4].drop 4).take (Try.prog.cellsOf 23)) = xs[3]? := hi 3 _ rfl
    rw [List.getElem?_eq_getElem (by omega)] at h0 h1 h2 h3
    rw [Try.cI] at h0 h1
    rw [Try.cID] at h2
    rw [Try.cU] at h3
    obtain ⟨a, rfl, ha0, ha1⟩ := read_int (c := c0) h0
    obtain ⟨b, rfl, hb0, hb1⟩ := read_int (c := c1) h1
    obtain ⟨p, rfl, rfl, hp, hq⟩ := read_id (c0 := c2) (c1 := c3) h2
    obtain ⟨t, rfl, ht⟩ := read_u64 (c := c4) h3
    exact ⟨⟨a, b, p, t⟩, rfl, ⟨⟨hp, hq⟩, ht⟩, ⟨ha0, ha1⟩, hb0, hb1⟩
theorem read_blocks64 {fuel : Nat} {cs : List Value} {x : DataW H × List MemPlace} (h : DataW.trod enc Try.prog W base sp held fuel 26 cs = some x) :
    ∃ (A : Option Addr) (c : Nat) (l : List Bk), cs = [.slice A l.length c] ∧ l.length ≤ maxLen ∧ l.length ≤ c ∧ (WfL l ∧ Wf64L l) ∧ CellsAt W W.heap.size A (blockCells l) := by
  rcases Go.Deep.open_slice Try.underlying26 h with ⟨hcs, _⟩ | ⟨a, len, cap, m, n, D, Pl, hcs, hb, hl, hm, hmm, _, hi⟩
  · exact ⟨none, 0, [], hcs, Nat.zero_le _, Nat.zero_le _, ⟨(fun _ h => by cases h), (fun _ h => by cases h)⟩, CellsAt.nil⟩
  · have hlm : len ≤ m := by rw [hmm]; split <;> omega
    have hall : ∀ i, ∃ b : Bk, i < len → (∀ k u, (bkCells b)[k]? = some u → W.cell? (a.add (i * 5 + k)) = some u) ∧ WfB b ∧ Wf64B b := fun i => by
      by_cases q : i < len
      · obtain ⟨cs', hc, ht⟩ := hi i (by omega)
        obtain ⟨b, rfl, hb⟩ := read_block64 ht
        obtain ⟨_, hcl, hat⟩ := World.cells?_some hc
        refine ⟨b, fun _ => ⟨fun k u hu => ?_, hb⟩⟩
        have hk : k < 5 := (List.getElem?_eq_some_iff.1 hu).1
        have := hat k (by rw [Try.cBlock]; exact hk)
        rw [Try.cBlock, Go.Deep.add_add] at this
        rw [this]
        exact hu
      · exact ⟨⟨0, 0, (0, 0), 0⟩, fun q' => absurd q' q⟩
    let F : Nat → Bk := fun i => (hall i).choose
    have hF : ∀ i, i < len → (∀ k u, (bkCells (F i))[k]? = some u → W.cell? (a.add (i * 5 + k)) = some u) ∧ WfB (F i) ∧ Wf64B (F i) := fun i => (hall i).choose_spec
    have hlen : ((List.range len).map F).length = len := by simp
    refine ⟨some a, cap, (List.range len).map F, by rw [hlen]; exact hcs, by rw [hlen]; omega, by rw [hlen]; exact hl, ?_, ?_⟩
    · refine ⟨fun b hb => ?_, fun b hb => ?_⟩
      · obtain ⟨i, hi, rfl⟩ := List.mem_map.1 hb
        exact (hF i (List.mem_range.1 hi)).2.1
      · obtain ⟨i, hi, rfl⟩ := List.mem_map.1 hb
        exact (hF i (List.mem_range.1 hi)).2.2
    · intro j u hu
      obtain ⟨i, k, hil, hk, rfl, e⟩ := blockCells_inv hu
      rw [hlen] at hil
      have hc := (hF i hil).1 k u (by simpa using e)
      have hb := World.block_lt_of_cell? W _ hc
      rw [block_add] at hb
      exact ⟨a, rfl, hb, hc⟩
theorem open_view64 (hval : Value.okWide Try.prog W r b0 29 v) (hd : DataW.Trod enc Try.prog W base sp held 29 v d ps) :
    ∃ (A : Option Addr) (c : Nat) (l : List Bk) (B : Option Addr) (e : Nat) (u : List Vt), v = .agg #[.slice A l.length c, .slice B u.length e] ∧ l.length ≤ maxLen ∧ l.length ≤ c ∧ (WfL l ∧ Wf64L l) ∧ CellsAt W W.heap.size A (blockCells l) ∧ u.length ≤ maxLen ∧ u.length ≤ e ∧ WfVs u ∧ CellsAt W W.heap.size B (votesCells u) := by
  simp only [Value.okWide, Try.underlying29] at hval
  obtain ⟨cs, rfl, _, _⟩ := hval
  obtain ⟨fuel, hf⟩ := hd
  generalize hcs : (Value.agg cs).cells.toList = q at hf
  obtain ⟨xs, m, _, _, hl, hn, hi⟩ := DataW.trod_struct Try.underlying29 hf
  rw [Try.cView] at hl
  match q, hl with
  | [c0, c1], _ =>
    have hn' : xs.length = 2 := hn
    have h0 : DataW.trod enc Try.prog W base sp held m 26 (([c0, c1].drop 0).take (Try.prog.cellsOf 26)) = xs[0]? := hi 0 _ rfl
    have h1 : DataW.trod enc Try.prog W base sp held m 27 (([c0, c1].drop 1).take (Try.prog.cellsOf 27)) = xs[1]? := hi 1 _ rfl
    rw [List.getElem?_eq_getElem (by omega)] at h0 h1
    rw [Try.cBlocks] at h0
    rw [Try.cVotes] at h1
    obtain ⟨A, c, l, e0, p1, p2, p3, p4⟩ := read_blocks64 (cs := [c0]) h0
    obtain ⟨B, e, u, e1, r1, r2, r3, r4⟩ := read_votes (cs := [c1]) h1
    obtain rfl : c0 = .slice A l.length c := by simpa using e0
    obtain rfl : c1 = .slice B u.length e := by simpa using e1
    refine ⟨A, c, l, B, e, u, ?_, p1, p2, p3, p4, r1, r2, r3, r4⟩
    simp only [Value.cells] at hcs
    rw [← Array.toArray_toList (xs := cs), hcs]
end

end Go.Proofs.Ytacdiicnfoejoaa
