/-
  The argument of layer 10's laws, opened: a list of items.
-/
import Derived.Deep.Slices
import Derived.Test.YtabmdilhfiembaaTreeG
import Derived.Test.YtabmdilhfiembaaItemRow
namespace Go.Proofs.Ytabmdilhfiembaa
set_option maxRecDepth 100000
set_option linter.unusedVariables false
set_option linter.unusedSimpArgs false
set_option linter.unusedVariables false
set_option linter.unusedSectionVars false
open Go.ChangeShapes Go.WideShapes Go.ChangeAt Go.RowKit

theorem Try.cItem : Try.prog.cellsOf 50 = 7 := by kernel_rfl
section
variable {H : Type} {enc : TypeId × Value → H} {W : World} {base : Nat} {sp : Nat → Bool} {held : Bool} {r : Reach} {b0 : Nat} {v : Value} {d : DataW H} {ps : List MemPlace}
theorem read_item {fuel : Nat} {l : List Value} {x : DataW H × List MemPlace} (h : DataW.trod enc Try.prog W base sp held fuel 50 l = some x) : ∃ t : It, l = itCells t := by
  obtain ⟨xs, m, _, _, hl, hn, hi⟩ := DataW.trod_struct Try.underlying50 h
  rw [Try.cItem] at hl
  match l, hl with
  | [c0, c1, c2, c3, c4, c5, c6], _ =>
    have hn' : xs.length = 6 := hn
    have h0 : DataW.trod enc Try.prog W base sp held m 29 (([c0, c1, c2, c3, c4, c5, c6].drop 0).take (Try.prog.cellsOf 29)) = xs[0]? := hi 0 _ rfl
    have h1 : DataW.trod enc Try.prog W base sp held m 3 (([c0, c1, c2, c3, c4, c5, c6].drop 2).take (Try.prog.cellsOf 3)) = xs[1]? := hi 1 _ rfl
    have h2 : DataW.trod enc Try.prog W base sp held m 3 (([c0, c1, c2, c3, c4, c5, c6].drop 3).take (Try.prog.cellsOf 3)) = xs[2]? := hi 2 _ rfl
    have h3 : DataW.trod enc Try.prog W base sp held m 3 (([c0, c1, c2, c3, c4, c5, c6].drop 4).take (Try.prog.cellsOf 3)) = xs[3]? := hi 3 _ rfl
    have h4 : DataW.trod enc Try.prog W base sp held m 3 (([c0, c1, c2, c3, c4, c5, c6].drop 5).take (Try.prog.cellsOf 3)) = xs[4]? := hi 4 _ rfl
    have h5 : DataW.trod enc Try.prog W base sp held m 3 (([c0, c1, c2, c3, c4, c5, c6].drop 6).take (Try.prog.cellsOf 3)) = xs[5]? := hi 5 _ rfl
    rw [List.getElem?_eq_getElem (by omega)] at h0 h1 h2 h3 h4 h5
    rw [Try.cI] at h1 h2 h3 h4 h5
    rw [Try.cID] at h0
    obtain ⟨p, rfl, rfl, _, _⟩ := read_id (c0 := c0) (c1 := c1) h0
    obtain ⟨a1, rfl, _⟩ := read_int (c := c2) h1
    obtain ⟨a2, rfl, _⟩ := read_int (c := c3) h2
    obtain ⟨a3, rfl, _⟩ := read_int (c := c4) h3
    obtain ⟨a4, rfl, _⟩ := read_int (c := c5) h4
    obtain ⟨a5, rfl, _⟩ := read_int (c := c6) h5
    exact ⟨⟨p, a1, a2, a3, a4, a5⟩, rfl⟩
theorem itemCells_inv {l : List It} {j : Nat} {u : Value} (h : (itemCells l)[j]? = some u) : ∃ (i k : Nat) (hi : i < l.length), k < 7 ∧ j = i * 7 + k ∧ (itCells l[i])[k]? = some u := by
  have hj := (List.getElem?_eq_some_iff.1 h).1
  rw [itemCells_length] at hj
  have hi : j / 7 < l.length := by omega
  have hk : j % 7 < (itCells l[j / 7]).length := by show j % 7 < 7; omega
  refine ⟨j / 7, j % 7, hi, by omega, by omega, ?_⟩
  have e := itemCells_at hi (List.getElem?_eq_getElem hk)
  rw [show j / 7 * 7 + j % 7 = j by omega, h] at e
  rw [List.getElem?_eq_getElem hk]
  exact e.symm
theorem read_items {fuel : Nat} {cs : List Value} {x : DataW H × List MemPlace} (h : DataW.trod enc Try.prog W base sp held fuel 36 cs = some x) :
    ∃ (A : Option Addr) (c : Nat) (l : List It), cs = [.slice A l.length c] ∧ l.length ≤ maxLen ∧ l.length ≤ c ∧ CellsAt W W.heap.size A (itemCells l) := by
  rcases Go.Deep.open_slice Try.underlying36 h with ⟨hcs, _⟩ | ⟨a, len, cap, m, n, D, Pl, hcs, hb, hl, hm, hmm, _, hi⟩
  · exact ⟨none, 0, [], hcs, Nat.zero_le _, Nat.zero_le _, CellsAt.nil⟩
  · have hlm : len ≤ m := by rw [hmm]; split <;> omega
    have hall : ∀ i, ∃ b : It, i < len → (∀ k u, (itCells b)[k]? = some u → W.cell? (a.add (i * 7 + k)) = some u) := fun i => by
      by_cases q : i < len
      · obtain ⟨cs', hc, ht⟩ := hi i (by omega)
        obtain ⟨b, rfl⟩ := read_item ht
        obtain ⟨_, hcl, hat⟩ := World.cells?_some hc
        refine ⟨b, fun _ => fun k u hu => ?_⟩
        have hk : k < 7 := (List.getElem?_eq_some_iff.1 hu).1
        have := hat k (by rw [Try.cItem]; exact hk)
        rw [Try.cItem, Go.Deep.add_add] at this
        rw [this]
        exact hu
      · exact ⟨⟨(0, 0), 0, 0, 0, 0, 0⟩, fun q' => absurd q' q⟩
    let F : Nat → It := fun i => (hall i).choose
    have hF : ∀ i, i < len → (∀ k u, (itCells (F i))[k]? = some u → W.cell? (a.add (i * 7 + k)) = some u) := fun i => (hall i).choose_spec
    have hlen : ((List.range len).map F).length = len := by simp
    refine ⟨some a, cap, (List.range len).map F, by rw [hlen]; exact hcs, by rw [hlen]; omega, by rw [hlen]; exact hl, ?_⟩
    intro j u hu
    obtain ⟨i, k, hil, hk, rfl, e⟩ := itemCells_inv hu
    rw [hlen] at hil
    have hc := hF i hil k u (by simpa using e)
    have hb := World.block_lt_of_cell? W _ hc
    rw [block_add] at hb
    exact ⟨a, rfl, hb, hc⟩
theorem open_items (hval : Value.okWide Try.prog W r b0 36 v) (hd : DataW.Trod enc Try.prog W base sp held 36 v d ps) :
    ∃ (A : Option Addr) (c : Nat) (l : List It), v = .slice A l.length c ∧ l.length ≤ maxLen ∧ l.length ≤ c ∧ CellsAt W W.heap.size A (itemCells l) := by
  obtain ⟨A, n, c, rfl⟩ := okWide_slice Try.underlying36 hval
  obtain ⟨fuel, hf⟩ := hd
  obtain ⟨A', c', l, hcs, h1, h2, h3⟩ := read_items hf
  simp [Value.cells] at hcs
  obtain ⟨rfl, rfl, rfl⟩ := hcs
  exact ⟨_, _, l, rfl, h1, h2, h3⟩
end

end Go.Proofs.Ytabmdilhfiembaa
