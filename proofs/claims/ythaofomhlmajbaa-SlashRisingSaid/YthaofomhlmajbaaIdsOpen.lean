/-
  A list of ids that comes in, opened.
-/
import Derived.Deep.Slices
import Derived.Test.YthaofomhlmajbaaTreeG
import Derived.Test.YthaofomhlmajbaaGround
namespace Go.Proofs.Ythaofomhlmajbaa
set_option maxRecDepth 100000
set_option linter.unusedVariables false
set_option linter.unusedSimpArgs false
open Go.ChangeShapes Go.WideShapes Go.ChangeAt Go.RowKit

section
variable {H : Type} {enc : TypeId × Value → H} {W : World} {base : Nat} {sp : Nat → Bool} {held : Bool} {r : Reach} {b0 : Nat} {v : Value} {d : DataW H} {ps : List MemPlace}

theorem idsCells_inv {l : List Id2} {j : Nat} {u : Value} (h : (idsCells l)[j]? = some u) : ∃ (i k : Nat) (hi : i < l.length), k < 2 ∧ j = i * 2 + k ∧ (idCells l[i])[k]? = some u := by
  have hj := (List.getElem?_eq_some_iff.1 h).1
  rw [idsCells_length] at hj
  have hi : j / 2 < l.length := by omega
  have hk : j % 2 < (idCells l[j / 2]).length := by show j % 2 < 2; omega
  refine ⟨j / 2, j % 2, hi, by omega, by omega, ?_⟩
  have e := idsCells_at hi (List.getElem?_eq_getElem hk)
  rw [show j / 2 * 2 + j % 2 = j by omega, h] at e
  rw [List.getElem?_eq_getElem hk]
  exact e.symm
theorem read_ids {fuel : Nat} {cs : List Value} {x : DataW H × List MemPlace} (h : DataW.trod enc Try.prog W base sp held fuel 44 cs = some x) :
    ∃ (A : Option Addr) (c : Nat) (l : List Id2), cs = [.slice A l.length c] ∧ l.length ≤ maxLen ∧ (∀ y ∈ l, WfI y) ∧ CellsAt W W.heap.size A (idsCells l) := by
  rcases Go.Deep.open_slice Try.underlying44 h with ⟨hcs, _⟩ | ⟨a, len, cap, m, n, D, Pl, hcs, hb, hl, hm, hmm, _, hi⟩
  · exact ⟨none, 0, [], hcs, Nat.zero_le _, (fun _ h => by cases h), CellsAt.nil⟩
  · have hlm : len ≤ m := by rw [hmm]; split <;> omega
    have hall : ∀ i, ∃ b : Id2, i < len → (∀ k u, (idCells b)[k]? = some u → W.cell? (a.add (i * 2 + k)) = some u) ∧ WfI b := fun i => by
      by_cases q : i < len
      · obtain ⟨cs', hc, ht⟩ := hi i (by omega)
        obtain ⟨_, hcl, hat⟩ := World.cells?_some hc
        rw [Try.cID] at hcl hat
        match cs', hcl with
        | [c0, c1], _ =>
          obtain ⟨b, rfl, rfl, h1, h2⟩ := read_id (c0 := c0) (c1 := c1) ht
          refine ⟨b, fun _ => ⟨fun k u hu => ?_, h1, h2⟩⟩
          have hk : k < 2 := (List.getElem?_eq_some_iff.1 hu).1
          have := hat k hk
          rw [Go.Deep.add_add] at this
          rw [this]
          exact hu
      · exact ⟨(0, 0), fun q' => absurd q' q⟩
    let F : Nat → Id2 := fun i => (hall i).choose
    have hF : ∀ i, i < len → (∀ k u, (idCells (F i))[k]? = some u → W.cell? (a.add (i * 2 + k)) = some u) ∧ WfI (F i) := fun i => (hall i).choose_spec
    have hlen : ((List.range len).map F).length = len := by simp
    refine ⟨some a, cap, (List.range len).map F, by rw [hlen]; exact hcs, by rw [hlen]; omega, ?_, ?_⟩
    · intro b hb
      obtain ⟨i, hi, rfl⟩ := List.mem_map.1 hb
      exact (hF i (List.mem_range.1 hi)).2
    · intro j u hu
      obtain ⟨i, k, hil, hk, rfl, e⟩ := idsCells_inv hu
      rw [hlen] at hil
      have hc := (hF i hil).1 k u (by simpa using e)
      have hb := World.block_lt_of_cell? W _ hc
      rw [block_add] at hb
      exact ⟨a, rfl, hb, hc⟩
theorem open_ids (hval : Value.okWide Try.prog W r b0 44 v) (hd : DataW.Trod enc Try.prog W base sp held 44 v d ps) :
    ∃ (A : Option Addr) (c : Nat) (l : List Id2), v = .slice A l.length c ∧ l.length ≤ maxLen ∧ (∀ y ∈ l, WfI y) ∧ CellsAt W W.heap.size A (idsCells l) := by
  obtain ⟨A, n, c, rfl⟩ := okWide_slice Try.underlying44 hval
  obtain ⟨fuel, hf⟩ := hd
  obtain ⟨A', c', l, hcs, h1, h2, h3⟩ := read_ids hf
  simp [Value.cells] at hcs
  obtain ⟨rfl, rfl, rfl⟩ := hcs
  exact ⟨_, _, l, rfl, h1, h2, h3⟩
end

end Go.Proofs.Ythaofomhlmajbaa
