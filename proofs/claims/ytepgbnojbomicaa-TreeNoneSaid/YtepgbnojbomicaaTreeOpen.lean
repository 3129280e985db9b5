/-
  The arguments of layer 6's laws, opened: a block, a list of blocks (an id, a word and a number: MixOpen, NumOpen).
-/
import Derived.Test.YtepgbnojbomicaaTreeMap
import Derived.Test.YtepgbnojbomicaaBlockOpen
import Derived.Test.YtepgbnojbomicaaMixOpen
import Derived.Test.YtepgbnojbomicaaTreePlaces
import Derived.Deep.Slices
namespace Go.Proofs.Ytepgbnojbomicaa
open Go.ChangeShapes Go.WideShapes Go.ChangeAt Go.RowKit

section
variable {H : Type} {enc : TypeId × Value → H} {W : World} {base : Nat} {sp : Nat → Bool} {held : Bool} {r : Reach} {b0 : Nat} {v : Value} {d : DataW H} {ps : List MemPlace}

theorem open_bk (hval : Value.okWide Try.prog W r b0 36 v) (hd : DataW.Trod enc Try.prog W base sp held 36 v d ps) : ∃ b : Bk, v = .agg #[.int .i64 b.s, .int .i64 b.f, .int .u64 b.p.1, .int .u64 b.p.2, .int .u64 b.t] ∧ WfB b := by
  obtain ⟨s, f, p, t, rfl, h1, h2, h3⟩ := open_block hval hd
  exact ⟨⟨s, f, p, t⟩, rfl, ⟨h1, h2⟩, h3⟩
theorem read_block {fuel : Nat} {l : List Value} {x : DataW H × List MemPlace} (h : DataW.trod enc Try.prog W base sp held fuel 36 l = some x) : ∃ b : Bk, l = bkCells b ∧ WfB b := by
  obtain ⟨xs, m, _, _, hl, hn, hi⟩ := DataW.trod_struct Try.underlying36 h
  rw [Try.cBlock] at hl
  match l, hl with
  | [c0, c1, c2, c3, c4], _ =>
    have hn' : xs.length = 4 := hn
    have h0 : DataW.trod enc Try.prog W base sp held m 3 (([c0, c1, c2, c3, c4].drop 0).take (Try.prog.cellsOf 3)) = xs[0]? := hi 0 _ rfl
    have h1 : DataW.trod enc Try.prog W base sp held m 3 (([c0, c1, c2, c3, c4].drop 1).take (Try.prog.cellsOf 3)) = xs[1]? := hi 1 _ rfl
    have h2 : DataW.trod enc Try.prog W base sp held m 25 (([c0, c1, c2, c3, c4].drop 2).take (Try.prog.cellsOf 25)) = xs[2]? := hi 2 _ rfl
    have h3 : DataW.trod enc Try.prog W base sp held m 23 (([c0, c1, c2, c3, c4].drop 4).take (Try.prog.cellsOf 23)) = xs[3]? := hi 3 _ rfl
    rw [List.getElem?_eq_getElem (by omega)] at h0 h1 h2 h3
    rw [Try.cI] at h0 h1
    rw [Try.cID] at h2
    rw [Try.cU] at h3
    obtain ⟨a, rfl, _⟩ := read_int (c := c0) h0
    obtain ⟨b, rfl, _⟩ := read_int (c := c1) h1
    obtain ⟨p, rfl, rfl, hp, hq⟩ := read_id (c0 := c2) (c1 := c3) h2
    obtain ⟨t, rfl, ht⟩ := read_u64 (c := c4) h3
    exact ⟨⟨a, b, p, t⟩, rfl, ⟨hp, hq⟩, ht⟩
theorem blockCells_inv {l : List Bk} {j : Nat} {u : Value} (h : (blockCells l)[j]? = some u) : ∃ (i k : Nat) (hi : i < l.length), k < 5 ∧ j = i * 5 + k ∧ (bkCells l[i])[k]? = some u := by
  have hj := (List.getElem?_eq_some_iff.1 h).1
  rw [blockCells_length] at hj
  have hi : j / 5 < l.length := by omega
  have hk : j % 5 < (bkCells l[j / 5]).length := by show j % 5 < 5; omega
  refine ⟨j / 5, j % 5, hi, by omega, by omega, ?_⟩
  have e := blockCells_at hi (List.getElem?_eq_getElem hk)
  rw [show j / 5 * 5 + j % 5 = j by omega, h] at e
  rw [List.getElem?_eq_getElem hk]
  exact e.symm
theorem read_blocks {fuel : Nat} {cs : List Value} {x : DataW H × List MemPlace} (h : DataW.trod enc Try.prog W base sp held fuel 22 cs = some x) :
    ∃ (A : Option Addr) (c : Nat) (l : List Bk), cs = [.slice A l.length c] ∧ l.length ≤ maxLen ∧ l.length ≤ c ∧ WfL l ∧ CellsAt W W.heap.size A (blockCells l) := by
  rcases Go.Deep.open_slice Try.underlying22 h with ⟨hcs, _⟩ | ⟨a, len, cap, m, n, D, Pl, hcs, hb, hl, hm, hmm, _, hi⟩
  · exact ⟨none, 0, [], hcs, Nat.zero_le _, Nat.zero_le _, (fun _ h => by cases h), CellsAt.nil⟩
  · have hlm : len ≤ m := by rw [hmm]; split <;> omega
    have hall : ∀ i, ∃ b : Bk, i < len → (∀ k u, (bkCells b)[k]? = some u → W.cell? (a.add (i * 5 + k)) = some u) ∧ WfB b := fun i => by
      by_cases q : i < len
      · obtain ⟨cs', hc, ht⟩ := hi i (by omega)
        obtain ⟨b, rfl, hb⟩ := read_block ht
        obtain ⟨_, hcl, hat⟩ := World.cells?_some hc
        refine ⟨b, fun _ => ⟨fun k u hu => ?_, hb⟩⟩
        have hk : k < 5 := (List.getElem?_eq_some_iff.1 hu).1
        have := hat k (by rw [Try.cBlock]; exact hk)
        rw [Try.cBlock, Go.Deep.add_add] at this
        rw [this]
        exact hu
      · exact ⟨⟨0, 0, (0, 0), 0⟩, fun q' => absurd q' q⟩
    let F : Nat → Bk := fun i => (hall i).choose
    have hF : ∀ i, i < len → (∀ k u, (bkCells (F i))[k]? = some u → W.cell? (a.add (i * 5 + k)) = some u) ∧ WfB (F i) := fun i => (hall i).choose_spec
    have hlen : ((List.range len).map F).length = len := by simp
    refine ⟨some a, cap, (List.range len).map F, by rw [hlen]; exact hcs, by rw [hlen]; omega, by rw [hlen]; exact hl, ?_, ?_⟩
    · intro b hb
      obtain ⟨i, hi, rfl⟩ := List.mem_map.1 hb
      exact (hF i (List.mem_range.1 hi)).2
    · intro j u hu
      obtain ⟨i, k, hil, hk, rfl, e⟩ := blockCells_inv hu
      rw [hlen] at hil
      have hc := (hF i hil).1 k u (by simpa using e)
      have hb := World.block_lt_of_cell? W _ hc
      rw [block_add] at hb
      exact ⟨a, rfl, hb, hc⟩
theorem open_blocks (hval : Value.okWide Try.prog W r b0 22 v) (hd : DataW.Trod enc Try.prog W base sp held 22 v d ps) :
    ∃ (A : Option Addr) (c : Nat) (l : List Bk), v = .slice A l.length c ∧ l.length ≤ maxLen ∧ l.length ≤ c ∧ WfL l ∧ CellsAt W W.heap.size A (blockCells l) := by
  obtain ⟨A, n, c, rfl⟩ := okWide_slice Try.underlying22 hval
  obtain ⟨fuel, hf⟩ := hd
  obtain ⟨A', c', l, hcs, h1, h2, h3, h4⟩ := read_blocks hf
  simp [Value.cells] at hcs
  obtain ⟨rfl, rfl, rfl⟩ := hcs
  exact ⟨_, _, l, rfl, h1, h2, h3, h4⟩
end

end Go.Proofs.Ytepgbnojbomicaa
