/-
  The arguments of layer 7's laws, opened: a vote, a list of votes.
-/
import Derived.Test.YtjcjglhoknbhpaaVoteRow
import Derived.Test.YtjcjglhoknbhpaaIdOpen
import Derived.Deep.Slices
namespace Go.Proofs.Ytjcjglhoknbhpaa
open Go.ChangeShapes Go.WideShapes Go.ChangeAt Go.RowKit

section
variable {H : Type} {enc : TypeId × Value → H} {W : World} {base : Nat} {sp : Nat → Bool} {held : Bool} {r : Reach} {b0 : Nat} {v : Value} {d : DataW H} {ps : List MemPlace}

theorem Try.cVt : Try.prog.cellsOf 36 = 4 := by kernel_rfl
theorem read_vote {fuel : Nat} {l : List Value} {x : DataW H × List MemPlace} (h : DataW.trod enc Try.prog W base sp held fuel 36 l = some x) : ∃ b : Vt, l = vtCells b ∧ WfV b := by
  obtain ⟨xs, m, _, _, hl, hn, hi⟩ := DataW.trod_struct Try.underlying36 h
  rw [Try.cVt] at hl
  match l, hl with
  | [c0, c1, c2, c3], _ =>
    have hn' : xs.length = 3 := hn
    have h0 : DataW.trod enc Try.prog W base sp held m 3 (([c0, c1, c2, c3].drop 0).take (Try.prog.cellsOf 3)) = xs[0]? := hi 0 _ rfl
    have h1 : DataW.trod enc Try.prog W base sp held m 3 (([c0, c1, c2, c3].drop 1).take (Try.prog.cellsOf 3)) = xs[1]? := hi 1 _ rfl
    have h2 : DataW.trod enc Try.prog W base sp held m 34 (([c0, c1, c2, c3].drop 2).take (Try.prog.cellsOf 34)) = xs[2]? := hi 2 _ rfl
    rw [List.getElem?_eq_getElem (by omega)] at h0 h1 h2
    rw [Try.cI] at h0 h1
    rw [Try.cID] at h2
    obtain ⟨a, rfl, a1, a2⟩ := read_int (c := c0) h0
    obtain ⟨b, rfl, b1, b2⟩ := read_int (c := c1) h1
    obtain ⟨p, rfl, rfl, hp, hq⟩ := read_id (c0 := c2) (c1 := c3) h2
    exact ⟨⟨a, b, p⟩, rfl, ⟨a1, a2⟩, ⟨b1, b2⟩, hp, hq⟩
theorem open_vt (hval : Value.okWide Try.prog W r b0 36 v) (hd : DataW.Trod enc Try.prog W base sp held 36 v d ps) : ∃ b : Vt, v = .agg #[.int .i64 b.f, .int .i64 b.s, .int .u64 b.p.1, .int .u64 b.p.2] ∧ WfV b := by
  simp only [Value.okWide, Try.underlying36] at hval
  obtain ⟨cs, rfl, _, _⟩ := hval
  obtain ⟨fuel, hf⟩ := hd
  obtain ⟨b, hb, hw⟩ := read_vote hf
  exact ⟨b, agg_of hb, hw⟩
theorem read_votes {fuel : Nat} {cs : List Value} {x : DataW H × List MemPlace} (h : DataW.trod enc Try.prog W base sp held fuel 22 cs = some x) :
    ∃ (A : Option Addr) (c : Nat) (l : List Vt), cs = [.slice A l.length c] ∧ l.length ≤ maxLen ∧ l.length ≤ c ∧ WfVs l ∧ CellsAt W W.heap.size A (votesCells l) := by
  rcases Go.Deep.open_slice Try.underlying22 h with ⟨hcs, _⟩ | ⟨a, len, cap, m, n, D, Pl, hcs, hb, hl, hm, hmm, _, hi⟩
  · exact ⟨none, 0, [], hcs, Nat.zero_le _, Nat.zero_le _, (fun _ h => by cases h), CellsAt.nil⟩
  · have hlm : len ≤ m := by rw [hmm]; split <;> omega
    have hall : ∀ i, ∃ b : Vt, i < len → (∀ k u, (vtCells b)[k]? = some u → W.cell? (a.add (i * 4 + k)) = some u) ∧ WfV b := fun i => by
      by_cases q : i < len
      · obtain ⟨cs', hc, ht⟩ := hi i (by omega)
        obtain ⟨b, rfl, hb⟩ := read_vote ht
        obtain ⟨_, hcl, hat⟩ := World.cells?_some hc
        refine ⟨b, fun _ => ⟨fun k u hu => ?_, hb⟩⟩
        have hk : k < 4 := (List.getElem?_eq_some_iff.1 hu).1
        have := hat k (by rw [Try.cVt]; exact hk)
        rw [Try.cVt, Go.Deep.add_add] at this
        rw [this]
        exact hu
      · exact ⟨⟨0, 0, (0, 0)⟩, fun q' => absurd q' q⟩
    let F : Nat → Vt := fun i => (hall i).choose
    have hF : ∀ i, i < len → (∀ k u, (vtCells (F i))[k]? = some u → W.cell? (a.add (i * 4 + k)) = some u) ∧ WfV (F i) := fun i => (hall i).choose_spec
    have hlen : ((List.range len).map F).length = len := by simp
    refine ⟨some a, cap, (List.range len).map F, by rw [hlen]; exact hcs, by rw [hlen]; omega, by rw [hlen]; exact hl, ?_, ?_⟩
    · intro b hb
      obtain ⟨i, hi, rfl⟩ := List.mem_map.1 hb
      exact (hF i (List.mem_range.1 hi)).2
    · intro j u hu
      obtain ⟨i, k, hil, hk, rfl, e⟩ := votesCells_inv hu
      rw [hlen] at hil
      have hc := (hF i hil).1 k u (by simpa using e)
      have hb := World.block_lt_of_cell? W _ hc
      rw [block_add] at hb
      exact ⟨a, rfl, hb, hc⟩
theorem open_votes (hval : Value.okWide Try.prog W r b0 22 v) (hd : DataW.Trod enc Try.prog W base sp held 22 v d ps) :
    ∃ (A : Option Addr) (c : Nat) (l : List Vt), v = .slice A l.length c ∧ l.length ≤ maxLen ∧ l.length ≤ c ∧ WfVs l ∧ CellsAt W W.heap.size A (votesCells l) := by
  obtain ⟨A, n, c, rfl⟩ := okWide_slice Try.underlying22 hval
  obtain ⟨fuel, hf⟩ := hd
  obtain ⟨A', c', l, hcs, h1, h2, h3, h4⟩ := read_votes hf
  simp [Value.cells] at hcs
  obtain ⟨rfl, rfl, rfl⟩ := hcs
  exact ⟨_, _, l, rfl, h1, h2, h3, h4⟩
end

end Go.Proofs.Ytjcjglhoknbhpaa
