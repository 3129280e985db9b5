/-
  The arguments of layer 11's laws, opened: a link, a list of links.
-/
import Derived.Deep.Slices
import Derived.Test.YthaofomhlmajbaaCkRow
import Derived.Test.YthaofomhlmajbaaLkRow
import Derived.Test.YthaofomhlmajbaaGround
namespace Go.Proofs.Ythaofomhlmajbaa
set_option maxRecDepth 100000
set_option linter.unusedVariables false
set_option linter.unusedSimpArgs false
set_option linter.unusedSimpArgs false
set_option linter.unusedVariables false
set_option linter.unusedSectionVars false
open Go.ChangeShapes Go.WideShapes Go.ChangeAt Go.RowKit

theorem HasCells.seven {w : World} {b : Nat} {c0 c1 c2 c3 c4 c5 c6 : Value} (h : HasCells w b [c0, c1, c2, c3, c4, c5, c6]) :
    w.cell? ⟨b, 0, none⟩ = some c0 ∧ w.cell? ⟨b, 1, none⟩ = some c1 ∧ w.cell? ⟨b, 2, none⟩ = some c2 ∧ w.cell? ⟨b, 3, none⟩ = some c3 ∧ w.cell? ⟨b, 4, none⟩ = some c4 ∧ w.cell? ⟨b, 5, none⟩ = some c5 ∧ w.cell? ⟨b, 6, none⟩ = some c6 :=
  ⟨h.2 0 _ rfl, h.2 1 _ rfl, h.2 2 _ rfl, h.2 3 _ rfl, h.2 4 _ rfl, h.2 5 _ rfl, h.2 6 _ rfl⟩
def WfK (c : Ck) : Prop := (-9223372036854775808 ≤ c.e ∧ c.e ≤ 9223372036854775807) ∧ WfI c.r
def WfLk (x : Lk) : Prop := (-9223372036854775808 ≤ x.f ∧ x.f ≤ 9223372036854775807) ∧ WfK x.s ∧ WfK x.t
def WfLks (L : List Lk) : Prop := ∀ x ∈ L, WfLk x

section
variable {H : Type} {enc : TypeId × Value → H} {W : World} {base : Nat} {sp : Nat → Bool} {held : Bool} {r : Reach} {b0 : Nat} {v : Value} {d : DataW H} {ps : List MemPlace}

theorem Try.cCk : Try.prog.cellsOf 26 = 3 := by kernel_rfl
theorem Try.cLk : Try.prog.cellsOf 28 = 7 := by kernel_rfl
theorem read_check {fuel : Nat} {l : List Value} {x : DataW H × List MemPlace} (h : DataW.trod enc Try.prog W base sp held fuel 26 l = some x) : ∃ b : Ck, l = ckCells b ∧ WfK b := by
  obtain ⟨xs, m, _, _, hl, hn, hi⟩ := DataW.trod_struct Try.underlying26 h
  rw [Try.cCk] at hl
  match l, hl with
  | [c0, c1, c2], _ =>
    have hn' : xs.length = 2 := hn
    have h0 : DataW.trod enc Try.prog W base sp held m 3 (([c0, c1, c2].drop 0).take (Try.prog.cellsOf 3)) = xs[0]? := hi 0 _ rfl
    have h1 : DataW.trod enc Try.prog W base sp held m 24 (([c0, c1, c2].drop 1).take (Try.prog.cellsOf 24)) = xs[1]? := hi 1 _ rfl
    rw [List.getElem?_eq_getElem (by omega)] at h0 h1
    rw [Try.cI] at h0
    rw [Try.cID] at h1
    obtain ⟨a, rfl, a1, a2⟩ := read_int (c := c0) h0
    obtain ⟨p, rfl, rfl, hp, hq⟩ := read_id (c0 := c1) (c1 := c2) h1
    exact ⟨⟨a, p⟩, rfl, ⟨a1, a2⟩, hp, hq⟩
theorem read_link {fuel : Nat} {l : List Value} {x : DataW H × List MemPlace} (h : DataW.trod enc Try.prog W base sp held fuel 28 l = some x) : ∃ b : Lk, l = lkCells b ∧ WfLk b := by
  obtain ⟨xs, m, _, _, hl, hn, hi⟩ := DataW.trod_struct Try.underlying28 h
  rw [Try.cLk] at hl
  match l, hl with
  | [c0, c1, c2, c3, c4, c5, c6], _ =>
    have hn' : xs.length = 3 := hn
    have h0 : DataW.trod enc Try.prog W base sp held m 3 (([c0, c1, c2, c3, c4, c5, c6].drop 0).take (Try.prog.cellsOf 3)) = xs[0]? := hi 0 _ rfl
    have h1 : DataW.trod enc Try.prog W base sp held m 26 (([c0, c1, c2, c3, c4, c5, c6].drop 1).take (Try.prog.cellsOf 26)) = xs[1]? := hi 1 _ rfl
    have h2 : DataW.trod enc Try.prog W base sp held m 26 (([c0, c1, c2, c3, c4, c5, c6].drop 4).take (Try.prog.cellsOf 26)) = xs[2]? := hi 2 _ rfl
    rw [List.getElem?_eq_getElem (by omega)] at h0 h1 h2
    rw [Try.cI] at h0
    rw [Try.cCk] at h1 h2
    obtain ⟨a, rfl, a1, a2⟩ := read_int (c := c0) h0
    obtain ⟨s, hs, ws⟩ := read_check h1
    obtain ⟨t, ht, wt⟩ := read_check h2
    refine ⟨⟨a, s, t⟩, ?_, ⟨a1, a2⟩, ws, wt⟩
    have hs' : [c1, c2, c3] = ckCells s := hs
    have ht' : [c4, c5, c6] = ckCells t := ht
    show _ :: ([c1, c2, c3] ++ [c4, c5, c6]) = _
    rw [hs', ht']
    rfl
theorem open_link (hval : Value.okWide Try.prog W r b0 28 v) (hd : DataW.Trod enc Try.prog W base sp held 28 v d ps) : ∃ b : Lk, v = .agg #[.int .i64 b.f, .int .i64 b.s.e, .int .u64 b.s.r.1, .int .u64 b.s.r.2, .int .i64 b.t.e, .int .u64 b.t.r.1, .int .u64 b.t.r.2] ∧ WfLk b := by
  simp only [Value.okWide, Try.underlying28] at hval
  obtain ⟨cs, rfl, _, _⟩ := hval
  obtain ⟨fuel, hf⟩ := hd
  obtain ⟨b, hb, hw⟩ := read_link hf
  exact ⟨b, agg_of hb, hw⟩
theorem lksCells_inv {l : List Lk} {j : Nat} {u : Value} (h : (lksCells l)[j]? = some u) : ∃ (i k : Nat) (hi : i < l.length), k < 7 ∧ j = i * 7 + k ∧ (lkCells l[i])[k]? = some u := by
  have hj := (List.getElem?_eq_some_iff.1 h).1
  rw [lksCells_length] at hj
  have hi : j / 7 < l.length := by omega
  have hk : j % 7 < (lkCells l[j / 7]).length := by show j % 7 < 7; omega
  refine ⟨j / 7, j % 7, hi, by omega, by omega, ?_⟩
  have e := lksCells_at hi (List.getElem?_eq_getElem hk)
  rw [show j / 7 * 7 + j % 7 = j by omega, h] at e
  rw [List.getElem?_eq_getElem hk]
  exact e.symm
theorem read_links {fuel : Nat} {cs : List Value} {x : DataW H × List MemPlace} (h : DataW.trod enc Try.prog W base sp held fuel 29 cs = some x) :
    ∃ (A : Option Addr) (c : Nat) (l : List Lk), cs = [.slice A l.length c] ∧ l.length ≤ maxLen ∧ l.length ≤ c ∧ WfLks l ∧ CellsAt W W.heap.size A (lksCells l) := by
  rcases Go.Deep.open_slice Try.underlying29 h with ⟨hcs, _⟩ | ⟨a, len, cap, m, n, D, Pl, hcs, hb, hl, hm, hmm, _, hi⟩
  · exact ⟨none, 0, [], hcs, Nat.zero_le _, Nat.zero_le _, (fun _ h => by cases h), CellsAt.nil⟩
  · have hlm : len ≤ m := by rw [hmm]; split <;> omega
    have hall : ∀ i, ∃ b : Lk, i < len → (∀ k u, (lkCells b)[k]? = some u → W.cell? (a.add (i * 7 + k)) = some u) ∧ WfLk b := fun i => by
      by_cases q : i < len
      · obtain ⟨cs', hc, ht⟩ := hi i (by omega)
        obtain ⟨b, rfl, hb⟩ := read_link ht
        obtain ⟨_, hcl, hat⟩ := World.cells?_some hc
        refine ⟨b, fun _ => ⟨fun k u hu => ?_, hb⟩⟩
        have hk : k < 7 := (List.getElem?_eq_some_iff.1 hu).1
        have := hat k (by rw [Try.cLk]; exact hk)
        rw [Try.cLk, Go.Deep.add_add] at this
        rw [this]
        exact hu
      · exact ⟨⟨0, ⟨0, (0, 0)⟩, ⟨0, (0, 0)⟩⟩, fun q' => absurd q' q⟩
    let F : Nat → Lk := fun i => (hall i).choose
    have hF : ∀ i, i < len → (∀ k u, (lkCells (F i))[k]? = some u → W.cell? (a.add (i * 7 + k)) = some u) ∧ WfLk (F i) := fun i => (hall i).choose_spec
    have hlen : ((List.range len).map F).length = len := by simp
    refine ⟨some a, cap, (List.range len).map F, by rw [hlen]; exact hcs, by rw [hlen]; omega, by rw [hlen]; exact hl, ?_, ?_⟩
    · intro b hb
      obtain ⟨i, hi, rfl⟩ := List.mem_map.1 hb
      exact (hF i (List.mem_range.1 hi)).2
    · intro j u hu
      obtain ⟨i, k, hil, hk, rfl, e⟩ := lksCells_inv hu
      rw [hlen] at hil
      have hc := (hF i hil).1 k u (by simpa using e)
      have hb := World.block_lt_of_cell? W _ hc
      rw [block_add] at hb
      exact ⟨a, rfl, hb, hc⟩
theorem open_links (hval : Value.okWide Try.prog W r b0 29 v) (hd : DataW.Trod enc Try.prog W base sp held 29 v d ps) :
    ∃ (A : Option Addr) (c : Nat) (l : List Lk), v = .slice A l.length c ∧ l.length ≤ maxLen ∧ l.length ≤ c ∧ WfLks l ∧ CellsAt W W.heap.size A (lksCells l) := by
  obtain ⟨A, n, c, rfl⟩ := okWide_slice Try.underlying29 hval
  obtain ⟨fuel, hf⟩ := hd
  obtain ⟨A', c', l, hcs, h1, h2, h3, h4⟩ := read_links hf
  simp [Value.cells] at hcs
  obtain ⟨rfl, rfl, rfl⟩ := hcs
  exact ⟨_, _, l, rfl, h1, h2, h3, h4⟩
end

end Go.Proofs.Ythaofomhlmajbaa
