/-
  Arguments of the types of package api, opened: a number, an id, a block.
-/
import Derived.Test.YtepgbnojbomicaaBase
import Derived.Test.YtepgbnojbomicaaRow
import Derived.Test.YtepgbnojbomicaaNumOpen
namespace Go.Proofs.Ytepgbnojbomicaa
open Go.ChangeShapes Go.WideShapes Go.ChangeAt Go.RowKit

section
variable {H : Type} {enc : TypeId × Value → H} {W : World} {base : Nat} {sp : Nat → Bool} {held : Bool} {r : Reach} {b0 : Nat} {v : Value} {d : DataW H} {ps : List MemPlace}

theorem nat_of_u64' {a : Int} (h : (Lit.int .u64 a).wf = true) : ∃ x : Nat, a = x ∧ x < 18446744073709551616 := by
  have b := bounds_u64 h
  obtain ⟨x, rfl⟩ := Int.eq_ofNat_of_zero_le b.1
  exact ⟨x, rfl, by omega⟩
theorem Try.cID : Try.prog.cellsOf 25 = 2 := by kernel_rfl
theorem Try.cU : Try.prog.cellsOf 23 = 1 := by kernel_rfl
theorem Try.cI : Try.prog.cellsOf 3 = 1 := by kernel_rfl
theorem Try.cBlock : Try.prog.cellsOf 36 = 5 := by kernel_rfl
theorem read_int {fuel : Nat} {c : Value} {x : DataW H × List MemPlace} (h : DataW.trod enc Try.prog W base sp held fuel 3 [c] = some x) : ∃ a : Int, c = .int .i64 a ∧ -9223372036854775808 ≤ a ∧ a ≤ 9223372036854775807 := by
  obtain ⟨a, ea, _, wa⟩ := DataW.trod_int Try.underlying3 h
  simp at ea
  have := bounds_i64 wa
  exact ⟨a, ea, this.1, this.2⟩
theorem read_u64 {fuel : Nat} {c : Value} {x : DataW H × List MemPlace} (h : DataW.trod enc Try.prog W base sp held fuel 23 [c] = some x) : ∃ a : Nat, c = .int .u64 a ∧ a < 18446744073709551616 := by
  obtain ⟨a, ea, _, wa⟩ := DataW.trod_int Try.underlying23 h
  simp at ea
  obtain ⟨x, rfl, hx⟩ := nat_of_u64' wa
  exact ⟨x, ea, hx⟩
theorem read_id {fuel : Nat} {c0 c1 : Value} {x : DataW H × List MemPlace} (h : DataW.trod enc Try.prog W base sp held fuel 25 [c0, c1] = some x) :
    ∃ p : Nat × Nat, c0 = .int .u64 p.1 ∧ c1 = .int .u64 p.2 ∧ p.1 < 18446744073709551616 ∧ p.2 < 18446744073709551616 := by
  obtain ⟨xs, m, _, _, _, hn, hi⟩ := DataW.trod_array Try.underlying25 h
  have h0 := hi 0 (by omega)
  have h1 := hi 1 (by omega)
  rw [List.getElem?_eq_getElem (by omega), Try.cU] at h0 h1
  obtain ⟨a, ea, ha⟩ := read_u64 (c := c0) h0
  obtain ⟨b, eb, hb⟩ := read_u64 (c := c1) h1
  exact ⟨(a, b), ea, eb, ha, hb⟩
theorem agg_of {cs : Array Value} {l : List Value} (h : (Value.agg cs).cells.toList = l) : Value.agg cs = .agg l.toArray := by
  simp only [Value.cells] at h
  rw [← h, Array.toArray_toList]
/-- A block as read: slot, who, parent, salt. -/
theorem open_block (hval : Value.okWide Try.prog W r b0 36 v) (hd : DataW.Trod enc Try.prog W base sp held 36 v d ps) :
    ∃ (s f : Int) (p : Nat × Nat) (t : Nat), v = .agg #[.int .i64 s, .int .i64 f, .int .u64 p.1, .int .u64 p.2, .int .u64 t] ∧ p.1 < 18446744073709551616 ∧ p.2 < 18446744073709551616 ∧ t < 18446744073709551616 := by
  simp only [Value.okWide, Try.underlying36] at hval
  obtain ⟨cs, rfl, _, _⟩ := hval
  obtain ⟨fuel, hf⟩ := hd
  generalize hcs : (Value.agg cs).cells.toList = l at hf
  obtain ⟨xs, m, _, _, hl, hn, hi⟩ := DataW.trod_struct Try.underlying36 hf
  rw [Try.cBlock] at hl
  match l, hl with
  | [c0, c1, c2, c3, c4], _ =>
    have hn' : xs.length = 4 := hn
    have h0 : DataW.trod enc Try.prog W base sp held m 3 (([c0, c1, c2, c3, c4].drop 0).take (Try.prog.cellsOf 3)) = xs[0]? := hi 0 _ rfl
    have h1 : DataW.trod enc Try.prog W base sp held m 3 (([c0, c1, c2, c3, c4].drop 1).take (Try.prog.cellsOf 3)) = xs[1]? := hi 1 _ rfl
    have h2 : DataW.trod enc Try.prog W base sp held m 25 (([c0, c1, c2, c3, c4].drop 2).take (Try.prog.cellsOf 25)) = xs[2]? := hi 2 _ rfl
    have h3 : DataW.trod enc Try.prog W base sp held m 23 (([c0, c1, c2, c3, c4].drop 4).take (Try.prog.cellsOf 23)) = xs[3]? := hi 3 _ rfl
    rw [List.getElem?_eq_getElem (by omega)] at h0 h1 h2 h3
    rw [Try.cI] at h0 h1
    rw [Try.cID] at h2
    rw [Try.cU] at h3
    obtain ⟨a, rfl, _⟩ := read_int (c := c0) h0
    obtain ⟨b, rfl, _⟩ := read_int (c := c1) h1
    obtain ⟨p, rfl, rfl, hp, hq⟩ := read_id (c0 := c2) (c1 := c3) h2
    obtain ⟨t, rfl, ht⟩ := read_u64 (c := c4) h3
    exact ⟨a, b, p, t, agg_of hcs, hp, hq, ht⟩
end

end Go.Proofs.Ytepgbnojbomicaa
