/-
  Cells of numbers and ids, read.
-/
import Derived.Test.YtjcjglhoknbhpaaBase
import Derived.Test.YtjcjglhoknbhpaaRow
import Derived.Test.YtjcjglhoknbhpaaNumOpen
namespace Go.Proofs.Ytjcjglhoknbhpaa
open Go.ChangeShapes Go.WideShapes Go.ChangeAt Go.RowKit

section
variable {H : Type} {enc : TypeId × Value → H} {W : World} {base : Nat} {sp : Nat → Bool} {held : Bool} {r : Reach} {b0 : Nat} {v : Value} {d : DataW H} {ps : List MemPlace}

theorem nat_of_u64' {a : Int} (h : (Lit.int .u64 a).wf = true) : ∃ x : Nat, a = x ∧ x < 18446744073709551616 := by
  have b := bounds_u64 h
  obtain ⟨x, rfl⟩ := Int.eq_ofNat_of_zero_le b.1
  exact ⟨x, rfl, by omega⟩
theorem Try.cID : Try.prog.cellsOf 34 = 2 := by kernel_rfl
theorem Try.cU : Try.prog.cellsOf 32 = 1 := by kernel_rfl
theorem Try.cI : Try.prog.cellsOf 3 = 1 := by kernel_rfl
theorem read_int {fuel : Nat} {c : Value} {x : DataW H × List MemPlace} (h : DataW.trod enc Try.prog W base sp held fuel 3 [c] = some x) : ∃ a : Int, c = .int .i64 a ∧ -9223372036854775808 ≤ a ∧ a ≤ 9223372036854775807 := by
  obtain ⟨a, ea, _, wa⟩ := DataW.trod_int Try.underlying3 h
  simp at ea
  have := bounds_i64 wa
  exact ⟨a, ea, this.1, this.2⟩
theorem read_u64 {fuel : Nat} {c : Value} {x : DataW H × List MemPlace} (h : DataW.trod enc Try.prog W base sp held fuel 32 [c] = some x) : ∃ a : Nat, c = .int .u64 a ∧ a < 18446744073709551616 := by
  obtain ⟨a, ea, _, wa⟩ := DataW.trod_int Try.underlying32 h
  simp at ea
  obtain ⟨x, rfl, hx⟩ := nat_of_u64' wa
  exact ⟨x, ea, hx⟩
theorem read_id {fuel : Nat} {c0 c1 : Value} {x : DataW H × List MemPlace} (h : DataW.trod enc Try.prog W base sp held fuel 34 [c0, c1] = some x) :
    ∃ p : Nat × Nat, c0 = .int .u64 p.1 ∧ c1 = .int .u64 p.2 ∧ p.1 < 18446744073709551616 ∧ p.2 < 18446744073709551616 := by
  obtain ⟨xs, m, _, _, _, hn, hi⟩ := DataW.trod_array Try.underlying34 h
  have h0 := hi 0 (by omega)
  have h1 := hi 1 (by omega)
  rw [List.getElem?_eq_getElem (by omega), Try.cU] at h0 h1
  obtain ⟨a, ea, ha⟩ := read_u64 (c := c0) h0
  obtain ⟨b, eb, hb⟩ := read_u64 (c := c1) h1
  exact ⟨(a, b), ea, eb, ha, hb⟩
theorem agg_of {cs : Array Value} {l : List Value} (h : (Value.agg cs).cells.toList = l) : Value.agg cs = .agg l.toArray := by
  simp only [Value.cells] at h
  rw [← h, Array.toArray_toList]
end

end Go.Proofs.Ytjcjglhoknbhpaa
