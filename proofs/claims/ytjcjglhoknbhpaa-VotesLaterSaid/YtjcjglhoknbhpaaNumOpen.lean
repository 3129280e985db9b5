/-
  Arguments that are numbers, opened: a word, a number.
-/
import Derived.Test.YtjcjglhoknbhpaaBase
namespace Go.Proofs.Ytjcjglhoknbhpaa
open Go.ChangeShapes Go.WideShapes Go.ChangeAt Go.RowKit

section
variable {H : Type} {enc : TypeId × Value → H} {W : World} {base : Nat} {sp : Nat → Bool} {held : Bool} {r : Reach} {b0 : Nat} {v : Value} {d : DataW H} {ps : List MemPlace}

theorem nat_of_u64 {a : Int} (h : (Lit.int .u64 a).wf = true) : ∃ x : Nat, a = x ∧ x < 18446744073709551616 := by
  have b := bounds_u64 h
  obtain ⟨x, rfl⟩ := Int.eq_ofNat_of_zero_le b.1
  exact ⟨x, rfl, by omega⟩

theorem open_u64 (hval : Value.okWide Try.prog W r b0 32 v) (hd : DataW.Trod enc Try.prog W base sp held 32 v d ps) : ∃ x : Nat, v = .int .u64 x ∧ x < 18446744073709551616 := by
  obtain ⟨a, rfl, _, _, w0⟩ := open_int Try.underlying32 hval hd
  obtain ⟨x, rfl, hx⟩ := nat_of_u64 w0
  exact ⟨x, rfl, hx⟩

theorem open_num (hval : Value.okWide Try.prog W r b0 3 v) (hd : DataW.Trod enc Try.prog W base sp held 3 v d ps) : ∃ a : Int, v = .int .i64 a ∧ -9223372036854775808 ≤ a ∧ a ≤ 9223372036854775807 := by
  obtain ⟨a, rfl, _, _, w0⟩ := open_int Try.underlying3 hval hd
  have := bounds_i64 w0
  exact ⟨a, rfl, this.1, this.2⟩
end

end Go.Proofs.Ytjcjglhoknbhpaa
