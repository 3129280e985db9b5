/-
  The library's contract of the full product of two words, laid at this program's numbers.
-/
import Derived.Test.YtghoedccmcnchaaRows
import Derived.Shelf.Bits.Mul64
namespace Go.Proofs.Ytghoedccmcnchaa
open Go.Shelf Go.RowKit

def ren : Ren := ⟨fun _ => 22, fun t => if t = 46 then 40 else 31, fun g => g⟩

theorem lay264 : Lays.n264 Try.prog ren where
  mixed := by kernel_rfl
  f264 := by kernel_rfl
  t46 := by kernel_rfl
  a46 := fun _ => by kernel_rfl
  z46 := fun _ => by kernel_rfl
  v46 := fun _ => by kernel_rfl
  t53 := by kernel_rfl
  a53 := fun _ => by kernel_rfl
  z53 := fun _ => by kernel_rfl
  v53 := fun _ => by kernel_rfl

theorem mul64_nat (x y : Nat) (hx : x < 18446744073709551616) (hy : y < 18446744073709551616) (w : World) :
    Calls Try.prog 22 #[.int .u64 x, .int .u64 y] w fun e w' => e = .returned (.tuple #[.int .u64 ((x * y / 18446744073709551616 : Nat) : Int), .int .u64 ((x * y % 18446744073709551616 : Nat) : Int)]) ∧ w' = w :=
  Any.bits_Mul64 lay264 x y hx hy w

end Go.Proofs.Ytghoedccmcnchaa
