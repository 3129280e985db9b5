/-
  Ids held against one another.
-/
import Derived.Test.YtjcjglhoknbhpaaBase
namespace Go.Proofs.Ytjcjglhoknbhpaa
open Go.ChangeShapes Go.WideShapes Go.ChangeAt Go.RowKit

theorem Try.cU1 : Try.prog.cellsOf 32 = 1 := by kernel_rfl
theorem eqId (d : Nat) (a b a' b' : Int) (w : World) :
    Sem.run Try.prog (Op.equalIn (d + 1 + 1) 34 (.agg #[.int .u64 a, .int .u64 b]) (.agg #[.int .u64 a', .int .u64 b'])) w = .ok ((a == a') && (b == b')) w := by
  obtain ⟨i, hi⟩ := info_of_underlying Try.underlying32
  rw [run_equalIn_array w (d + 1) _ _ Try.underlying34 hi, Try.cU1]
  have e2 : List.range 2 = [0, 1] := rfl
  rw [e2]
  simp only [Op.eqItems, Sem.run_bind]
  go_simp
  by_cases h : a = a' <;> by_cases k : b = b' <;> simp [h, k]
theorem eqId10 (a b a' b' : Int) (w : World) :
    Sem.run Try.prog (Op.equalIn 10000 34 (.agg #[.int .u64 a, .int .u64 b]) (.agg #[.int .u64 a', .int .u64 b'])) w = .ok ((a == a') && (b == b')) w := eqId 9998 a b a' b' w
theorem eqId9 (a b a' b' : Int) (w : World) :
    Sem.run Try.prog (Op.equalIn 9999 34 (.agg #[.int .u64 a, .int .u64 b]) (.agg #[.int .u64 a', .int .u64 b'])) w = .ok ((a == a') && (b == b')) w := eqId 9997 a b a' b' w

end Go.Proofs.Ytjcjglhoknbhpaa
