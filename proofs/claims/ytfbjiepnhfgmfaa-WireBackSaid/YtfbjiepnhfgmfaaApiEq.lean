/-
  Ids, blocks and votes held against one another.
-/
import Derived.Test.YtfbjiepnhfgmfaaBase
namespace Go.Proofs.Ytfbjiepnhfgmfaa
open Go.ChangeShapes Go.WideShapes Go.ChangeAt Go.RowKit

theorem Try.cU1 : Try.prog.cellsOf 22 = 1 := by kernel_rfl
theorem eqId (d : Nat) (a b a' b' : Int) (w : World) :
    Sem.run Try.prog (Op.equalIn (d + 1 + 1) 24 (.agg #[.int .u64 a, .int .u64 b]) (.agg #[.int .u64 a', .int .u64 b'])) w = .ok ((a == a') && (b == b')) w := by
  obtain ⟨i, hi⟩ := info_of_underlying Try.underlying22
  rw [run_equalIn_array w (d + 1) _ _ Try.underlying24 hi, Try.cU1]
  have e2 : List.range 2 = [0, 1] := rfl
  rw [e2]
  simp only [Op.eqItems, Sem.run_bind]
  go_simp
  by_cases h : a = a' <;> by_cases k : b = b' <;> simp [h, k]
theorem eqId10 (a b a' b' : Int) (w : World) :
    Sem.run Try.prog (Op.equalIn 10000 24 (.agg #[.int .u64 a, .int .u64 b]) (.agg #[.int .u64 a', .int .u64 b'])) w = .ok ((a == a') && (b == b')) w := eqId 9998 a b a' b' w
theorem eqId9 (a b a' b' : Int) (w : World) :
    Sem.run Try.prog (Op.equalIn 9999 24 (.agg #[.int .u64 a, .int .u64 b]) (.agg #[.int .u64 a', .int .u64 b'])) w = .ok ((a == a') && (b == b')) w := eqId 9997 a b a' b' w
theorem eqBlock (a b c d e a' b' c' d' e' : Int) (w : World) :
    Sem.run Try.prog (Op.equalIn 10000 26 (.agg #[.int .i64 a, .int .i64 b, .int .u64 c, .int .u64 d, .int .u64 e]) (.agg #[.int .i64 a', .int .i64 b', .int .u64 c', .int .u64 d', .int .u64 e'])) w =
      .ok ((a == a') && ((b == b') && (((c == c') && (d == d')) && (e == e')))) w := by
  rw [show (10000 : Nat) = 9997 + 1 + 1 + 1 from rfl]
  go_simp
  rw [show (9999 : Nat) = 9997 + 1 + 1 from rfl, eqId]
  by_cases h1 : a = a' <;> by_cases h2 : b = b' <;> by_cases h3 : c = c' <;> by_cases h4 : d = d' <;> by_cases h5 : e = e' <;> simp [h1, h2, h3, h4, h5]
theorem eqVote (a b c d a' b' c' d' : Int) (w : World) :
    Sem.run Try.prog (Op.equalIn 10000 28 (.agg #[.int .i64 a, .int .i64 b, .int .u64 c, .int .u64 d]) (.agg #[.int .i64 a', .int .i64 b', .int .u64 c', .int .u64 d'])) w =
      .ok ((a == a') && ((b == b') && ((c == c') && (d == d')))) w := by
  rw [show (10000 : Nat) = 9997 + 1 + 1 + 1 from rfl]
  go_simp
  rw [show (9999 : Nat) = 9997 + 1 + 1 from rfl, eqId]
  by_cases h1 : a = a' <;> by_cases h2 : b = b' <;> by_cases h3 : c = c' <;> by_cases h4 : d = d' <;> simp [h1, h2, h3, h4]

end Go.Proofs.Ytfbjiepnhfgmfaa
