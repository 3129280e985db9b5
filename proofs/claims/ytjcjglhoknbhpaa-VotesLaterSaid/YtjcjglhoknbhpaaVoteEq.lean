/-
  Votes held against one another.
-/
import Derived.Test.YtjcjglhoknbhpaaIdEq
namespace Go.Proofs.Ytjcjglhoknbhpaa
open Go.ChangeShapes Go.WideShapes Go.ChangeAt Go.RowKit

theorem eqVote (a b c d a' b' c' d' : Int) (w : World) :
    Sem.run Try.prog (Op.equalIn 10000 36 (.agg #[.int .i64 a, .int .i64 b, .int .u64 c, .int .u64 d]) (.agg #[.int .i64 a', .int .i64 b', .int .u64 c', .int .u64 d'])) w =
      .ok ((a == a') && ((b == b') && ((c == c') && (d == d')))) w := by
  rw [show (10000 : Nat) = 9997 + 1 + 1 + 1 from rfl]
  go_simp
  rw [show (9999 : Nat) = 9997 + 1 + 1 from rfl, eqId]
  by_cases h1 : a = a' <;> by_cases h2 : b = b' <;> by_cases h3 : c = c' <;> by_cases h4 : d = d' <;> simp [h1, h2, h3, h4]

end Go.Proofs.Ytjcjglhoknbhpaa
