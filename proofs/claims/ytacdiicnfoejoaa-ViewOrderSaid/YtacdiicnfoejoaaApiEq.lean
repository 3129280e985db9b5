/-
  Blocks (and, by the texts that it imports, ids and votes) held against one another.
-/
import Derived.Test.YtacdiicnfoejoaaGround
namespace Go.Proofs.Ytacdiicnfoejoaa
set_option maxRecDepth 100000
set_option linter.unusedVariables false
set_option linter.unusedSimpArgs false
open Go.ChangeShapes Go.WideShapes Go.ChangeAt Go.RowKit

theorem eqBlock (a b c d e a' b' c' d' e' : Int) (w : World) :
    Sem.run Try.prog (Op.equalIn 10000 42 (.agg #[.int .i64 a, .int .i64 b, .int .u64 c, .int .u64 d, .int .u64 e]) (.agg #[.int .i64 a', .int .i64 b', .int .u64 c', .int .u64 d', .int .u64 e'])) w =
      .ok ((a == a') && ((b == b') && (((c == c') && (d == d')) && (e == e')))) w := by
  rw [show (10000 : Nat) = 9997 + 1 + 1 + 1 from rfl]
  go_simp
  rw [show (9999 : Nat) = 9997 + 1 + 1 from rfl, eqId]
  by_cases h1 : a = a' <;> by_cases h2 : b = b' <;> by_cases h3 : c = c' <;> by_cases h4 : d = d' <;> by_cases h5 : e = e' <;> simp [h1, h2, h3, h4, h5]

end Go.Proofs.Ytacdiicnfoejoaa
