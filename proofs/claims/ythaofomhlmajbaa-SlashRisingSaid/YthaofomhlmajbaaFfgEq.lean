/-
  Checkpoints held against one another.
-/
import Derived.Test.YthaofomhlmajbaaCkRow
import Derived.Test.YthaofomhlmajbaaGround
namespace Go.Proofs.Ythaofomhlmajbaa
set_option maxRecDepth 100000
set_option linter.unusedVariables false
set_option linter.unusedSimpArgs false
set_option linter.unusedSimpArgs false
set_option linter.unusedVariables false
open Go.ChangeShapes Go.WideShapes Go.ChangeAt Go.RowKit

theorem eqCheck (a c d a' c' d' : Int) (w : World) :
    Sem.run Try.prog (Op.equalIn 10000 26 (.agg #[.int .i64 a, .int .u64 c, .int .u64 d]) (.agg #[.int .i64 a', .int .u64 c', .int .u64 d'])) w = .ok ((a == a') && ((c == c') && (d == d'))) w := by
  rw [show (10000 : Nat) = 9997 + 1 + 1 + 1 from rfl]
  go_simp
  rw [show (9999 : Nat) = 9997 + 1 + 1 from rfl, eqId]
  by_cases h1 : a = a' <;> by_cases h3 : c = c' <;> by_cases h4 : d = d' <;> simp [h1, h3, h4]
theorem sameK_int (a b : Ck) : ((a.e == b.e) && (((a.r.1 : Int) == (b.r.1 : Int)) && ((a.r.2 : Int) == (b.r.2 : Int)))) = sameK a b := by
  rw [Bool.eq_iff_iff, sameK_iff, Bool.and_eq_true, Bool.and_eq_true, beq_iff_eq, beq_iff_eq, beq_iff_eq]
  constructor
  · rintro ⟨h1, h2, h3⟩; exact Ck.same h1 (Prod.ext (by omega) (by omega))
  · rintro rfl; exact ⟨rfl, rfl, rfl⟩
theorem eqK (a b : Ck) (w : World) : Sem.run Try.prog (Op.equalIn 10000 26 (.agg #[.int .i64 a.e, .int .u64 a.r.1, .int .u64 a.r.2]) (.agg #[.int .i64 b.e, .int .u64 b.r.1, .int .u64 b.r.2])) w = .ok (sameK a b) w := by rw [eqCheck, sameK_int]
theorem eqKZ (a : Ck) (w : World) : Sem.run Try.prog (Op.equalIn 10000 26 (.agg #[.int .i64 a.e, .int .u64 a.r.1, .int .u64 a.r.2]) (.agg #[.int .i64 0, .int .u64 0, .int .u64 0])) w = .ok (sameK a firstK) w := eqK a firstK w

end Go.Proofs.Ythaofomhlmajbaa
