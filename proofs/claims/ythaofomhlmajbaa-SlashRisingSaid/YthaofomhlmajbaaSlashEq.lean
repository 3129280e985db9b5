/-
  Links held against one another.
-/
import Derived.Test.YthaofomhlmajbaaFfgEq
import Derived.Test.YthaofomhlmajbaaLkRow
namespace Go.Proofs.Ythaofomhlmajbaa
set_option maxRecDepth 100000
set_option linter.unusedVariables false
set_option linter.unusedSimpArgs false
set_option linter.unusedSimpArgs false
set_option linter.unusedVariables false
open Go.ChangeShapes Go.WideShapes Go.ChangeAt Go.RowKit

theorem eqId98 (a b a' b' : Int) (w : World) :
    Sem.run Try.prog (Op.equalIn 9998 24 (.agg #[.int .u64 a, .int .u64 b]) (.agg #[.int .u64 a', .int .u64 b'])) w = .ok ((a == a') && (b == b')) w := eqId 9996 a b a' b' w
theorem eqLinkI (a b c d e f g a' b' c' d' e' f' g' : Int) (w : World) :
    Sem.run Try.prog (Op.equalIn 10000 28 (.agg #[.int .i64 a, .int .i64 b, .int .u64 c, .int .u64 d, .int .i64 e, .int .u64 f, .int .u64 g]) (.agg #[.int .i64 a', .int .i64 b', .int .u64 c', .int .u64 d', .int .i64 e', .int .u64 f', .int .u64 g'])) w = .ok ((a == a') && (((b == b') && ((c == c') && (d == d'))) && ((e == e') && ((f == f') && (g == g'))))) w := by
  rw [show (10000 : Nat) = 9996 + 1 + 1 + 1 + 1 from rfl]
  go_simp
  simp only [eqId98]
  by_cases h1 : a = a' <;> by_cases h2 : b = b' <;> by_cases h3 : c = c' <;> by_cases h4 : d = d' <;> by_cases h5 : e = e' <;> by_cases h6 : f = f' <;> by_cases h7 : g = g' <;> simp [h1, h2, h3, h4, h5, h6, h7]
def sameLk (a b : Lk) : Bool := decide (a = b)
theorem sameLk_iff {a b : Lk} : sameLk a b = true ↔ a = b := decide_eq_true_iff
theorem sameLk_int (a b : Lk) : ((a.f == b.f) && (((a.s.e == b.s.e) && (((a.s.r.1 : Int) == (b.s.r.1 : Int)) && ((a.s.r.2 : Int) == (b.s.r.2 : Int)))) && ((a.t.e == b.t.e) && (((a.t.r.1 : Int) == (b.t.r.1 : Int)) && ((a.t.r.2 : Int) == (b.t.r.2 : Int)))))) = sameLk a b := by
  rw [sameK_int, sameK_int, Bool.eq_iff_iff, sameLk_iff, Bool.and_eq_true, Bool.and_eq_true, beq_iff_eq, sameK_iff, sameK_iff]
  constructor
  · rintro ⟨h1, h2, h3⟩; exact Lk.same h1 h2 h3
  · rintro rfl; exact ⟨rfl, rfl, rfl⟩
theorem eqLk (a b : Lk) (w : World) : Sem.run Try.prog (Op.equalIn 10000 28 (.agg #[.int .i64 a.f, .int .i64 a.s.e, .int .u64 a.s.r.1, .int .u64 a.s.r.2, .int .i64 a.t.e, .int .u64 a.t.r.1, .int .u64 a.t.r.2]) (.agg #[.int .i64 b.f, .int .i64 b.s.e, .int .u64 b.s.r.1, .int .u64 b.s.r.2, .int .i64 b.t.e, .int .u64 b.t.r.1, .int .u64 b.t.r.2])) w = .ok (sameLk a b) w := by rw [eqLinkI, sameLk_int]

end Go.Proofs.Ythaofomhlmajbaa
