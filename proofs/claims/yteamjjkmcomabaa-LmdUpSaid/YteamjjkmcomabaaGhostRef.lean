/-
  The contract of BestIn of the given package marigoldref09.
-/
import Derived.Test.YteamjjkmcomabaaGhostFacts
import Derived.Test.YteamjjkmcomabaaGhost
import Derived.Test.YteamjjkmcomabaaGhostRefIn
import Derived.Test.YteamjjkmcomabaaWeighRef
import Derived.Test.YteamjjkmcomabaaMixRefLess
import Derived.Test.YteamjjkmcomabaaGround
namespace Go.Proofs.Yteamjjkmcomabaa
set_option maxRecDepth 100000
set_option linter.unusedVariables false
set_option linter.unusedSimpArgs false
set_option linter.unusedSimpArgs false
set_option linter.unusedVariables false
open Go.ChangeShapes Go.WideShapes Go.ChangeAt Go.RowKit

theorem Down.new (W : World) : Down W W.heap.size zid (W.alloc (.cells #[.int .u64 0, .int .u64 0] 29)) :=
  ⟨HasCells.new W #[.int .u64 0, .int .u64 0] 29 W.heap.size rfl, by simp [go_sem], by simp [go_sem], (Kept.refl W).alloc _⟩
theorem better_yes {n m : Int} {x y : Id2} (h : n = m) (b : lessN y x = true) : betterB n m x y = true := by unfold betterB; rw [decide_eq_true h, b]; simp
theorem better_no {n m : Int} {x y : Id2} (h : ¬ m < n) (b : lessN y x = false) : betterB n m x y = false := by unfold betterB; rw [decide_eq_false h, b]; simp

end Go.Proofs.Yteamjjkmcomabaa
