/-
  The rounds of a seed, made anew: one block of 53 cells, held together under one name.
-/
import Derived.Test.YtdidmgmfjfnliaaShufGo
import Derived.Deep.WholeRow
namespace Go.Proofs.Ytdidmgmfjfnliaa
open Go.ChangeShapes Go.WideShapes Go.ChangeAt Go.RowKit

/-- The cells of one round that nobody asked for yet. -/
def noRound : List Value := [.int .u32 0, .int .i32 0, .int .u32 0, .int .i64 0, .int .u64 0]
def noRounds : List Value := noRound ++ noRound ++ noRound ++ noRound ++ noRound ++ noRound ++ noRound ++ noRound ++ noRound ++ noRound
def freshC (seed n : Nat) : Array Value := (([.int .u64 seed, .int .i64 n] : List Value) ++ noRounds ++ ([.int .i64 0] : List Value)).toArray
theorem freshC_size (seed n : Nat) : (freshC seed n).size = 53 := by kernel_rfl
theorem freshC_one (seed n : Nat) : (freshC seed n).all (·.oneCell') = true := by
  simp [freshC, noRounds, noRound, Value.oneCell']
theorem freshC_built (seed n : Nat) : Try.prog.built 70 [(0, .int .u64 seed), (1, .int .i64 n)] = some (freshC seed n) := by kernel_rfl
theorem freshC_info : (Try.prog.info? 70).map (·.size) = some 53 := by kernel_rfl

section
variable {P : Program} {ops : Array Oper} {rest : List Oper} {o : Oper} {a : Act} {w : World} {Q : Exit → Act → World → Prop}
theorem wpList_build_eq (hg : o.guard = none) (t : TypeId) (parts : Array (Nat × Operand)) (ho : o.op = .build t parts) (cells : Array Value)
    (hf : P.built t (parts.map fun (i, x) => (i, a.eval x)).toList = some cells) (h : wpList P ops Q rest (a.put o.dst (.agg cells)) w) : wpList P ops Q (o :: rest) a w := by
  refine wpList_build hg t parts ho (by rw [hf]; rfl) ?_
  rw [hf]; exact h
theorem wpList_store_new (hgd : o.guard = none) (t : TypeId) (x y : Operand) (ho : o.op = .store t x y) (c c' : Array Value) (hx : a.eval x = .pointer (some ⟨w.heap.size, 0, none⟩)) (hy : a.eval y = .agg c')
    (hi : (P.info? t).map (·.size) = some c'.size) (hold : c.size = c'.size) (h1 : c'.all (·.oneCell') = true)
    (h : wpList P ops Q rest (a.put o.dst undef) (w.alloc (.cells c' t))) : wpList P ops Q (o :: rest) a (w.alloc (.cells c t)) := by
  refine wpList_store_row hgd t x y ho w.heap.size c' hx hy t c (heap_alloc_last w _) hi hold h1 ?_
  rw [World.setRow_alloc_new]; exact h
end

theorem freshC_cell (seed n j : Nat) (w : World) (t : TypeId) : (w.alloc (.cells (freshC seed n) t)).cell? ⟨w.heap.size, j, none⟩ = (freshC seed n)[j]? := by
  rw [cell_of_row _ _ j (freshC seed n) t (0, 0) (heap_alloc_last w _)]
theorem freshC_froze (seed n j : Nat) (w : World) (t : TypeId) : (w.alloc (.cells (freshC seed n) t)).frozen? ⟨w.heap.size, j, none⟩ = false := by simp
theorem fresh_rounds (seed n : Nat) : ∀ r, r < 10 → (freshC seed n)[2 + r * 5]? = some (.int .u32 0) ∧ (freshC seed n)[2 + r * 5 + 1]? = some (.int .i32 0) ∧ (freshC seed n)[2 + r * 5 + 3]? = some (.int .i64 0) ∧ (freshC seed n)[2 + r * 5 + 4]? = some (.int .u64 0) := by
  intro r hr
  have h : r = 0 ∨ r = 1 ∨ r = 2 ∨ r = 3 ∨ r = 4 ∨ r = 5 ∨ r = 6 ∨ r = 7 ∨ r = 8 ∨ r = 9 := by omega
  rcases h with rfl | rfl | rfl | rfl | rfl | rfl | rfl | rfl | rfl | rfl <;> exact ⟨by kernel_rfl, by kernel_rfl, by kernel_rfl, by kernel_rfl⟩
theorem fresh_rnds (seed n : Nat) (w : World) (t : TypeId) : Rnds w.heap.size seed n 0 (w.alloc (.cells (freshC seed n) t)) := by
  refine ⟨by simp, by rw [freshC_cell]; kernel_rfl, by rw [freshC_cell]; kernel_rfl, fun r hr => ?_, by rw [freshC_cell]; kernel_rfl, fun o => freshC_froze _ _ _ _ _⟩
  obtain ⟨h0, h1, h3, h4⟩ := fresh_rounds seed n r hr
  exact ⟨by rw [freshC_cell]; exact h1, Or.inl ⟨by rw [freshC_cell]; exact h0, _, _, by rw [freshC_cell]; exact h3, by rw [freshC_cell]; exact h4⟩⟩

end Go.Proofs.Ytdidmgmfjfnliaa
