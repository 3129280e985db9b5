/-
  The contract of package ghost's call Head.
  The chapter's example, which every law of layer 9 asks first: it is so; and few.
  The contracts of the given package marigoldref14.
  The contracts of package gold's calls.
-/
import Derived.WalkMore
import Derived.Test.YtacdiicnfoejoaaWeighG
import Derived.Test.YtacdiicnfoejoaaGround
import Derived.Test.YtacdiicnfoejoaaHeadRefG
import Derived.Test.YtacdiicnfoejoaaPlainG
import Derived.Test.YtacdiicnfoejoaaVoteRefG
import Derived.Test.YtacdiicnfoejoaaDutyRefG
import Derived.Test.YtacdiicnfoejoaaDutyG
import Derived.Test.YtacdiicnfoejoaaVoteG
import Derived.Test.YtacdiicnfoejoaaVoteOfG
namespace Go.Proofs.Ytacdiicnfoejoaa
set_option maxRecDepth 100000
set_option linter.unusedVariables false
set_option linter.unusedSimpArgs false
section
set_option linter.unusedSimpArgs false
set_option linter.unusedVariables false
open Go.ChangeShapes Go.WideShapes Go.ChangeAt Go.RowKit

theorem best_names {k : Cf} {l : List Bk} {v : List Vt} {x : Id2} {q : List Id2} (hq : kidsC l x = q) (h0 : 2 ≤ q.length) : headX k l v (candOf (onC k l v) (bestTo (onC k l v) q)).2 = headX k l v x ∧ l.length - rank l (candOf (onC k l v) (bestTo (onC k l v) q)).2 < l.length - rank l x := by
  have hne : q ≠ [] := fun e => by rw [e] at h0; simp at h0
  refine ⟨(best_step hq hne).symm, ?_⟩
  subst hq
  cases e : bestTo (onC k l v) (kidsC l x) with
  | none => exact absurd (bestTo_none e) hne
  | some y =>
    have := kid_rank (bestTo_mem e)
    show _ - rank l y < _
    omega
theorem one_names {k : Cf} {l : List Bk} {v : List Vt} {x y : Id2} (hq : kidsC l x = [y]) : headX k l v y = headX k l v x ∧ l.length - rank l y < l.length - rank l x := by
  refine ⟨(best_one hq).symm, ?_⟩
  have := kid_rank (l := l) (x := x) (y := y) (by rw [hq]; simp)
  omega
end

section
set_option linter.unusedSimpArgs false
set_option linter.unusedVariables false
open Go.ChangeShapes Go.WideShapes Go.ChangeAt Go.RowKit

def kGe : Cf := ⟨[1], 0, 1, 0, 4⟩
def gA : Bk := ⟨1, 0, (0, 0), 0⟩
def gB : Bk := ⟨1, 0, (0, 0), 1⟩
theorem ex_less9 : lessN (nameB gB) (nameB gA) = true := by decide +kernel
theorem ex_apart9 : sameI (nameB gB) (nameB gA) = false := by decide +kernel
theorem ex_head1 : headC kGe [gA, gB] [] = nameB gA := by decide +kernel
theorem ex_head2 : headC kGe [gA, gB] [⟨0, 1, nameB gB⟩] = nameB gB := by decide +kernel
theorem ex_head3 : headC kGe [] [] = zid := by decide +kernel
theorem gA_wf : WfB gA := ⟨⟨by decide, by decide⟩, by decide⟩
theorem gB_wf : WfB gB := ⟨⟨by decide, by decide⟩, by decide⟩
theorem lG_wf : WfL [gA, gB] := fun b hb => by
  rcases List.mem_cons.1 hb with rfl | hb
  · exact gA_wf
  · rw [List.mem_singleton] at hb; subst hb; exact gB_wf
theorem vG_wf : WfVs [⟨0, 1, nameB gB⟩] := fun b hb => by
  rw [List.mem_singleton] at hb; subst hb; exact ⟨⟨by decide, by decide⟩, ⟨by decide, by decide⟩, nameB_lt gB⟩

/-! ### few -/
def few9C (k : Cf) (l : List Bk) (v : List Vt) : Bool := decide (k.ws.length ≤ 40 ∧ l.length ≤ 20 ∧ v.length ≤ 30)
theorem few9C_yes {k : Cf} {l : List Bk} {v : List Vt} (h : few9C k l v = true) : k.ws.length ≤ 40 ∧ l.length ≤ 20 ∧ v.length ≤ 30 := of_decide_eq_true h
end

section
set_option linter.unusedSimpArgs false
set_option linter.unusedVariables false
open Go.ChangeShapes Go.WideShapes Go.ChangeAt Go.RowKit

/-- The votes of the committee that count, in a row. -/
def GoldNew (k : Cf) (slot : Int) (v : List Vt) (w : World) (e : Ending) (w' : World) : Prop := ∃ R A c, Golds k slot v R ∧ R.length ≤ v.length ∧ e = .returned (.slice A R.length c) ∧ CellsAt w' w'.heap.size A (votesCells R) ∧ Kept w w'
end

section
set_option linter.unusedSimpArgs false
set_option linter.unusedVariables false
open Go.ChangeShapes Go.WideShapes Go.ChangeAt Go.RowKit

/-- A function value, its bound argument ahead, that tells whether q of a vote. -/
def FitsB (f : Nat) (bd : Value) (q : Vt → Bool) (w : World) : Prop := ∀ W, Kept w W → ∀ x, WfV x → Calls Try.prog f #[bd, .agg #[.int .i64 x.f, .int .i64 x.s, .int .u64 x.p.1, .int .u64 x.p.2]] W fun e w' => e = .returned (.bool (q x)) ∧ Kept W w'
end

end Go.Proofs.Ytacdiicnfoejoaa
