/-
  The contracts of the library's IndexFunc and ContainsFunc at checkpoints.
-/
import Derived.Test.YthaofomhlmajbaaCkRow
import Derived.Test.YthaofomhlmajbaaFfgOpen
import Derived.Test.YthaofomhlmajbaaFfgEq
namespace Go.Proofs.Ythaofomhlmajbaa
set_option maxRecDepth 100000
set_option linter.unusedVariables false
set_option linter.unusedSimpArgs false
set_option linter.unusedSimpArgs false
set_option linter.unusedVariables false
open Go.ChangeShapes Go.WideShapes Go.ChangeAt Go.RowKit

/-- Function f, bound to cb, tells of each checkpoint what q does, in each world that R tells of. -/
def FitsK (f : Nat) (cb : Array Value) (q : Ck → Bool) (R : World → Prop) : Prop := ∀ W, R W → ∀ x, WfK x → Calls Try.prog f (#[.agg #[.int .i64 x.e, .int .u64 x.r.1, .int .u64 x.r.2]] ++ cb) W fun e w' => e = .returned (.bool (q x)) ∧ Kept W w'
def idxK (q : Ck → Bool) (l : List Ck) : Int := if l.findIdx q < l.length then (l.findIdx q : Int) else -1
theorem idxK_hit {q : Ck → Bool} {l : List Ck} {j : Nat} (hj : j < l.length) (h : ∀ i (hi : i < l.length), i < j → q l[i] = false) (h2 : q l[j] = true) : idxK q l = j := by
  have e : l.findIdx q = j := (List.findIdx_eq hj).2 ⟨h2, fun i hi => h i (by omega) hi⟩
  unfold idxK
  rw [e, if_pos hj]
theorem idxK_none {q : Ck → Bool} {l : List Ck} (h : ∀ i (hi : i < l.length), q l[i] = false) : idxK q l = -1 := by
  have e : l.findIdx q = l.length := List.findIdx_eq_length.2 fun x hx => by
    obtain ⟨i, hi, rfl⟩ := List.getElem_of_mem hx
    exact h i hi
  unfold idxK
  rw [e, if_neg (by omega)]
theorem idxK_any (q : Ck → Bool) (l : List Ck) : decide (0 ≤ idxK q l) = l.any q := by
  unfold idxK
  by_cases h : l.findIdx q < l.length
  · rw [if_pos h]
    have := List.findIdx_getElem (w := h)
    rw [List.any_eq_true.2 ⟨_, List.getElem_mem h, this⟩]
    simp
  · rw [if_neg h]
    have : l.any q = false := by
      rw [Bool.eq_false_iff]
      intro a
      obtain ⟨x, hx, hq⟩ := List.any_eq_true.1 a
      exact h (List.findIdx_lt_length_of_exists ⟨x, hx, hq⟩)
    rw [this]; rfl

end Go.Proofs.Ythaofomhlmajbaa
