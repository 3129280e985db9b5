/-
  What layer 6's laws ask, in plain words: what is not there, or may not be, is told nothing of.
-/
import Derived.Test.YtepgbnojbomicaaTreeAwake
namespace Go.Proofs.Ytepgbnojbomicaa

theorem none_slot {l : List Bk} {x : Id2} (h : mayB l = true → standsB l x = false) : slotC l x = (0, false) := by
  unfold slotC
  cases q : mayB l with
  | false => rfl
  | true =>
    rw [if_pos rfl]
    have := slotB_isSome l x
    rw [h q] at this
    cases k : slotB l x with
    | none => rfl
    | some s => rw [k] at this; cases this
theorem none_find {l : List Bk} {x : Id2} (h : mayB l = true → standsB l x = false) : findC l x = -1 := by
  unfold findC
  cases q : mayB l with
  | false => rfl
  | true =>
    rw [if_pos rfl]
    have := h q
    unfold standsB at this
    cases k : posB l x with
    | none => rfl
    | some s => rw [k] at this; cases this
theorem none_chain {l : List Bk} {x : Id2} (h : mayB l = true → standsB l x = false) : chainC l x = [] := chainC_no h
theorem none_under {l : List Bk} {x : Id2} (low : Id2) (h : mayB l = true → standsB l x = false) : underC l low x = false := by
  unfold underC; rw [chainC_no h]; rfl

end Go.Proofs.Ytepgbnojbomicaa
