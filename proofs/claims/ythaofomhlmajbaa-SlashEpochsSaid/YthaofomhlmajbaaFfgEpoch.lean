/-
  The contract of ffg's byEpoch.
-/
import Derived.Test.YthaofomhlmajbaaFfgVoters
import Derived.Test.YthaofomhlmajbaaCkRow
import Derived.Test.YthaofomhlmajbaaMapKinds
import Derived.Test.YthaofomhlmajbaaGroupF
import Derived.Test.YthaofomhlmajbaaUntil
import Derived.Test.YthaofomhlmajbaaSeqBack
namespace Go.Proofs.Ythaofomhlmajbaa
set_option maxRecDepth 100000
set_option linter.unusedVariables false
set_option linter.unusedSimpArgs false
set_option linter.unusedSimpArgs false
set_option linter.unusedVariables false
open Go.ChangeShapes Go.WideShapes Go.ChangeAt Go.RowKit

def epoF (l : List Ck) (e : Int) : List Ck := l.filter fun x => decide (x.e = e)
theorem epoF_snoc (l : List Ck) (x : Ck) : epoF (l ++ [x]) = growG (epoF l) x.e x := by
  funext e
  unfold epoF growG setF
  rw [List.filter_append]
  by_cases q : e = x.e
  · rw [if_pos q, q, List.filter_cons_of_pos (by simp), List.filter_nil]
  · rw [if_neg q, List.filter_cons_of_neg (by simpa using fun z => q z.symm), List.filter_nil, List.append_nil]
theorem epoF_length (l : List Ck) (e : Int) : (epoF l e).length ≤ l.length := List.length_filter_le _ _
theorem Group.look2 {α γ : Type} {K : KeyKind α} {S : RowKind γ} {B : Nat} {f : α → List γ} {b m : Nat} {w : World} (h : Group K S B f b m w) {t : TypeId} (ht : Try.prog.underlying t = some (.map K.k S.sl)) {x : α} (hx : K.wf x) :
    ∃ A c, GPend K S (ByKey K S b m) B f b x (.slice A (f x).length c) w ∧ ∀ w' : World, w'.heap[b]? = w.heap[b]? → (Instr.lookup t (.map (some b)) (K.key x) false).run Try.prog w' = .ok (.slice A (f x).length c) w' := by
  obtain ⟨V, h0, hb, hB, h1, h2⟩ := h
  obtain ⟨A, c, e⟩ := row_form (h1 x hx)
  exact ⟨A, c, ⟨hb, hB, V, h0, e.symm, h1, h2⟩, fun w' hw => by rw [(OwnF.at h0 hw).look (t := t) ht hx, ← e]; rfl⟩
theorem GPend.far {α γ : Type} {K : KeyKind α} {S : RowKind γ} {M : (α → Value) → World → Prop} {B : Nat} {f : α → List γ} {b : Nat} {x : α} {v : Value} {w : World} (h : GPend K S M B f b x v w) (hx : K.wf x) : ∀ g, v.ownBlock = some g → B ≤ g ∧ g < w.heap.size := by
  obtain ⟨_, _, V, _, rfl, h2, _⟩ := h
  exact (h2 x hx).lt
def EpoNew (l : List Ck) (w : World) (e : Ending) (w' : World) : Prop := ∃ b m B : Nat, e = .returned (.map (some b)) ∧ m ≤ l.length ∧ Group epKey ckRow B (epoF l) b m w' ∧ w.heap.size ≤ b ∧ Kept w w'

end Go.Proofs.Ythaofomhlmajbaa
