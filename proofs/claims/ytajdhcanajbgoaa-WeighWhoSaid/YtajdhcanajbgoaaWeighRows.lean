/-
  A list of numbers and a list of votes of one's own, side by side; cells held over a drawn region.
-/
import Derived.Test.YtajdhcanajbgoaaVoteTwo
import Derived.Test.YtajdhcanajbgoaaGround
namespace Go.Proofs.Ytajdhcanajbgoaa
set_option maxRecDepth 100000
open Go.ChangeShapes Go.WideShapes Go.ChangeAt Go.RowKit

theorem Ints.beside {W w w' : World} {l : List Int} {v : Value} {row : Option Nat} (h : Ints W l v w) (hg : w.grownBy w' row) (hr : ∀ k, row = some k → W.heap.size ≤ k) (hne : ∀ g, v.ownBlock = some g → row ≠ some g) : Ints W l v w' := by
  refine ⟨⟨h.1.1, ?_⟩, h.2.grown hg hr⟩
  rcases h.1.2 with h2 | ⟨g, cap, cur, hv, hb, hh, k⟩
  · exact Or.inl h2
  · refine Or.inr ⟨g, cap, cur, hv, hb, ?_, k⟩
    rw [hg.block g (h.1.lt g (by rw [hv]; rfl)).2 (fun e => hne g (by rw [hv]; rfl) e.symm)]
    exact hh
/-- Two rows that share no block. -/
def IV (W : World) (l1 : List Int) (v1 : Value) (l2 : List Vt) (v2 : Value) (w : World) : Prop := Ints W l1 v1 w ∧ Vts W l2 v2 w ∧ ∀ g, v1.ownBlock = some g → v2.ownBlock ≠ some g
theorem IV.nil (W : World) : IV W [] (.slice none 0 0) [] (.slice none 0 0) W := ⟨Ints.nil W, Vts.nil W, fun _ h => by cases h⟩
theorem IV.alloc {W w : World} {l1 : List Int} {l2 : List Vt} {v1 v2 : Value} (h : IV W l1 v1 l2 v2 w) (o : Obj) : IV W l1 v1 l2 v2 (w.alloc o) := ⟨h.1.alloc o, h.2.1.alloc o, h.2.2⟩
theorem IV.kept {W w w' : World} {l1 : List Int} {l2 : List Vt} {v1 v2 : Value} (h : IV W l1 v1 l2 v2 w) (k : Kept w w') : IV W l1 v1 l2 v2 w' := ⟨h.1.kept k, h.2.1.kept k, h.2.2⟩
section
variable {ops : Array Oper} {rest : List Oper} {o : Oper} {a : Act} {Q : Exit → Act → World → Prop}
/-- append of a number onto the first one. -/
theorem wpList_iv1 (w : World) (hgd : o.guard = none) (s x : Operand)
    (ho : o.op = .call { callee := .builtin .append, args := #[s, x], argTypes := #[22, 22] })
    (W : World) (l : List Int) (l2 : List Vt) (v v2 : Value) (hs : a.eval s = v) (HB : IV W l v l2 v2 w) (B : Nat) (A : Option Addr) (m c : Nat) (news : List Int) (hx : a.eval x = .slice A m c) (hl : news.length = m)
    (hr : CellsAt w B A (intCells news)) (hlen : l.length + m ≤ 1000000)
    (h : ∀ v' w', IV W (l ++ news) v' l2 v2 w' → wpList Try.prog ops Q rest (a.put o.dst v') w') : wpList Try.prog ops Q (o :: rest) a w := by
  obtain ⟨i0, hi0, hz0, hz1, hz2⟩ := info_three Try.infoI
  refine wpList_app w hgd s x _ ho W.heap.size 3 i0 _ 1 8 Try.underlying22 hi0 hz0 hz1 hz2 rfl (by omega) v l.length (intCells l) hs HB.1.1 B A m c (intCells news) hx (by simp [hl]) hr (intCells_one _)
    (by unfold maxLen; omega) (by omega) HB.1.2.size_le ?_
  intro v' w' own g hloc
  refine h v' w' ⟨⟨?_, HB.1.2.grown g fun i hi => (HB.1.1.lt i hi).1⟩, HB.2.1.beside g (fun k hk => (HB.1.1.lt k hk).1) (fun k hk e => HB.2.2 k e hk), fun k hk e => ?_⟩
  · rw [intCells_append] at own
    rw [List.length_append, hl]
    exact own
  · rcases hloc with h1 | h1
    · exact HB.2.2 k (by rw [← h1]; exact hk) e
    · rw [h1] at hk
      injection hk with hk
      have := (HB.2.1.1.lt k e).2
      omega
/-- append of votes onto the second one. -/
theorem wpList_iv2 (w : World) (hgd : o.guard = none) (s x : Operand)
    (ho : o.op = .call { callee := .builtin .append, args := #[s, x], argTypes := #[27, 27] })
    (W : World) (l : List Int) (l2 : List Vt) (v v2 : Value) (hs : a.eval s = v2) (HB : IV W l v l2 v2 w) (B : Nat) (A : Option Addr) (m c : Nat) (news : List Vt) (hx : a.eval x = .slice A m c) (hl : news.length = m)
    (hr : CellsAt w B A (votesCells news)) (hlen : l2.length + m ≤ 10000000)
    (h : ∀ v' w', IV W l v (l2 ++ news) v' w' → wpList Try.prog ops Q rest (a.put o.dst v') w') : wpList Try.prog ops Q (o :: rest) a w := by
  obtain ⟨i0, hi0, hz0, hz1, hz2⟩ := info_of Try.infoV
  refine wpList_app w hgd s x _ ho W.heap.size 40 i0 _ 4 32 Try.underlying27 hi0 hz0 hz1 hz2 rfl (by omega) v2 l2.length (votesCells l2) hs HB.2.1.1 B A m c (votesCells news) hx (by rw [votesCells_length, hl]) hr (votesCells_one _)
    (by unfold maxLen; omega) (by omega) HB.2.1.2.size_le ?_
  intro v' w' own g hloc
  refine h v' w' ⟨HB.1.beside g (fun k hk => (HB.2.1.1.lt k hk).1) (fun k hk e => HB.2.2 k hk e), ⟨?_, HB.2.1.2.grown g fun i hi => (HB.2.1.1.lt i hi).1⟩, fun k hk e => ?_⟩
  · rw [votesCells_append] at own
    rw [List.length_append, hl]
    exact own
  · rcases hloc with h1 | h1
    · exact HB.2.2 k hk (by rw [← h1]; exact e)
    · rw [h1] at e
      injection e with e
      have := (HB.1.1.lt k hk).2
      omega
end

end Go.Proofs.Ytajdhcanajbgoaa
