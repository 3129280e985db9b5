/-
  'append' onto blocks, votes and ids of one's own, which tells also where the grown row lies.
-/
import Derived.Test.YtacdiicnfoejoaaViewState
namespace Go.Proofs.Ytacdiicnfoejoaa
set_option maxRecDepth 100000
set_option linter.unusedVariables false
set_option linter.unusedSimpArgs false
set_option linter.unusedSimpArgs false
set_option linter.unusedVariables false
open Go.ChangeShapes Go.WideShapes Go.ChangeAt Go.RowKit

/-- Where a row that has grown lies: where it lay, or in a new block. -/
def LiesAt (w : World) (v v' : Value) : Prop := v'.ownBlock = v.ownBlock ∨ v'.ownBlock = some w.heap.size
section
variable {ops : Array Oper} {rest : List Oper} {o : Oper} {a : Act} (w : World)
theorem wpList_bgrow {Q : Exit → Act → World → Prop} (hgd : o.guard = none) (s x : Operand)
    (ho : o.op = .call { callee := .builtin .append, args := #[s, x], argTypes := #[26, 26] })
    (W : World) (l : List Bk) (v : Value) (hs : a.eval s = v) (HB : Bks W l v w) (B : Nat) (A : Option Addr) (m c : Nat) (news : List Bk) (hx : a.eval x = .slice A m c) (hl : news.length = m)
    (hr : CellsAt w B A (blockCells news)) (hlen : l.length + m ≤ 1000000)
    (h : ∀ A' c' w', Bks W (l ++ news) (.slice A' (l ++ news).length c') w' → w.grownBy w' v.ownBlock → LiesAt w v (.slice A' (l ++ news).length c') → wpList Try.prog ops Q rest (a.put o.dst (.slice A' (l ++ news).length c')) w') : wpList Try.prog ops Q (o :: rest) a w := by
  obtain ⟨i0, hi0, hz0, hz1, hz2⟩ := info_of Try.infoBk
  refine wpList_app w hgd s x _ ho W.heap.size 42 i0 _ 5 40 Try.underlying26 hi0 hz0 hz1 hz2 rfl (by omega) v l.length (blockCells l) hs HB.1 B A m c (blockCells news) hx (by rw [blockCells_length, hl]) hr (blockCells_one _)
    (by unfold maxLen; omega) (by omega) HB.2.size_le ?_
  intro v' w' own g hloc
  have e : (l ++ news).length = l.length + m := by rw [List.length_append, hl]
  rw [← e, blockCells_append] at own
  obtain ⟨A', c', rfl⟩ : ∃ A c, v' = .slice A (l ++ news).length c := by
    rcases own.2 with ⟨hv, h0⟩ | ⟨g, cap, cur, hv, _⟩
    · rw [h0]; exact ⟨_, _, hv⟩
    · exact ⟨_, _, hv⟩
  exact h A' c' w' ⟨own, HB.2.grown g fun i hi => (HB.1.lt i hi).1⟩ g hloc
theorem wpList_vgrow {Q : Exit → Act → World → Prop} (hgd : o.guard = none) (s x : Operand)
    (ho : o.op = .call { callee := .builtin .append, args := #[s, x], argTypes := #[27, 27] })
    (W : World) (l : List Vt) (v : Value) (hs : a.eval s = v) (HB : Vts W l v w) (B : Nat) (A : Option Addr) (m c : Nat) (news : List Vt) (hx : a.eval x = .slice A m c) (hl : news.length = m)
    (hr : CellsAt w B A (votesCells news)) (hlen : l.length + m ≤ 1000000)
    (h : ∀ A' c' w', Vts W (l ++ news) (.slice A' (l ++ news).length c') w' → w.grownBy w' v.ownBlock → LiesAt w v (.slice A' (l ++ news).length c') → wpList Try.prog ops Q rest (a.put o.dst (.slice A' (l ++ news).length c')) w') : wpList Try.prog ops Q (o :: rest) a w := by
  obtain ⟨i0, hi0, hz0, hz1, hz2⟩ := info_of Try.infoV
  refine wpList_app w hgd s x _ ho W.heap.size 45 i0 _ 4 32 Try.underlying27 hi0 hz0 hz1 hz2 rfl (by omega) v l.length (votesCells l) hs HB.1 B A m c (votesCells news) hx (by rw [votesCells_length, hl]) hr (votesCells_one _)
    (by unfold maxLen; omega) (by omega) HB.2.size_le ?_
  intro v' w' own g hloc
  have e : (l ++ news).length = l.length + m := by rw [List.length_append, hl]
  rw [← e, votesCells_append] at own
  obtain ⟨A', c', rfl⟩ : ∃ A c, v' = .slice A (l ++ news).length c := by
    rcases own.2 with ⟨hv, h0⟩ | ⟨g, cap, cur, hv, _⟩
    · rw [h0]; exact ⟨_, _, hv⟩
    · exact ⟨_, _, hv⟩
  exact h A' c' w' ⟨own, HB.2.grown g fun i hi => (HB.1.lt i hi).1⟩ g hloc
section
variable {K : Act → World → Prop} {Q : Exit → Act → World → Prop} {E : Prop}
theorem step_bgrow2 (hgd : Region.wanted o (yielded ops a.tmps) = true) (s x : Operand)
    (ho : o.op = .call { callee := .builtin .append, args := #[s, x], argTypes := #[26, 26] })
    (W : World) (l : List Bk) (v : Value) (hs : a.eval s = v) (HB : Bks W l v w) (B : Nat) (A : Option Addr) (m c : Nat) (news : List Bk) (hx : a.eval x = .slice A m c) (hl : news.length = m)
    (hr : CellsAt w B A (blockCells news)) (hlen : l.length + m ≤ 1000000)
    (h : ∀ A' c' w', Bks W (l ++ news) (.slice A' (l ++ news).length c') w' → w.grownBy w' v.ownBlock → LiesAt w v (.slice A' (l ++ news).length c') → K (a.put o.dst (.slice A' (l ++ news).length c')) w') :
    if Region.wanted o (yielded ops a.tmps) = true then Oper.wp Try.prog o a w K Q else E := by
  rw [if_pos hgd]
  obtain ⟨i0, hi0, hz0, hz1, hz2⟩ := info_of Try.infoBk
  refine wp_app w s x _ ho W.heap.size 42 i0 _ 5 40 Try.underlying26 hi0 hz0 hz1 hz2 rfl (by omega) v l.length (blockCells l) hs HB.1 B A m c (blockCells news) hx (by rw [blockCells_length, hl]) hr (blockCells_one _)
    (by unfold maxLen; omega) (by omega) HB.2.size_le ?_
  intro v' w' own g hloc
  have e : (l ++ news).length = l.length + m := by rw [List.length_append, hl]
  rw [← e, blockCells_append] at own
  obtain ⟨A', c', rfl⟩ : ∃ A c, v' = .slice A (l ++ news).length c := by
    rcases own.2 with ⟨hv, h0⟩ | ⟨g, cap, cur, hv, _⟩
    · rw [h0]; exact ⟨_, _, hv⟩
    · exact ⟨_, _, hv⟩
  exact h A' c' w' ⟨own, HB.2.grown g fun i hi => (HB.1.lt i hi).1⟩ g hloc
theorem step_vgrow2 (hgd : Region.wanted o (yielded ops a.tmps) = true) (s x : Operand)
    (ho : o.op = .call { callee := .builtin .append, args := #[s, x], argTypes := #[27, 27] })
    (W : World) (l : List Vt) (v : Value) (hs : a.eval s = v) (HB : Vts W l v w) (B : Nat) (A : Option Addr) (m c : Nat) (news : List Vt) (hx : a.eval x = .slice A m c) (hl : news.length = m)
    (hr : CellsAt w B A (votesCells news)) (hlen : l.length + m ≤ 1000000)
    (h : ∀ A' c' w', Vts W (l ++ news) (.slice A' (l ++ news).length c') w' → w.grownBy w' v.ownBlock → LiesAt w v (.slice A' (l ++ news).length c') → K (a.put o.dst (.slice A' (l ++ news).length c')) w') :
    if Region.wanted o (yielded ops a.tmps) = true then Oper.wp Try.prog o a w K Q else E := by
  rw [if_pos hgd]
  obtain ⟨i0, hi0, hz0, hz1, hz2⟩ := info_of Try.infoV
  refine wp_app w s x _ ho W.heap.size 45 i0 _ 4 32 Try.underlying27 hi0 hz0 hz1 hz2 rfl (by omega) v l.length (votesCells l) hs HB.1 B A m c (votesCells news) hx (by rw [votesCells_length, hl]) hr (votesCells_one _)
    (by unfold maxLen; omega) (by omega) HB.2.size_le ?_
  intro v' w' own g hloc
  have e : (l ++ news).length = l.length + m := by rw [List.length_append, hl]
  rw [← e, votesCells_append] at own
  obtain ⟨A', c', rfl⟩ : ∃ A c, v' = .slice A (l ++ news).length c := by
    rcases own.2 with ⟨hv, h0⟩ | ⟨g, cap, cur, hv, _⟩
    · rw [h0]; exact ⟨_, _, hv⟩
    · exact ⟨_, _, hv⟩
  exact h A' c' w' ⟨own, HB.2.grown g fun i hi => (HB.1.lt i hi).1⟩ g hloc
end
end

end Go.Proofs.Ytacdiicnfoejoaa
