/-
  A conf of one's own whose weights are appended one by one.
-/
import Derived.Deep.AppendLies
import Derived.StillTailTactics
import Derived.Test.YtacdiicnfoejoaaPlainG
namespace Go.Proofs.Ytacdiicnfoejoaa
set_option maxRecDepth 100000
set_option linter.unusedVariables false
set_option linter.unusedSimpArgs false
open Go.ChangeShapes Go.WideShapes Go.ChangeAt Go.RowKit

theorem int_at {w : World} {B : Nat} {A : Option Addr} {l : List Int} (h : CellsAt w B A (intCells l)) {i : Nat} (hi : i < l.length) : ∃ z o, A = some ⟨z, o, none⟩ ∧ z < B ∧ w.cell? ⟨z, o + i, none⟩ = some (.int .i64 l[i]) := by
  obtain ⟨z, o, e, hb, hc⟩ := h.plain (by rw [intCells_length]; omega)
  exact ⟨z, o, e, hb, hc i _ (by simp [intCells, hi])⟩

/-- A conf's box z of one's own: its first cell holds u, all else is as in k; v holds the numbers of l, in a row of one's own. -/
structure DblAt (W : World) (z : Nat) (k : Cf) (u : Value) (l : List Int) (v : Value) (w : World) : Prop where
  big : W.heap.size ≤ z
  lt : z < w.heap.size
  c0 : w.cell? ⟨z, 0, none⟩ = some u
  c1 : w.cell? ⟨z, 1, none⟩ = some (.int .u64 k.seed)
  c2 : w.cell? ⟨z, 2, none⟩ = some (.int .i64 k.ep)
  c3 : w.cell? ⟨z, 3, none⟩ = some (.int .i64 k.nu)
  c4 : w.cell? ⟨z, 4, none⟩ = some (.int .i64 k.de)
  fr : ∀ j, w.frozen? ⟨z, j, none⟩ = false
  own : Ints W l v w
  ne : v.ownBlock ≠ some z
section
variable {W w : World} {z : Nat} {k : Cf} {u v : Value} {l : List Int}
theorem DblAt.drew (h : DblAt W z k u l v w) : DblAt W z k u l v w.drew :=
  ⟨h.big, h.lt, h.c0, h.c1, h.c2, h.c3, h.c4, h.fr, h.own.kept (Kept.refl w).drew, h.ne⟩
theorem DblAt.kept {w' : World} (h : DblAt W z k u l v w) (q : Kept w w') : DblAt W z k u l v w' :=
  ⟨h.big, Nat.lt_of_lt_of_le h.lt q.size_le, (q.cell h.lt).trans h.c0, (q.cell h.lt).trans h.c1, (q.cell h.lt).trans h.c2, (q.cell h.lt).trans h.c3, (q.cell h.lt).trans h.c4, fun j => (q.frozen h.lt).trans (h.fr j), h.own.kept q, h.ne⟩
theorem DblAt.alloc (h : DblAt W z k u l v w) (o : Obj) : DblAt W z k u l v (w.alloc o) := h.kept ((Kept.refl w).alloc o)
theorem DblAt.five (h : DblAt W z k u l v w) : HasCells w z [u, .int .u64 k.seed, .int .i64 k.ep, .int .i64 k.nu, .int .i64 k.de] := by
  refine ⟨h.lt, fun i x hx => ?_⟩
  match i, hx with
  | 0, hx => injection hx with hx; rw [← hx]; exact h.c0
  | 1, hx => injection hx with hx; rw [← hx]; exact h.c1
  | 2, hx => injection hx with hx; rw [← hx]; exact h.c2
  | 3, hx => injection hx with hx; rw [← hx]; exact h.c3
  | 4, hx => injection hx with hx; rw [← hx]; exact h.c4
  | n + 5, hx => simp at hx
theorem DblAt.store (h : DblAt W z k u l v w) (u' : Value) : DblAt W z k u' l v (w.setCell ⟨z, 0, none⟩ u') := by
  have o : ∀ j, j ≠ 0 → (w.setCell ⟨z, 0, none⟩ u').cell? ⟨z, j, none⟩ = w.cell? ⟨z, j, none⟩ := fun j hj => World.cell?_setCell_other _ _ _ _ (by simp [hj])
  refine ⟨h.big, by simpa using h.lt, World.cell?_setCell_same _ _ _ h.c0, (o 1 (by omega)).trans h.c1, (o 2 (by omega)).trans h.c2, (o 3 (by omega)).trans h.c3, (o 4 (by omega)).trans h.c4, fun j => ?_, ⟨⟨h.own.1.1, ?_⟩, h.own.2.setCell h.big u'⟩, h.ne⟩
  · have := h.fr j
    simp [go_sem, this]
  · rcases h.own.1.2 with h2 | ⟨g, cap, cur, hv, hb, hh, q⟩
    · exact Or.inl h2
    · refine Or.inr ⟨g, cap, cur, hv, hb, ?_, q⟩
      rw [Below.heap_setCell _ _ _ _ (fun e => h.ne (by rw [hv]; exact congrArg some e))]
      exact hh
theorem DblAt.app {w' : World} {v' : Value} {news : List Int} {m : Nat} (HB : DblAt W z k u l v w) (own : w'.ownsRow W.heap.size 3 1 v' (l.length + m) (intCells l ++ intCells news)) (g : w.grownBy w' v.ownBlock)
    (hloc : v'.ownBlock = v.ownBlock ∨ v'.ownBlock = some w.heap.size) (hl : news.length = m) : DblAt W z k u (l ++ news) v' w' := by
  have far : ∀ j, w'.cell? ⟨z, j, none⟩ = w.cell? ⟨z, j, none⟩ := fun j => g.cell_far _ HB.lt (fun e => HB.ne e.symm)
  refine ⟨HB.big, Nat.lt_of_lt_of_le HB.lt g.size, (far 0).trans HB.c0, (far 1).trans HB.c1, (far 2).trans HB.c2, (far 3).trans HB.c3, (far 4).trans HB.c4, fun j => (g.frozen_far _ HB.lt (fun e => HB.ne e.symm)).trans (HB.fr j), ⟨?_, HB.own.2.grown g fun i hi => (HB.own.1.lt i hi).1⟩, fun e => ?_⟩
  · rw [intCells_append] at own
    rw [List.length_append, hl]
    exact own
  · rcases hloc with h1 | h1
    · exact HB.ne (by rw [← h1]; exact e)
    · rw [h1] at e
      injection e with e
      have := HB.lt
      omega
/-- append of a number onto the row. -/
theorem wpList_dbl {ops : Array Oper} {rest : List Oper} {o : Oper} {a : Act} {Q : Exit → Act → World → Prop} (hgd : o.guard = none) (s x : Operand)
    (ho : o.op = .call { callee := .builtin .append, args := #[s, x], argTypes := #[22, 22] })
    (hs : a.eval s = v) (HB : DblAt W z k u l v w) (B : Nat) (A : Option Addr) (m c : Nat) (news : List Int) (hx : a.eval x = .slice A m c) (hl : news.length = m)
    (hr : CellsAt w B A (intCells news)) (hlen : l.length + m ≤ 1000000)
    (h : ∀ v' w', DblAt W z k u (l ++ news) v' w' → wpList Try.prog ops Q rest (a.put o.dst v') w') : wpList Try.prog ops Q (o :: rest) a w := by
  obtain ⟨i0, hi0, hz0, hz1, hz2⟩ := info_three Try.infoI
  refine wpList_app w hgd s x _ ho W.heap.size 3 i0 _ 1 8 Try.underlying22 hi0 hz0 hz1 hz2 rfl (by omega) v l.length (intCells l) hs HB.own.1 B A m c (intCells news) hx (by simp [hl]) hr (intCells_one _)
    (by unfold maxLen; omega) (by omega) HB.own.2.size_le ?_
  intro v' w' own g hloc
  exact h v' w' (DblAt.app HB own g hloc hl)
end
theorem step_dbl {W : World} {z : Nat} {k : Cf} {u : Value} {l : List Int} {v : Value} {ops : Array Oper} {o : Oper} {a : Act} {K : Act → World → Prop} {Q : Exit → Act → World → Prop} {E : Prop} {w : World} (hgd : Region.wanted o (yielded ops a.tmps) = true) (s x : Operand)
    (ho : o.op = .call { callee := .builtin .append, args := #[s, x], argTypes := #[22, 22] })
    (hs : a.eval s = v) (HB : DblAt W z k u l v w) (B : Nat) (A : Option Addr) (m c : Nat) (news : List Int) (hx : a.eval x = .slice A m c) (hl : news.length = m)
    (hr : CellsAt w B A (intCells news)) (hlen : l.length + m ≤ 1000000)
    (h : ∀ A' c' w', DblAt W z k u (l ++ news) (.slice A' (l ++ news).length c') w' → K (a.put o.dst (.slice A' (l ++ news).length c')) w') :
    if Region.wanted o (yielded ops a.tmps) = true then Oper.wp Try.prog o a w K Q else E := by
  rw [if_pos hgd]
  obtain ⟨i0, hi0, hz0, hz1, hz2⟩ := info_three Try.infoI
  refine wp_app w s x _ ho W.heap.size 3 i0 _ 1 8 Try.underlying22 hi0 hz0 hz1 hz2 rfl (by omega) v l.length (intCells l) hs HB.own.1 B A m c (intCells news) hx (by simp [hl]) hr (intCells_one _)
    (by unfold maxLen; omega) (by omega) HB.own.2.size_le ?_
  intro v' w' own g hloc
  have hd := DblAt.app (news := news) HB own g hloc hl
  obtain ⟨A', c', e⟩ := row_slice hd.own.1
  rw [e] at hd ⊢
  exact h A' c' w' hd
theorem DblAt.new (W : World) (k : Cf) (t : TypeId) (w : World) (hw : w = W.alloc (.cells #[.slice none 0 0, .int .u64 k.seed, .int .i64 k.ep, .int .i64 k.nu, .int .i64 k.de] t)) (z : Nat) (hz : z = W.heap.size) : DblAt W z k (.slice none 0 0) [] (.slice none 0 0) w := by
  subst hw hz
  obtain ⟨c0, c1, c2, c3, c4⟩ := (HasCells.new W #[.slice none 0 0, .int .u64 k.seed, .int .i64 k.ep, .int .i64 k.nu, .int .i64 k.de] t W.heap.size rfl).five
  exact ⟨Nat.le_refl _, by simp, c0, c1, c2, c3, c4, fun j => by simp [go_sem], (Ints.nil W).alloc _, fun e => by cases e⟩

end Go.Proofs.Ytacdiicnfoejoaa
