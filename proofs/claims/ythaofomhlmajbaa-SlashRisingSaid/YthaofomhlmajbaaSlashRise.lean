/-
  Boxes of checkpoints of one's own, that are written; a row of links above them, onto which is appended.
-/
import Derived.Test.YthaofomhlmajbaaLkRow
import Derived.Test.YthaofomhlmajbaaSlashMath
import Derived.Test.YthaofomhlmajbaaFfgMath
namespace Go.Proofs.Ythaofomhlmajbaa
set_option maxRecDepth 100000
set_option linter.unusedVariables false
set_option linter.unusedSimpArgs false
set_option linter.unusedSimpArgs false
set_option linter.unusedVariables false
open Go.ChangeShapes Go.WideShapes Go.ChangeAt Go.RowKit

/-- Block z is a box that holds checkpoint c. -/
def AtK (w : World) (z : Nat) (c : Ck) : Prop := w.heap[z]? = some (.cells #[.int .i64 c.e, .int .u64 c.r.1, .int .u64 c.r.2] 26 (0, 0))
theorem AtK.lt {w : World} {z : Nat} {c : Ck} (h : AtK w z c) : z < w.heap.size := (Array.getElem?_eq_some_iff.1 h).1
theorem AtK.c0 {w : World} {z : Nat} {c : Ck} (h : AtK w z c) : w.cell? ⟨z, 0, none⟩ = some (.int .i64 c.e) := by rw [cell_of_row w z 0 _ _ _ h]; rfl
theorem AtK.c1 {w : World} {z : Nat} {c : Ck} (h : AtK w z c) : w.cell? ⟨z, 1, none⟩ = some (.int .u64 c.r.1) := by rw [cell_of_row w z 1 _ _ _ h]; rfl
theorem AtK.c2 {w : World} {z : Nat} {c : Ck} (h : AtK w z c) : w.cell? ⟨z, 2, none⟩ = some (.int .u64 c.r.2) := by rw [cell_of_row w z 2 _ _ _ h]; rfl
theorem AtK.fr {w : World} {z : Nat} {c : Ck} (h : AtK w z c) (j : Nat) : w.frozen? ⟨z, j, none⟩ = false := frozen_of_row w z j _ _ h
theorem AtK.new (w : World) (c : Ck) (z : Nat) (hz : z = w.heap.size) : AtK (w.alloc (.cells #[.int .i64 c.e, .int .u64 c.r.1, .int .u64 c.r.2] 26)) z c := by subst hz; exact heap_alloc_new w _
theorem AtK.alloc {w : World} {z : Nat} {c : Ck} (h : AtK w z c) (o : Obj) : AtK (w.alloc o) z c := by
  have := h.lt
  unfold AtK
  rw [← h]
  exact ((Kept.refl w).alloc o).heap this
theorem AtK.kept {w w' : World} {z : Nat} {c : Ck} (h : AtK w z c) (k : Kept w w') : AtK w' z c := (k.heap h.lt).trans h
theorem AtK.grown {w w' : World} {z : Nat} {c : Ck} {row : Option Nat} (h : AtK w z c) (g : w.grownBy w' row) (hr : some z ≠ row) : AtK w' z c := (g.block z h.lt hr).trans h
/-- A store elsewhere. -/
theorem AtK.other {w : World} {z : Nat} {c : Ck} (h : AtK w z c) {p : Addr} (hp : p.block ≠ z) (u : Value) : AtK (w.setCell p u) z c := by
  unfold AtK
  rw [heap_setCell_other w p z u (fun e => hp e.symm)]
  exact h
/-- The box's three cells are written. -/
theorem AtK.set3 {w : World} {z : Nat} {c d : Ck} (h : AtK w z c) : AtK (((w.setCell ⟨z, 0, none⟩ (.int .i64 d.e)).setCell ⟨z, 1, none⟩ (.int .u64 d.r.1)).setCell ⟨z, 2, none⟩ (.int .u64 d.r.2)) z d := by
  have h1 := heap_setCell_same w z 0 _ _ (.int .i64 d.e) h
  have h2 := heap_setCell_same _ z 1 _ _ (.int .u64 d.r.1) h1
  have h3 := heap_setCell_same _ z 2 _ _ (.int .u64 d.r.2) h2
  exact h3
theorem AtK.set2 {w : World} {z : Nat} {e : Int} {r0 r : Nat × Nat} (h : AtK w z ⟨e, r0⟩) : AtK ((w.setCell ⟨z, 1, none⟩ (.int .u64 r.1)).setCell ⟨z, 2, none⟩ (.int .u64 r.2)) z ⟨e, r⟩ := by
  have h1 := heap_setCell_same w z 1 _ _ (.int .u64 r.1) h
  have h2 := heap_setCell_same _ z 2 _ _ (.int .u64 r.2) h1
  exact h2
/-- v holds the links of l, in a row of its own that lies from block b on. -/
def LksB (b : Nat) (l : List Lk) (v : Value) (w : World) : Prop := w.ownsRow b 28 7 v l.length (lksCells l)
theorem LksB.nil (b : Nat) (w : World) : LksB b [] (.slice none 0 0) w := World.ownsRow_nil _ _ _ _
theorem LksB.alloc {b : Nat} {w : World} {l : List Lk} {v : Value} (h : LksB b l v w) (o : Obj) : LksB b l v (w.alloc o) := World.ownsRow.alloc h o
theorem LksB.kept {b : Nat} {w w' : World} {l : List Lk} {v : Value} (h : LksB b l v w) (k : Kept w w') : LksB b l v w' := by
  refine ⟨h.1, ?_⟩
  rcases h.2 with h2 | ⟨g, cap, cur, hv, hg, hh, r⟩
  · exact Or.inl h2
  · exact Or.inr ⟨g, cap, cur, hv, hg, by rw [k.heap (World.ownsRow.lt h g (by rw [hv]; rfl)).2]; exact hh, r⟩
/-- A store below. -/
theorem LksB.other {b : Nat} {w : World} {l : List Lk} {v : Value} (h : LksB b l v w) {p : Addr} (hp : p.block < b) (u : Value) : LksB b l v (w.setCell p u) := by
  refine ⟨h.1, ?_⟩
  rcases h.2 with h2 | ⟨g, cap, cur, hv, hg, hh, r⟩
  · exact Or.inl h2
  · refine Or.inr ⟨g, cap, cur, hv, hg, ?_, r⟩
    rw [heap_setCell_other w p g u (fun e => by rw [e] at hg; exact absurd hp (Nat.not_lt.2 hg))]
    exact hh
/-- A store into another block. -/
theorem LksB.apart {b : Nat} {w : World} {l : List Lk} {v : Value} (h : LksB b l v w) {p : Addr} (hp : ∀ k, v.ownBlock = some k → k ≠ p.block) (u : Value) : LksB b l v (w.setCell p u) := by
  refine ⟨h.1, ?_⟩
  rcases h.2 with h2 | ⟨g, cap, cur, hv, hg, hh, r⟩
  · exact Or.inl h2
  · refine Or.inr ⟨g, cap, cur, hv, hg, ?_, r⟩
    rw [heap_setCell_other w p g u (hp g (by rw [hv]; rfl))]
    exact hh
theorem LksB.cells {b : Nat} {w : World} {l : List Lk} {A : Option Addr} {n c : Nat} (h : LksB b l (.slice A n c) w) (hn : n = l.length) : CellsAt w w.heap.size A (lksCells l) := by
  subst hn; exact CellsAt.of_own h
theorem wpList_lksB {ops : Array Oper} {rest : List Oper} {o : Oper} {a : Act} {Q : Exit → Act → World → Prop} (w : World) (hgd : o.guard = none) (s x : Operand)
    (ho : o.op = .call { callee := .builtin .append, args := #[s, x], argTypes := #[29, 29] })
    (b : Nat) (hb : b ≤ w.heap.size) (l : List Lk) (v : Value) (hs : a.eval s = v) (HB : LksB b l v w) (B : Nat) (A : Option Addr) (m c : Nat) (news : List Lk) (hx : a.eval x = .slice A m c) (hl : news.length = m)
    (hr : CellsAt w B A (lksCells news)) (hlen : l.length + m ≤ 1000000)
    (h : ∀ A' c' w', LksB b (l ++ news) (.slice A' (l ++ news).length c') w' → w.grownBy w' v.ownBlock → wpList Try.prog ops Q rest (a.put o.dst (.slice A' (l ++ news).length c')) w') : wpList Try.prog ops Q (o :: rest) a w := by
  refine wpList_plain hgd fun K hK => ?_
  obtain ⟨i0, hi0, hz0, hz1, hz2⟩ := info_of Try.infoLk
  refine wp_app w s x _ ho b 28 i0 _ 7 56 Try.underlying29 hi0 hz0 hz1 hz2 rfl (by omega) v l.length (lksCells l) hs HB B A m c (lksCells news) hx (by rw [lksCells_length, hl]) hr (lksCells_one _)
    (by unfold maxLen; omega) (by omega) hb ?_
  intro v' w' own g _
  have e : (l ++ news).length = l.length + m := by rw [List.length_append, hl]
  rw [← e, lksCells_append] at own
  obtain ⟨A', c', rfl⟩ : ∃ A c, v' = .slice A (l ++ news).length c := by
    rcases own.2 with ⟨hv, h0⟩ | ⟨g, cap, cur, hv, _⟩
    · rw [h0]; exact ⟨_, _, hv⟩
    · exact ⟨_, _, hv⟩
  exact hK _ _ (h A' c' w' own g)

end Go.Proofs.Ythaofomhlmajbaa
