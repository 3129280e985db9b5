/-
  A list of votes of one's own, onto which is appended at a step of a region that draws its order; boxed votes held over it.
-/
import Derived.Deep.RegionHeld3
import Derived.Test.YtlapcnfhnfkbmaaGreatVoteG
import Derived.Test.YtlapcnfhnfkbmaaGreatGround
namespace Go.Proofs.YtlapcnfhnfkbmaaGreat
set_option maxRecDepth 100000
set_option linter.unusedVariables false
set_option linter.unusedSimpArgs false
open Go.ChangeShapes Go.WideShapes Go.ChangeAt Go.RowKit

theorem wf_more {L : List Vt} {v : Vt} (h : WfVs L) (hv : WfV v) : WfVs (L ++ [v]) := fun u hu => by
  rcases List.mem_append.1 hu with k | k
  · exact h u k
  · rw [show u = v by simpa using k]; exact hv

theorem Vts.cells {W w : World} {l : List Vt} {A : Option Addr} {n c : Nat} (h : Vts W l (.slice A n c) w) (hn : n = l.length) : CellsAt w w.heap.size A (votesCells l) := by
  subst hn
  exact CellsAt.of_own h.1

/-! ### append at a step -/
theorem wp_vts {o : Oper} {a : Act} {K : Act → World → Prop} {Q : Exit → Act → World → Prop} (w : World) (s x : Operand)
    (ho : o.op = .call { callee := .builtin .append, args := #[s, x], argTypes := #[27, 27] })
    (W : World) (l : List Vt) (v : Value) (hs : a.eval s = v) (HB : Vts W l v w) (B : Nat) (A : Option Addr) (m c : Nat) (news : List Vt) (hx : a.eval x = .slice A m c) (hl : news.length = m)
    (hr : CellsAt w B A (votesCells news)) (hlen : l.length + m ≤ 1000000)
    (h : ∀ A' c' w', Vts W (l ++ news) (.slice A' (l ++ news).length c') w' → K (a.put o.dst (.slice A' (l ++ news).length c')) w') : o.wp Tryz.prog a w K Q := by
  obtain ⟨i0, hi0, hz0, hz1, hz2⟩ := info_of Tryz.infoV
  refine wp_app w s x _ ho W.heap.size 39 i0 _ 4 32 Tryz.underlying27 hi0 hz0 hz1 hz2 rfl (by omega) v l.length (votesCells l) hs HB.1 B A m c (votesCells news) hx (by rw [votesCells_length, hl]) hr (votesCells_one _)
    (by unfold maxLen; omega) (by omega) HB.2.size_le ?_
  intro v' w' own g _
  have e : (l ++ news).length = l.length + m := by rw [List.length_append, hl]
  rw [← e, votesCells_append] at own
  obtain ⟨A', c', rfl⟩ : ∃ A c, v' = .slice A (l ++ news).length c := by
    rcases own.2 with ⟨hv, h0⟩ | ⟨g, cap, cur, hv, _⟩
    · rw [h0]; exact ⟨_, _, hv⟩
    · exact ⟨_, _, hv⟩
  exact h A' c' w' ⟨own, HB.2.grown g fun i hi => (HB.1.lt i hi).1⟩
theorem step_vts {ops : Array Oper} {o : Oper} {a : Act} {K : Act → World → Prop} {Q : Exit → Act → World → Prop} {E : Prop} (w : World) (hgd : Region.wanted o (yielded ops a.tmps) = true) (s x : Operand)
    (ho : o.op = .call { callee := .builtin .append, args := #[s, x], argTypes := #[27, 27] })
    (W : World) (l : List Vt) (v : Value) (hs : a.eval s = v) (HB : Vts W l v w) (B : Nat) (A : Option Addr) (m c : Nat) (news : List Vt) (hx : a.eval x = .slice A m c) (hl : news.length = m)
    (hr : CellsAt w B A (votesCells news)) (hlen : l.length + m ≤ 1000000)
    (h : ∀ A' c' w', Vts W (l ++ news) (.slice A' (l ++ news).length c') w' → K (a.put o.dst (.slice A' (l ++ news).length c')) w') :
    if Region.wanted o (yielded ops a.tmps) = true then Oper.wp Tryz.prog o a w K Q else E := by
  rw [if_pos hgd]
  exact wp_vts w s x ho W l v hs HB B A m c news hx hl hr hlen h
theorem step_vnil {ops : Array Oper} {o : Oper} {a : Act} {K : Act → World → Prop} {Q : Exit → Act → World → Prop} {E : Prop} (w : World) (hgd : Region.wanted o (yielded ops a.tmps) = true) (x : Operand)
    (ho : o.op = .call { callee := .builtin .append, args := #[.const (.slice none 0 0), x], argTypes := #[27, 27] })
    (B : Nat) (A : Option Addr) (m c : Nat) (news : List Vt) (hx : a.eval x = .slice A m c) (hl : news.length = m)
    (hr : CellsAt w B A (votesCells news)) (hlen : m ≤ 1000000)
    (h : ∀ A' c' w', Vts w news (.slice A' news.length c') w' → K (a.put o.dst (.slice A' news.length c')) w') :
    if Region.wanted o (yielded ops a.tmps) = true then Oper.wp Tryz.prog o a w K Q else E :=
  step_vts w hgd _ x ho w [] _ rfl (Vts.nil w) B A m c news hx hl hr (by simp; omega) h
theorem keep4 {W w w' : World} {b : Nat} {x0 x1 x2 x3 : Value} (hb : b < W.heap.size)
    (h : w.cell? ⟨b, 0, none⟩ = some x0 ∧ w.cell? ⟨b, 1, none⟩ = some x1 ∧ w.cell? ⟨b, 2, none⟩ = some x2 ∧ w.cell? ⟨b, 3, none⟩ = some x3 ∧ Kept W w) (k : Kept w w') :
    w'.cell? ⟨b, 0, none⟩ = some x0 ∧ w'.cell? ⟨b, 1, none⟩ = some x1 ∧ w'.cell? ⟨b, 2, none⟩ = some x2 ∧ w'.cell? ⟨b, 3, none⟩ = some x3 ∧ Kept W w' := by
  obtain ⟨h0, h1, h2, h3, hk⟩ := h
  have hb' : b < w.heap.size := Nat.lt_of_lt_of_le hb hk.size_le
  exact ⟨(k.cell (p := ⟨b, 0, none⟩) hb').trans h0, (k.cell (p := ⟨b, 1, none⟩) hb').trans h1, (k.cell (p := ⟨b, 2, none⟩) hb').trans h2, (k.cell (p := ⟨b, 3, none⟩) hb').trans h3, hk.trans k⟩
theorem keep0 {W w w' : World} {b : Nat} {x0 : Value} (hb : b < W.heap.size) (h : w.cell? ⟨b, 0, none⟩ = some x0 ∧ Kept W w) (k : Kept w w') : w'.cell? ⟨b, 0, none⟩ = some x0 ∧ Kept W w' :=
  ⟨(k.cell (p := ⟨b, 0, none⟩) (Nat.lt_of_lt_of_le hb h.2.size_le)).trans h.1, h.2.trans k⟩
theorem votes_one (w : World) (t : TypeId) (b : Vt) (z : Nat) (hz : z = w.heap.size) : CellsAt (w.alloc (.cells #[.int .i64 b.f, .int .i64 b.s, .int .u64 b.p.1, .int .u64 b.p.2] t)) (w.alloc (.cells #[.int .i64 b.f, .int .i64 b.s, .int .u64 b.p.1, .int .u64 b.p.2] t)).heap.size (some ⟨z, 0, none⟩) (votesCells [b]) := votes_one_at (HasCells.new w #[.int .i64 b.f, .int .i64 b.s, .int .u64 b.p.1, .int .u64 b.p.2] t z hz)

end Go.Proofs.YtlapcnfhnfkbmaaGreat
