/-
  A list of blocks of one's own, onto which is appended at a step of a region that draws its order; the first k of a list.
-/
import Derived.Test.YtepgbnojbomicaaIdRow
import Derived.Test.YtepgbnojbomicaaRowStep
namespace Go.Proofs.Ytepgbnojbomicaa
open Go.ChangeShapes Go.WideShapes Go.ChangeAt Go.RowKit

/-! ### The first k of a list -/
theorem map_add0 (s : Nat) (A : Option Addr) : A.map (fun x => x.add (0 * s)) = A := by
  cases A with
  | none => rfl
  | some a => simp [Addr.add]
theorem run_upto (t e : TypeId) (i : TypeInfo) (ht : Try.prog.underlying t = some (.slice e)) (hi : Try.prog.info? e = some i) (A : Option Addr) (n c k : Nat) (hk : k ≤ c) (w : World) :
    (Instr.slice t (.slice A n c) none (some (.int .i64 (k : Int))) none).run Try.prog w = .ok (.slice A k c) w := by
  have hb : ∀ code, (Instr.sliceBound (.int .i64 (k : Int)) c code).run Try.prog w = .ok k w := fun code => by
    rw [run_sliceBound _ _ _ _ _ (by omega) (by omega)]; simp
  have hz : A.map (fun x => x.add 0) = A := by have := map_add0 0 A; simpa using this
  simp [Instr.slice, run_underlying ht, Instr.sliceBounds, hb, sizeOf, typeInfo, hi, Result.andThen, hz]
theorem Try.infoBk : (Try.prog.info? 36).map (fun i => (i.zero, i.size, i.bytes)) = some (some (.agg #[.int .i64 0, .int .i64 0, .int .u64 0, .int .u64 0, .int .u64 0]), 5, 40) := by kernel_rfl
theorem upto_blocks (A : Option Addr) (n c k : Nat) (hk : k ≤ c) (w : World) : (Instr.slice 22 (.slice A n c) none (some (.int .i64 (k : Int))) none).run Try.prog w = .ok (.slice A k c) w := by
  obtain ⟨i, hi, _⟩ := info_of Try.infoBk
  exact run_upto _ _ i Try.underlying22 hi A n c k hk w
theorem upto_ids (A : Option Addr) (n c k : Nat) (hk : k ≤ c) (w : World) : (Instr.slice 31 (.slice A n c) none (some (.int .i64 (k : Int))) none).run Try.prog w = .ok (.slice A k c) w := by
  obtain ⟨i, hi, _⟩ := info_of Try.infoID
  exact run_upto _ _ i Try.underlying31 hi A n c k hk w
theorem cells_prefix {w : World} {B : Nat} {A : Option Addr} {xs ys : List Value} (h : CellsAt w B A (xs ++ ys)) : CellsAt w B A xs := fun j u hu => h j u (by rw [List.getElem?_append_left (List.getElem?_eq_some_iff.1 hu).1]; exact hu)
theorem cells_blocks_take {w : World} {B : Nat} {A : Option Addr} {l : List Bk} (h : CellsAt w B A (blockCells l)) (k : Nat) : CellsAt w B A (blockCells (l.take k)) := by
  have e : blockCells l = blockCells (l.take k) ++ blockCells (l.drop k) := by
    unfold blockCells; rw [← List.flatMap_append, List.take_append_drop]
  rw [e] at h
  exact cells_prefix h
theorem cells_ids_take {w : World} {B : Nat} {A : Option Addr} {l : List Id2} (h : CellsAt w B A (idsCells l)) (k : Nat) : CellsAt w B A (idsCells (l.take k)) := by
  have e : idsCells l = idsCells (l.take k) ++ idsCells (l.drop k) := by
    unfold idsCells; rw [← List.flatMap_append, List.take_append_drop]
  rw [e] at h
  exact cells_prefix h

/-! ### A list of blocks of one's own -/
theorem blockCells_append (l m : List Bk) : blockCells l ++ blockCells m = blockCells (l ++ m) := by simp [blockCells]
theorem blockCells_one (l : List Bk) : ∀ u ∈ blockCells l, u.oneCell' = true := fun u hu => by
  simp only [blockCells, List.mem_flatMap] at hu
  obtain ⟨x, _, hu⟩ := hu
  simp [bkCells] at hu
  rcases hu with rfl | rfl | rfl | rfl | rfl <;> rfl
/-- v holds the blocks of l, in a row of its own; all that lay in W lies as it was. -/
def Bks (W : World) (l : List Bk) (v : Value) (w : World) : Prop := w.ownsRow W.heap.size 36 5 v l.length (blockCells l) ∧ Kept W w
theorem Bks.nil (W : World) : Bks W [] (.slice none 0 0) W := ⟨World.ownsRow_nil _ _ _ _, Kept.refl _⟩
theorem Bks.alloc {W w : World} {l : List Bk} {v : Value} (h : Bks W l v w) (o : Obj) : Bks W l v (w.alloc o) := ⟨h.1.alloc o, h.2.alloc o⟩
theorem Bks.cells {W w : World} {l : List Bk} {A : Option Addr} {n c : Nat} (h : Bks W l (.slice A n c) w) (hn : n = l.length) : CellsAt w w.heap.size A (blockCells l) := by
  subst hn
  exact CellsAt.of_own h.1
theorem wp_bks {o : Oper} {a : Act} {K : Act → World → Prop} {Q : Exit → Act → World → Prop} (w : World) (s x : Operand)
    (ho : o.op = .call { callee := .builtin .append, args := #[s, x], argTypes := #[22, 22] })
    (W : World) (l : List Bk) (v : Value) (hs : a.eval s = v) (HB : Bks W l v w) (B : Nat) (A : Option Addr) (m c : Nat) (news : List Bk) (hx : a.eval x = .slice A m c) (hl : news.length = m)
    (hr : CellsAt w B A (blockCells news)) (hlen : l.length + m ≤ 1000000)
    (h : ∀ A' c' w', Bks W (l ++ news) (.slice A' (l ++ news).length c') w' → K (a.put o.dst (.slice A' (l ++ news).length c')) w') : o.wp Try.prog a w K Q := by
  obtain ⟨i0, hi0, hz0, hz1, hz2⟩ := info_of Try.infoBk
  refine wp_app w s x _ ho W.heap.size 36 i0 _ 5 40 Try.underlying22 hi0 hz0 hz1 hz2 rfl (by omega) v l.length (blockCells l) hs HB.1 B A m c (blockCells news) hx (by rw [blockCells_length, hl]) hr (blockCells_one _)
    (by unfold maxLen; omega) (by omega) HB.2.size_le ?_
  intro v' w' own g _
  have e : (l ++ news).length = l.length + m := by rw [List.length_append, hl]
  rw [← e, blockCells_append] at own
  obtain ⟨A', c', rfl⟩ : ∃ A c, v' = .slice A (l ++ news).length c := by
    rcases own.2 with ⟨hv, h0⟩ | ⟨g, cap, cur, hv, _⟩
    · rw [h0]; exact ⟨_, _, hv⟩
    · exact ⟨_, _, hv⟩
  exact h A' c' w' ⟨own, HB.2.grown g fun i hi => (HB.1.lt i hi).1⟩
theorem step_bks {ops : Array Oper} {o : Oper} {a : Act} {K : Act → World → Prop} {Q : Exit → Act → World → Prop} {E : Prop} (w : World) (hgd : Region.wanted o (yielded ops a.tmps) = true) (s x : Operand)
    (ho : o.op = .call { callee := .builtin .append, args := #[s, x], argTypes := #[22, 22] })
    (W : World) (l : List Bk) (v : Value) (hs : a.eval s = v) (HB : Bks W l v w) (B : Nat) (A : Option Addr) (m c : Nat) (news : List Bk) (hx : a.eval x = .slice A m c) (hl : news.length = m)
    (hr : CellsAt w B A (blockCells news)) (hlen : l.length + m ≤ 1000000)
    (h : ∀ A' c' w', Bks W (l ++ news) (.slice A' (l ++ news).length c') w' → K (a.put o.dst (.slice A' (l ++ news).length c')) w') :
    if Region.wanted o (yielded ops a.tmps) = true then Oper.wp Try.prog o a w K Q else E := by
  rw [if_pos hgd]
  exact wp_bks w s x ho W l v hs HB B A m c news hx hl hr hlen h
theorem step_bnil {ops : Array Oper} {o : Oper} {a : Act} {K : Act → World → Prop} {Q : Exit → Act → World → Prop} {E : Prop} (w : World) (hgd : Region.wanted o (yielded ops a.tmps) = true) (x : Operand)
    (ho : o.op = .call { callee := .builtin .append, args := #[.const (.slice none 0 0), x], argTypes := #[22, 22] })
    (B : Nat) (A : Option Addr) (m c : Nat) (news : List Bk) (hx : a.eval x = .slice A m c) (hl : news.length = m)
    (hr : CellsAt w B A (blockCells news)) (hlen : m ≤ 1000000)
    (h : ∀ A' c' w', Bks w news (.slice A' news.length c') w' → K (a.put o.dst (.slice A' news.length c')) w') :
    if Region.wanted o (yielded ops a.tmps) = true then Oper.wp Try.prog o a w K Q else E :=
  step_bks w hgd _ x ho w [] _ rfl (Bks.nil w) B A m c news hx hl hr (by simp; omega) h
theorem keep5 {W w w' : World} {b : Nat} {x0 x1 x2 x3 x4 : Value} (hb : b < W.heap.size)
    (h : w.cell? ⟨b, 0, none⟩ = some x0 ∧ w.cell? ⟨b, 1, none⟩ = some x1 ∧ w.cell? ⟨b, 2, none⟩ = some x2 ∧ w.cell? ⟨b, 3, none⟩ = some x3 ∧ w.cell? ⟨b, 4, none⟩ = some x4 ∧ Kept W w) (k : Kept w w') :
    w'.cell? ⟨b, 0, none⟩ = some x0 ∧ w'.cell? ⟨b, 1, none⟩ = some x1 ∧ w'.cell? ⟨b, 2, none⟩ = some x2 ∧ w'.cell? ⟨b, 3, none⟩ = some x3 ∧ w'.cell? ⟨b, 4, none⟩ = some x4 ∧ Kept W w' := by
  obtain ⟨h0, h1, h2, h3, h4, hk⟩ := h
  have hb' : b < w.heap.size := Nat.lt_of_lt_of_le hb hk.size_le
  exact ⟨(k.cell (p := ⟨b, 0, none⟩) hb').trans h0, (k.cell (p := ⟨b, 1, none⟩) hb').trans h1, (k.cell (p := ⟨b, 2, none⟩) hb').trans h2, (k.cell (p := ⟨b, 3, none⟩) hb').trans h3, (k.cell (p := ⟨b, 4, none⟩) hb').trans h4, hk.trans k⟩

end Go.Proofs.Ytepgbnojbomicaa
