/-
  Lists of checkpoints, cell by cell; a list of checkpoints of one's own, whose cells are written.
-/
import Derived.Test.YthaofomhlmajbaaFfgMath
import Derived.Test.YthaofomhlmajbaaTreeG
import Derived.Test.YthaofomhlmajbaaGround
namespace Go.Proofs.Ythaofomhlmajbaa
set_option maxRecDepth 100000
set_option linter.unusedVariables false
set_option linter.unusedSimpArgs false
set_option linter.unusedSimpArgs false
set_option linter.unusedVariables false
open Go.ChangeShapes Go.WideShapes Go.ChangeAt Go.RowKit

theorem Try.infoCk : (Try.prog.info? 26).map (fun i => (i.zero, i.size, i.bytes)) = some (some (.agg #[.int .i64 0, .int .u64 0, .int .u64 0]), 3, 24) := by kernel_rfl
def ckCells (t : Ck) : List Value := [.int .i64 t.e, .int .u64 t.r.1, .int .u64 t.r.2]
def cksCells (l : List Ck) : List Value := l.flatMap ckCells
theorem cksCells_cons (t : Ck) (l : List Ck) : cksCells (t :: l) = ckCells t ++ cksCells l := rfl
theorem ckCells_length (t : Ck) : (ckCells t).length = 3 := rfl
theorem cksCells_at : ∀ {l : List Ck} {i : Nat} (hi : i < l.length) {j : Nat} {u : Value}, (ckCells l[i])[j]? = some u → (cksCells l)[i * 3 + j]? = some u
  | b :: l, 0, _, j, u, h => by
    have hj : j < (ckCells b).length := (List.getElem?_eq_some_iff.1 h).1
    show (ckCells b ++ cksCells l)[0 * 3 + j]? = _
    rw [Nat.zero_mul, Nat.zero_add, List.getElem?_append_left hj]; exact h
  | b :: l, i + 1, hi, j, u, h => by
    show (ckCells b ++ cksCells l)[(i + 1) * 3 + j]? = _
    have h5 : (ckCells b).length = 3 := rfl
    rw [List.getElem?_append_right (by omega), h5, show (i + 1) * 3 + j - 3 = i * 3 + j by omega]
    exact cksCells_at (l := l) (by simpa using hi) h
theorem cksCells_length (l : List Ck) : (cksCells l).length = l.length * 3 := by
  induction l with
  | nil => rfl
  | cons b l ih => show (ckCells b ++ cksCells l).length = _; rw [List.length_append, ih, List.length_cons]; show 3 + _ = _; omega
theorem cksCells_append (l m : List Ck) : cksCells l ++ cksCells m = cksCells (l ++ m) := by simp [cksCells]
theorem cksCells_one (l : List Ck) : ∀ u ∈ cksCells l, u.oneCell' = true := fun u hu => by
  simp only [cksCells, List.mem_flatMap] at hu
  obtain ⟨x, _, hu⟩ := hu
  simp [ckCells] at hu
  rcases hu with rfl | rfl | rfl <;> rfl
theorem cksCells_set : ∀ {l : List Ck} {i j : Nat} {u : Value} {t : Ck} (hi : i < l.length) (_ : j < 3) (_ : (ckCells l[i]).set j u = ckCells t), (cksCells l).set (i * 3 + j) u = cksCells (l.set i t)
  | b :: l, 0, j, u, t, _, hj, h => by
    show (ckCells b ++ cksCells l).set (0 * 3 + j) u = ckCells t ++ cksCells l
    rw [Nat.zero_mul, Nat.zero_add, List.set_append_left _ _ (by rw [ckCells_length]; exact hj)]
    rw [show (ckCells b).set j u = ckCells t from h]
  | b :: l, i + 1, j, u, t, hi, hj, h => by
    show (ckCells b ++ cksCells l).set ((i + 1) * 3 + j) u = ckCells b ++ cksCells (l.set i t)
    have h5 : (ckCells b).length = 3 := rfl
    rw [List.set_append_right _ _ (by omega), h5, show (i + 1) * 3 + j - 3 = i * 3 + j by omega]
    rw [cksCells_set (l := l) (by simpa using hi) hj h]
/-- Number i of a list. -/
theorem ck_at {w : World} {B : Nat} {A : Option Addr} {l : List Ck} (h : CellsAt w B A (cksCells l)) {i : Nat} (hi : i < l.length) :
    ∃ z o, A = some ⟨z, o, none⟩ ∧ z < B ∧ w.cell? ⟨z, o + i * 3, none⟩ = some (.int .i64 l[i].e) ∧ w.cell? ⟨z, o + i * 3 + 1, none⟩ = some (.int .u64 l[i].r.1) ∧ w.cell? ⟨z, o + i * 3 + 2, none⟩ = some (.int .u64 l[i].r.2) := by
  obtain ⟨z, o, e, hb, hc⟩ := h.plain (by rw [cksCells_length]; omega)
  exact ⟨z, o, e, hb, hc _ _ (cksCells_at hi (j := 0) rfl), hc _ _ (cksCells_at hi (j := 1) rfl), hc _ _ (cksCells_at hi (j := 2) rfl)⟩

/-! ### A list of checkpoints of one's own -/
theorem ckown_set {w : World} {base : Nat} {e : TypeId} {size n n' cap g : Nat} {xs : List Value} (h : w.ownsRow base e size (.slice (some ⟨g, 0, none⟩) n cap) n' xs) (j : Nat) (u : Value) (hj : j < xs.length) :
    (w.setCell ⟨g, j, none⟩ u).ownsRow base e size (.slice (some ⟨g, 0, none⟩) n cap) n' (xs.set j u) := by
  refine ⟨by rw [List.length_set]; exact h.1, ?_⟩
  rcases h.2 with ⟨hv, _⟩ | ⟨g', cap', cur, hv, hb, hg, hn, hm, hs, ht⟩
  · cases hv
  · cases hv
    refine Or.inr ⟨g, cap, cur.setIfInBounds j u, rfl, hb, ?_, hn, hm, by simpa using hs, ?_⟩
    · simp [World.setCell, Array.getElem?_modify, hg]
    · rw [Array.toList_setIfInBounds, List.take_set, ht]
/-- v holds the checkpoints of l, in a row of its own; all that lay in W lies as it was. -/
def Cks (W : World) (l : List Ck) (v : Value) (w : World) : Prop := w.ownsRow W.heap.size 26 3 v l.length (cksCells l) ∧ Kept W w
theorem Cks.nil (W : World) : Cks W [] (.slice none 0 0) W := ⟨World.ownsRow_nil _ _ _ _, Kept.refl _⟩
theorem Cks.nilK {W w : World} (k : Kept W w) : Cks W [] (.slice none 0 0) w := ⟨World.ownsRow_nil _ _ _ _, k⟩
theorem Cks.alloc {W w : World} {l : List Ck} {v : Value} (h : Cks W l v w) (o : Obj) : Cks W l v (w.alloc o) := ⟨h.1.alloc o, h.2.alloc o⟩
theorem Cks.kept {W w w' : World} {l : List Ck} {v : Value} (h : Cks W l v w) (k : Kept w w') : Cks W l v w' := by
  refine ⟨⟨h.1.1, ?_⟩, h.2.trans k⟩
  rcases h.1.2 with h2 | ⟨g, cap, cur, hv, hg, hh, r⟩
  · exact Or.inl h2
  · exact Or.inr ⟨g, cap, cur, hv, hg, by rw [k.heap (h.1.lt g (by rw [hv]; rfl)).2]; exact hh, r⟩
theorem Cks.drewN {W w : World} {l : List Ck} {v : Value} (h : Cks W l v w) (n : Nat) : Cks W l v (w.drewN n) := h.kept ((Kept.refl w).drewN n)
theorem Cks.drew {W w : World} {l : List Ck} {v : Value} (h : Cks W l v w) : Cks W l v w.drew := h.kept (Kept.refl w).drew
theorem Cks.slice {W w : World} {l : List Ck} {v : Value} (h : Cks W l v w) : ∃ A c, v = .slice A l.length c := by
  rcases h.1.2 with ⟨hv, h0⟩ | ⟨g, cap, cur, hv, _⟩
  · rw [h0]; exact ⟨_, _, hv⟩
  · exact ⟨_, _, hv⟩
theorem Cks.cells {W w : World} {l : List Ck} {A : Option Addr} {n c : Nat} (h : Cks W l (.slice A n c) w) (hn : n = l.length) : CellsAt w w.heap.size A (cksCells l) := by
  subst hn; exact CellsAt.of_own h.1
/-- One that is not empty lies in a block that is new. -/
theorem Cks.form {W w : World} {l : List Ck} {v : Value} (h : Cks W l v w) (h0 : 0 < l.length) : ∃ g c, v = .slice (some ⟨g, 0, none⟩) l.length c ∧ W.heap.size ≤ g ∧ g < w.heap.size := by
  rcases h.1.2 with ⟨_, e⟩ | ⟨g, cap, cur, hv, hg, hh, _⟩
  · omega
  · exact ⟨g, cap, hv, hg, (Array.getElem?_eq_some_iff.1 hh).1⟩
theorem Cks.frozen {W w : World} {l : List Ck} {g n c : Nat} (h : Cks W l (.slice (some ⟨g, 0, none⟩) n c) w) (j : Nat) : w.frozen? ⟨g, j, none⟩ = false := by
  rcases h.1.2 with ⟨hv, _⟩ | ⟨g', cap', cur, hv, hb, hg, _⟩
  · cases hv
  · cases hv
    simp [World.frozen?, hg]
theorem Cks.ge {W w : World} {l : List Ck} {g n c : Nat} (h : Cks W l (.slice (some ⟨g, 0, none⟩) n c) w) : W.heap.size ≤ g ∧ g < w.heap.size := h.1.lt g rfl
/-- A cell of number i is written. -/
theorem Cks.set {W w : World} {l : List Ck} {g n c : Nat} (h : Cks W l (.slice (some ⟨g, 0, none⟩) n c) w) {i : Nat} (hi : i < l.length) {j : Nat} (hj : j < 3) {u : Value} {t : Ck} (ht : (ckCells l[i]).set j u = ckCells t) :
    Cks W (l.set i t) (.slice (some ⟨g, 0, none⟩) n c) (w.setCell ⟨g, i * 3 + j, none⟩ u) := by
  refine ⟨?_, h.2.setCell (p := ⟨g, i * 3 + j, none⟩) h.ge.1 u⟩
  have := ckown_set h.1 (i * 3 + j) u (by rw [cksCells_length]; omega)
  rw [cksCells_set hi hj ht] at this
  rw [List.length_set]
  exact this
theorem cks_new {w : World} {t : Ck} (b : Nat) (hb : b = w.heap.size) (ty : TypeId) : CellsAt (w.alloc (.cells #[.int .i64 t.e, .int .u64 t.r.1, .int .u64 t.r.2] ty)) (w.alloc (.cells #[.int .i64 t.e, .int .u64 t.r.1, .int .u64 t.r.2] ty)).heap.size (some ⟨b, 0, none⟩) (cksCells [t]) := by
  intro j u hu
  have h := HasCells.new w #[.int .i64 t.e, .int .u64 t.r.1, .int .u64 t.r.2] ty b hb
  refine ⟨_, rfl, h.1, ?_⟩
  rw [add_none, Nat.zero_add]
  exact h.2 j u (by simpa [cksCells, ckCells] using hu)
/-- append of checkpoints. -/
theorem wp_cks {o : Oper} {a : Act} {K : Act → World → Prop} {Q : Exit → Act → World → Prop} (w : World) (T : TypeId) (hT : Try.prog.underlying T = some (.slice 26)) (s x : Operand)
    (ho : o.op = .call { callee := .builtin .append, args := #[s, x], argTypes := #[T, T] })
    (W : World) (l : List Ck) (v : Value) (hs : a.eval s = v) (HB : Cks W l v w) (B : Nat) (A : Option Addr) (m c : Nat) (news : List Ck) (hx : a.eval x = .slice A m c) (hl : news.length = m)
    (hr : CellsAt w B A (cksCells news)) (hlen : l.length + m ≤ 1000000)
    (h : ∀ A' c' w', Cks W (l ++ news) (.slice A' (l ++ news).length c') w' → w.grownBy w' v.ownBlock → K (a.put o.dst (.slice A' (l ++ news).length c')) w') : o.wp Try.prog a w K Q := by
  obtain ⟨i0, hi0, hz0, hz1, hz2⟩ := info_of Try.infoCk
  refine wp_app w s x _ ho W.heap.size 26 i0 _ 3 24 hT hi0 hz0 hz1 hz2 rfl (by omega) v l.length (cksCells l) hs HB.1 B A m c (cksCells news) hx (by rw [cksCells_length, hl]) hr (cksCells_one _)
    (by unfold maxLen; omega) (by omega) HB.2.size_le ?_
  intro v' w' own g _
  have e : (l ++ news).length = l.length + m := by rw [List.length_append, hl]
  rw [← e, cksCells_append] at own
  obtain ⟨A', c', rfl⟩ : ∃ A c, v' = .slice A (l ++ news).length c := by
    rcases own.2 with ⟨hv, h0⟩ | ⟨g, cap, cur, hv, _⟩
    · rw [h0]; exact ⟨_, _, hv⟩
    · exact ⟨_, _, hv⟩
  exact h A' c' w' ⟨own, HB.2.grown g fun i hi => (HB.1.lt i hi).1⟩ g
theorem wpList_cks {ops : Array Oper} {rest : List Oper} {o : Oper} {a : Act} {Q : Exit → Act → World → Prop} (w : World) (hgd : o.guard = none) (T : TypeId) (hT : Try.prog.underlying T = some (.slice 26)) (s x : Operand)
    (ho : o.op = .call { callee := .builtin .append, args := #[s, x], argTypes := #[T, T] })
    (W : World) (l : List Ck) (v : Value) (hs : a.eval s = v) (HB : Cks W l v w) (B : Nat) (A : Option Addr) (m c : Nat) (news : List Ck) (hx : a.eval x = .slice A m c) (hl : news.length = m)
    (hr : CellsAt w B A (cksCells news)) (hlen : l.length + m ≤ 1000000)
    (h : ∀ A' c' w', Cks W (l ++ news) (.slice A' (l ++ news).length c') w' → w.grownBy w' v.ownBlock → wpList Try.prog ops Q rest (a.put o.dst (.slice A' (l ++ news).length c')) w') : wpList Try.prog ops Q (o :: rest) a w :=
  wpList_plain hgd fun _ hK => wp_cks w T hT s x ho W l v hs HB B A m c news hx hl hr hlen fun A' c' w' h1 h2 => hK _ _ (h A' c' w' h1 h2)
theorem step_cks {ops : Array Oper} {o : Oper} {a : Act} {K : Act → World → Prop} {Q : Exit → Act → World → Prop} {E : Prop} (w : World) (hgd : Region.wanted o (yielded ops a.tmps) = true) (T : TypeId) (hT : Try.prog.underlying T = some (.slice 26)) (s x : Operand)
    (ho : o.op = .call { callee := .builtin .append, args := #[s, x], argTypes := #[T, T] })
    (W : World) (l : List Ck) (v : Value) (hs : a.eval s = v) (HB : Cks W l v w) (B : Nat) (A : Option Addr) (m c : Nat) (news : List Ck) (hx : a.eval x = .slice A m c) (hl : news.length = m)
    (hr : CellsAt w B A (cksCells news)) (hlen : l.length + m ≤ 1000000)
    (h : ∀ A' c' w', Cks W (l ++ news) (.slice A' (l ++ news).length c') w' → w.grownBy w' v.ownBlock → K (a.put o.dst (.slice A' (l ++ news).length c')) w') :
    if Region.wanted o (yielded ops a.tmps) = true then Oper.wp Try.prog o a w K Q else E := by
  rw [if_pos hgd]
  exact wp_cks w T hT s x ho W l v hs HB B A m c news hx hl hr hlen h

end Go.Proofs.Ythaofomhlmajbaa
