/-
  Lists of items, cell by cell; a list of items of one's own, whose cells are written.
-/
import Derived.Test.YtabmdilhfiembaaTreeG
import Derived.Test.YtabmdilhfiembaaGround
import Derived.Test.YtabmdilhfiembaaArrayTop
namespace Go.Proofs.Ytabmdilhfiembaa
set_option maxRecDepth 100000
set_option linter.unusedVariables false
set_option linter.unusedSimpArgs false
set_option linter.unusedVariables false
open Go.ChangeShapes Go.WideShapes Go.ChangeAt Go.RowKit

theorem Try.infoIt : (Try.prog.info? 50).map (fun i => (i.zero, i.size, i.bytes)) = some (some (.agg #[.int .u64 0, .int .u64 0, .int .i64 0, .int .i64 0, .int .i64 0, .int .i64 0, .int .i64 0]), 7, 56) := by kernel_rfl
def itCells (t : It) : List Value := [.int .u64 t.x.1, .int .u64 t.x.2, .int .i64 t.p, .int .i64 t.o, .int .i64 t.w, .int .i64 t.b, .int .i64 t.h]
def itemCells (l : List It) : List Value := l.flatMap itCells
theorem itemCells_cons (t : It) (l : List It) : itemCells (t :: l) = itCells t ++ itemCells l := rfl
theorem itCells_length (t : It) : (itCells t).length = 7 := rfl
theorem itemCells_at : ∀ {l : List It} {i : Nat} (hi : i < l.length) {j : Nat} {u : Value}, (itCells l[i])[j]? = some u → (itemCells l)[i * 7 + j]? = some u
  | b :: l, 0, _, j, u, h => by
    have hj : j < (itCells b).length := (List.getElem?_eq_some_iff.1 h).1
    show (itCells b ++ itemCells l)[0 * 7 + j]? = _
    rw [Nat.zero_mul, Nat.zero_add, List.getElem?_append_left hj]; exact h
  | b :: l, i + 1, hi, j, u, h => by
    show (itCells b ++ itemCells l)[(i + 1) * 7 + j]? = _
    have h5 : (itCells b).length = 7 := rfl
    rw [List.getElem?_append_right (by omega), h5, show (i + 1) * 7 + j - 7 = i * 7 + j by omega]
    exact itemCells_at (l := l) (by simpa using hi) h
theorem itemCells_length (l : List It) : (itemCells l).length = l.length * 7 := by
  induction l with
  | nil => rfl
  | cons b l ih => show (itCells b ++ itemCells l).length = _; rw [List.length_append, ih, List.length_cons]; show 7 + _ = _; omega
theorem itemCells_append (l m : List It) : itemCells l ++ itemCells m = itemCells (l ++ m) := by simp [itemCells]
theorem itemCells_one (l : List It) : ∀ u ∈ itemCells l, u.oneCell' = true := fun u hu => by
  simp only [itemCells, List.mem_flatMap] at hu
  obtain ⟨x, _, hu⟩ := hu
  simp [itCells] at hu
  rcases hu with rfl | rfl | rfl | rfl | rfl | rfl | rfl <;> rfl
theorem itemCells_set : ∀ {l : List It} {i j : Nat} {u : Value} {t : It} (hi : i < l.length) (_ : j < 7) (_ : (itCells l[i]).set j u = itCells t), (itemCells l).set (i * 7 + j) u = itemCells (l.set i t)
  | b :: l, 0, j, u, t, _, hj, h => by
    show (itCells b ++ itemCells l).set (0 * 7 + j) u = itCells t ++ itemCells l
    rw [Nat.zero_mul, Nat.zero_add, List.set_append_left _ _ (by rw [itCells_length]; exact hj)]
    rw [show (itCells b).set j u = itCells t from h]
  | b :: l, i + 1, j, u, t, hi, hj, h => by
    show (itCells b ++ itemCells l).set ((i + 1) * 7 + j) u = itCells b ++ itemCells (l.set i t)
    have h5 : (itCells b).length = 7 := rfl
    rw [List.set_append_right _ _ (by omega), h5, show (i + 1) * 7 + j - 7 = i * 7 + j by omega]
    rw [itemCells_set (l := l) (by simpa using hi) hj h]
/-- Item i of a list. -/
theorem item_at {w : World} {B : Nat} {A : Option Addr} {l : List It} (h : CellsAt w B A (itemCells l)) {i : Nat} (hi : i < l.length) :
    ∃ z o, A = some ⟨z, o, none⟩ ∧ z < B ∧ w.cell? ⟨z, o + i * 7, none⟩ = some (.int .u64 l[i].x.1) ∧ w.cell? ⟨z, o + i * 7 + 1, none⟩ = some (.int .u64 l[i].x.2) ∧ w.cell? ⟨z, o + i * 7 + 2, none⟩ = some (.int .i64 l[i].p) ∧ w.cell? ⟨z, o + i * 7 + 3, none⟩ = some (.int .i64 l[i].o) ∧ w.cell? ⟨z, o + i * 7 + 4, none⟩ = some (.int .i64 l[i].w) ∧ w.cell? ⟨z, o + i * 7 + 5, none⟩ = some (.int .i64 l[i].b) ∧ w.cell? ⟨z, o + i * 7 + 6, none⟩ = some (.int .i64 l[i].h) := by
  obtain ⟨z, o, e, hb, hc⟩ := h.plain (by rw [itemCells_length]; omega)
  exact ⟨z, o, e, hb, hc _ _ (itemCells_at hi (j := 0) rfl), hc _ _ (itemCells_at hi (j := 1) rfl), hc _ _ (itemCells_at hi (j := 2) rfl), hc _ _ (itemCells_at hi (j := 3) rfl), hc _ _ (itemCells_at hi (j := 4) rfl), hc _ _ (itemCells_at hi (j := 5) rfl), hc _ _ (itemCells_at hi (j := 6) rfl)⟩

/-! ### A list of items of one's own -/
theorem own_set {w : World} {base : Nat} {e : TypeId} {size n n' cap g : Nat} {xs : List Value} (h : w.ownsRow base e size (.slice (some ⟨g, 0, none⟩) n cap) n' xs) (j : Nat) (u : Value) (hj : j < xs.length) :
    (w.setCell ⟨g, j, none⟩ u).ownsRow base e size (.slice (some ⟨g, 0, none⟩) n cap) n' (xs.set j u) := by
  refine ⟨by rw [List.length_set]; exact h.1, ?_⟩
  rcases h.2 with ⟨hv, _⟩ | ⟨g', cap', cur, hv, hb, hg, hn, hm, hs, ht⟩
  · cases hv
  · cases hv
    refine Or.inr ⟨g, cap, cur.setIfInBounds j u, rfl, hb, ?_, hn, hm, by simpa using hs, ?_⟩
    · simp [World.setCell, Array.getElem?_modify, hg]
    · rw [Array.toList_setIfInBounds, List.take_set, ht]
/-- v holds the items of l, in a row of its own; all that lay in W lies as it was. -/
def Its (W : World) (l : List It) (v : Value) (w : World) : Prop := w.ownsRow W.heap.size 50 7 v l.length (itemCells l) ∧ Kept W w
theorem Its.nil (W : World) : Its W [] (.slice none 0 0) W := ⟨World.ownsRow_nil _ _ _ _, Kept.refl _⟩
theorem Its.nilK {W w : World} (k : Kept W w) : Its W [] (.slice none 0 0) w := ⟨World.ownsRow_nil _ _ _ _, k⟩
theorem Its.alloc {W w : World} {l : List It} {v : Value} (h : Its W l v w) (o : Obj) : Its W l v (w.alloc o) := ⟨h.1.alloc o, h.2.alloc o⟩
theorem Its.kept {W w w' : World} {l : List It} {v : Value} (h : Its W l v w) (k : Kept w w') : Its W l v w' := by
  refine ⟨⟨h.1.1, ?_⟩, h.2.trans k⟩
  rcases h.1.2 with h2 | ⟨g, cap, cur, hv, hg, hh, r⟩
  · exact Or.inl h2
  · exact Or.inr ⟨g, cap, cur, hv, hg, by rw [k.heap (h.1.lt g (by rw [hv]; rfl)).2]; exact hh, r⟩
theorem Its.drewN {W w : World} {l : List It} {v : Value} (h : Its W l v w) (n : Nat) : Its W l v (w.drewN n) := h.kept ((Kept.refl w).drewN n)
theorem Its.drew {W w : World} {l : List It} {v : Value} (h : Its W l v w) : Its W l v w.drew := h.kept (Kept.refl w).drew
theorem Its.slice {W w : World} {l : List It} {v : Value} (h : Its W l v w) : ∃ A c, v = .slice A l.length c := by
  rcases h.1.2 with ⟨hv, h0⟩ | ⟨g, cap, cur, hv, _⟩
  · rw [h0]; exact ⟨_, _, hv⟩
  · exact ⟨_, _, hv⟩
theorem Its.cells {W w : World} {l : List It} {A : Option Addr} {n c : Nat} (h : Its W l (.slice A n c) w) (hn : n = l.length) : CellsAt w w.heap.size A (itemCells l) := by
  subst hn; exact CellsAt.of_own h.1
/-- One that is not empty lies in a block that is new. -/
theorem Its.form {W w : World} {l : List It} {v : Value} (h : Its W l v w) (h0 : 0 < l.length) : ∃ g c, v = .slice (some ⟨g, 0, none⟩) l.length c ∧ W.heap.size ≤ g ∧ g < w.heap.size := by
  rcases h.1.2 with ⟨_, e⟩ | ⟨g, cap, cur, hv, hg, hh, _⟩
  · omega
  · exact ⟨g, cap, hv, hg, (Array.getElem?_eq_some_iff.1 hh).1⟩
theorem Its.frozen {W w : World} {l : List It} {g n c : Nat} (h : Its W l (.slice (some ⟨g, 0, none⟩) n c) w) (j : Nat) : w.frozen? ⟨g, j, none⟩ = false := by
  rcases h.1.2 with ⟨hv, _⟩ | ⟨g', cap', cur, hv, hb, hg, _⟩
  · cases hv
  · cases hv
    simp [World.frozen?, hg]
theorem Its.ge {W w : World} {l : List It} {g n c : Nat} (h : Its W l (.slice (some ⟨g, 0, none⟩) n c) w) : W.heap.size ≤ g ∧ g < w.heap.size := h.1.lt g rfl
/-- A cell of item i is written. -/
theorem Its.set {W w : World} {l : List It} {g n c : Nat} (h : Its W l (.slice (some ⟨g, 0, none⟩) n c) w) {i : Nat} (hi : i < l.length) {j : Nat} (hj : j < 7) {u : Value} {t : It} (ht : (itCells l[i]).set j u = itCells t) :
    Its W (l.set i t) (.slice (some ⟨g, 0, none⟩) n c) (w.setCell ⟨g, i * 7 + j, none⟩ u) := by
  refine ⟨?_, h.2.setCell (p := ⟨g, i * 7 + j, none⟩) h.ge.1 u⟩
  have := own_set h.1 (i * 7 + j) u (by rw [itemCells_length]; omega)
  rw [itemCells_set hi hj ht] at this
  rw [List.length_set]
  exact this
theorem items_new {w : World} {t : It} (b : Nat) (hb : b = w.heap.size) (ty : TypeId) : CellsAt (w.alloc (.cells #[.int .u64 t.x.1, .int .u64 t.x.2, .int .i64 t.p, .int .i64 t.o, .int .i64 t.w, .int .i64 t.b, .int .i64 t.h] ty)) (w.alloc (.cells #[.int .u64 t.x.1, .int .u64 t.x.2, .int .i64 t.p, .int .i64 t.o, .int .i64 t.w, .int .i64 t.b, .int .i64 t.h] ty)).heap.size (some ⟨b, 0, none⟩) (itemCells [t]) := by
  intro j u hu
  have h := HasCells.new w #[.int .u64 t.x.1, .int .u64 t.x.2, .int .i64 t.p, .int .i64 t.o, .int .i64 t.w, .int .i64 t.b, .int .i64 t.h] ty b hb
  refine ⟨_, rfl, h.1, ?_⟩
  rw [add_none, Nat.zero_add]
  exact h.2 j u (by simpa [itemCells, itCells] using hu)
/-- append of items. -/
theorem wp_its {o : Oper} {a : Act} {K : Act → World → Prop} {Q : Exit → Act → World → Prop} (w : World) (T : TypeId) (hT : Try.prog.underlying T = some (.slice 50)) (s x : Operand)
    (ho : o.op = .call { callee := .builtin .append, args := #[s, x], argTypes := #[T, T] })
    (W : World) (l : List It) (v : Value) (hs : a.eval s = v) (HB : Its W l v w) (B : Nat) (A : Option Addr) (m c : Nat) (news : List It) (hx : a.eval x = .slice A m c) (hl : news.length = m)
    (hr : CellsAt w B A (itemCells news)) (hlen : l.length + m ≤ 1000000)
    (h : ∀ A' c' w', Its W (l ++ news) (.slice A' (l ++ news).length c') w' → w.grownBy w' v.ownBlock → K (a.put o.dst (.slice A' (l ++ news).length c')) w') : o.wp Try.prog a w K Q := by
  obtain ⟨i0, hi0, hz0, hz1, hz2⟩ := info_of Try.infoIt
  refine wp_app w s x _ ho W.heap.size 50 i0 _ 7 56 hT hi0 hz0 hz1 hz2 rfl (by omega) v l.length (itemCells l) hs HB.1 B A m c (itemCells news) hx (by rw [itemCells_length, hl]) hr (itemCells_one _)
    (by unfold maxLen; omega) (by omega) HB.2.size_le ?_
  intro v' w' own g _
  have e : (l ++ news).length = l.length + m := by rw [List.length_append, hl]
  rw [← e, itemCells_append] at own
  obtain ⟨A', c', rfl⟩ : ∃ A c, v' = .slice A (l ++ news).length c := by
    rcases own.2 with ⟨hv, h0⟩ | ⟨g, cap, cur, hv, _⟩
    · rw [h0]; exact ⟨_, _, hv⟩
    · exact ⟨_, _, hv⟩
  exact h A' c' w' ⟨own, HB.2.grown g fun i hi => (HB.1.lt i hi).1⟩ g
theorem wpList_its {ops : Array Oper} {rest : List Oper} {o : Oper} {a : Act} {Q : Exit → Act → World → Prop} (w : World) (hgd : o.guard = none) (T : TypeId) (hT : Try.prog.underlying T = some (.slice 50)) (s x : Operand)
    (ho : o.op = .call { callee := .builtin .append, args := #[s, x], argTypes := #[T, T] })
    (W : World) (l : List It) (v : Value) (hs : a.eval s = v) (HB : Its W l v w) (B : Nat) (A : Option Addr) (m c : Nat) (news : List It) (hx : a.eval x = .slice A m c) (hl : news.length = m)
    (hr : CellsAt w B A (itemCells news)) (hlen : l.length + m ≤ 1000000)
    (h : ∀ A' c' w', Its W (l ++ news) (.slice A' (l ++ news).length c') w' → w.grownBy w' v.ownBlock → wpList Try.prog ops Q rest (a.put o.dst (.slice A' (l ++ news).length c')) w') : wpList Try.prog ops Q (o :: rest) a w :=
  wpList_plain hgd fun _ hK => wp_its w T hT s x ho W l v hs HB B A m c news hx hl hr hlen fun A' c' w' h1 h2 => hK _ _ (h A' c' w' h1 h2)
theorem step_its {ops : Array Oper} {o : Oper} {a : Act} {K : Act → World → Prop} {Q : Exit → Act → World → Prop} {E : Prop} (w : World) (hgd : Region.wanted o (yielded ops a.tmps) = true) (T : TypeId) (hT : Try.prog.underlying T = some (.slice 50)) (s x : Operand)
    (ho : o.op = .call { callee := .builtin .append, args := #[s, x], argTypes := #[T, T] })
    (W : World) (l : List It) (v : Value) (hs : a.eval s = v) (HB : Its W l v w) (B : Nat) (A : Option Addr) (m c : Nat) (news : List It) (hx : a.eval x = .slice A m c) (hl : news.length = m)
    (hr : CellsAt w B A (itemCells news)) (hlen : l.length + m ≤ 1000000)
    (h : ∀ A' c' w', Its W (l ++ news) (.slice A' (l ++ news).length c') w' → w.grownBy w' v.ownBlock → K (a.put o.dst (.slice A' (l ++ news).length c')) w') :
    if Region.wanted o (yielded ops a.tmps) = true then Oper.wp Try.prog o a w K Q else E := by
  rw [if_pos hgd]
  exact wp_its w T hT s x ho W l v hs HB B A m c news hx hl hr hlen h

end Go.Proofs.Ytabmdilhfiembaa
