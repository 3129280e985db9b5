/-
  Lists of links, cell by cell; a list of links of one's own, whose cells are written.
-/
import Derived.Test.YthaofomhlmajbaaFfgMath
import Derived.Test.YthaofomhlmajbaaTreeG
import Derived.Test.YthaofomhlmajbaaGround
namespace Go.Proofs.Ythaofomhlmajbaa
set_option maxRecDepth 100000
set_option linter.unusedVariables false
set_option linter.unusedSimpArgs false
set_option linter.unusedSimpArgs false
set_option linter.unusedVariables false
open Go.ChangeShapes Go.WideShapes Go.ChangeAt Go.RowKit

theorem Try.infoLk : (Try.prog.info? 28).map (fun i => (i.zero, i.size, i.bytes)) = some (some (.agg #[.int .i64 0, .int .i64 0, .int .u64 0, .int .u64 0, .int .i64 0, .int .u64 0, .int .u64 0]), 7, 56) := by kernel_rfl
def lkCells (t : Lk) : List Value := [.int .i64 t.f, .int .i64 t.s.e, .int .u64 t.s.r.1, .int .u64 t.s.r.2, .int .i64 t.t.e, .int .u64 t.t.r.1, .int .u64 t.t.r.2]
def lksCells (l : List Lk) : List Value := l.flatMap lkCells
theorem lksCells_cons (t : Lk) (l : List Lk) : lksCells (t :: l) = lkCells t ++ lksCells l := rfl
theorem lkCells_length (t : Lk) : (lkCells t).length = 7 := rfl
theorem lksCells_at : ∀ {l : List Lk} {i : Nat} (hi : i < l.length) {j : Nat} {u : Value}, (lkCells l[i])[j]? = some u → (lksCells l)[i * 7 + j]? = some u
  | b :: l, 0, _, j, u, h => by
    have hj : j < (lkCells b).length := (List.getElem?_eq_some_iff.1 h).1
    show (lkCells b ++ lksCells l)[0 * 7 + j]? = _
    rw [Nat.zero_mul, Nat.zero_add, List.getElem?_append_left hj]; exact h
  | b :: l, i + 1, hi, j, u, h => by
    show (lkCells b ++ lksCells l)[(i + 1) * 7 + j]? = _
    have h5 : (lkCells b).length = 7 := rfl
    rw [List.getElem?_append_right (by omega), h5, show (i + 1) * 7 + j - 7 = i * 7 + j by omega]
    exact lksCells_at (l := l) (by simpa using hi) h
theorem lksCells_length (l : List Lk) : (lksCells l).length = l.length * 7 := by
  induction l with
  | nil => rfl
  | cons b l ih => show (lkCells b ++ lksCells l).length = _; rw [List.length_append, ih, List.length_cons]; show 7 + _ = _; omega
theorem lksCells_append (l m : List Lk) : lksCells l ++ lksCells m = lksCells (l ++ m) := by simp [lksCells]
theorem lksCells_one (l : List Lk) : ∀ u ∈ lksCells l, u.oneCell' = true := fun u hu => by
  simp only [lksCells, List.mem_flatMap] at hu
  obtain ⟨x, _, hu⟩ := hu
  simp [lkCells] at hu
  rcases hu with rfl | rfl | rfl | rfl | rfl | rfl | rfl <;> rfl
theorem lksCells_set : ∀ {l : List Lk} {i j : Nat} {u : Value} {t : Lk} (hi : i < l.length) (_ : j < 7) (_ : (lkCells l[i]).set j u = lkCells t), (lksCells l).set (i * 7 + j) u = lksCells (l.set i t)
  | b :: l, 0, j, u, t, _, hj, h => by
    show (lkCells b ++ lksCells l).set (0 * 7 + j) u = lkCells t ++ lksCells l
    rw [Nat.zero_mul, Nat.zero_add, List.set_append_left _ _ (by rw [lkCells_length]; exact hj)]
    rw [show (lkCells b).set j u = lkCells t from h]
  | b :: l, i + 1, j, u, t, hi, hj, h => by
    show (lkCells b ++ lksCells l).set ((i + 1) * 7 + j) u = lkCells b ++ lksCells (l.set i t)
    have h5 : (lkCells b).length = 7 := rfl
    rw [List.set_append_right _ _ (by omega), h5, show (i + 1) * 7 + j - 7 = i * 7 + j by omega]
    rw [lksCells_set (l := l) (by simpa using hi) hj h]
/-- Number i of a list. -/
theorem lk_at {w : World} {B : Nat} {A : Option Addr} {l : List Lk} (h : CellsAt w B A (lksCells l)) {i : Nat} (hi : i < l.length) :
    ∃ z o, A = some ⟨z, o, none⟩ ∧ z < B ∧ w.cell? ⟨z, o + i * 7, none⟩ = some (.int .i64 l[i].f) ∧ w.cell? ⟨z, o + i * 7 + 1, none⟩ = some (.int .i64 l[i].s.e) ∧ w.cell? ⟨z, o + i * 7 + 2, none⟩ = some (.int .u64 l[i].s.r.1) ∧ w.cell? ⟨z, o + i * 7 + 3, none⟩ = some (.int .u64 l[i].s.r.2) ∧ w.cell? ⟨z, o + i * 7 + 4, none⟩ = some (.int .i64 l[i].t.e) ∧ w.cell? ⟨z, o + i * 7 + 5, none⟩ = some (.int .u64 l[i].t.r.1) ∧ w.cell? ⟨z, o + i * 7 + 6, none⟩ = some (.int .u64 l[i].t.r.2) := by
  obtain ⟨z, o, e, hb, hc⟩ := h.plain (by rw [lksCells_length]; omega)
  exact ⟨z, o, e, hb, hc _ _ (lksCells_at hi (j := 0) rfl), hc _ _ (lksCells_at hi (j := 1) rfl), hc _ _ (lksCells_at hi (j := 2) rfl), hc _ _ (lksCells_at hi (j := 3) rfl), hc _ _ (lksCells_at hi (j := 4) rfl), hc _ _ (lksCells_at hi (j := 5) rfl), hc _ _ (lksCells_at hi (j := 6) rfl)⟩

/-! ### A list of links of one's own -/
theorem lkown_set {w : World} {base : Nat} {e : TypeId} {size n n' cap g : Nat} {xs : List Value} (h : w.ownsRow base e size (.slice (some ⟨g, 0, none⟩) n cap) n' xs) (j : Nat) (u : Value) (hj : j < xs.length) :
    (w.setCell ⟨g, j, none⟩ u).ownsRow base e size (.slice (some ⟨g, 0, none⟩) n cap) n' (xs.set j u) := by
  refine ⟨by rw [List.length_set]; exact h.1, ?_⟩
  rcases h.2 with ⟨hv, _⟩ | ⟨g', cap', cur, hv, hb, hg, hn, hm, hs, ht⟩
  · cases hv
  · cases hv
    refine Or.inr ⟨g, cap, cur.setIfInBounds j u, rfl, hb, ?_, hn, hm, by simpa using hs, ?_⟩
    · simp [World.setCell, Array.getElem?_modify, hg]
    · rw [Array.toList_setIfInBounds, List.take_set, ht]
/-- v holds the links of l, in a row of its own; all that lay in W lies as it was. -/
def Lks (W : World) (l : List Lk) (v : Value) (w : World) : Prop := w.ownsRow W.heap.size 28 7 v l.length (lksCells l) ∧ Kept W w
theorem Lks.nil (W : World) : Lks W [] (.slice none 0 0) W := ⟨World.ownsRow_nil _ _ _ _, Kept.refl _⟩
theorem Lks.nilK {W w : World} (k : Kept W w) : Lks W [] (.slice none 0 0) w := ⟨World.ownsRow_nil _ _ _ _, k⟩
theorem Lks.alloc {W w : World} {l : List Lk} {v : Value} (h : Lks W l v w) (o : Obj) : Lks W l v (w.alloc o) := ⟨h.1.alloc o, h.2.alloc o⟩
theorem Lks.kept {W w w' : World} {l : List Lk} {v : Value} (h : Lks W l v w) (k : Kept w w') : Lks W l v w' := by
  refine ⟨⟨h.1.1, ?_⟩, h.2.trans k⟩
  rcases h.1.2 with h2 | ⟨g, cap, cur, hv, hg, hh, r⟩
  · exact Or.inl h2
  · exact Or.inr ⟨g, cap, cur, hv, hg, by rw [k.heap (h.1.lt g (by rw [hv]; rfl)).2]; exact hh, r⟩
theorem Lks.drewN {W w : World} {l : List Lk} {v : Value} (h : Lks W l v w) (n : Nat) : Lks W l v (w.drewN n) := h.kept ((Kept.refl w).drewN n)
theorem Lks.drew {W w : World} {l : List Lk} {v : Value} (h : Lks W l v w) : Lks W l v w.drew := h.kept (Kept.refl w).drew
theorem Lks.slice {W w : World} {l : List Lk} {v : Value} (h : Lks W l v w) : ∃ A c, v = .slice A l.length c := by
  rcases h.1.2 with ⟨hv, h0⟩ | ⟨g, cap, cur, hv, _⟩
  · rw [h0]; exact ⟨_, _, hv⟩
  · exact ⟨_, _, hv⟩
theorem Lks.cells {W w : World} {l : List Lk} {A : Option Addr} {n c : Nat} (h : Lks W l (.slice A n c) w) (hn : n = l.length) : CellsAt w w.heap.size A (lksCells l) := by
  subst hn; exact CellsAt.of_own h.1
/-- One that is not empty lies in a block that is new. -/
theorem Lks.form {W w : World} {l : List Lk} {v : Value} (h : Lks W l v w) (h0 : 0 < l.length) : ∃ g c, v = .slice (some ⟨g, 0, none⟩) l.length c ∧ W.heap.size ≤ g ∧ g < w.heap.size := by
  rcases h.1.2 with ⟨_, e⟩ | ⟨g, cap, cur, hv, hg, hh, _⟩
  · omega
  · exact ⟨g, cap, hv, hg, (Array.getElem?_eq_some_iff.1 hh).1⟩
theorem Lks.frozen {W w : World} {l : List Lk} {g n c : Nat} (h : Lks W l (.slice (some ⟨g, 0, none⟩) n c) w) (j : Nat) : w.frozen? ⟨g, j, none⟩ = false := by
  rcases h.1.2 with ⟨hv, _⟩ | ⟨g', cap', cur, hv, hb, hg, _⟩
  · cases hv
  · cases hv
    simp [World.frozen?, hg]
theorem Lks.ge {W w : World} {l : List Lk} {g n c : Nat} (h : Lks W l (.slice (some ⟨g, 0, none⟩) n c) w) : W.heap.size ≤ g ∧ g < w.heap.size := h.1.lt g rfl
/-- A cell of number i is written. -/
theorem Lks.set {W w : World} {l : List Lk} {g n c : Nat} (h : Lks W l (.slice (some ⟨g, 0, none⟩) n c) w) {i : Nat} (hi : i < l.length) {j : Nat} (hj : j < 7) {u : Value} {t : Lk} (ht : (lkCells l[i]).set j u = lkCells t) :
    Lks W (l.set i t) (.slice (some ⟨g, 0, none⟩) n c) (w.setCell ⟨g, i * 7 + j, none⟩ u) := by
  refine ⟨?_, h.2.setCell (p := ⟨g, i * 7 + j, none⟩) h.ge.1 u⟩
  have := lkown_set h.1 (i * 7 + j) u (by rw [lksCells_length]; omega)
  rw [lksCells_set hi hj ht] at this
  rw [List.length_set]
  exact this
theorem lks_new {w : World} {t : Lk} (b : Nat) (hb : b = w.heap.size) (ty : TypeId) : CellsAt (w.alloc (.cells #[.int .i64 t.f, .int .i64 t.s.e, .int .u64 t.s.r.1, .int .u64 t.s.r.2, .int .i64 t.t.e, .int .u64 t.t.r.1, .int .u64 t.t.r.2] ty)) (w.alloc (.cells #[.int .i64 t.f, .int .i64 t.s.e, .int .u64 t.s.r.1, .int .u64 t.s.r.2, .int .i64 t.t.e, .int .u64 t.t.r.1, .int .u64 t.t.r.2] ty)).heap.size (some ⟨b, 0, none⟩) (lksCells [t]) := by
  intro j u hu
  have h := HasCells.new w #[.int .i64 t.f, .int .i64 t.s.e, .int .u64 t.s.r.1, .int .u64 t.s.r.2, .int .i64 t.t.e, .int .u64 t.t.r.1, .int .u64 t.t.r.2] ty b hb
  refine ⟨_, rfl, h.1, ?_⟩
  rw [add_none, Nat.zero_add]
  exact h.2 j u (by simpa [lksCells, lkCells] using hu)
/-- append of links. -/
theorem wp_lks {o : Oper} {a : Act} {K : Act → World → Prop} {Q : Exit → Act → World → Prop} (w : World) (T : TypeId) (hT : Try.prog.underlying T = some (.slice 28)) (s x : Operand)
    (ho : o.op = .call { callee := .builtin .append, args := #[s, x], argTypes := #[T, T] })
    (W : World) (l : List Lk) (v : Value) (hs : a.eval s = v) (HB : Lks W l v w) (B : Nat) (A : Option Addr) (m c : Nat) (news : List Lk) (hx : a.eval x = .slice A m c) (hl : news.length = m)
    (hr : CellsAt w B A (lksCells news)) (hlen : l.length + m ≤ 1000000)
    (h : ∀ A' c' w', Lks W (l ++ news) (.slice A' (l ++ news).length c') w' → w.grownBy w' v.ownBlock → K (a.put o.dst (.slice A' (l ++ news).length c')) w') : o.wp Try.prog a w K Q := by
  obtain ⟨i0, hi0, hz0, hz1, hz2⟩ := info_of Try.infoLk
  refine wp_app w s x _ ho W.heap.size 28 i0 _ 7 56 hT hi0 hz0 hz1 hz2 rfl (by omega) v l.length (lksCells l) hs HB.1 B A m c (lksCells news) hx (by rw [lksCells_length, hl]) hr (lksCells_one _)
    (by unfold maxLen; omega) (by omega) HB.2.size_le ?_
  intro v' w' own g _
  have e : (l ++ news).length = l.length + m := by rw [List.length_append, hl]
  rw [← e, lksCells_append] at own
  obtain ⟨A', c', rfl⟩ : ∃ A c, v' = .slice A (l ++ news).length c := by
    rcases own.2 with ⟨hv, h0⟩ | ⟨g, cap, cur, hv, _⟩
    · rw [h0]; exact ⟨_, _, hv⟩
    · exact ⟨_, _, hv⟩
  exact h A' c' w' ⟨own, HB.2.grown g fun i hi => (HB.1.lt i hi).1⟩ g
theorem wpList_lks {ops : Array Oper} {rest : List Oper} {o : Oper} {a : Act} {Q : Exit → Act → World → Prop} (w : World) (hgd : o.guard = none) (T : TypeId) (hT : Try.prog.underlying T = some (.slice 28)) (s x : Operand)
    (ho : o.op = .call { callee := .builtin .append, args := #[s, x], argTypes := #[T, T] })
    (W : World) (l : List Lk) (v : Value) (hs : a.eval s = v) (HB : Lks W l v w) (B : Nat) (A : Option Addr) (m c : Nat) (news : List Lk) (hx : a.eval x = .slice A m c) (hl : news.length = m)
    (hr : CellsAt w B A (lksCells news)) (hlen : l.length + m ≤ 1000000)
    (h : ∀ A' c' w', Lks W (l ++ news) (.slice A' (l ++ news).length c') w' → w.grownBy w' v.ownBlock → wpList Try.prog ops Q rest (a.put o.dst (.slice A' (l ++ news).length c')) w') : wpList Try.prog ops Q (o :: rest) a w :=
  wpList_plain hgd fun _ hK => wp_lks w T hT s x ho W l v hs HB B A m c news hx hl hr hlen fun A' c' w' h1 h2 => hK _ _ (h A' c' w' h1 h2)
theorem step_lks {ops : Array Oper} {o : Oper} {a : Act} {K : Act → World → Prop} {Q : Exit → Act → World → Prop} {E : Prop} (w : World) (hgd : Region.wanted o (yielded ops a.tmps) = true) (T : TypeId) (hT : Try.prog.underlying T = some (.slice 28)) (s x : Operand)
    (ho : o.op = .call { callee := .builtin .append, args := #[s, x], argTypes := #[T, T] })
    (W : World) (l : List Lk) (v : Value) (hs : a.eval s = v) (HB : Lks W l v w) (B : Nat) (A : Option Addr) (m c : Nat) (news : List Lk) (hx : a.eval x = .slice A m c) (hl : news.length = m)
    (hr : CellsAt w B A (lksCells news)) (hlen : l.length + m ≤ 1000000)
    (h : ∀ A' c' w', Lks W (l ++ news) (.slice A' (l ++ news).length c') w' → w.grownBy w' v.ownBlock → K (a.put o.dst (.slice A' (l ++ news).length c')) w') :
    if Region.wanted o (yielded ops a.tmps) = true then Oper.wp Try.prog o a w K Q else E := by
  rw [if_pos hgd]
  exact wp_lks w T hT s x ho W l v hs HB B A m c news hx hl hr hlen h

end Go.Proofs.Ythaofomhlmajbaa
