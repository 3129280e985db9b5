/-
  A list of numbers of one's own, onto which is appended.
-/
import Derived.Test.YtjcjglhoknbhpaaRow
namespace Go.Proofs.Ytjcjglhoknbhpaa
open Go.ChangeShapes Go.WideShapes Go.ChangeAt Go.RowKit

theorem info_three {P : Program} {t : TypeId} {z : Value} {s b : Nat} (h : (P.info? t).map (fun i => (i.zero, i.size, i.bytes)) = some (some z, s, b)) : ∃ i, P.info? t = some i ∧ i.zero = some z ∧ i.size = s ∧ i.bytes = b := by
  cases hq : P.info? t with
  | none => simp [hq] at h
  | some i => simp [hq] at h; exact ⟨i, rfl, h.1, h.2.1, h.2.2⟩
theorem Try.infoI : (Try.prog.info? 3).map (fun i => (i.zero, i.size, i.bytes)) = some (some (.int .i64 0), 1, 8) := by kernel_rfl
def intCells (l : List Int) : List Value := l.map fun x => .int .i64 x
@[simp] theorem intCells_length (l : List Int) : (intCells l).length = l.length := by simp [intCells]
theorem intCells_append (l m : List Int) : intCells l ++ intCells m = intCells (l ++ m) := by simp [intCells]
theorem intCells_one (l : List Int) : ∀ u ∈ intCells l, u.oneCell' = true := fun u hu => by
  simp only [intCells, List.mem_map] at hu
  obtain ⟨x, _, rfl⟩ := hu
  rfl
/-- v holds the numbers of l, in a row of its own; all that lay in W lies as it was. -/
def Ints (W : World) (l : List Int) (v : Value) (w : World) : Prop := w.ownsRow W.heap.size 3 1 v l.length (intCells l) ∧ Kept W w
theorem Ints.nil (W : World) : Ints W [] (.slice none 0 0) W := ⟨World.ownsRow_nil _ _ _ _, Kept.refl _⟩
theorem Ints.alloc {W w : World} {l : List Int} {v : Value} (h : Ints W l v w) (o : Obj) : Ints W l v (w.alloc o) := ⟨h.1.alloc o, h.2.alloc o⟩
theorem Ints.kept {W w w' : World} {l : List Int} {v : Value} (h : Ints W l v w) (k : Kept w w') : Ints W l v w' := by
  refine ⟨⟨h.1.1, ?_⟩, h.2.trans k⟩
  rcases h.1.2 with h2 | ⟨g, cap, cur, hv, hg, hh, r⟩
  · exact Or.inl h2
  · exact Or.inr ⟨g, cap, cur, hv, hg, by rw [k.heap (h.1.lt g (by rw [hv]; rfl)).2]; exact hh, r⟩
/-- append of one number. -/
theorem wpList_ints {ops : Array Oper} {rest : List Oper} {o : Oper} {a : Act} {Q : Exit → Act → World → Prop} (w : World) (hgd : o.guard = none) (s x : Operand)
    (ho : o.op = .call { callee := .builtin .append, args := #[s, x], argTypes := #[25, 25] })
    (W : World) (l : List Int) (v : Value) (hs : a.eval s = v) (HB : Ints W l v w) (B : Nat) (A : Option Addr) (m c : Nat) (news : List Int) (hx : a.eval x = .slice A m c) (hl : news.length = m)
    (hr : CellsAt w B A (intCells news)) (hlen : l.length + m ≤ 1000000)
    (h : ∀ v' w', Ints W (l ++ news) v' w' → wpList Try.prog ops Q rest (a.put o.dst v') w') : wpList Try.prog ops Q (o :: rest) a w := by
  obtain ⟨i0, hi0, hz0, hz1, hz2⟩ := info_three Try.infoI
  refine wpList_app w hgd s x _ ho W.heap.size 3 i0 _ 1 8 Try.underlying25 hi0 hz0 hz1 hz2 rfl (by omega) v l.length (intCells l) hs HB.1 B A m c (intCells news) hx (by simp [hl]) hr (intCells_one _)
    (by unfold maxLen; omega) (by omega) HB.2.size_le ?_
  intro v' w' own g _
  refine h v' w' ⟨?_, HB.2.grown g fun i hi => (HB.1.lt i hi).1⟩
  rw [intCells_append] at own
  rw [List.length_append, hl]
  exact own
/-- Such a list that is not empty, cell by cell. -/
theorem Ints.open {W w : World} {l : List Int} {v : Value} (h : Ints W l v w) (hn : 0 < l.length) : ∃ g c, v = .slice (some ⟨g, 0, none⟩) l.length c ∧ g < w.heap.size ∧ ∀ j (hj : j < l.length), w.cell? ⟨g, j, none⟩ = some (.int .i64 l[j]) := by
  rcases h.1.2 with ⟨_, h0⟩ | ⟨g, cap, cur, hv, hg, hh, r⟩
  · omega
  · subst hv
    refine ⟨g, cap, rfl, (h.1.lt g rfl).2, fun j hj => ?_⟩
    rw [h.1.cellAt j (by omega)]
    simp [intCells, List.getElem?_map, List.getElem?_eq_getElem hj]
theorem Ints.shut {W w : World} {v : Value} (h : Ints W [] v w) : v = .slice none 0 0 ∨ ∃ g c, v = .slice (some ⟨g, 0, none⟩) 0 c := by
  rcases h.1.2 with ⟨h0, _⟩ | ⟨g, cap, cur, hv, _⟩
  · exact Or.inl h0
  · exact Or.inr ⟨g, cap, hv⟩

end Go.Proofs.Ytjcjglhoknbhpaa
