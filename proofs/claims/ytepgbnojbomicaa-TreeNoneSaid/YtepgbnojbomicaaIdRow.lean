/-
  A list of ids of one's own, onto which is appended; a list of ids that is handed back.
-/
import Derived.Test.YtepgbnojbomicaaTreeMap
namespace Go.Proofs.Ytepgbnojbomicaa
open Go.ChangeShapes Go.WideShapes Go.ChangeAt Go.RowKit

theorem info_of {P : Program} {t : TypeId} {z : Value} {s b : Nat} (h : (P.info? t).map (fun i => (i.zero, i.size, i.bytes)) = some (some z, s, b)) : ∃ i, P.info? t = some i ∧ i.zero = some z ∧ i.size = s ∧ i.bytes = b := by
  cases hq : P.info? t with
  | none => simp [hq] at h
  | some i => simp [hq] at h; exact ⟨i, rfl, h.1, h.2.1, h.2.2⟩
theorem Try.infoID : (Try.prog.info? 25).map (fun i => (i.zero, i.size, i.bytes)) = some (some (.agg #[.int .u64 0, .int .u64 0]), 2, 16) := by kernel_rfl
/-- v holds the ids of l, in a row of its own; all that lay in W lies as it was. -/
def Ids (W : World) (l : List Id2) (v : Value) (w : World) : Prop := w.ownsRow W.heap.size 25 2 v l.length (idsCells l) ∧ Kept W w
theorem Ids.nil (W : World) : Ids W [] (.slice none 0 0) W := ⟨World.ownsRow_nil _ _ _ _, Kept.refl _⟩
theorem Ids.none {W w : World} (k : Kept W w) : Ids W [] (.slice none 0 0) w := ⟨World.ownsRow_nil _ _ _ _, k⟩
theorem Ids.alloc {W w : World} {l : List Id2} {v : Value} (h : Ids W l v w) (o : Obj) : Ids W l v (w.alloc o) := ⟨h.1.alloc o, h.2.alloc o⟩
theorem Ids.kept {W w w' : World} {l : List Id2} {v : Value} (h : Ids W l v w) (k : Kept w w') : Ids W l v w' := by
  refine ⟨⟨h.1.1, ?_⟩, h.2.trans k⟩
  rcases h.1.2 with h2 | ⟨g, cap, cur, hv, hg, hh, r⟩
  · exact Or.inl h2
  · exact Or.inr ⟨g, cap, cur, hv, hg, by rw [k.heap (h.1.lt g (by rw [hv]; rfl)).2]; exact hh, r⟩
theorem ids_one_at {w : World} {z : Nat} {x : Id2} (h : HasCells w z [.int .u64 x.1, .int .u64 x.2]) : CellsAt w w.heap.size (some ⟨z, 0, none⟩) (idsCells [x]) := by
  intro j u hu
  refine ⟨_, rfl, h.1, ?_⟩
  rw [add_none, Nat.zero_add]
  exact h.2 j u (by simpa [idsCells, idCells] using hu)
/-- append of ids. -/
theorem wpList_ids {ops : Array Oper} {rest : List Oper} {o : Oper} {a : Act} {Q : Exit → Act → World → Prop} (w : World) (hgd : o.guard = none) (s x : Operand)
    (ho : o.op = .call { callee := .builtin .append, args := #[s, x], argTypes := #[31, 31] })
    (W : World) (l : List Id2) (v : Value) (hs : a.eval s = v) (HB : Ids W l v w) (B : Nat) (A : Option Addr) (m c : Nat) (news : List Id2) (hx : a.eval x = .slice A m c) (hl : news.length = m)
    (hr : CellsAt w B A (idsCells news)) (hlen : l.length + m ≤ 10000000)
    (h : ∀ v' w', Ids W (l ++ news) v' w' → w.grownBy w' v.ownBlock → wpList Try.prog ops Q rest (a.put o.dst v') w') : wpList Try.prog ops Q (o :: rest) a w := by
  obtain ⟨i0, hi0, hz0, hz1, hz2⟩ := info_of Try.infoID
  refine wpList_app w hgd s x _ ho W.heap.size 25 i0 _ 2 16 Try.underlying31 hi0 hz0 hz1 hz2 rfl (by omega) v l.length (idsCells l) hs HB.1 B A m c (idsCells news) hx (by rw [idsCells_length, hl]) hr (idsCells_one _)
    (by unfold maxLen; omega) (by omega) HB.2.size_le ?_
  intro v' w' own g _
  refine h v' w' ⟨?_, HB.2.grown g fun i hi => (HB.1.lt i hi).1⟩ g
  rw [idsCells_append] at own
  rw [List.length_append, hl]
  exact own
/-- What hands back the ids of l, as a list that is new. -/
def IdsNew (l : List Id2) (w : World) (e : Ending) (w' : World) : Prop :=
  ∃ A c, e = .returned (.slice A l.length c) ∧ CellsAt w' w'.heap.size A (idsCells l) ∧ (∀ ad, A = some ad → w.heap.size ≤ ad.block) ∧ Kept w w'
theorem Ids.slice {W w : World} {l : List Id2} {v : Value} (h : Ids W l v w) : ∃ A c, v = .slice A l.length c := by
  rcases h.1.2 with ⟨hv, h0⟩ | ⟨g, cap, cur, hv, _⟩
  · rw [h0]; exact ⟨_, _, hv⟩
  · exact ⟨_, _, hv⟩
theorem Ids.new {W w : World} {l : List Id2} {A : Option Addr} {c : Nat} (h : Ids W l (.slice A l.length c) w) : IdsNew l W (.returned (.slice A l.length c)) w := by
  refine ⟨A, c, rfl, CellsAt.of_own h.1, ?_, h.2⟩
  intro ad hA
  subst hA
  rcases h.1.2 with ⟨hv, _⟩ | ⟨g, cap, cur, hv, hg, _⟩
  · cases hv
  · cases hv; exact hg
theorem IdsNew.nil {w w' : World} (k : Kept w w') : IdsNew [] w (.returned (.slice none 0 0)) w' := ⟨none, 0, rfl, CellsAt.nil, (fun _ h => by cases h), k⟩

end Go.Proofs.Ytepgbnojbomicaa
