/-
  A variable that holds a view of one's own: its two rows, and what changes where one of them grows.
-/
import Derived.Test.YtacdiicnfoejoaaViewMath
import Derived.Test.YtacdiicnfoejoaaVoteG
import Derived.Test.YtacdiicnfoejoaaTreeG
import Derived.Test.YtacdiicnfoejoaaWeighDbl
namespace Go.Proofs.Ytacdiicnfoejoaa
set_option maxRecDepth 100000
set_option linter.unusedVariables false
set_option linter.unusedSimpArgs false
set_option linter.unusedSimpArgs false
set_option linter.unusedVariables false
open Go.ChangeShapes Go.WideShapes Go.ChangeAt Go.RowKit

theorem Bks.kept {W w w' : World} {l : List Bk} {v : Value} (h : Bks W l v w) (k : Kept w w') : Bks W l v w' := by
  refine ⟨⟨h.1.1, ?_⟩, h.2.trans k⟩
  rcases h.1.2 with h2 | ⟨g, cap, cur, hv, hg, hh, r⟩
  · exact Or.inl h2
  · exact Or.inr ⟨g, cap, cur, hv, hg, by rw [k.heap (h.1.lt g (by rw [hv]; rfl)).2]; exact hh, r⟩
theorem Bks.zero {W w : World} (k : Kept W w) : Bks W [] (.slice .none 0 0) w := ⟨World.ownsRow_nil _ _ _ _, k⟩
theorem Bks.cap {W w : World} {l : List Bk} {A : Option Addr} {c : Nat} (h : Bks W l (.slice A l.length c) w) : l.length ≤ c := by
  rcases h.1.2 with ⟨e, e2⟩ | ⟨g, cap, cur, hv, hg, hh, h1, _⟩
  · injection e with _ _ e; omega
  · injection hv with _ _ e; omega
theorem Bks.lower {W W1 w : World} {l : List Bk} {v : Value} (h : Bks W1 l v w) (k : Kept W W1) : Bks W l v w := by
  refine ⟨⟨h.1.1, ?_⟩, k.trans h.2⟩
  rcases h.1.2 with h2 | ⟨g, cap, cur, hv, hg, r⟩
  · exact Or.inl h2
  · exact Or.inr ⟨g, cap, cur, hv, Nat.le_trans k.size_le hg, r⟩
/-- A row stays where another block grows. -/
theorem own_grown {w w' : World} {base : Nat} {e : TypeId} {size n : Nat} {v : Value} {xs : List Value} (h : w.ownsRow base e size v n xs) {row : Option Nat} (g : w.grownBy w' row) (hne : ∀ b, v.ownBlock = some b → some b ≠ row) : w'.ownsRow base e size v n xs := by
  refine ⟨h.1, ?_⟩
  rcases h.2 with h2 | ⟨gr, cap, cur, hv, hg, hh, r⟩
  · exact Or.inl h2
  · refine Or.inr ⟨gr, cap, cur, hv, hg, ?_, r⟩
    rw [g.block gr (Array.getElem?_eq_some_iff.1 hh).1 (hne gr (by rw [hv]; rfl))]
    exact hh
/-- Rows of two types lie in two blocks. -/
theorem own_types {w : World} {b1 b2 : Nat} {e1 e2 : TypeId} {s1 s2 n1 n2 : Nat} {v1 v2 : Value} {x1 x2 : List Value} (h1 : w.ownsRow b1 e1 s1 v1 n1 x1) (h2 : w.ownsRow b2 e2 s2 v2 n2 x2) (ht : e1 ≠ e2) : ∀ b, v1.ownBlock = some b → some b ≠ v2.ownBlock := by
  intro b e q
  rcases h1.2 with ⟨hv, _⟩ | ⟨g, cap, cur, hv, _, hh, _⟩
  · rw [hv] at e; cases e
  · rcases h2.2 with ⟨hv2, _⟩ | ⟨g2, cap2, cur2, hv2, _, hh2, _⟩
    · rw [hv2] at q; cases q
    · rw [hv] at e
      rw [hv2] at q
      injection e with e
      injection q with q
      simp only at e q
      subst e
      subst q
      rw [hh] at hh2
      injection hh2 with hh2
      injection hh2 with _ hh2
      exact ht hh2
/-- A row of one's own stays where a block of another type is written. -/
theorem own_past_box {w : World} {base : Nat} {e : TypeId} {size n : Nat} {v : Value} {xs : List Value} (h : w.ownsRow base e size v n xs) {z : Nat} {ys : Array Value} {t : TypeId} (hz : AtB w z ys t) (ht : t ≠ e) (j : Nat) (u : Value) : (w.setCell ⟨z, j, none⟩ u).ownsRow base e size v n xs := by
  have hne := own_apart h hz ht
  refine ⟨h.1, ?_⟩
  rcases h.2 with h2 | ⟨gr, cap, cur, hv, hg, hh, r⟩
  · exact Or.inl h2
  · refine Or.inr ⟨gr, cap, cur, hv, hg, ?_, r⟩
    rw [heap_setCell_other w _ gr u (fun e => hne (by rw [hv, e]; rfl))]
    exact hh
theorem bks_past_box {W w : World} {l : List Bk} {v : Value} (h : Bks W l v w) {z : Nat} {ys : Array Value} {t : TypeId} (hz : AtB w z ys t) (ht : t ≠ 42) (hW : W.heap.size ≤ z) (j : Nat) (u : Value) : Bks W l v (w.setCell ⟨z, j, none⟩ u) :=
  ⟨own_past_box h.1 hz ht j u, h.2.setCell (p := ⟨z, j, none⟩) hW u⟩

/-- A variable at z that holds a view: its rows are one's own. -/
structure VBox (W : World) (z : Nat) (x : Vw) (A : Option Addr) (c : Nat) (B : Option Addr) (d : Nat) (w : World) : Prop where
  box : AtB w z #[.slice A x.b.length c, .slice B x.v.length d] 29
  bs : Bks W x.b (.slice A x.b.length c) w
  vs : Vts W x.v (.slice B x.v.length d) w
  ge : W.heap.size ≤ z
theorem VBox.kept {W w w' : World} {z : Nat} {x : Vw} {A : Option Addr} {c : Nat} {B : Option Addr} {d : Nat} (h : VBox W z x A c B d w) (k : Kept w w') : VBox W z x A c B d w' := ⟨h.box.kept k, h.bs.kept k, h.vs.kept k, h.ge⟩
theorem VBox.drew {W w : World} {z : Nat} {x : Vw} {A : Option Addr} {c : Nat} {B : Option Addr} {d : Nat} (h : VBox W z x A c B d w) : VBox W z x A c B d w.drew := h.kept (Kept.refl w).drew
theorem VBox.drewN {W w : World} {z : Nat} {x : Vw} {A : Option Addr} {c : Nat} {B : Option Addr} {d : Nat} (h : VBox W z x A c B d w) (n : Nat) : VBox W z x A c B d (w.drewN n) := h.kept ((Kept.refl w).drewN n)
theorem VBox.putB {W w w' : World} {z : Nat} {x : Vw} {A : Option Addr} {c : Nat} {B : Option Addr} {d : Nat} (h : VBox W z x A c B d w) {l : List Bk} {A' : Option Addr} {c' : Nat} (hb : Bks W l (.slice A' l.length c') w') (g : w.grownBy w' (Value.slice A x.b.length c).ownBlock) :
    VBox W z ⟨l, x.v⟩ A' c' B d (w'.setCell ⟨z, 0, none⟩ (.slice A' l.length c')) := by
  have hbox : AtB w' z #[.slice A x.b.length c, .slice B x.v.length d] 29 := h.box.grown g (own_apart h.bs.1 h.box (by decide))
  have hv : Vts W x.v (.slice B x.v.length d) w' := ⟨own_grown h.vs.1 g (own_types h.vs.1 h.bs.1 (by decide)), h.vs.2.grown g fun i hi => (h.bs.1.lt i hi).1⟩
  exact ⟨hbox.set 0 _, bks_past_box hb hbox (by decide) h.ge 0 _, vts_past_box hv hbox (by decide) h.ge 0 _, h.ge⟩
theorem VBox.putV {W w w' : World} {z : Nat} {x : Vw} {A : Option Addr} {c : Nat} {B : Option Addr} {d : Nat} (h : VBox W z x A c B d w) {l : List Vt} {B' : Option Addr} {d' : Nat} (hb : Vts W l (.slice B' l.length d') w') (g : w.grownBy w' (Value.slice B x.v.length d).ownBlock) :
    VBox W z ⟨x.b, l⟩ A c B' d' (w'.setCell ⟨z, 1, none⟩ (.slice B' l.length d')) := by
  have hbox : AtB w' z #[.slice A x.b.length c, .slice B x.v.length d] 29 := h.box.grown g (own_apart h.vs.1 h.box (by decide))
  have hv : Bks W x.b (.slice A x.b.length c) w' := ⟨own_grown h.bs.1 g (own_types h.bs.1 h.vs.1 (by decide)), h.bs.2.grown g fun i hi => (h.vs.1.lt i hi).1⟩
  exact ⟨hbox.set 1 _, bks_past_box hv hbox (by decide) h.ge 1 _, vts_past_box hb hbox (by decide) h.ge 1 _, h.ge⟩
theorem VBox.made {W w : World} {z : Nat} (k : Kept W w) (h : AtB w z #[.slice .none 0 0, .slice .none 0 0] 29) (hg : W.heap.size ≤ z) : VBox W z ⟨[], []⟩ .none 0 .none 0 w := ⟨h, Bks.zero k, Vts.none k, hg⟩
/-- What hands back a view, its rows new, or not. -/
def ViewNew (x : Vw) (w : World) (e : Ending) (w' : World) : Prop := ∃ A c B d, e = .returned (.agg #[.slice A x.b.length c, .slice B x.v.length d]) ∧ Bks w x.b (.slice A x.b.length c) w' ∧ Vts w x.v (.slice B x.v.length d) w'
def ViewGot (x : Vw) (w : World) (e : Ending) (w' : World) : Prop := ∃ A c B d, e = .returned (.agg #[.slice A x.b.length c, .slice B x.v.length d]) ∧ x.b.length ≤ c ∧ x.v.length ≤ d ∧ CellsAt w' w'.heap.size A (blockCells x.b) ∧ CellsAt w' w'.heap.size B (votesCells x.v) ∧ Kept w w'
/-- What Take hands back. -/
def TakeGot (t : TSt) (w : World) (e : Ending) (w' : World) : Prop := ∃ A c B d C a D b, e = .returned (.tuple #[.agg #[.slice A t.w.b.length c, .slice B t.w.v.length d], .agg #[.slice C t.i.b.length a, .slice D t.i.v.length b], .bool t.full]) ∧ t.w.b.length ≤ c ∧ t.w.v.length ≤ d ∧ t.i.b.length ≤ a ∧ t.i.v.length ≤ b ∧ CellsAt w' w'.heap.size A (blockCells t.w.b) ∧ CellsAt w' w'.heap.size B (votesCells t.w.v) ∧ CellsAt w' w'.heap.size C (blockCells t.i.b) ∧ CellsAt w' w'.heap.size D (votesCells t.i.v) ∧ Kept w w'
theorem ViewNew.got {x : Vw} {w : World} {e : Ending} {w' : World} (h : ViewNew x w e w') : ViewGot x w e w' := by
  obtain ⟨A, c, B, d, e, h1, h2⟩ := h
  exact ⟨A, c, B, d, e, h1.cap, h2.cap, CellsAt.of_own h1.1, CellsAt.of_own h2.1, h1.2⟩
section
variable {ops : Array Oper} {o : Oper} {a : Act} {K : Act → World → Prop} {Q : Exit → Act → World → Prop} {E : Prop} (w : World)
/-- 'append' onto blocks of one's own: other blocks stay as they are. -/
theorem step_bgrow (hgd : Region.wanted o (yielded ops a.tmps) = true) (s x : Operand)
    (ho : o.op = .call { callee := .builtin .append, args := #[s, x], argTypes := #[26, 26] })
    (W : World) (l : List Bk) (v : Value) (hs : a.eval s = v) (HB : Bks W l v w) (B : Nat) (A : Option Addr) (m c : Nat) (news : List Bk) (hx : a.eval x = .slice A m c) (hl : news.length = m)
    (hr : CellsAt w B A (blockCells news)) (hlen : l.length + m ≤ 1000000)
    (h : ∀ A' c' w', Bks W (l ++ news) (.slice A' (l ++ news).length c') w' → w.grownBy w' v.ownBlock → K (a.put o.dst (.slice A' (l ++ news).length c')) w') :
    if Region.wanted o (yielded ops a.tmps) = true then Oper.wp Try.prog o a w K Q else E := by
  rw [if_pos hgd]
  obtain ⟨i0, hi0, hz0, hz1, hz2⟩ := info_of Try.infoBk
  refine wp_app w s x _ ho W.heap.size 42 i0 _ 5 40 Try.underlying26 hi0 hz0 hz1 hz2 rfl (by omega) v l.length (blockCells l) hs HB.1 B A m c (blockCells news) hx (by rw [blockCells_length, hl]) hr (blockCells_one _)
    (by unfold maxLen; omega) (by omega) HB.2.size_le ?_
  intro v' w' own g _
  have e : (l ++ news).length = l.length + m := by rw [List.length_append, hl]
  rw [← e, blockCells_append] at own
  obtain ⟨A', c', rfl⟩ : ∃ A c, v' = .slice A (l ++ news).length c := by
    rcases own.2 with ⟨hv, h0⟩ | ⟨g, cap, cur, hv, _⟩
    · rw [h0]; exact ⟨_, _, hv⟩
    · exact ⟨_, _, hv⟩
  exact h A' c' w' ⟨own, HB.2.grown g fun i hi => (HB.1.lt i hi).1⟩ g
/-- .. onto nothing: all stays as it is. -/
theorem step_bnew (hgd : Region.wanted o (yielded ops a.tmps) = true) (x : Operand)
    (ho : o.op = .call { callee := .builtin .append, args := #[.const (.slice none 0 0), x], argTypes := #[26, 26] })
    (W : World) (hW : Kept W w) (B : Nat) (A : Option Addr) (m c : Nat) (news : List Bk) (hx : a.eval x = .slice A m c) (hl : news.length = m)
    (hr : CellsAt w B A (blockCells news)) (hlen : m ≤ 1000000)
    (h : ∀ A' c' w', Bks W news (.slice A' news.length c') w' → Kept w w' → K (a.put o.dst (.slice A' news.length c')) w') :
    if Region.wanted o (yielded ops a.tmps) = true then Oper.wp Try.prog o a w K Q else E :=
  step_bgrow w hgd _ x ho W [] _ rfl (Bks.zero hW) B A m c news hx hl hr (by simp; omega) fun A' c' w' h1 g => h A' c' w' h1 ((Kept.refl w).grown g fun k hk => by cases hk)
end
theorem blocks_one_at {w : World} {z : Nat} {x : Bk} (h : HasCells w z [.int .i64 x.s, .int .i64 x.f, .int .u64 x.p.1, .int .u64 x.p.2, .int .u64 x.t]) : CellsAt w w.heap.size (some ⟨z, 0, none⟩) (blockCells [x]) := by
  intro j u hu
  refine ⟨_, rfl, h.1, ?_⟩
  rw [add_none, Nat.zero_add]
  exact h.2 j u (by simpa [blockCells, bkCells] using hu)

end Go.Proofs.Ytacdiicnfoejoaa
