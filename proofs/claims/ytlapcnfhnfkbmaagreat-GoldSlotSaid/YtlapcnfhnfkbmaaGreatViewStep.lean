/-
  Blocks of one's own that hold given cells; appends and made views over a region that draws its order; a region cut off from what comes behind it.
-/
import Derived.Test.YtlapcnfhnfkbmaaGreatVoteStep
import Derived.Test.YtlapcnfhnfkbmaaGreatAtB
namespace Go.Proofs.YtlapcnfhnfkbmaaGreat
set_option maxRecDepth 100000
set_option linter.unusedVariables false
set_option linter.unusedSimpArgs false
set_option linter.unusedSimpArgs false
set_option linter.unusedVariables false
open Go.ChangeShapes Go.WideShapes Go.ChangeAt Go.RowKit

/-- A row of one's own lies in no block of another type. -/
theorem own_apart {w : World} {base : Nat} {e : TypeId} {size n : Nat} {v : Value} {xs : List Value} (h : w.ownsRow base e size v n xs) {z : Nat} {ys : Array Value} {t : TypeId} (hz : AtB w z ys t) (ht : t ≠ e) : some z ≠ v.ownBlock := by
  intro q
  rcases h.2 with ⟨hv, _⟩ | ⟨g, cap, cur, hv, _, hh, _⟩
  · rw [hv] at q; cases q
  · rw [hv] at q
    injection q with q
    simp only at q
    subst q
    unfold AtB at hz
    rw [hz] at hh
    injection hh with hh
    injection hh with _ hh
    exact ht hh
theorem AtB.grown {w w' : World} {z : Nat} {xs : Array Value} {t : TypeId} (h : AtB w z xs t) {row : Option Nat} (g : w.grownBy w' row) (hne : some z ≠ row) : AtB w' z xs t := (g.block z h.lt hne).trans h
/-- Votes of one's own stay as they are where a block of another type is written. -/
theorem vts_past_box {W w : World} {l : List Vt} {v : Value} (h : Vts W l v w) {z : Nat} {ys : Array Value} {t : TypeId} (hz : AtB w z ys t) (ht : t ≠ 39) (hW : W.heap.size ≤ z) (j : Nat) (u : Value) : Vts W l v (w.setCell ⟨z, j, none⟩ u) := by
  have hne := own_apart h.1 hz ht
  refine ⟨⟨h.1.1, ?_⟩, h.2.setCell (p := ⟨z, j, none⟩) hW u⟩
  rcases h.1.2 with h2 | ⟨gr, cap, cur, hv, hg, hh, r⟩
  · exact Or.inl h2
  · refine Or.inr ⟨gr, cap, cur, hv, hg, ?_, r⟩
    rw [heap_setCell_other w _ gr u (fun e => hne (by rw [hv, e]; rfl))]
    exact hh
section
variable {ops : Array Oper} {o : Oper} {a : Act} {K : Act → World → Prop} {Q : Exit → Act → World → Prop} {E : Prop} (w : World)
/-- 'append' onto votes of one's own: blocks of other types stay as they are. -/
theorem step_vgrow (hgd : Region.wanted o (yielded ops a.tmps) = true) (s x : Operand)
    (ho : o.op = .call { callee := .builtin .append, args := #[s, x], argTypes := #[27, 27] })
    (W : World) (l : List Vt) (v : Value) (hs : a.eval s = v) (HB : Vts W l v w) (B : Nat) (A : Option Addr) (m c : Nat) (news : List Vt) (hx : a.eval x = .slice A m c) (hl : news.length = m)
    (hr : CellsAt w B A (votesCells news)) (hlen : l.length + m ≤ 1000000)
    (h : ∀ A' c' w', Vts W (l ++ news) (.slice A' (l ++ news).length c') w' → w.grownBy w' v.ownBlock → K (a.put o.dst (.slice A' (l ++ news).length c')) w') :
    if Region.wanted o (yielded ops a.tmps) = true then Oper.wp Tryz.prog o a w K Q else E := by
  rw [if_pos hgd]
  obtain ⟨i0, hi0, hz0, hz1, hz2⟩ := info_of Tryz.infoV
  refine wp_app w s x _ ho W.heap.size 39 i0 _ 4 32 Tryz.underlying27 hi0 hz0 hz1 hz2 rfl (by omega) v l.length (votesCells l) hs HB.1 B A m c (votesCells news) hx (by rw [votesCells_length, hl]) hr (votesCells_one _)
    (by unfold maxLen; omega) (by omega) HB.2.size_le ?_
  intro v' w' own g _
  have e : (l ++ news).length = l.length + m := by rw [List.length_append, hl]
  rw [← e, votesCells_append] at own
  obtain ⟨A', c', rfl⟩ : ∃ A c, v' = .slice A (l ++ news).length c := by
    rcases own.2 with ⟨hv, h0⟩ | ⟨g, cap, cur, hv, _⟩
    · rw [h0]; exact ⟨_, _, hv⟩
    · exact ⟨_, _, hv⟩
  exact h A' c' w' ⟨own, HB.2.grown g fun i hi => (HB.1.lt i hi).1⟩ g
/-- .. onto nothing: all stays as it is. -/
theorem step_vnew (hgd : Region.wanted o (yielded ops a.tmps) = true) (x : Operand)
    (ho : o.op = .call { callee := .builtin .append, args := #[.const (.slice none 0 0), x], argTypes := #[27, 27] })
    (W : World) (hW : Kept W w) (B : Nat) (A : Option Addr) (m c : Nat) (news : List Vt) (hx : a.eval x = .slice A m c) (hl : news.length = m)
    (hr : CellsAt w B A (votesCells news)) (hlen : m ≤ 1000000)
    (h : ∀ A' c' w', Vts W news (.slice A' news.length c') w' → Kept w w' → K (a.put o.dst (.slice A' news.length c')) w') :
    if Region.wanted o (yielded ops a.tmps) = true then Oper.wp Tryz.prog o a w K Q else E :=
  step_vgrow w hgd _ x ho W [] _ rfl (Vts.none hW) B A m c news hx hl hr (by simp; omega) fun A' c' w' h1 g => h A' c' w' h1 ((Kept.refl w).grown g fun k hk => by cases hk)
end
theorem upto_vts (A : Option Addr) (n c k : Nat) (hk : k ≤ c) (w : World) : (Instr.slice 27 (.slice A n c) none (some (.int .i64 (k : Int))) none).run Tryz.prog w = .ok (.slice A k c) w := by
  obtain ⟨i, hi, _, _, _⟩ := info_of Tryz.infoV
  exact run_upto _ _ i Tryz.underlying27 hi A n c k hk w
theorem vts_take {w : World} {B : Nat} {A : Option Addr} {l : List Vt} (h : CellsAt w B A (votesCells l)) (k : Nat) : CellsAt w B A (votesCells (l.take k)) := by
  have e : votesCells l = votesCells (l.take k) ++ votesCells (l.drop k) := by rw [votesCells_append, List.take_append_drop]
  rw [e] at h
  exact cells_prefix h
theorem turned_mem {α : Type} {l : List α} (n : Nat) {a : α} : a ∈ l.drop n ++ l.take n ↔ a ∈ l := by
  rw [List.mem_append, Or.comm, ← List.mem_append, List.take_append_drop]
theorem cut2 {P : Program} {c : Code} {Q : Exit → Act → World → Prop} {a : Act} {w : World} {α β : Type} (f : α → β → Act) (R : α → β → World → Prop)
    (h : ∀ Q' : Exit → Act → World → Prop, RowKit.Hid (∀ s1 s2 w', R s1 s2 w' → Q' .normal (f s1 s2) w') → c.wp P Q' a w) (hq : ∀ s1 s2 w', R s1 s2 w' → Q .normal (f s1 s2) w') : c.wp P Q a w := h Q (Lib.hid hq)
theorem cut5 {P : Program} {c : Code} {Q : Exit → Act → World → Prop} {a : Act} {w : World} {α β γ δ ε : Type} (f : α → β → γ → δ → ε → Act) (R : α → β → γ → δ → ε → World → Prop)
    (h : ∀ Q' : Exit → Act → World → Prop, RowKit.Hid (∀ s1 s2 s3 s4 s5 w', R s1 s2 s3 s4 s5 w' → Q' .normal (f s1 s2 s3 s4 s5) w') → c.wp P Q' a w) (hq : ∀ s1 s2 s3 s4 s5 w', R s1 s2 s3 s4 s5 w' → Q .normal (f s1 s2 s3 s4 s5) w') : c.wp P Q a w := h Q (Lib.hid hq)
theorem cut6 {P : Program} {c : Code} {Q : Exit → Act → World → Prop} {a : Act} {w : World} {α β γ δ ε ζ : Type} (f : α → β → γ → δ → ε → ζ → Act) (R : α → β → γ → δ → ε → ζ → World → Prop)
    (h : ∀ Q' : Exit → Act → World → Prop, RowKit.Hid (∀ s1 s2 s3 s4 s5 s6 w', R s1 s2 s3 s4 s5 s6 w' → Q' .normal (f s1 s2 s3 s4 s5 s6) w') → c.wp P Q' a w) (hq : ∀ s1 s2 s3 s4 s5 s6 w', R s1 s2 s3 s4 s5 s6 w' → Q .normal (f s1 s2 s3 s4 s5 s6) w') : c.wp P Q a w := h Q (Lib.hid hq)

end Go.Proofs.YtlapcnfhnfkbmaaGreat
