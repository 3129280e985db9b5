/-
  The tally of package view: its cells, its rows and its maps; what changes where one of them grows.
-/
import Derived.Test.YtacdiicnfoejoaaViewLeft
import Derived.Test.YtacdiicnfoejoaaViewJoinP
import Derived.Test.YtacdiicnfoejoaaViewLoad
import Derived.Test.YtacdiicnfoejoaaViewState
namespace Go.Proofs.Ytacdiicnfoejoaa
set_option maxRecDepth 100000
set_option linter.unusedVariables false
set_option linter.unusedSimpArgs false
set_option linter.unusedSimpArgs false
set_option linter.unusedVariables false
open Go.ChangeShapes Go.WideShapes Go.ChangeAt Go.RowKit

/-- The blocks that a tally writes. -/
def talS (z M C : Nat) (A B : Option Addr) : Nat → Prop := fun x => x = z ∨ x = M ∨ x = C ∨ (∃ a, A = some a ∧ a.block = x) ∨ ∃ a, B = some a ∧ a.block = x
/-- A tally at z: its blocks b and votes v, rows of its own, the map of slots, which tells fs and has hs, and that of votes, cs. -/
structure TalAt (W : World) (z : Nat) (up : Int) (b : List Bk) (v : List Vt) (f : Bool) (fs : Id2 → Int) (hs : Id2 → Bool) (cs : List Vt) (A : Option Addr) (c : Nat) (B : Option Addr) (d : Nat) (M n C m : Nat) (w : World) : Prop where
  box : AtB w z #[.int .i64 up, .slice A b.length c, .slice B v.length d, .map (some M), .map (some C), .bool f] 64
  wb : Bks W b (.slice A b.length c) w
  wv : Vts W v (.slice B v.length d) w
  sm : OwnH idKey intV M n fs hs w
  cm : SetK vtKey C m cs w
  ge : W.heap.size ≤ z
  geM : W.heap.size ≤ M
  geC : W.heap.size ≤ C
  ne : M ≠ C
theorem box_no_map {α β : Type} {K : KeyKind α} {V : ValKind β} {b m z : Nat} {f : α → β} {w : World} {xs : Array Value} {t : TypeId} (h : AtB w z xs t) (hm : OwnF K V b m f w) : z ≠ b := by
  intro e
  subst e
  obtain ⟨D, ⟨es, clock, hb, _⟩, _⟩ := hm
  unfold AtB at h
  rw [hb] at h
  cases h
theorem off_grown {S : Nat → Prop} {w w' : World} {row : Option Nat} (g : w.grownBy w' row) (hr : ∀ x, row = some x → S x) : Off S w w' := ⟨g.size, fun b hb hn => g.block b hb (fun e => hn (hr b e.symm))⟩
theorem off_set {S : Nat → Prop} (w : World) {z : Nat} (hz : S z) (j : Nat) (u : Value) : Off S w (w.setCell ⟨z, j, none⟩ u) :=
  ⟨by simp, fun b _ hn => heap_setCell_other w _ b u (fun e => hn (by rw [e]; exact hz))⟩
theorem Off.same {S : Nat → Prop} {a w w' : World} (h : Off S a w) (k : Off S w w') : Off S a w' := h.trans k fun x hx => Or.inl hx
theorem bks_off {S : Nat → Prop} {W w w' : World} {l : List Bk} {v : Value} (h : Bks W l v w) (hS : ∀ x, v.ownBlock = some x → ¬ S x) (k : Off S w w') (kW : Kept W w') : Bks W l v w' := ⟨own_off h.1 hS k, kW⟩
theorem slice_own {A : Option Addr} {n c x : Nat} (h : (Value.slice A n c).ownBlock = some x) : ∃ a, A = some a ∧ a.block = x := by
  cases A with
  | none => cases h
  | some a => injection h with h; exact ⟨a, rfl, h⟩
theorem own_slice {A : Option Addr} {n c x : Nat} (h : ∃ a, A = some a ∧ a.block = x) : (Value.slice A n c).ownBlock = some x := by
  obtain ⟨a, rfl, rfl⟩ := h; rfl
section
variable {W : World} {z : Nat} {up : Int} {b : List Bk} {v : List Vt} {f : Bool} {fs : Id2 → Int} {hs : Id2 → Bool} {cs : List Vt} {A : Option Addr} {c : Nat} {B : Option Addr} {d : Nat} {M n C m : Nat} {w w' : World}
theorem TalAt.keep (h : TalAt W z up b v f fs hs cs A c B d M n C m w) (kW : Kept W w') (hk : ∀ x, talS z M C A B x → w'.heap[x]? = w.heap[x]?) : TalAt W z up b v f fs hs cs A c B d M n C m w' := by
  have hz := hk z (Or.inl rfl)
  have hM := hk M (Or.inr (Or.inl rfl))
  have hC := hk C (Or.inr (Or.inr (Or.inl rfl)))
  have rows : ∀ {e : TypeId} {size n c : Nat} {A' : Option Addr} {xs : List Value}, (∀ x, (∃ a, A' = some a ∧ a.block = x) → w'.heap[x]? = w.heap[x]?) → ∀ {k : Nat}, w.ownsRow W.heap.size e size (.slice A' k c) n xs → w'.ownsRow W.heap.size e size (.slice A' k c) n xs := fun {e size n c A' xs} hA {k} h => by
    refine ⟨h.1, ?_⟩
    rcases h.2 with h2 | ⟨g, cap, cur, hv, hg, hh, r⟩
    · exact Or.inl h2
    · refine Or.inr ⟨g, cap, cur, hv, hg, ?_, r⟩
      rw [hA g (slice_own (n := k) (c := c) (by rw [hv]; rfl))]; exact hh
  exact ⟨hz.trans h.box, ⟨rows (fun x hx => hk x (Or.inr (Or.inr (Or.inr (Or.inl hx))))) h.wb.1, kW⟩, ⟨rows (fun x hx => hk x (Or.inr (Or.inr (Or.inr (Or.inr hx))))) h.wv.1, kW⟩, h.sm.at hM, h.cm.at hC, h.ge, h.geM, h.geC, h.ne⟩
theorem TalAt.lt (h : TalAt W z up b v f fs hs cs A c B d M n C m w) : ∀ x, talS z M C A B x → x < w.heap.size := by
  rintro x (rfl | rfl | rfl | hx | hx)
  · exact h.box.lt
  · exact h.sm.f.lt
  · exact h.cm.lt
  · exact (h.wb.1.lt x (own_slice hx)).2
  · exact (h.wv.1.lt x (own_slice hx)).2
theorem TalAt.above (h : TalAt W z up b v f fs hs cs A c B d M n C m w) : ∀ x, talS z M C A B x → W.heap.size ≤ x := by
  rintro x (rfl | rfl | rfl | hx | hx)
  · exact h.ge
  · exact h.geM
  · exact h.geC
  · exact (h.wb.1.lt x (own_slice hx)).1
  · exact (h.wv.1.lt x (own_slice hx)).1
theorem TalAt.kept (h : TalAt W z up b v f fs hs cs A c B d M n C m w) (k : Kept w w') : TalAt W z up b v f fs hs cs A c B d M n C m w' := h.keep (h.wb.2.trans k) fun x hx => k.heap (h.lt x hx)
theorem TalAt.zM (h : TalAt W z up b v f fs hs cs A c B d M n C m w) : z ≠ M := box_no_map h.box h.sm.f
theorem TalAt.zC (h : TalAt W z up b v f fs hs cs A c B d M n C m w) : z ≠ C := box_no_map h.box h.cm.f
theorem TalAt.set_maps (h : TalAt W z up b v f fs hs cs A c B d M n C m w) (j : Nat) (u : Value) : OwnH idKey intV M n fs hs (w.setCell ⟨z, j, none⟩ u) ∧ SetK vtKey C m cs (w.setCell ⟨z, j, none⟩ u) :=
  ⟨h.sm.at (heap_setCell_other w _ M u (fun e => h.zM e.symm)), h.cm.at (heap_setCell_other w _ C u (fun e => h.zC e.symm))⟩
/-- The view's blocks have grown, and are stored. -/
theorem TalAt.putB (h : TalAt W z up b v f fs hs cs A c B d M n C m w) {b' : List Bk} {A' : Option Addr} {c' : Nat} (hb : Bks W b' (.slice A' b'.length c') w') (gr : w.grownBy w' (Value.slice A b.length c).ownBlock) :
    TalAt W z up b' v f fs hs cs A' c' B d M n C m (w'.setCell ⟨z, 1, none⟩ (.slice A' b'.length c')) := by
  have hW : ∀ i, (Value.slice A b.length c).ownBlock = some i → W.heap.size ≤ i := fun i hi => (h.wb.1.lt i hi).1
  have hx := h.box.grown gr (own_apart h.wb.1 h.box (by decide))
  have hm := h.sm.at (gr.block M h.sm.f.lt (fun e => grown_map h.wb.1 h.sm.f e.symm))
  have hc : SetK vtKey C m cs w' := h.cm.grown gr (grown_map h.wb.1 h.cm.f)
  exact ⟨hx.set 1 _, bks_past_box hb hx (by decide) h.ge 1 _, vts_past_box ⟨own_grown h.wv.1 gr (own_types h.wv.1 h.wb.1 (by decide)), h.wv.2.grown gr hW⟩ hx (by decide) h.ge 1 _, hm.at (heap_setCell_other w' _ M _ (fun e => h.zM e.symm)), hc.at (heap_setCell_other w' _ C _ (fun e => h.zC e.symm)), h.ge, h.geM, h.geC, h.ne⟩
theorem TalAt.putV (h : TalAt W z up b v f fs hs cs A c B d M n C m w) {v' : List Vt} {B' : Option Addr} {d' : Nat} (hb : Vts W v' (.slice B' v'.length d') w') (gr : w.grownBy w' (Value.slice B v.length d).ownBlock) :
    TalAt W z up b v' f fs hs cs A c B' d' M n C m (w'.setCell ⟨z, 2, none⟩ (.slice B' v'.length d')) := by
  have hW : ∀ i, (Value.slice B v.length d).ownBlock = some i → W.heap.size ≤ i := fun i hi => (h.wv.1.lt i hi).1
  have hx := h.box.grown gr (own_apart h.wv.1 h.box (by decide))
  have hm := h.sm.at (gr.block M h.sm.f.lt (fun e => grown_map h.wv.1 h.sm.f e.symm))
  have hc : SetK vtKey C m cs w' := h.cm.grown gr (grown_map h.wv.1 h.cm.f)
  exact ⟨hx.set 2 _, bks_past_box ⟨own_grown h.wb.1 gr (own_types h.wb.1 h.wv.1 (by decide)), h.wb.2.grown gr hW⟩ hx (by decide) h.ge 2 _, vts_past_box hb hx (by decide) h.ge 2 _, hm.at (heap_setCell_other w' _ M _ (fun e => h.zM e.symm)), hc.at (heap_setCell_other w' _ C _ (fun e => h.zC e.symm)), h.ge, h.geM, h.geC, h.ne⟩
theorem TalAt.putF (h : TalAt W z up b v f fs hs cs A c B d M n C m w) : TalAt W z up b v true fs hs cs A c B d M n C m (w.setCell ⟨z, 5, none⟩ (.bool true)) :=
  ⟨h.box.set 5 _, bks_past_box h.wb h.box (by decide) h.ge 5 _, vts_past_box h.wv h.box (by decide) h.ge 5 _, (h.set_maps 5 _).1, (h.set_maps 5 _).2, h.ge, h.geM, h.geC, h.ne⟩
theorem TalAt.putU (h : TalAt W z up b v f fs hs cs A c B d M n C m w) (up' : Int) : TalAt W z up' b v f fs hs cs A c B d M n C m (w.setCell ⟨z, 0, none⟩ (.int .i64 up')) :=
  ⟨h.box.set 0 _, bks_past_box h.wb h.box (by decide) h.ge 0 _, vts_past_box h.wv h.box (by decide) h.ge 0 _, (h.set_maps 0 _).1, (h.set_maps 0 _).2, h.ge, h.geM, h.geC, h.ne⟩
theorem TalAt.rows_map (h : TalAt W z up b v f fs hs cs A c B d M n C m w) {x : Nat} (hx : x = M ∨ x = C) (gr : w.grownBy w' (some x)) : AtB w' z #[.int .i64 up, .slice A b.length c, .slice B v.length d, .map (some M), .map (some C), .bool f] 64 ∧ Bks W b (.slice A b.length c) w' ∧ Vts W v (.slice B v.length d) w' := by
  have hW : ∀ i, some x = some i → W.heap.size ≤ i := fun i e => by
    injection e with e
    rw [← e]
    rcases hx with rfl | rfl
    · exact h.geM
    · exact h.geC
  have hzx : z ≠ x := by rcases hx with rfl | rfl; exact h.zM; exact h.zC
  have nb : ∀ i, (Value.slice A b.length c).ownBlock = some i → some i ≠ some x := fun i hi e => by
    rcases hx with rfl | rfl
    · exact grown_map h.wb.1 h.sm.f (hi.trans e)
    · exact grown_map h.wb.1 h.cm.f (hi.trans e)
  have nv : ∀ i, (Value.slice B v.length d).ownBlock = some i → some i ≠ some x := fun i hi e => by
    rcases hx with rfl | rfl
    · exact grown_map h.wv.1 h.sm.f (hi.trans e)
    · exact grown_map h.wv.1 h.cm.f (hi.trans e)
  exact ⟨(gr.block z h.box.lt (fun e => hzx (by injection e))).trans h.box, ⟨own_grown h.wb.1 gr nb, h.wb.2.grown gr hW⟩, ⟨own_grown h.wv.1 gr nv, h.wv.2.grown gr hW⟩⟩
theorem TalAt.putM (h : TalAt W z up b v f fs hs cs A c B d M n C m w) {n' : Nat} {fs' : Id2 → Int} {hs' : Id2 → Bool} (hm : OwnH idKey intV M n' fs' hs' w') (gr : w.grownBy w' (some M)) : TalAt W z up b v f fs' hs' cs A c B d M n' C m w' := by
  obtain ⟨h1, h2, h3⟩ := h.rows_map (Or.inl rfl) gr
  exact ⟨h1, h2, h3, hm, h.cm.grown gr (fun e => h.ne (by injection e)), h.ge, h.geM, h.geC, h.ne⟩
theorem TalAt.putC (h : TalAt W z up b v f fs hs cs A c B d M n C m w) {m' : Nat} {cs' : List Vt} (hm : SetK vtKey C m' cs' w') (gr : w.grownBy w' (some C)) : TalAt W z up b v f fs hs cs' A c B d M n C m' w' := by
  obtain ⟨h1, h2, h3⟩ := h.rows_map (Or.inr rfl) gr
  exact ⟨h1, h2, h3, h.sm.at (gr.block M h.sm.f.lt (fun e => h.ne (by injection e))), hm, h.ge, h.geM, h.geC, h.ne⟩
theorem TalAt.cells (h : TalAt W z up b v f fs hs cs A c B d M n C m w) : w.cell? ⟨z, 0, none⟩ = some (.int .i64 up) ∧ w.cell? ⟨z, 1, none⟩ = some (.slice A b.length c) ∧ w.cell? ⟨z, 2, none⟩ = some (.slice B v.length d) ∧ w.cell? ⟨z, 3, none⟩ = some (.map (some M)) ∧ w.cell? ⟨z, 4, none⟩ = some (.map (some C)) ∧ w.cell? ⟨z, 5, none⟩ = some (.bool f) ∧ z < w.heap.size :=
  ⟨h.box.cell, h.box.cell, h.box.cell, h.box.cell, h.box.cell, h.box.cell, h.box.lt⟩
end
/-- What one block, or vote, does to a view: whether it stays, the view, and whether there was no room. -/
def outG {α : Type} (lost pend : List α → α → Bool) (cap : Nat) (w : List α) (f : Bool) (x : α) : Bool × List α × Bool :=
  if lost w x then (false, w, f) else if pend w x then (true, w, f) else if cap ≤ w.length then (true, w, true) else (false, w ++ [x], f)
theorem step_out {α : Type} (lost pend : List α → α → Bool) (cap : Nat) (st : PSt α) (x : α) : (stepG lost pend cap st x).w = (outG lost pend cap st.w st.full x).2.1 ∧ (stepG lost pend cap st x).full = (outG lost pend cap st.w st.full x).2.2 ∧ (stepG lost pend cap st x).left = if (outG lost pend cap st.w st.full x).1 then st.left ++ [x] else st.left := by
  unfold stepG outG
  split
  · exact ⟨rfl, rfl, rfl⟩
  · split
    · exact ⟨rfl, rfl, rfl⟩
    · split <;> exact ⟨rfl, rfl, rfl⟩

end Go.Proofs.Ytacdiicnfoejoaa
