/-
  What law ViewOrder leans on: views that are taken in another order and in parts; steps of a region with many orders.
-/
import Derived.Deep.RegionHeld3
import Derived.Test.YtacdiicnfoejoaaViewUse
import Derived.Test.YtacdiicnfoejoaaView
import Derived.Test.YtacdiicnfoejoaaViewLaws
import Derived.Test.YtacdiicnfoejoaaViewRefAll
import Derived.Test.YtacdiicnfoejoaaVoteG
namespace Go.Proofs.Ytacdiicnfoejoaa
set_option maxRecDepth 100000
set_option linter.unusedVariables false
set_option linter.unusedSimpArgs false
set_option linter.unusedSimpArgs false
set_option linter.unusedVariables false
open Go.ChangeShapes Go.WideShapes Go.ChangeAt Go.RowKit

def OkTo (N : Bk → Id2) (s : Option Int) (l : List Bk) (j : Nat) : Prop := (∀ x ∈ l.take j, ∀ t, s = some t → x.s ≤ t) ∧ (l.take j).Pairwise fun a b => N a ≠ N b
theorem OkTo.step {N : Bk → Id2} {s : Option Int} {l : List Bk} {j : Nat} (hj : j < l.length) (h : OkTo N s l j) (h1 : ∀ t, s = some t → l[j].s ≤ t) (h2 : ∀ x ∈ l.take j, N x ≠ N l[j]) : OkTo N s l (j + 1) := by
  unfold OkTo
  rw [List.take_succ_eq_append_getElem hj]
  refine ⟨fun x hx => ?_, List.pairwise_append.2 ⟨h.2, List.pairwise_singleton _ _, fun a ha b hb => ?_⟩⟩
  · rcases List.mem_append.1 hx with q | q
    · exact h.1 x q
    · rw [List.mem_singleton] at q; subst q; exact h1
  · rw [List.mem_singleton] at hb; subst hb; exact h2 a ha
theorem apart_step {N : Bk → Id2} {l : List Bk} {n : Nat} {y : Bk} (hn : n < l.length) (h : ∀ x ∈ l.take n, N x ≠ N y) (h2 : ¬ N l[n] = N y) : ∀ x ∈ l.take (n + 1), N x ≠ N y := by
  rw [List.take_succ_eq_append_getElem hn]
  intro x hx
  rcases List.mem_append.1 hx with q | q
  · exact h x q
  · rw [List.mem_singleton] at q; subst q; exact h2
theorem take_left_len {k : Cf} {w i : Vw} {upto : Int} : (takeC k w i upto).i.b.length ≤ i.b.length ∧ (takeC k w i upto).i.v.length ≤ i.v.length := by
  unfold takeC
  split
  · refine takeN_inv (P := fun s => s.i.b.length ≤ i.b.length ∧ s.i.v.length ≤ i.v.length) (fun s ⟨h1, h2⟩ => ?_) _ _ ⟨List.length_filter_le _ _, List.length_filter_le _ _⟩
    have p1 := pass_count (lost := lostB) (pend := pendB upto) (cap := 60) s.w.b s.full s.i.b
    have p2 := pass_count (lost := lostV (passB upto s).w) (pend := pendV (passB upto s).w upto) (cap := 240) s.w.v (passB upto s).full s.i.v
    have q1 : s.w.b.length ≤ (passB upto s).w.length := by
      cases h : (passB upto s).any with
      | false => exact Nat.le_of_eq (congrArg List.length (p1.2.1 h).symm)
      | true => exact Nat.le_of_lt (p1.2.2 h)
    have q2 : s.w.v.length ≤ (passV upto s).w.length := by
      cases h : (passV upto s).any with
      | false => exact Nat.le_of_eq (congrArg List.length (p2.2.1 h).symm)
      | true => exact Nat.le_of_lt (p2.2.2 h)
    have r1 : (passB upto s).left.length + (passB upto s).w.length ≤ s.i.b.length + s.w.b.length := p1.1
    have r2 : (passV upto s).left.length + (passV upto s).w.length ≤ s.i.v.length + s.w.v.length := p2.1
    exact ⟨by show (passB upto s).left.length ≤ _; omega, by show (passV upto s).left.length ≤ _; omega⟩
  · exact ⟨Nat.le_refl _, Nat.le_refl _⟩
/-- What is so of what Take tells. -/
structure TakeF (k : Cf) (w i : Vw) (upto : Int) (t : TSt) : Prop where
  may : mayW k t.w = true
  lb : t.w.b.length ≤ 60
  lv : t.w.v.length ≤ 240
  yb : t.i.b.length ≤ i.b.length
  yv : t.i.v.length ≤ i.v.length
  tb : t.w.b.take w.b.length = w.b
  tv : t.w.v.take w.v.length = w.v
  gb : w.b.length ≤ t.w.b.length
  gv : w.v.length ≤ t.w.v.length
  wb : ∀ x ∈ t.w.b, x ∈ w.b ∨ x ∈ i.b
  wv : ∀ x ∈ t.w.v, x ∈ w.v ∨ x ∈ i.v
  ib : ∀ x ∈ t.i.b, x ∈ i.b
  iv : ∀ x ∈ t.i.v, x ∈ i.v
  again : t.full = false → takeC k t.w t.i upto = ⟨t.w, t.i, false⟩
theorem take_facts {k : Cf} {w i : Vw} {upto : Int} (hm : mayW k w = true) : TakeF k w i upto (takeC k w i upto) := by
  have h := take_inv (i := i) (upto := upto) hm
  have hv := take_left_valid (i := i) (upto := upto) hm
  have hl := take_left_len (k := k) (w := w) (i := i) (upto := upto)
  obtain ⟨n, e, hn⟩ := h.blocks
  obtain ⟨p, f, hp⟩ := h.votes
  refine ⟨take_may hm, h.lenb, h.lenv, hl.1, hl.2, by rw [e, List.take_left], by rw [f, List.take_left], by rw [e, List.length_append]; omega, by rw [f, List.length_append]; omega, fun x hx => ?_, fun x hx => ?_, fun x hx => (hv.1 x hx).1, fun x hx => (hv.2 x hx).1, fun hf => take_again hm hf⟩
  · rw [e] at hx
    exact (List.mem_append.1 hx).imp id fun q => (only_b.1 (hn x q).1).1
  · rw [f] at hx
    exact (List.mem_append.1 hx).imp id fun q => (only_v.1 (hp x q).1).1

theorem cut14 {P : Program} {c : Code} {Q : Exit → Act → World → Prop} {a : Act} {w : World} (f : Option Addr → Nat → Option Addr → Nat → Option Addr → Nat → Option Addr → Nat → Option Addr → Nat → Option Addr → Nat → Nat → Nat → Act) (R : Option Addr → Nat → Option Addr → Nat → Option Addr → Nat → Option Addr → Nat → Option Addr → Nat → Option Addr → Nat → Nat → Nat → World → Prop)
    (h : ∀ Q' : Exit → Act → World → Prop, Hid (∀ s0 s1 s2 s3 s4 s5 s6 s7 s8 s9 s10 s11 s12 s13 w', R s0 s1 s2 s3 s4 s5 s6 s7 s8 s9 s10 s11 s12 s13 w' → Q' .normal (f s0 s1 s2 s3 s4 s5 s6 s7 s8 s9 s10 s11 s12 s13) w') → c.wp P Q' a w) (hq : ∀ s0 s1 s2 s3 s4 s5 s6 s7 s8 s9 s10 s11 s12 s13 w', R s0 s1 s2 s3 s4 s5 s6 s7 s8 s9 s10 s11 s12 s13 w' → Q .normal (f s0 s1 s2 s3 s4 s5 s6 s7 s8 s9 s10 s11 s12 s13) w') : c.wp P Q a w := h Q (Lib.hid hq)
theorem from_blocks {w : World} {B : Nat} {A : Option Addr} {l : List Bk} (h : CellsAt w B A (blockCells l)) (c k : Nat) (hk : k ≤ l.length) (hc : l.length ≤ c) :
    ∃ A', (∀ w', (Instr.slice 26 (.slice A l.length c) (some (.int .i64 (k : Int))) none none).run Try.prog w' = .ok (.slice A' (l.length - k) (c - k)) w') ∧ CellsAt w B A' (blockCells (l.drop k)) := by
  obtain ⟨i, hi, _, hs, _⟩ := info_of Try.infoBk
  refine ⟨_, fun w' => run_from _ _ i Try.underlying26 hi A l.length c k hk w', ?_⟩
  have e : blockCells l = blockCells (l.take k) ++ blockCells (l.drop k) := by rw [blockCells_append, List.take_append_drop]
  by_cases q : c = k
  · have : l.drop k = [] := List.drop_eq_nil_of_le (by omega)
    rw [this]
    exact CellsAt.nil
  · rw [if_neg q, hs]
    rw [e] at h
    have := cells_from h
    rw [blockCells_length, List.length_take, Nat.min_eq_left hk] at this
    exact this
theorem take_sum {k : Cf} {w i : Vw} {upto : Int} : (takeC k w i upto).w.b.length + (takeC k w i upto).i.b.length ≤ w.b.length + i.b.length ∧ (takeC k w i upto).w.v.length + (takeC k w i upto).i.v.length ≤ w.v.length + i.v.length := by
  unfold takeC
  split
  · refine takeN_inv (P := fun s => s.w.b.length + s.i.b.length ≤ w.b.length + i.b.length ∧ s.w.v.length + s.i.v.length ≤ w.v.length + i.v.length) (fun s ⟨h1, h2⟩ => ?_) _ _ ⟨?_, ?_⟩
    · have p1 := (pass_count (lost := lostB) (pend := pendB upto) (cap := 60) s.w.b s.full s.i.b).1
      have p2 := (pass_count (lost := lostV (passB upto s).w) (pend := pendV (passB upto s).w upto) (cap := 240) s.w.v (passB upto s).full s.i.v).1
      have r1 : (passB upto s).left.length + (passB upto s).w.length ≤ s.i.b.length + s.w.b.length := p1
      have r2 : (passV upto s).left.length + (passV upto s).w.length ≤ s.i.v.length + s.w.v.length := p2
      exact ⟨by show (passB upto s).w.length + (passB upto s).left.length ≤ _; omega, by show (passV upto s).w.length + (passV upto s).left.length ≤ _; omega⟩
    · have := List.length_filter_le (blockC k) i.b
      show w.b.length + (i.b.filter (blockC k)).length ≤ _; omega
    · have := List.length_filter_le (voteC k) i.v
      show w.v.length + (i.v.filter (voteC k)).length ≤ _; omega
  · exact ⟨Nat.le_refl _, Nat.le_refl _⟩
/-- What is so of the four views that are taken. -/
structure OrdF (l : List Bk) (v : List Vt) (m : List Bk) (u : List Vt) (tb : List Bk) (tv : List Vt) (t1 t2 t3 t4 : TSt) : Prop where
  x60 : t1.w.b.length ≤ 60
  x240 : t1.w.v.length ≤ 240
  y60 : t2.w.b.length ≤ 60
  y240 : t2.w.v.length ≤ 240
  el : t2.i.b.length ≤ tb.length
  ev : t2.i.v.length ≤ tv.length
  z60 : t3.w.b.length ≤ 60
  z240 : t3.w.v.length ≤ 240
  u60 : t4.w.b.length ≤ 60
  u240 : t4.w.v.length ≤ 240
  wy : ∀ x ∈ t2.w.b, x ∈ l ∨ x ∈ m
  wyv : ∀ x ∈ t2.w.v, x ∈ v ∨ x ∈ u
  we : ∀ x ∈ t2.i.b, x ∈ m
  wev : ∀ x ∈ t2.i.v, x ∈ u
  az : allW t1.w.b t1.w.v t3.w.b t3.w.v = true
  au : allW t1.w.b t1.w.v t4.w.b t4.w.v = true
theorem order_all {k : Cf} {N : Bk → Id2} {l m ob tb : List Bk} {v u ov tv : List Vt} {slot : Int} {n1 n2 : Nat} (h1 : mayW k ⟨l, v⟩ = true) (hN : N = nameB) (ho : OkTo N none (joinL l m) (joinL l m).length) (hl : l.length ≤ 25) (hm : m.length ≤ 25) (hvl : v.length ≤ 25) (hul : u.length ≤ 25)
    (e1 : ob = m.take n1) (e2 : ov = u.take n2) (e3 : tb = m.drop n1) (e4 : tv = u.drop n2) :
    OrdF l v m u tb tv (takeC k ⟨l, v⟩ ⟨m, u⟩ slot) (takeC k ⟨l, v⟩ ⟨tb, tv⟩ slot) (takeC k (takeC k ⟨l, v⟩ ⟨tb, tv⟩ slot).w (joinW (takeC k ⟨l, v⟩ ⟨tb, tv⟩ slot).i ⟨ob, ov⟩) slot) (takeC k ⟨l, v⟩ (joinW ⟨tb, tv⟩ ⟨ob, ov⟩) slot) := by
  subst hN
  obtain ⟨_, ho2⟩ := ho
  rw [List.take_length] at ho2
  have ap := apart_of ho2
  have a1 : Apart (l ++ m) := ap.sub fun x hx => mem_joinL.2 (List.mem_append.1 hx)
  have mb : ∀ b, b ∈ m ↔ b ∈ ob ∨ b ∈ tb := fun b => by rw [e1, e3, ← List.mem_append, List.take_append_drop]
  have mv : ∀ x, x ∈ u ↔ x ∈ ov ∨ x ∈ tv := fun b => by rw [e2, e4, ← List.mem_append, List.take_append_drop]
  have lb : ob.length + tb.length = m.length := by have := congrArg List.length (List.take_append_drop n1 m); rw [List.length_append, ← e1, ← e3] at this; exact this
  have lv : ov.length + tv.length = u.length := by have := congrArg List.length (List.take_append_drop n2 u); rw [List.length_append, ← e2, ← e4] at this; exact this
  have F1 := take_facts (i := ⟨m, u⟩) (upto := slot) h1
  have F2 := take_facts (i := ⟨tb, tv⟩) (upto := slot) h1
  have F3 := take_facts (i := joinW (takeC k ⟨l, v⟩ ⟨tb, tv⟩ slot).i ⟨ob, ov⟩) (upto := slot) F2.may
  have F4 := take_facts (i := joinW ⟨tb, tv⟩ ⟨ob, ov⟩) (upto := slot) h1
  have s2 := take_sum (k := k) (w := ⟨l, v⟩) (i := ⟨tb, tv⟩) (upto := slot)
  have s21 : (takeC k ⟨l, v⟩ ⟨tb, tv⟩ slot).w.b.length + (takeC k ⟨l, v⟩ ⟨tb, tv⟩ slot).i.b.length ≤ l.length + tb.length := s2.1
  have s22 : (takeC k ⟨l, v⟩ ⟨tb, tv⟩ slot).w.v.length + (takeC k ⟨l, v⟩ ⟨tb, tv⟩ slot).i.v.length ≤ v.length + tv.length := s2.2
  have r1 := take_room (i := ⟨m, u⟩) (upto := slot) h1 (by show l.length + m.length ≤ 60; omega) (by show v.length + u.length ≤ 240; omega)
  have r2 := take_room (i := ⟨tb, tv⟩) (upto := slot) h1 (by show l.length + tb.length ≤ 60; omega) (by show v.length + tv.length ≤ 240; omega)
  have j3b := (joinL_len (takeC k ⟨l, v⟩ ⟨tb, tv⟩ slot).i.b ob).2
  have j3v := (joinL_len (takeC k ⟨l, v⟩ ⟨tb, tv⟩ slot).i.v ov).2
  have q31 : (takeC k ⟨l, v⟩ ⟨tb, tv⟩ slot).w.b.length + (joinL (takeC k ⟨l, v⟩ ⟨tb, tv⟩ slot).i.b ob).length ≤ 60 := by omega
  have q32 : (takeC k ⟨l, v⟩ ⟨tb, tv⟩ slot).w.v.length + (joinL (takeC k ⟨l, v⟩ ⟨tb, tv⟩ slot).i.v ov).length ≤ 240 := by omega
  have r3 := take_room (i := joinW (takeC k ⟨l, v⟩ ⟨tb, tv⟩ slot).i ⟨ob, ov⟩) (upto := slot) F2.may q31 q32
  have j4b := (joinL_len tb ob).2
  have j4v := (joinL_len tv ov).2
  have q41 : l.length + (joinL tb ob).length ≤ 60 := by omega
  have q42 : v.length + (joinL tv ov).length ≤ 240 := by omega
  have r4 := take_room (i := joinW ⟨tb, tv⟩ ⟨ob, ov⟩) (upto := slot) h1 q41 q42
  obtain ⟨pb, pv⟩ := take_parts (one := ⟨ob, ov⟩) (two := ⟨tb, tv⟩) (i := ⟨m, u⟩) (upto := slot) h1 mb mv a1 r1 r2 r3
  obtain ⟨qb, qv⟩ := take_same (i := ⟨m, u⟩) (j := joinW ⟨tb, tv⟩ ⟨ob, ov⟩) (upto := slot) h1 r1 r4 a1 (fun b => (mb b).trans (Or.comm.trans mem_joinL.symm)) (fun b => (mv b).trans (Or.comm.trans mem_joinL.symm))
  have nd : ∀ {t : TSt}, mayW k t.w = true → t.w.b.Nodup ∧ t.w.v.Nodup := fun {t} h => ⟨mayB_nodupL (mayW_iff.1 h).1, (mayW_iff.1 h).2.2.2.2.2.1⟩
  exact ⟨F1.lb, F1.lv, F2.lb, F2.lv, F2.yb, F2.yv, F3.lb, F3.lv, F4.lb, F4.lv, fun x hx => (F2.wb x hx).imp id fun q => (mb x).2 (Or.inr q), fun x hx => (F2.wv x hx).imp id fun q => (mv x).2 (Or.inr q), fun x hx => (mb x).2 (Or.inr (F2.ib x hx)), fun x hx => (mv x).2 (Or.inr (F2.iv x hx)),
    allW_yes (nd F1.may).1 (nd F3.may).1 (nd F1.may).2 (nd F3.may).2 pb pv, allW_yes (nd F1.may).1 (nd F4.may).1 (nd F1.may).2 (nd F4.may).2 qb qv⟩
section
variable {P : Program} {md : Region.Mode} {ops : Array Oper} {Q : Exit → Act → World → Prop} {S : World → Prop}
theorem tk (i : Nat) {oi : Oper} {fuel : Nat} {listed : Array Bool} {a : Act} {w : World}
    (hi : ops[i]? = some oi := by simp only [List.getElem?_toArray, List.getElem?_cons_succ, List.getElem?_cons_zero]; rfl) (hs : Region.noSelect ops = true := by kernel_rfl) (hf : Region.free md ops listed i = true := by kernel_rfl) (hr : (Region.ready md ops listed).contains i = true := by kernel_rfl)
    (hS : S w := by assumption) (v : Value) (hy : YieldsIf P ops S oi v a) (h : wpAnyH P md ops Q S fuel (listed.setIfInBounds i true) (a.put oi.dst v) w) (hQ : ∀ c a w, Q (.panic c) (a.put oi.dst v) w → Q (.panic c) a w := by exact fun _ _ _ h => h) : wpAnyH P md ops Q S (fuel + 1) listed a w := wpAnyH_take hi hs hf hr hQ hy hS h
theorem rc {i : Nat} {o : Oper} {rs : List Nat} {fuel : Nat} {listed : Array Bool} {a : Act} {w : World}
    (ho : ops[i]? = some o := by simp only [List.getElem?_toArray, List.getElem?_cons_succ, List.getElem?_cons_zero]; rfl)
    (h : ∀ K' : Act → World → Prop, Shut (∀ a w, S w → (S w → wpAnyH P md ops Q S fuel (listed.setIfInBounds i true) a w) → K' a w) → if Region.wanted o (yielded ops a.tmps) = true then Oper.wp P o a w K' Q else K' (a.put o.dst undef) w)
    (hs : AllReadyH P md ops Q S fuel listed a w rs) : AllReadyH P md ops Q S fuel listed a w (i :: rs) := AllReadyH.cons ho h hs
end
/-- Two rows of one's own. -/
structure R2 (W : World) (b : List Bk) (v : List Vt) (A : Option Addr) (c : Nat) (B : Option Addr) (d : Nat) (w : World) : Prop where
  b : Bks W b (.slice A b.length c) w
  v : Vts W v (.slice B v.length d) w
theorem R2.kept {W w w' : World} {b : List Bk} {v : List Vt} {A : Option Addr} {c : Nat} {B : Option Addr} {d : Nat} (h : R2 W b v A c B d w) (k : Kept w w') : R2 W b v A c B d w' := ⟨h.b.kept k, h.v.kept k⟩
theorem R2.put {W w : World} {b : List Bk} {v : List Vt} {A : Option Addr} {c : Nat} {B : Option Addr} {d : Nat} (h : R2 W b v A c B d w) {z : Nat} {x0 x1 : Value} (hz : AtB w z #[x0, x1] 29) (hg : W.heap.size ≤ z) (u0 u1 : Value) : R2 W b v A c B d ((w.setCell ⟨z, 0, none⟩ u0).setCell ⟨z, 1, none⟩ u1) :=
  ⟨bks_past_box (bks_past_box h.b hz (by decide) hg 0 u0) (hz.set 0 u0) (by decide) hg 1 u1, vts_past_box (vts_past_box h.v hz (by decide) hg 0 u0) (hz.set 0 u0) (by decide) hg 1 u1⟩
/-- A box of an empty view: its cells, and that they may be written. -/
theorem box0 {w : World} {z : Nat} (h : AtB w z #[.slice none 0 0, .slice none 0 0] 29) : w.cell? ⟨z, 0, none⟩ = some (.slice none 0 0) ∧ w.cell? ⟨z, 1, none⟩ = some (.slice none 0 0) ∧ w.frozen? ⟨z, 0, none⟩ = false ∧ w.frozen? ⟨z, 1, none⟩ = false ∧ z < w.heap.size := ⟨h.cell, h.cell, h.fr 0, h.fr 1, h.lt⟩
theorem put2 {W w : World} {z : Nat} (h : Kept W w) (hz : W.heap.size ≤ z) (u0 u1 : Value) : Kept W ((w.setCell ⟨z, 0, none⟩ u0).setCell ⟨z, 1, none⟩ u1) := (h.setCell (p := ⟨z, 0, none⟩) hz u0).setCell (p := ⟨z, 1, none⟩) hz u1
/-- Rows that are one's own since W, and the world ahead stays. -/
def TakeW (W : World) (t : TSt) (V : World) (e : Ending) (w' : World) : Prop := ∃ A c B d C a D b, e = .returned (.tuple #[.agg #[.slice A t.w.b.length c, .slice B t.w.v.length d], .agg #[.slice C t.i.b.length a, .slice D t.i.v.length b], .bool t.full]) ∧
  Bks W t.w.b (.slice A t.w.b.length c) w' ∧ Vts W t.w.v (.slice B t.w.v.length d) w' ∧ Bks W t.i.b (.slice C t.i.b.length a) w' ∧ Vts W t.i.v (.slice D t.i.v.length b) w' ∧ Kept V w'
theorem TakeNew.since {W V : World} {t : TSt} {e : Ending} {w' : World} (k : Kept W V) (h : TakeNew t V e w') : TakeW W t V e w' := by
  obtain ⟨A, c, B, d, C, a, D, b, e, h1, h2, h3, h4⟩ := h
  exact ⟨A, c, B, d, C, a, D, b, e, h1.lower k, h2.lower k, h3.lower k, h4.lower k, h1.2⟩
def JoinWd (W : World) (x : Vw) (V : World) (e : Ending) (w' : World) : Prop := ∃ A c B d, e = .returned (.agg #[.slice A x.b.length c, .slice B x.v.length d]) ∧ Bks W x.b (.slice A x.b.length c) w' ∧ Vts W x.v (.slice B x.v.length d) w' ∧ Kept V w'
theorem ViewNew.since {W V : World} {x : Vw} {e : Ending} {w' : World} (k : Kept W V) (h : ViewNew x V e w') : JoinWd W x V e w' := by
  obtain ⟨A, c, B, d, e, h1, h2⟩ := h
  exact ⟨A, c, B, d, e, h1.lower k, h2.lower k, h1.2⟩

end Go.Proofs.Ytacdiicnfoejoaa
