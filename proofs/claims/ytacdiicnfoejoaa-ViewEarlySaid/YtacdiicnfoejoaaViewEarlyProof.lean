/-
  Law ViewEarly of layer 16: what is counted in a slot is of that slot, or ahead; a slot later it is counted no less, whatever conf, two views and slot.
-/
import Derived.Test.YtacdiicnfoejoaaViewUse
import Derived.Test.YtacdiicnfoejoaaView
import Derived.Test.YtacdiicnfoejoaaViewAwake
import Derived.Test.YtacdiicnfoejoaaViewOpen64
import Derived.Test.YtacdiicnfoejoaaMixG
import Derived.Test.YtacdiicnfoejoaaGround
import Derived.Test.YtacdiicnfoejoaaVoteG
import Derived.Test.YtacdiicnfoejoaaDutyG
import Derived.Test.YtacdiicnfoejoaaViewRefOnly
import Derived.Test.YtacdiicnfoejoaaTreeG
namespace Go.Proofs.Ytacdiicnfoejoaa.viewEarly
set_option maxRecDepth 100000
set_option linter.unusedVariables false
set_option linter.unusedSimpArgs false
open Go.ChangeShapes Go.WideShapes Go.ChangeAt Go.RowKit
set_option linter.unusedVariables false

def OkTo (N : Bk → Id2) (s : Option Int) (l : List Bk) (j : Nat) : Prop := (∀ x ∈ l.take j, ∀ t, s = some t → x.s ≤ t) ∧ (l.take j).Pairwise fun a b => N a ≠ N b
theorem OkTo.step {N : Bk → Id2} {s : Option Int} {l : List Bk} {j : Nat} (hj : j < l.length) (h : OkTo N s l j) (h1 : ∀ t, s = some t → l[j].s ≤ t) (h2 : ∀ x ∈ l.take j, N x ≠ N l[j]) : OkTo N s l (j + 1) := by
  unfold OkTo
  rw [List.take_succ_eq_append_getElem hj]
  refine ⟨fun x hx => ?_, List.pairwise_append.2 ⟨h.2, List.pairwise_singleton _ _, fun a ha b hb => ?_⟩⟩
  · rcases List.mem_append.1 hx with q | q
    · exact h.1 x q
    · rw [List.mem_singleton] at q; subst q; exact h1
  · rw [List.mem_singleton] at hb; subst hb; exact h2 a ha
theorem apart_step {N : Bk → Id2} {l : List Bk} {n : Nat} {y : Bk} (hn : n < l.length) (h : ∀ x ∈ l.take n, N x ≠ N y) (h2 : ¬ N l[n] = N y) : ∀ x ∈ l.take (n + 1), N x ≠ N y := by
  rw [List.take_succ_eq_append_getElem hn]
  intro x hx
  rcases List.mem_append.1 hx with q | q
  · exact h x q
  · rw [List.mem_singleton] at q; subst q; exact h2
theorem take_left_len {k : Cf} {w i : Vw} {upto : Int} : (takeC k w i upto).i.b.length ≤ i.b.length ∧ (takeC k w i upto).i.v.length ≤ i.v.length := by
  unfold takeC
  split
  · refine takeN_inv (P := fun s => s.i.b.length ≤ i.b.length ∧ s.i.v.length ≤ i.v.length) (fun s ⟨h1, h2⟩ => ?_) _ _ ⟨List.length_filter_le _ _, List.length_filter_le _ _⟩
    have p1 := pass_count (lost := lostB) (pend := pendB upto) (cap := 60) s.w.b s.full s.i.b
    have p2 := pass_count (lost := lostV (passB upto s).w) (pend := pendV (passB upto s).w upto) (cap := 240) s.w.v (passB upto s).full s.i.v
    have q1 : s.w.b.length ≤ (passB upto s).w.length := by
      cases h : (passB upto s).any with
      | false => exact Nat.le_of_eq (congrArg List.length (p1.2.1 h).symm)
      | true => exact Nat.le_of_lt (p1.2.2 h)
    have q2 : s.w.v.length ≤ (passV upto s).w.length := by
      cases h : (passV upto s).any with
      | false => exact Nat.le_of_eq (congrArg List.length (p2.2.1 h).symm)
      | true => exact Nat.le_of_lt (p2.2.2 h)
    have r1 : (passB upto s).left.length + (passB upto s).w.length ≤ s.i.b.length + s.w.b.length := p1.1
    have r2 : (passV upto s).left.length + (passV upto s).w.length ≤ s.i.v.length + s.w.v.length := p2.1
    exact ⟨by show (passB upto s).left.length ≤ _; omega, by show (passV upto s).left.length ≤ _; omega⟩
  · exact ⟨Nat.le_refl _, Nat.le_refl _⟩
/-- What is so of what Take tells. -/
structure TakeF (k : Cf) (w i : Vw) (upto : Int) (t : TSt) : Prop where
  may : mayW k t.w = true
  lb : t.w.b.length ≤ 60
  lv : t.w.v.length ≤ 240
  yb : t.i.b.length ≤ i.b.length
  yv : t.i.v.length ≤ i.v.length
  tb : t.w.b.take w.b.length = w.b
  tv : t.w.v.take w.v.length = w.v
  gb : w.b.length ≤ t.w.b.length
  gv : w.v.length ≤ t.w.v.length
  wb : ∀ x ∈ t.w.b, x ∈ w.b ∨ x ∈ i.b
  wv : ∀ x ∈ t.w.v, x ∈ w.v ∨ x ∈ i.v
  ib : ∀ x ∈ t.i.b, x ∈ i.b
  iv : ∀ x ∈ t.i.v, x ∈ i.v
  again : t.full = false → takeC k t.w t.i upto = ⟨t.w, t.i, false⟩
theorem take_facts {k : Cf} {w i : Vw} {upto : Int} (hm : mayW k w = true) : TakeF k w i upto (takeC k w i upto) := by
  have h := take_inv (i := i) (upto := upto) hm
  have hv := take_left_valid (i := i) (upto := upto) hm
  have hl := take_left_len (k := k) (w := w) (i := i) (upto := upto)
  obtain ⟨n, e, hn⟩ := h.blocks
  obtain ⟨p, f, hp⟩ := h.votes
  refine ⟨take_may hm, h.lenb, h.lenv, hl.1, hl.2, by rw [e, List.take_left], by rw [f, List.take_left], by rw [e, List.length_append]; omega, by rw [f, List.length_append]; omega, fun x hx => ?_, fun x hx => ?_, fun x hx => (hv.1 x hx).1, fun x hx => (hv.2 x hx).1, fun hf => take_again hm hf⟩
  · rw [e] at hx
    exact (List.mem_append.1 hx).imp id fun q => (only_b.1 (hn x q).1).1
  · rw [f] at hx
    exact (List.mem_append.1 hx).imp id fun q => (only_v.1 (hp x q).1).1

theorem late_b {k : Cf} {w i : Vw} {upto : Int} (hm : mayW k w = true) {j : Nat} (h1 : w.b.length ≤ j) (h2 : j < (takeC k w i upto).w.b.length) : ((takeC k w i upto).w.b[j]).s ≤ upto := by
  obtain ⟨n, e, hn⟩ := (take_inv (i := i) (upto := upto) hm).blocks
  have h3 : (takeC k w i upto).w.b[j]? = n[j - w.b.length]? := by rw [e, List.getElem?_append_right h1]
  rw [List.getElem?_eq_getElem h2] at h3
  exact (hn _ (List.mem_of_getElem? h3.symm)).2
theorem late_v {k : Cf} {w i : Vw} {upto : Int} (hm : mayW k w = true) {j : Nat} (h1 : w.v.length ≤ j) (h2 : j < (takeC k w i upto).w.v.length) : ((takeC k w i upto).w.v[j]).s ≤ upto := by
  obtain ⟨n, e, hn⟩ := (take_inv (i := i) (upto := upto) hm).votes
  have h3 : (takeC k w i upto).w.v[j]? = n[j - w.v.length]? := by rw [e, List.getElem?_append_right h1]
  rw [List.getElem?_eq_getElem h2] at h3
  exact (hn _ (List.mem_of_getElem? h3.symm)).2
theorem later_of {k : Cf} {N : Bk → Id2} {l m : List Bk} {v u : List Vt} {slot : Int} (h1 : mayW k ⟨l, v⟩ = true) (hN : N = nameB) (hl : l.length ≤ 25) (hm : m.length ≤ 25) (hvl : v.length ≤ 25) (hul : u.length ≤ 25) (ho : OkTo N none (joinL l m) (joinL l m).length) :
    (∀ b ∈ (takeC k ⟨l, v⟩ ⟨m, u⟩ slot).w.b, b ∈ (takeC k ⟨l, v⟩ ⟨m, u⟩ (slot + 1)).w.b) ∧ (∀ x ∈ (takeC k ⟨l, v⟩ ⟨m, u⟩ slot).w.v, x ∈ (takeC k ⟨l, v⟩ ⟨m, u⟩ (slot + 1)).w.v) := by
  subst hN
  obtain ⟨_, ho2⟩ := ho
  rw [List.take_length] at ho2
  have ap := apart_of ho2
  have a1 : Apart (l ++ m) := ap.sub fun x hx => mem_joinL.2 (List.mem_append.1 hx)
  exact take_later (upto := slot) (upto' := slot + 1) (by omega) h1 (take_room h1 (by show l.length + m.length ≤ 60; omega) (by show v.length + u.length ≤ 240; omega)) a1
attribute [local go_sem high] eqIdN in
set_option maxRecDepth 100000 in
set_option maxHeartbeats 12800000 in
theorem walk_of (w : World) (kA : Option Addr) (kc : Nat) (k : Cf) (khm : k.ws.length ≤ maxLen) (khs : k.seed < 18446744073709551616) (khl : CellsAt w w.heap.size kA (intCells k.ws)) (lA : Option Addr) (lc : Nat) (l : List Bk) (vA : Option Addr) (vc : Nat) (v : List Vt) (lhm : l.length ≤ maxLen) (lhc : l.length ≤ lc) (lhw : WfL l) (lh6 : Wf64L l) (lhl : CellsAt w w.heap.size lA (blockCells l)) (vhm : v.length ≤ maxLen) (vhc : v.length ≤ vc) (vhw : WfVs v) (vhl : CellsAt w w.heap.size vA (votesCells v)) (mA : Option Addr) (mc : Nat) (m : List Bk) (uA : Option Addr) (uc : Nat) (u : List Vt) (mhm : m.length ≤ maxLen) (mhc : m.length ≤ mc) (mhw : WfL m) (mh6 : Wf64L m) (mhl : CellsAt w w.heap.size mA (blockCells m)) (uhm : u.length ≤ maxLen) (uhc : u.length ≤ uc) (uhw : WfVs u) (uhl : CellsAt w w.heap.size uA (votesCells u)) (slot : Int) (hslot1 : -9223372036854775808 ≤ slot) (hslot2 : slot ≤ 9223372036854775807) (N : Bk → Id2) (hNe : N = nameB) (hNm : ∀ b, WfB b → ∀ w, Calls Try.prog 16 #[.agg #[.int .i64 b.s, .int .i64 b.f, .int .u64 b.p.1, .int .u64 b.p.2, .int .u64 b.t]] w fun e w' => e = .returned (.agg #[.int .u64 (N b).1, .int .u64 (N b).2]) ∧ Kept w w') :
    Calls Try.prog 8 #[.agg #[.slice kA k.ws.length kc, .int .u64 k.seed, .int .i64 k.ep, .int .i64 k.nu, .int .i64 k.de], .agg #[.slice lA l.length lc, .slice vA v.length vc], .agg #[.slice mA m.length mc, .slice uA u.length uc], .int .i64 slot] w fun e w' => e = .returned (.bool true) ∧ Kept w w' := by
  have HNe := Lib.hid hNe
  have HNm := Lib.hid hNm
  clear hNe hNm
  cases hf0 : few16C l v 25 with
  | false =>
    go_enter Try.func8, Try.ntmps8
    go_wp2_with fail
    have K0 := Lib.hid ((((Kept.refl w).alloc (.cells #[.slice kA k.ws.length kc, .int .u64 k.seed, .int .i64 k.ep, .int .i64 k.nu, .int .i64 k.de] 25)).alloc (.cells #[.slice lA l.length lc, .slice vA v.length vc] 29)).alloc (.cells #[.slice mA m.length mc, .slice uA u.length uc] 29))
    have HA := Lib.hid (khl.kept K0.out)
    clear khl
    have HL := Lib.hid (lhl.kept K0.out)
    clear lhl
    have HV := Lib.hid (vhl.kept K0.out)
    clear vhl
    have HM := Lib.hid (mhl.kept K0.out)
    clear mhl
    have HU := Lib.hid (uhl.kept K0.out)
    clear uhl
    have HB0 := Lib.hid (((HasCells.new w #[.slice kA k.ws.length kc, .int .u64 k.seed, .int .i64 k.ep, .int .i64 k.nu, .int .i64 k.de] 25 (w.heap.size) (by simp)).alloc (.cells #[.slice lA l.length lc, .slice vA v.length vc] 29)).alloc (.cells #[.slice mA m.length mc, .slice uA u.length uc] 29))
    have HB1 := Lib.hid ((HasCells.new (w.alloc (.cells #[.slice kA k.ws.length kc, .int .u64 k.seed, .int .i64 k.ep, .int .i64 k.nu, .int .i64 k.de] 25)) #[.slice lA l.length lc, .slice vA v.length vc] 29 (w.heap.size + 1) (by simp)).alloc (.cells #[.slice mA m.length mc, .slice uA u.length uc] 29))
    have HB2 := Lib.hid (HasCells.new ((w.alloc (.cells #[.slice kA k.ws.length kc, .int .u64 k.seed, .int .i64 k.ep, .int .i64 k.nu, .int .i64 k.de] 25)).alloc (.cells #[.slice lA l.length lc, .slice vA v.length vc] 29)) #[.slice mA m.length mc, .slice uA u.length uc] 29 (w.heap.size + 1 + 1) (by simp))
    generalize (((w.alloc (.cells #[.slice kA k.ws.length kc, .int .u64 k.seed, .int .i64 k.ep, .int .i64 k.nu, .int .i64 k.de] 25)).alloc (.cells #[.slice lA l.length lc, .slice vA v.length vc] 29)).alloc (.cells #[.slice mA m.length mc, .slice uA u.length uc] 29)) = W0 at *
    generalize w.heap.size + 1 + 1 = z2 at *
    generalize w.heap.size + 1 = z1 at *
    generalize w.heap.size = z0 at *
    have KB0 := Lib.hid (Kept.refl W0)
    refine (awake16 W0).mono ?_
    rintro e W1 ⟨rfl, k⟩
    have KB1 := Lib.hid (KB0.out.trans k)
    clear k
    obtain ⟨b00, b01, b02, b03, b04⟩ := (HB0.out.kept KB1.out).five
    have bz0 := (HB0.out.kept KB1.out).1
    obtain ⟨b10, b11⟩ := (HB1.out.kept KB1.out).two
    have bz1 := (HB1.out.kept KB1.out).1
    obtain ⟨b20, b21⟩ := (HB2.out.kept KB1.out).two
    have bz2 := (HB2.out.kept KB1.out).1
    go_wp2_with fail
    clear b00 b01 b02 b03 b04 bz0 b10 b11 bz1 b20 b21 bz2
    refine (few16_any lA lc l vA vc v 25 W1).mono ?_
    rintro e W2 ⟨rfl, k⟩
    have KB2 := Lib.hid (KB1.out.trans k)
    clear k
    rw [hf0]
    obtain ⟨b00, b01, b02, b03, b04⟩ := (HB0.out.kept KB2.out).five
    have bz0 := (HB0.out.kept KB2.out).1
    obtain ⟨b10, b11⟩ := (HB1.out.kept KB2.out).two
    have bz1 := (HB1.out.kept KB2.out).1
    obtain ⟨b20, b21⟩ := (HB2.out.kept KB2.out).two
    have bz2 := (HB2.out.kept KB2.out).1
    go_wp2_with fail
    clear b00 b01 b02 b03 b04 bz0 b10 b11 bz1 b20 b21 bz2
    refine (few16_any mA mc m uA uc u 25 W2).mono ?_
    rintro e W3 ⟨rfl, k⟩
    have KB3 := Lib.hid (KB2.out.trans k)
    clear k
    obtain ⟨b00, b01, b02, b03, b04⟩ := (HB0.out.kept KB3.out).five
    have bz0 := (HB0.out.kept KB3.out).1
    obtain ⟨b10, b11⟩ := (HB1.out.kept KB3.out).two
    have bz1 := (HB1.out.kept KB3.out).1
    obtain ⟨b20, b21⟩ := (HB2.out.kept KB3.out).two
    have bz2 := (HB2.out.kept KB3.out).1
    go_wp2_with fail
    clear b00 b01 b02 b03 b04 bz0 b10 b11 bz1 b20 b21 bz2
    go_ret
    exact ⟨by first | rfl | (simp; done), K0.out.trans KB3.out⟩
  | true =>
    have F0 := Lib.hid hf0
    clear hf0
    cases hf1 : few16C m u 25 with
    | false =>
      go_enter Try.func8, Try.ntmps8
      go_wp2_with fail
      have K0 := Lib.hid ((((Kept.refl w).alloc (.cells #[.slice kA k.ws.length kc, .int .u64 k.seed, .int .i64 k.ep, .int .i64 k.nu, .int .i64 k.de] 25)).alloc (.cells #[.slice lA l.length lc, .slice vA v.length vc] 29)).alloc (.cells #[.slice mA m.length mc, .slice uA u.length uc] 29))
      have HA := Lib.hid (khl.kept K0.out)
      clear khl
      have HL := Lib.hid (lhl.kept K0.out)
      clear lhl
      have HV := Lib.hid (vhl.kept K0.out)
      clear vhl
      have HM := Lib.hid (mhl.kept K0.out)
      clear mhl
      have HU := Lib.hid (uhl.kept K0.out)
      clear uhl
      have HB0 := Lib.hid (((HasCells.new w #[.slice kA k.ws.length kc, .int .u64 k.seed, .int .i64 k.ep, .int .i64 k.nu, .int .i64 k.de] 25 (w.heap.size) (by simp)).alloc (.cells #[.slice lA l.length lc, .slice vA v.length vc] 29)).alloc (.cells #[.slice mA m.length mc, .slice uA u.length uc] 29))
      have HB1 := Lib.hid ((HasCells.new (w.alloc (.cells #[.slice kA k.ws.length kc, .int .u64 k.seed, .int .i64 k.ep, .int .i64 k.nu, .int .i64 k.de] 25)) #[.slice lA l.length lc, .slice vA v.length vc] 29 (w.heap.size + 1) (by simp)).alloc (.cells #[.slice mA m.length mc, .slice uA u.length uc] 29))
      have HB2 := Lib.hid (HasCells.new ((w.alloc (.cells #[.slice kA k.ws.length kc, .int .u64 k.seed, .int .i64 k.ep, .int .i64 k.nu, .int .i64 k.de] 25)).alloc (.cells #[.slice lA l.length lc, .slice vA v.length vc] 29)) #[.slice mA m.length mc, .slice uA u.length uc] 29 (w.heap.size + 1 + 1) (by simp))
      generalize (((w.alloc (.cells #[.slice kA k.ws.length kc, .int .u64 k.seed, .int .i64 k.ep, .int .i64 k.nu, .int .i64 k.de] 25)).alloc (.cells #[.slice lA l.length lc, .slice vA v.length vc] 29)).alloc (.cells #[.slice mA m.length mc, .slice uA u.length uc] 29)) = W0 at *
      generalize w.heap.size + 1 + 1 = z2 at *
      generalize w.heap.size + 1 = z1 at *
      generalize w.heap.size = z0 at *
      have KB0 := Lib.hid (Kept.refl W0)
      refine (awake16 W0).mono ?_
      rintro e W1 ⟨rfl, k⟩
      have KB1 := Lib.hid (KB0.out.trans k)
      clear k
      obtain ⟨b00, b01, b02, b03, b04⟩ := (HB0.out.kept KB1.out).five
      have bz0 := (HB0.out.kept KB1.out).1
      obtain ⟨b10, b11⟩ := (HB1.out.kept KB1.out).two
      have bz1 := (HB1.out.kept KB1.out).1
      obtain ⟨b20, b21⟩ := (HB2.out.kept KB1.out).two
      have bz2 := (HB2.out.kept KB1.out).1
      go_wp2_with fail
      clear b00 b01 b02 b03 b04 bz0 b10 b11 bz1 b20 b21 bz2
      refine (few16_any lA lc l vA vc v 25 W1).mono ?_
      rintro e W2 ⟨rfl, k⟩
      have KB2 := Lib.hid (KB1.out.trans k)
      clear k
      rw [F0.out]
      obtain ⟨b00, b01, b02, b03, b04⟩ := (HB0.out.kept KB2.out).five
      have bz0 := (HB0.out.kept KB2.out).1
      obtain ⟨b10, b11⟩ := (HB1.out.kept KB2.out).two
      have bz1 := (HB1.out.kept KB2.out).1
      obtain ⟨b20, b21⟩ := (HB2.out.kept KB2.out).two
      have bz2 := (HB2.out.kept KB2.out).1
      go_wp2_with fail
      clear b00 b01 b02 b03 b04 bz0 b10 b11 bz1 b20 b21 bz2
      refine (few16_any mA mc m uA uc u 25 W2).mono ?_
      rintro e W3 ⟨rfl, k⟩
      have KB3 := Lib.hid (KB2.out.trans k)
      clear k
      rw [hf1]
      obtain ⟨b00, b01, b02, b03, b04⟩ := (HB0.out.kept KB3.out).five
      have bz0 := (HB0.out.kept KB3.out).1
      obtain ⟨b10, b11⟩ := (HB1.out.kept KB3.out).two
      have bz1 := (HB1.out.kept KB3.out).1
      obtain ⟨b20, b21⟩ := (HB2.out.kept KB3.out).two
      have bz2 := (HB2.out.kept KB3.out).1
      go_wp2_with fail
      clear b00 b01 b02 b03 b04 bz0 b10 b11 bz1 b20 b21 bz2
      go_ret
      exact ⟨by first | rfl | (simp; done), K0.out.trans KB3.out⟩
    | true =>
      have F1 := Lib.hid hf1
      clear hf1
      go_enter Try.func8, Try.ntmps8
      go_wp2_with fail
      have K0 := Lib.hid ((((Kept.refl w).alloc (.cells #[.slice kA k.ws.length kc, .int .u64 k.seed, .int .i64 k.ep, .int .i64 k.nu, .int .i64 k.de] 25)).alloc (.cells #[.slice lA l.length lc, .slice vA v.length vc] 29)).alloc (.cells #[.slice mA m.length mc, .slice uA u.length uc] 29))
      have HA := Lib.hid (khl.kept K0.out)
      clear khl
      have HL := Lib.hid (lhl.kept K0.out)
      clear lhl
      have HV := Lib.hid (vhl.kept K0.out)
      clear vhl
      have HM := Lib.hid (mhl.kept K0.out)
      clear mhl
      have HU := Lib.hid (uhl.kept K0.out)
      clear uhl
      have HB0 := Lib.hid (((HasCells.new w #[.slice kA k.ws.length kc, .int .u64 k.seed, .int .i64 k.ep, .int .i64 k.nu, .int .i64 k.de] 25 (w.heap.size) (by simp)).alloc (.cells #[.slice lA l.length lc, .slice vA v.length vc] 29)).alloc (.cells #[.slice mA m.length mc, .slice uA u.length uc] 29))
      have HB1 := Lib.hid ((HasCells.new (w.alloc (.cells #[.slice kA k.ws.length kc, .int .u64 k.seed, .int .i64 k.ep, .int .i64 k.nu, .int .i64 k.de] 25)) #[.slice lA l.length lc, .slice vA v.length vc] 29 (w.heap.size + 1) (by simp)).alloc (.cells #[.slice mA m.length mc, .slice uA u.length uc] 29))
      have HB2 := Lib.hid (HasCells.new ((w.alloc (.cells #[.slice kA k.ws.length kc, .int .u64 k.seed, .int .i64 k.ep, .int .i64 k.nu, .int .i64 k.de] 25)).alloc (.cells #[.slice lA l.length lc, .slice vA v.length vc] 29)) #[.slice mA m.length mc, .slice uA u.length uc] 29 (w.heap.size + 1 + 1) (by simp))
      generalize (((w.alloc (.cells #[.slice kA k.ws.length kc, .int .u64 k.seed, .int .i64 k.ep, .int .i64 k.nu, .int .i64 k.de] 25)).alloc (.cells #[.slice lA l.length lc, .slice vA v.length vc] 29)).alloc (.cells #[.slice mA m.length mc, .slice uA u.length uc] 29)) = W0 at *
      generalize w.heap.size + 1 + 1 = z2 at *
      generalize w.heap.size + 1 = z1 at *
      generalize w.heap.size = z0 at *
      have KB0 := Lib.hid (Kept.refl W0)
      refine (awake16 W0).mono ?_
      rintro e W1 ⟨rfl, k⟩
      have KB1 := Lib.hid (KB0.out.trans k)
      clear k
      obtain ⟨b00, b01, b02, b03, b04⟩ := (HB0.out.kept KB1.out).five
      have bz0 := (HB0.out.kept KB1.out).1
      obtain ⟨b10, b11⟩ := (HB1.out.kept KB1.out).two
      have bz1 := (HB1.out.kept KB1.out).1
      obtain ⟨b20, b21⟩ := (HB2.out.kept KB1.out).two
      have bz2 := (HB2.out.kept KB1.out).1
      go_wp2_with fail
      clear b00 b01 b02 b03 b04 bz0 b10 b11 bz1 b20 b21 bz2
      refine (few16_any lA lc l vA vc v 25 W1).mono ?_
      rintro e W2 ⟨rfl, k⟩
      have KB2 := Lib.hid (KB1.out.trans k)
      clear k
      rw [F0.out]
      obtain ⟨b00, b01, b02, b03, b04⟩ := (HB0.out.kept KB2.out).five
      have bz0 := (HB0.out.kept KB2.out).1
      obtain ⟨b10, b11⟩ := (HB1.out.kept KB2.out).two
      have bz1 := (HB1.out.kept KB2.out).1
      obtain ⟨b20, b21⟩ := (HB2.out.kept KB2.out).two
      have bz2 := (HB2.out.kept KB2.out).1
      go_wp2_with fail
      clear b00 b01 b02 b03 b04 bz0 b10 b11 bz1 b20 b21 bz2
      refine (few16_any mA mc m uA uc u 25 W2).mono ?_
      rintro e W3 ⟨rfl, k⟩
      have KB3 := Lib.hid (KB2.out.trans k)
      clear k
      rw [F1.out]
      obtain ⟨hl40, hv40⟩ := few16_yes (n := 25) F0.out
      obtain ⟨hm40, hu40⟩ := few16_yes (n := 25) F1.out
      by_cases hw : (40 : Int) < (k.ws.length : Int)
      · have g40 : decide ((40 : Int) < (k.ws.length : Int)) = true := decide_eq_true hw
        obtain ⟨b00, b01, b02, b03, b04⟩ := (HB0.out.kept KB3.out).five
        have bz0 := (HB0.out.kept KB3.out).1
        obtain ⟨b10, b11⟩ := (HB1.out.kept KB3.out).two
        have bz1 := (HB1.out.kept KB3.out).1
        obtain ⟨b20, b21⟩ := (HB2.out.kept KB3.out).two
        have bz2 := (HB2.out.kept KB3.out).1
        go_wp2_with fail
        clear b00 b01 b02 b03 b04 bz0 b10 b11 bz1 b20 b21 bz2
        go_ret
        exact ⟨by first | rfl | (simp; done), K0.out.trans KB3.out⟩
      · have g40 : decide ((40 : Int) < (k.ws.length : Int)) = false := decide_eq_false hw
        have hk1 : k.ws.length ≤ 1000 := by omega
        obtain ⟨b00, b01, b02, b03, b04⟩ := (HB0.out.kept KB3.out).five
        have bz0 := (HB0.out.kept KB3.out).1
        obtain ⟨b10, b11⟩ := (HB1.out.kept KB3.out).two
        have bz1 := (HB1.out.kept KB3.out).1
        obtain ⟨b20, b21⟩ := (HB2.out.kept KB3.out).two
        have bz2 := (HB2.out.kept KB3.out).1
        go_wp2_with fail
        clear b00 b01 b02 b03 b04 bz0 b10 b11 bz1 b20 b21 bz2
        refine (viewMay_any kA kc k lA lc l vA vc v W3 hk1 khs (by omega) (by omega) lhc vhc lhw vhw (HA.out.kept KB3.out) (HL.out.kept KB3.out) (HV.out.kept KB3.out)).mono ?_
        rintro e W4 ⟨rfl, k⟩
        have KB4 := Lib.hid (KB3.out.trans k)
        clear k
        cases hm : mayW k ⟨l, v⟩ with
        | false =>
          obtain ⟨b00, b01, b02, b03, b04⟩ := (HB0.out.kept KB4.out).five
          have bz0 := (HB0.out.kept KB4.out).1
          obtain ⟨b10, b11⟩ := (HB1.out.kept KB4.out).two
          have bz1 := (HB1.out.kept KB4.out).1
          obtain ⟨b20, b21⟩ := (HB2.out.kept KB4.out).two
          have bz2 := (HB2.out.kept KB4.out).1
          go_wp2_with fail
          clear b00 b01 b02 b03 b04 bz0 b10 b11 bz1 b20 b21 bz2
          go_ret
          exact ⟨by first | rfl | (simp; done), K0.out.trans KB4.out⟩
        | true =>
          have HMay := Lib.hid hm
          by_cases hs1 : slot < 0
          · have gs1 : decide (slot < 0) = true := decide_eq_true hs1
            obtain ⟨b00, b01, b02, b03, b04⟩ := (HB0.out.kept KB4.out).five
            have bz0 := (HB0.out.kept KB4.out).1
            obtain ⟨b10, b11⟩ := (HB1.out.kept KB4.out).two
            have bz1 := (HB1.out.kept KB4.out).1
            obtain ⟨b20, b21⟩ := (HB2.out.kept KB4.out).two
            have bz2 := (HB2.out.kept KB4.out).1
            go_wp2_with fail
            clear b00 b01 b02 b03 b04 bz0 b10 b11 bz1 b20 b21 bz2
            go_ret
            exact ⟨by first | rfl | (simp; done), K0.out.trans KB4.out⟩
          · by_cases hs2 : 1000000 < slot
            · have gs1 : decide (slot < 0) = false := decide_eq_false hs1
              have gs2 : decide (1000000 < slot) = true := decide_eq_true hs2
              obtain ⟨b00, b01, b02, b03, b04⟩ := (HB0.out.kept KB4.out).five
              have bz0 := (HB0.out.kept KB4.out).1
              obtain ⟨b10, b11⟩ := (HB1.out.kept KB4.out).two
              have bz1 := (HB1.out.kept KB4.out).1
              obtain ⟨b20, b21⟩ := (HB2.out.kept KB4.out).two
              have bz2 := (HB2.out.kept KB4.out).1
              go_wp2_with fail
              clear b00 b01 b02 b03 b04 bz0 b10 b11 bz1 b20 b21 bz2
              go_ret
              exact ⟨by first | rfl | (simp; done), K0.out.trans KB4.out⟩
            · have gs1 : decide (slot < 0) = false := decide_eq_false hs1
              have gs2 : decide (1000000 < slot) = false := decide_eq_false hs2
              have hws : IntKind.i64.wrap (slot + 1) = slot + 1 := by rw [IntKind.wrap_i64]; omega
              obtain ⟨b00, b01, b02, b03, b04⟩ := (HB0.out.kept KB4.out).five
              have bz0 := (HB0.out.kept KB4.out).1
              obtain ⟨b10, b11⟩ := (HB1.out.kept KB4.out).two
              have bz1 := (HB1.out.kept KB4.out).1
              obtain ⟨b20, b21⟩ := (HB2.out.kept KB4.out).two
              have bz2 := (HB2.out.kept KB4.out).1
              go_wp2_with fail
              clear b00 b01 b02 b03 b04 bz0 b10 b11 bz1 b20 b21 bz2
              clear g40 gs1 gs2
              have HLt := Lib.hid (fun (N : Bk → Id2) (hN : N = nameB) => later_of (k := k) (N := N) (l := l) (m := m) (v := v) (u := u) (slot := slot) hm hN hl40 hm40 hv40 hu40)
              refine (viewTake_any kA kc k lA lc l vA vc v mA mc m uA uc u (slot) W4 hk1 khs (by omega) (by omega) (by omega) (by omega) lhc vhc mhc uhc lhw vhw mhw uhw (HA.out.kept KB4.out) (HL.out.kept KB4.out) (HV.out.kept KB4.out) (HM.out.kept KB4.out) (HU.out.kept KB4.out)).mono ?_
              rintro e W5 ⟨A1, c1, B1, d1, C1, a1, D1, b1, rfl, g11, g12, g13, g14, hA1, hB1, hC1, hD1, k⟩
              have KB5 := Lib.hid (KB4.out.trans k)
              clear k
              have HX := Lib.hid (take_facts (i := ⟨m, u⟩) (upto := slot) hm)
              have HLb := Lib.hid (fun j => late_b (i := ⟨m, u⟩) (upto := slot) hm (j := j))
              have HLv := Lib.hid (fun j => late_v (i := ⟨m, u⟩) (upto := slot) hm (j := j))
              have HZ := Lib.hid (take_facts (i := ⟨m, u⟩) (upto := slot + 1) hm)
              clear hm
              generalize takeC k ⟨l, v⟩ ⟨m, u⟩ slot = t at *
              obtain ⟨⟨xb, xv⟩, ⟨yb, yv⟩, fu⟩ := t
              simp only at g11 g12 g13 g14 hA1 hB1 hC1 hD1 HX
              dsimp only
              generalize yb.length = yl at *
              generalize yv.length = yk at *
              have n1 : xb.length ≤ 60 := HX.out.lb
              have n2 : xv.length ≤ 240 := HX.out.lv
              have n3 : l.length ≤ xb.length := HX.out.gb
              have n4 : v.length ≤ xv.length := HX.out.gv
              have HW1 := Lib.hid (show WfL xb from fun x hx => (HX.out.wb x hx).elim (lhw x) (mhw x))
              have HW2 := Lib.hid (show WfVs xv from fun x hx => (HX.out.wv x hx).elim (vhw x) (uhw x))
              have HA1 := Lib.hid hA1
              have HB1_ := Lib.hid hB1
              clear hA1 hB1 hC1 hD1 g13 g14
              obtain ⟨b00, b01, b02, b03, b04⟩ := (HB0.out.kept KB5.out).five
              have bz0 := (HB0.out.kept KB5.out).1
              obtain ⟨b10, b11⟩ := (HB1.out.kept KB5.out).two
              have bz1 := (HB1.out.kept KB5.out).1
              obtain ⟨b20, b21⟩ := (HB2.out.kept KB5.out).two
              have bz2 := (HB2.out.kept KB5.out).1
              go_wp2_with fail
              clear b00 b01 b02 b03 b04 bz0 b10 b11 bz1 b20 b21 bz2
              have k := ((Kept.refl W5).alloc (.cells #[.slice A1 xb.length c1, .slice B1 xv.length d1] 29)).alloc (.cells #[.slice C1 yl a1, .slice D1 yk b1] 29)
              have H12 := Lib.hid ((AtB.new W5 #[.slice A1 xb.length c1, .slice B1 xv.length d1] 29).kept ((Kept.refl _).alloc (.cells #[.slice C1 yl a1, .slice D1 yk b1] 29)))
              have hsz : (W5.alloc (.cells #[.slice A1 xb.length c1, .slice B1 xv.length d1] 29)).heap.size = W5.heap.size + 1 := by simp
              have hnb := AtB.new (W5.alloc (.cells #[.slice A1 xb.length c1, .slice B1 xv.length d1] 29)) #[.slice C1 yl a1, .slice D1 yk b1] 29
              rw [hsz] at hnb
              have H13 := Lib.hid hnb
              clear hsz hnb
              replace HA1 := Lib.hid (HA1.out.kept k)
              replace HB1_ := Lib.hid (HB1_.out.kept k)
              have KB6 := Lib.hid (KB5.out.trans k)
              clear k
              generalize (W5.alloc (.cells #[.slice A1 xb.length c1, .slice B1 xv.length d1] 29)).alloc (.cells #[.slice C1 yl a1, .slice D1 yk b1] 29) = W6 at *
              generalize W5.heap.size + 1 = z13 at *
              generalize W5.heap.size = z12 at *
              have KJ := Lib.hid (Kept.refl W6)
              refine (viewTake_any kA kc k lA lc l vA vc v mA mc m uA uc u (slot + 1) W6 hk1 khs (by omega) (by omega) (by omega) (by omega) lhc vhc mhc uhc lhw vhw mhw uhw (HA.out.kept KB6.out) (HL.out.kept KB6.out) (HV.out.kept KB6.out) (HM.out.kept KB6.out) (HU.out.kept KB6.out)).mono ?_
              rintro e W7 ⟨A2, c2, B2, d2, C2, a2, D2, b2, rfl, g21, g22, g23, g24, hA2, hB2, hC2, hD2, k⟩
              replace H12 := Lib.hid (H12.out.kept k)
              replace KJ := Lib.hid (KJ.out.trans k)
              have KB7 := Lib.hid (KB6.out.trans k)
              clear k
              generalize takeC k ⟨l, v⟩ ⟨m, u⟩ (slot + 1) = t at *
              obtain ⟨⟨zb, zv⟩, ⟨wb, wv⟩, f2⟩ := t
              simp only at g21 g22 g23 g24 hA2 hB2 hC2 hD2 HZ HLt
              dsimp only
              generalize wb.length = zl at *
              generalize wv.length = zk at *
              have p1 : zb.length ≤ 60 := HZ.out.lb
              have p2 : zv.length ≤ 240 := HZ.out.lv
              have HW3 := Lib.hid (show WfL zb from fun x hx => (HZ.out.wb x hx).elim (lhw x) (mhw x))
              have HW4 := Lib.hid (show WfVs zv from fun x hx => (HZ.out.wv x hx).elim (vhw x) (uhw x))
              have HA2 := Lib.hid hA2
              have HB2_ := Lib.hid hB2
              clear hA2 hB2 hC2 hD2 g23 g24
              have q0 : W7.cell? ⟨z12, 0, none⟩ = some (.slice A1 xb.length c1) := H12.out.cell
              have q1 : W7.cell? ⟨z12, 1, none⟩ = some (.slice B1 xv.length d1) := H12.out.cell
              have ql := H12.out.lt
              obtain ⟨b00, b01, b02, b03, b04⟩ := (HB0.out.kept KB7.out).five
              have bz0 := (HB0.out.kept KB7.out).1
              obtain ⟨b10, b11⟩ := (HB1.out.kept KB7.out).two
              have bz1 := (HB1.out.kept KB7.out).1
              obtain ⟨b20, b21⟩ := (HB2.out.kept KB7.out).two
              have bz2 := (HB2.out.kept KB7.out).1
              go_wp2_with fail
              clear b00 b01 b02 b03 b04 bz0 b10 b11 bz1 b20 b21 bz2
              have k := ((Kept.refl W7).alloc (.cells #[.slice A2 zb.length c2, .slice B2 zv.length d2] 29)).alloc (.cells #[.slice C2 zl a2, .slice D2 zk b2] 29)
              have H15 := Lib.hid ((AtB.new W7 #[.slice A2 zb.length c2, .slice B2 zv.length d2] 29).kept ((Kept.refl _).alloc (.cells #[.slice C2 zl a2, .slice D2 zk b2] 29)))
              have hsz : (W7.alloc (.cells #[.slice A2 zb.length c2, .slice B2 zv.length d2] 29)).heap.size = W7.heap.size + 1 := by simp
              have hnb := AtB.new (W7.alloc (.cells #[.slice A2 zb.length c2, .slice B2 zv.length d2] 29)) #[.slice C2 zl a2, .slice D2 zk b2] 29
              rw [hsz] at hnb
              have H16 := Lib.hid hnb
              clear hsz hnb q0 q1 ql
              replace HA2 := Lib.hid (HA2.out.kept k)
              replace HB2_ := Lib.hid (HB2_.out.kept k)
              replace H12 := Lib.hid (H12.out.kept k)
              replace KJ := Lib.hid (KJ.out.trans k)
              have KB8 := Lib.hid (KB7.out.trans k)
              clear k
              generalize (W7.alloc (.cells #[.slice A2 zb.length c2, .slice B2 zv.length d2] 29)).alloc (.cells #[.slice C2 zl a2, .slice D2 zk b2] 29) = W8 at *
              generalize W7.heap.size + 1 = z16 at *
              generalize W7.heap.size = z15 at *
              replace HA := Lib.hid (HA.out.kept KB8.out)
              replace HL := Lib.hid (HL.out.kept KB8.out)
              replace HV := Lib.hid (HV.out.kept KB8.out)
              replace HM := Lib.hid (HM.out.kept KB8.out)
              replace HU := Lib.hid (HU.out.kept KB8.out)
              replace HB0 := Lib.hid (HB0.out.kept KB8.out)
              replace HB1 := Lib.hid (HB1.out.kept KB8.out)
              replace HB2 := Lib.hid (HB2.out.kept KB8.out)
              replace K0 := Lib.hid (K0.out.trans KB8.out)
              have KB9 := Lib.hid (Kept.refl W8)
              replace HA1 := Lib.hid (HA1.out.kept KJ.out)
              replace HB1_ := Lib.hid (HB1_.out.kept KJ.out)
              clear KJ
              generalize W8 = WL at *
              go_loopw [18] (fun i w' => ∃ j : Nat, l.length ≤ j ∧ j ≤ xb.length ∧ i = .int .i64 (j : Nat) ∧ Kept WL w') (fun i _ => xb.length - (intOf i).toNat)
              case atStart => exact ⟨l.length, by omega, by omega, rfl, Kept.refl _⟩
              case round =>
                obtain ⟨j, hj0, hj, rfl, hK⟩ := hrel
                have KB10 := Lib.hid (KB9.out.trans hK)
                clear hK
                by_cases hlt : j < xb.length
                · obtain ⟨zy, oy, eqA, hby, cc0, cc1, cc2, cc3, cc4⟩ := block_at HA1.out hlt
                  have hys := HLb.out j hj0 hlt
                  generalize xb[j] = y at *
                  subst eqA
                  have e0 := (KB10.out.cell (p := ⟨zy, oy + j * 5, none⟩) hby).trans cc0
                  have e1 := (KB10.out.cell (p := ⟨zy, oy + j * 5 + 1, none⟩) hby).trans cc1
                  have e2 := (KB10.out.cell (p := ⟨zy, oy + j * 5 + 2, none⟩) hby).trans cc2
                  have e3 := (KB10.out.cell (p := ⟨zy, oy + j * 5 + 3, none⟩) hby).trans cc3
                  have e4 := (KB10.out.cell (p := ⟨zy, oy + j * 5 + 4, none⟩) hby).trans cc4
                  have eb := Nat.lt_of_lt_of_le hby KB10.out.size_le
                  have p1 : wr.cell? ⟨z12, 0, none⟩ = some (.slice (some ⟨zy, oy, none⟩) xb.length c1) := (H12.out.kept KB10.out).cell
                  have pl := (H12.out.kept KB10.out).lt
                  have gs : decide (slot < y.s) = false := decide_eq_false (by omega)
                  go_wp2_with fail
                  go_roundw
                  case rel => exact ⟨j + 1, by omega, by omega, by go_num, KB10.out⟩
                  case measure => simp [intOf]; omega
                · have hjl : j = xb.length := by omega
                  subst hjl
                  have p1 : wr.cell? ⟨z12, 0, none⟩ = some (.slice A1 xb.length c1) := (H12.out.kept KB10.out).cell
                  have pl := (H12.out.kept KB10.out).lt
                  obtain ⟨b00, b01, b02, b03, b04⟩ := (HB0.out.kept KB10.out).five
                  have bz0 := (HB0.out.kept KB10.out).1
                  obtain ⟨b10, b11⟩ := (HB1.out.kept KB10.out).two
                  have bz1 := (HB1.out.kept KB10.out).1
                  obtain ⟨b20, b21⟩ := (HB2.out.kept KB10.out).two
                  have bz2 := (HB2.out.kept KB10.out).1
                  go_wp2_with fail
                  clear p1 pl
                  clear b00 b01 b02 b03 b04 bz0 b10 b11 bz1 b20 b21 bz2
                  replace HA := Lib.hid (HA.out.kept KB10.out)
                  replace HL := Lib.hid (HL.out.kept KB10.out)
                  replace HV := Lib.hid (HV.out.kept KB10.out)
                  replace HM := Lib.hid (HM.out.kept KB10.out)
                  replace HU := Lib.hid (HU.out.kept KB10.out)
                  replace HB0 := Lib.hid (HB0.out.kept KB10.out)
                  replace HB1 := Lib.hid (HB1.out.kept KB10.out)
                  replace HB2 := Lib.hid (HB2.out.kept KB10.out)
                  replace K0 := Lib.hid (K0.out.trans KB10.out)
                  have KB11 := Lib.hid (Kept.refl wr)
                  replace HA1 := Lib.hid (HA1.out.kept KB10.out)
                  replace HB1_ := Lib.hid (HB1_.out.kept KB10.out)
                  replace HA2 := Lib.hid (HA2.out.kept KB10.out)
                  replace HB2_ := Lib.hid (HB2_.out.kept KB10.out)
                  replace H12 := Lib.hid (H12.out.kept KB10.out)
                  replace H15 := Lib.hid (H15.out.kept KB10.out)
                  generalize wr = WM at *
                  go_loopw [19] (fun i w' => ∃ j : Nat, v.length ≤ j ∧ j ≤ xv.length ∧ i = .int .i64 (j : Nat) ∧ Kept WM w') (fun i _ => xv.length - (intOf i).toNat)
                  case atStart => exact ⟨v.length, by omega, by omega, rfl, Kept.refl _⟩
                  case round =>
                    obtain ⟨j, hj0, hj, rfl, hK⟩ := hrel
                    have KB12 := Lib.hid (KB11.out.trans hK)
                    clear hK
                    by_cases hlt : j < xv.length
                    · obtain ⟨zy, oy, eqA, hby, cc0, cc1, cc2, cc3⟩ := vote_at HB1_.out hlt
                      have hys := HLv.out j hj0 hlt
                      generalize xv[j] = y at *
                      subst eqA
                      have e0 := (KB12.out.cell (p := ⟨zy, oy + j * 4, none⟩) hby).trans cc0
                      have e1 := (KB12.out.cell (p := ⟨zy, oy + j * 4 + 1, none⟩) hby).trans cc1
                      have e2 := (KB12.out.cell (p := ⟨zy, oy + j * 4 + 2, none⟩) hby).trans cc2
                      have e3 := (KB12.out.cell (p := ⟨zy, oy + j * 4 + 3, none⟩) hby).trans cc3
                      have eb := Nat.lt_of_lt_of_le hby KB12.out.size_le
                      have p1 : wr.cell? ⟨z12, 1, none⟩ = some (.slice (some ⟨zy, oy, none⟩) xv.length d1) := (H12.out.kept KB12.out).cell
                      have pl := (H12.out.kept KB12.out).lt
                      have gs : decide (slot < y.s) = false := decide_eq_false (by omega)
                      go_wp2_with fail
                      go_roundw
                      case rel => exact ⟨j + 1, by omega, by omega, by go_num, KB12.out⟩
                      case measure => simp [intOf]; omega
                    · have hjl : j = xv.length := by omega
                      subst hjl
                      have p1 : wr.cell? ⟨z12, 1, none⟩ = some (.slice B1 xv.length d1) := (H12.out.kept KB12.out).cell
                      have pl := (H12.out.kept KB12.out).lt
                      obtain ⟨b00, b01, b02, b03, b04⟩ := (HB0.out.kept KB12.out).five
                      have bz0 := (HB0.out.kept KB12.out).1
                      obtain ⟨b10, b11⟩ := (HB1.out.kept KB12.out).two
                      have bz1 := (HB1.out.kept KB12.out).1
                      obtain ⟨b20, b21⟩ := (HB2.out.kept KB12.out).two
                      have bz2 := (HB2.out.kept KB12.out).1
                      go_wp2_with fail
                      clear p1 pl
                      clear b00 b01 b02 b03 b04 bz0 b10 b11 bz1 b20 b21 bz2
                      replace HA := Lib.hid (HA.out.kept KB12.out)
                      replace HL := Lib.hid (HL.out.kept KB12.out)
                      replace HV := Lib.hid (HV.out.kept KB12.out)
                      replace HM := Lib.hid (HM.out.kept KB12.out)
                      replace HU := Lib.hid (HU.out.kept KB12.out)
                      replace HB0 := Lib.hid (HB0.out.kept KB12.out)
                      replace HB1 := Lib.hid (HB1.out.kept KB12.out)
                      replace HB2 := Lib.hid (HB2.out.kept KB12.out)
                      replace K0 := Lib.hid (K0.out.trans KB12.out)
                      have KB13 := Lib.hid (Kept.refl wr)
                      replace HA1 := Lib.hid (HA1.out.kept KB12.out)
                      replace HB1_ := Lib.hid (HB1_.out.kept KB12.out)
                      replace HA2 := Lib.hid (HA2.out.kept KB12.out)
                      replace HB2_ := Lib.hid (HB2_.out.kept KB12.out)
                      replace H12 := Lib.hid (H12.out.kept KB12.out)
                      replace H15 := Lib.hid (H15.out.kept KB12.out)
                      generalize wr = WN at *
                      have KX := Lib.hid (Kept.refl WN)
                      refine (viewJoin_any lA lc l vA vc v mA mc m uA uc u WN (by omega) (by omega) (by omega) (by omega) lhc vhc mhc uhc lhw vhw mhw uhw lh6 mh6 (HL.out.kept KB13.out) (HV.out.kept KB13.out) (HM.out.kept KB13.out) (HU.out.kept KB13.out)).mono ?_
                      rintro e W14 ⟨A, c, B, d, rfl, j1, j2, hjA, hjB, k⟩
                      replace H12 := Lib.hid (H12.out.kept k)
                      replace H15 := Lib.hid (H15.out.kept k)
                      replace KX := Lib.hid (KX.out.trans k)
                      have KB14 := Lib.hid (KB13.out.trans k)
                      clear k
                      have HJA := Lib.hid hjA
                      have HJB := Lib.hid hjB
                      clear hjA hjB
                      have hwj := wfl_join lhw mhw
                      have hwk := wfv_join vhw uhw
                      have n1 := joinL_len l m
                      have n2 := joinL_len v u
                      obtain ⟨jb, hjb⟩ : ∃ jb, jb = joinL l m := ⟨_, rfl⟩
                      obtain ⟨jv, hjv⟩ : ∃ jv, jv = joinL v u := ⟨_, rfl⟩
                      change jb = (joinW ⟨l, v⟩ ⟨m, u⟩).b at hjb
                      change jv = (joinW ⟨l, v⟩ ⟨m, u⟩).v at hjv
                      rw [← hjb] at HJA j1 ⊢
                      rw [← hjv] at HJB j2 ⊢
                      change jb = joinL l m at hjb
                      change jv = joinL v u at hjv
                      rw [← hjb] at hwj n1
                      rw [← hjv] at hwk n2
                      have HWj := Lib.hid hwj
                      have HWk := Lib.hid hwk
                      have HJb := Lib.hid hjb
                      have HJv := Lib.hid hjv
                      clear hjb hjv hwj hwk
                      obtain ⟨b00, b01, b02, b03, b04⟩ := (HB0.out.kept KB14.out).five
                      have bz0 := (HB0.out.kept KB14.out).1
                      obtain ⟨b10, b11⟩ := (HB1.out.kept KB14.out).two
                      have bz1 := (HB1.out.kept KB14.out).1
                      obtain ⟨b20, b21⟩ := (HB2.out.kept KB14.out).two
                      have bz2 := (HB2.out.kept KB14.out).1
                      go_wp2_with fail
                      clear b00 b01 b02 b03 b04 bz0 b10 b11 bz1 b20 b21 bz2
                      have HJ := Lib.hid (AtB.new W14 #[.slice A jb.length c, .slice B jv.length d] 29)
                      have k := (Kept.refl W14).alloc (.cells #[.slice A jb.length c, .slice B jv.length d] 29)
                      replace H12 := Lib.hid (H12.out.kept k)
                      replace H15 := Lib.hid (H15.out.kept k)
                      replace KX := Lib.hid (KX.out.trans k)
                      replace HJA := Lib.hid (HJA.out.kept k)
                      replace HJB := Lib.hid (HJB.out.kept k)
                      have KB15 := Lib.hid (KB14.out.trans k)
                      clear k
                      generalize W14.alloc (.cells #[.slice A jb.length c, .slice B jv.length d] 29) = W15 at *
                      generalize W14.heap.size = z20 at *
                      replace HA := Lib.hid (HA.out.kept KB15.out)
                      replace HL := Lib.hid (HL.out.kept KB15.out)
                      replace HV := Lib.hid (HV.out.kept KB15.out)
                      replace HM := Lib.hid (HM.out.kept KB15.out)
                      replace HU := Lib.hid (HU.out.kept KB15.out)
                      replace HB0 := Lib.hid (HB0.out.kept KB15.out)
                      replace HB1 := Lib.hid (HB1.out.kept KB15.out)
                      replace HB2 := Lib.hid (HB2.out.kept KB15.out)
                      replace K0 := Lib.hid (K0.out.trans KB15.out)
                      have KB16 := Lib.hid (Kept.refl W15)
                      replace HA1 := Lib.hid (HA1.out.kept KX.out)
                      replace HB1_ := Lib.hid (HB1_.out.kept KX.out)
                      replace HA2 := Lib.hid (HA2.out.kept KX.out)
                      replace HB2_ := Lib.hid (HB2_.out.kept KX.out)
                      clear KX
                      generalize W15 = WO at *
                      go_loopw [21] (fun i w' => ∃ j : Nat, j ≤ jb.length ∧ i = .int .i64 (j : Nat) ∧ Hid (OkTo N (none) jb j) ∧ Kept WO w') (fun i _ => jb.length - (intOf i).toNat)
                      case atStart => exact ⟨0, by omega, rfl, Lib.hid ⟨fun x hx => (by cases hx), List.Pairwise.nil⟩, Kept.refl _⟩
                      case round =>
                        obtain ⟨j, hj, rfl, HOk, hK⟩ := hrel
                        have KB17 := Lib.hid (KB16.out.trans hK)
                        clear hK
                        by_cases hlt : j < jb.length
                        · obtain ⟨zy, oy, eqA, hby, c0, c1, c2, c3, c4⟩ := block_at HJA.out hlt
                          have HWy := Lib.hid (HWj.out _ (List.getElem_mem hlt))
                          have HSt := Lib.hid (fun h1 h2 => HOk.out.step hlt h1 h2)
                          obtain ⟨y, hy⟩ : ∃ y, y = jb[j] := ⟨_, rfl⟩
                          rw [← hy] at c0 c1 c2 c3 c4 HWy HSt
                          clear hy HOk
                          subst eqA
                          have p0 : wr.cell? ⟨z20, 0, none⟩ = some (.slice (some ⟨zy, oy, none⟩) jb.length c) := (HJ.out.kept KB17.out).cell
                          have pl := (HJ.out.kept KB17.out).lt
                          have e0 := (KB17.out.cell (p := ⟨zy, oy + j * 5, none⟩) hby).trans c0
                          have e1 := (KB17.out.cell (p := ⟨zy, oy + j * 5 + 1, none⟩) hby).trans c1
                          have e2 := (KB17.out.cell (p := ⟨zy, oy + j * 5 + 2, none⟩) hby).trans c2
                          have e3 := (KB17.out.cell (p := ⟨zy, oy + j * 5 + 3, none⟩) hby).trans c3
                          have e4 := (KB17.out.cell (p := ⟨zy, oy + j * 5 + 4, none⟩) hby).trans c4
                          have eb := Nat.lt_of_lt_of_le hby KB17.out.size_le
                          go_wp2_with fail
                          clear p0 pl e0 e1 e2 e3 e4 eb
                          generalize wr = V1 at *
                          go_loopw [22] (fun i w' => ∃ n : Nat, n ≤ j ∧ i = .int .i64 (n : Nat) ∧ Hid (∀ x ∈ jb.take n, N x ≠ N y) ∧ Kept WO w') (fun i _ => j - (intOf i).toNat)
                          case atStart => exact ⟨0, by omega, rfl, Lib.hid (fun x hx => (by cases hx)), KB17.out⟩
                          case round =>
                            obtain ⟨n, hn, rfl, HAp, hK⟩ := hrel
                            have KBi := Lib.hid hK
                            clear hK
                            by_cases hnj : n < j
                            · have hnl : n < jb.length := by omega
                              obtain ⟨zx, ox, eqA, hbx, d0, d1, d2, d3, d4⟩ := block_at HJA.out hnl
                              injection eqA with eqA
                              injection eqA with eq1 eq2 _
                              subst eq1 eq2
                              have HWx := Lib.hid (HWj.out _ (List.getElem_mem hnl))
                              have HSx := Lib.hid (fun h => apart_step hnl HAp.out h)
                              obtain ⟨x, hx⟩ : ∃ x, x = jb[n] := ⟨_, rfl⟩
                              rw [← hx] at d0 d1 d2 d3 d4 HWx HSx
                              clear hx
                              have p0 : wr.cell? ⟨z20, 0, none⟩ = some (.slice (some ⟨zy, oy, none⟩) jb.length c) := (HJ.out.kept KBi.out).cell
                              have pl := (HJ.out.kept KBi.out).lt
                              have e0 := (KBi.out.cell (p := ⟨zy, oy + j * 5, none⟩) hby).trans c0
                              have e1 := (KBi.out.cell (p := ⟨zy, oy + j * 5 + 1, none⟩) hby).trans c1
                              have e2 := (KBi.out.cell (p := ⟨zy, oy + j * 5 + 2, none⟩) hby).trans c2
                              have e3 := (KBi.out.cell (p := ⟨zy, oy + j * 5 + 3, none⟩) hby).trans c3
                              have e4 := (KBi.out.cell (p := ⟨zy, oy + j * 5 + 4, none⟩) hby).trans c4
                              have eb := Nat.lt_of_lt_of_le hby KBi.out.size_le
                              have f0 := (KBi.out.cell (p := ⟨zy, oy + n * 5, none⟩) hby).trans d0
                              have f1 := (KBi.out.cell (p := ⟨zy, oy + n * 5 + 1, none⟩) hby).trans d1
                              have f2 := (KBi.out.cell (p := ⟨zy, oy + n * 5 + 2, none⟩) hby).trans d2
                              have f3 := (KBi.out.cell (p := ⟨zy, oy + n * 5 + 3, none⟩) hby).trans d3
                              have f4 := (KBi.out.cell (p := ⟨zy, oy + n * 5 + 4, none⟩) hby).trans d4
                              go_wp2_with fail
                              by_cases hxy : N y = N x
                              · have hst : sameI (N y) (N x) = true := sameI_yes hxy
                                clear hxy HSx
                                refine wp_region_noPanic ?_
                                refine wp_region_held_drew (S := (fun w' => w'.cell? ⟨z20, 0, none⟩ = some (.slice (some ⟨zy, oy, none⟩) jb.length c) ∧ w'.cell? ⟨zy, oy + j * 5, none⟩ = some (.int .i64 y.s) ∧ w'.cell? ⟨zy, oy + j * 5 + 1, none⟩ = some (.int .i64 y.f) ∧ w'.cell? ⟨zy, oy + j * 5 + 2, none⟩ = some (.int .u64 y.p.1) ∧ w'.cell? ⟨zy, oy + j * 5 + 3, none⟩ = some (.int .u64 y.p.2) ∧ w'.cell? ⟨zy, oy + j * 5 + 4, none⟩ = some (.int .u64 y.t) ∧ w'.cell? ⟨zy, oy + n * 5, none⟩ = some (.int .i64 x.s) ∧ w'.cell? ⟨zy, oy + n * 5 + 1, none⟩ = some (.int .i64 x.f) ∧ w'.cell? ⟨zy, oy + n * 5 + 2, none⟩ = some (.int .u64 x.p.1) ∧ w'.cell? ⟨zy, oy + n * 5 + 3, none⟩ = some (.int .u64 x.p.2) ∧ w'.cell? ⟨zy, oy + n * 5 + 4, none⟩ = some (.int .u64 x.t) ∧ Kept wr w')) (by kernel_rfl) ?_ (fun hHeld => ?_)
                                · exact ⟨p0, e0, e1, e2, e3, e4, f0, f1, f2, f3, f4, (Kept.refl _).drew⟩
                                refine wpAnyH_take (i := 0) (v := ?_) (by simp only [List.getElem?_toArray, List.getElem?_cons_succ, List.getElem?_cons_zero]; rfl) (by kernel_rfl) (by kernel_rfl) (by kernel_rfl) (fun _ _ _ h => h) (Or.inl ⟨by rfl, ?_⟩) (by assumption) ?_
                                rotate_left
                                · intro w hSw
                                  (try dsimp only at hSw)
                                  go_simp
                                  (try with_reducible rfl)
                                simp only [Act.put, List.setIfInBounds_toArray, List.set_cons_zero, List.set_cons_succ]
                                refine wpAnyH_take (i := 1) (v := ?_) (by simp only [List.getElem?_toArray, List.getElem?_cons_succ, List.getElem?_cons_zero]; rfl) (by kernel_rfl) (by kernel_rfl) (by kernel_rfl) (fun _ _ _ h => h) (Or.inl ⟨by rfl, ?_⟩) (by assumption) ?_
                                rotate_left
                                · intro w hSw
                                  (try dsimp only at hSw)
                                  go_simp
                                  (try with_reducible rfl)
                                simp only [Act.put, List.setIfInBounds_toArray, List.set_cons_zero, List.set_cons_succ]
                                refine wpAnyH_take (i := 2) (v := ?_) (by simp only [List.getElem?_toArray, List.getElem?_cons_succ, List.getElem?_cons_zero]; rfl) (by kernel_rfl) (by kernel_rfl) (by kernel_rfl) (fun _ _ _ h => h) (Or.inl ⟨by rfl, ?_⟩) (by assumption) ?_
                                rotate_left
                                · intro w hSw
                                  (try dsimp only at hSw)
                                  go_simp
                                  (try with_reducible rfl)
                                simp only [Act.put, List.setIfInBounds_toArray, List.set_cons_zero, List.set_cons_succ]
                                refine wpAnyH_take (i := 3) (v := ?_) (by simp only [List.getElem?_toArray, List.getElem?_cons_succ, List.getElem?_cons_zero]; rfl) (by kernel_rfl) (by kernel_rfl) (by kernel_rfl) (fun _ _ _ h => h) (Or.inl ⟨by rfl, ?_⟩) (by assumption) ?_
                                rotate_left
                                · intro w hSw
                                  (try dsimp only at hSw)
                                  go_simp
                                  (try with_reducible rfl)
                                simp only [Act.put, List.setIfInBounds_toArray, List.set_cons_zero, List.set_cons_succ]
                                refine wpAnyH_take (i := 4) (v := ?_) (by simp only [List.getElem?_toArray, List.getElem?_cons_succ, List.getElem?_cons_zero]; rfl) (by kernel_rfl) (by kernel_rfl) (by kernel_rfl) (fun _ _ _ h => h) (Or.inl ⟨by rfl, ?_⟩) (by assumption) ?_
                                rotate_left
                                · intro w hSw
                                  (try dsimp only at hSw)
                                  go_simp
                                  (try with_reducible rfl)
                                simp only [Act.put, List.setIfInBounds_toArray, List.set_cons_zero, List.set_cons_succ]
                                refine wpAnyH_take (i := 6) (v := ?_) (by simp only [List.getElem?_toArray, List.getElem?_cons_succ, List.getElem?_cons_zero]; rfl) (by kernel_rfl) (by kernel_rfl) (by kernel_rfl) (fun _ _ _ h => h) (Or.inl ⟨by rfl, ?_⟩) (by assumption) ?_
                                rotate_left
                                · intro w hSw
                                  (try dsimp only at hSw)
                                  go_simp
                                  (try with_reducible rfl)
                                simp only [Act.put, List.setIfInBounds_toArray, List.set_cons_zero, List.set_cons_succ]
                                refine wpAnyH_take (i := 7) (v := ?_) (by simp only [List.getElem?_toArray, List.getElem?_cons_succ, List.getElem?_cons_zero]; rfl) (by kernel_rfl) (by kernel_rfl) (by kernel_rfl) (fun _ _ _ h => h) (Or.inl ⟨by rfl, ?_⟩) (by assumption) ?_
                                rotate_left
                                · intro w hSw
                                  (try dsimp only at hSw)
                                  go_simp
                                  (try with_reducible rfl)
                                simp only [Act.put, List.setIfInBounds_toArray, List.set_cons_zero, List.set_cons_succ]
                                refine wpAnyH_take (i := 8) (v := ?_) (by simp only [List.getElem?_toArray, List.getElem?_cons_succ, List.getElem?_cons_zero]; rfl) (by kernel_rfl) (by kernel_rfl) (by kernel_rfl) (fun _ _ _ h => h) (Or.inl ⟨by rfl, ?_⟩) (by assumption) ?_
                                rotate_left
                                · intro w hSw
                                  (try dsimp only at hSw)
                                  go_simp
                                  (try with_reducible rfl)
                                simp only [Act.put, List.setIfInBounds_toArray, List.set_cons_zero, List.set_cons_succ]
                                refine wpAnyH_take (i := 9) (v := ?_) (by simp only [List.getElem?_toArray, List.getElem?_cons_succ, List.getElem?_cons_zero]; rfl) (by kernel_rfl) (by kernel_rfl) (by kernel_rfl) (fun _ _ _ h => h) (Or.inl ⟨by rfl, ?_⟩) (by assumption) ?_
                                rotate_left
                                · intro w hSw
                                  (try dsimp only at hSw)
                                  go_simp
                                  (try with_reducible rfl)
                                simp only [Act.put, List.setIfInBounds_toArray, List.set_cons_zero, List.set_cons_succ]
                                refine wpAnyH_take (i := 10) (v := ?_) (by simp only [List.getElem?_toArray, List.getElem?_cons_succ, List.getElem?_cons_zero]; rfl) (by kernel_rfl) (by kernel_rfl) (by kernel_rfl) (fun _ _ _ h => h) (Or.inl ⟨by rfl, ?_⟩) (by assumption) ?_
                                rotate_left
                                · intro w hSw
                                  (try dsimp only at hSw)
                                  go_simp
                                  (try with_reducible rfl)
                                simp only [Act.put, List.setIfInBounds_toArray, List.set_cons_zero, List.set_cons_succ]
                                refine wpAnyH_ready (rs := [5]) (by kernel_rfl) (by simp) ?_
                                refine AllReadyH.cons (by simp only [List.getElem?_toArray, List.getElem?_cons_succ, List.getElem?_cons_zero]; rfl) (fun K hK => ?_) AllReadyH.nil
                                go_simp
                                go_at_call 16; with_reducible refine (HNm.out y HWy.out _).mono ?_
                                rintro e w1 ⟨rfl, kk⟩
                                try go_wp2_with fail
                                refine hK.out _ _ ?_ (fun hHeld2 => ?_)
                                · exact keepP11 pl eb eb eb eb eb eb eb eb eb eb hHeld kk
                                clear hK K hHeld
                                have hHeld := hHeld2
                                clear hHeld2
                                try simp only [Act.put, List.setIfInBounds_toArray, List.set_cons_zero, List.set_cons_succ]
                                refine wpAnyH_ready (rs := [11]) (by kernel_rfl) (by simp) ?_
                                refine AllReadyH.cons (by simp only [List.getElem?_toArray, List.getElem?_cons_succ, List.getElem?_cons_zero]; rfl) (fun K hK => ?_) AllReadyH.nil
                                go_simp
                                go_at_call 16; with_reducible refine (HNm.out x HWx.out _).mono ?_
                                rintro e w2 ⟨rfl, kk⟩
                                try go_wp2_with fail
                                refine hK.out _ _ ?_ (fun hHeld2 => ?_)
                                · exact keepP11 pl eb eb eb eb eb eb eb eb eb eb hHeld kk
                                clear hK K hHeld
                                have hHeld := hHeld2
                                clear hHeld2
                                try simp only [Act.put, List.setIfInBounds_toArray, List.set_cons_zero, List.set_cons_succ]
                                refine wpAnyH_take (i := 12) (v := ?_) (by simp only [List.getElem?_toArray, List.getElem?_cons_succ, List.getElem?_cons_zero]; rfl) (by kernel_rfl) (by kernel_rfl) (by kernel_rfl) (fun _ _ _ h => h) (Or.inl ⟨by rfl, ?_⟩) (by assumption) ?_
                                rotate_left
                                · intro w hSw
                                  (try dsimp only at hSw)
                                  go_simp
                                  (try with_reducible rfl)
                                simp only [Act.put, List.setIfInBounds_toArray, List.set_cons_zero, List.set_cons_succ]
                                try simp only [hst]
                                refine wpAnyH_done (by kernel_rfl) ?_ _
                                refine NoPanic.normal ?_
                                have k := hHeld.2.2.2.2.2.2.2.2.2.2.2
                                clear hHeld
                                have KB41 := Lib.hid (KBi.out.trans k)
                                clear k
                                go_wp2_with fail
                                go_ret
                                exact ⟨by first | rfl | (simp; done), K0.out.trans KB41.out⟩
                              · have hst : sameI (N y) (N x) = false := sameI_no hxy
                                have HN2 := Lib.hid (HSx.out fun e => hxy e.symm)
                                clear hxy HSx
                                refine wp_region_noPanic ?_
                                refine wp_region_held_drew (S := (fun w' => w'.cell? ⟨z20, 0, none⟩ = some (.slice (some ⟨zy, oy, none⟩) jb.length c) ∧ w'.cell? ⟨zy, oy + j * 5, none⟩ = some (.int .i64 y.s) ∧ w'.cell? ⟨zy, oy + j * 5 + 1, none⟩ = some (.int .i64 y.f) ∧ w'.cell? ⟨zy, oy + j * 5 + 2, none⟩ = some (.int .u64 y.p.1) ∧ w'.cell? ⟨zy, oy + j * 5 + 3, none⟩ = some (.int .u64 y.p.2) ∧ w'.cell? ⟨zy, oy + j * 5 + 4, none⟩ = some (.int .u64 y.t) ∧ w'.cell? ⟨zy, oy + n * 5, none⟩ = some (.int .i64 x.s) ∧ w'.cell? ⟨zy, oy + n * 5 + 1, none⟩ = some (.int .i64 x.f) ∧ w'.cell? ⟨zy, oy + n * 5 + 2, none⟩ = some (.int .u64 x.p.1) ∧ w'.cell? ⟨zy, oy + n * 5 + 3, none⟩ = some (.int .u64 x.p.2) ∧ w'.cell? ⟨zy, oy + n * 5 + 4, none⟩ = some (.int .u64 x.t) ∧ Kept wr w')) (by kernel_rfl) ?_ (fun hHeld => ?_)
                                · exact ⟨p0, e0, e1, e2, e3, e4, f0, f1, f2, f3, f4, (Kept.refl _).drew⟩
                                refine wpAnyH_take (i := 0) (v := ?_) (by simp only [List.getElem?_toArray, List.getElem?_cons_succ, List.getElem?_cons_zero]; rfl) (by kernel_rfl) (by kernel_rfl) (by kernel_rfl) (fun _ _ _ h => h) (Or.inl ⟨by rfl, ?_⟩) (by assumption) ?_
                                rotate_left
                                · intro w hSw
                                  (try dsimp only at hSw)
                                  go_simp
                                  (try with_reducible rfl)
                                simp only [Act.put, List.setIfInBounds_toArray, List.set_cons_zero, List.set_cons_succ]
                                refine wpAnyH_take (i := 1) (v := ?_) (by simp only [List.getElem?_toArray, List.getElem?_cons_succ, List.getElem?_cons_zero]; rfl) (by kernel_rfl) (by kernel_rfl) (by kernel_rfl) (fun _ _ _ h => h) (Or.inl ⟨by rfl, ?_⟩) (by assumption) ?_
                                rotate_left
                                · intro w hSw
                                  (try dsimp only at hSw)
                                  go_simp
                                  (try with_reducible rfl)
                                simp only [Act.put, List.setIfInBounds_toArray, List.set_cons_zero, List.set_cons_succ]
                                refine wpAnyH_take (i := 2) (v := ?_) (by simp only [List.getElem?_toArray, List.getElem?_cons_succ, List.getElem?_cons_zero]; rfl) (by kernel_rfl) (by kernel_rfl) (by kernel_rfl) (fun _ _ _ h => h) (Or.inl ⟨by rfl, ?_⟩) (by assumption) ?_
                                rotate_left
                                · intro w hSw
                                  (try dsimp only at hSw)
                                  go_simp
                                  (try with_reducible rfl)
                                simp only [Act.put, List.setIfInBounds_toArray, List.set_cons_zero, List.set_cons_succ]
                                refine wpAnyH_take (i := 3) (v := ?_) (by simp only [List.getElem?_toArray, List.getElem?_cons_succ, List.getElem?_cons_zero]; rfl) (by kernel_rfl) (by kernel_rfl) (by kernel_rfl) (fun _ _ _ h => h) (Or.inl ⟨by rfl, ?_⟩) (by assumption) ?_
                                rotate_left
                                · intro w hSw
                                  (try dsimp only at hSw)
                                  go_simp
                                  (try with_reducible rfl)
                                simp only [Act.put, List.setIfInBounds_toArray, List.set_cons_zero, List.set_cons_succ]
                                refine wpAnyH_take (i := 4) (v := ?_) (by simp only [List.getElem?_toArray, List.getElem?_cons_succ, List.getElem?_cons_zero]; rfl) (by kernel_rfl) (by kernel_rfl) (by kernel_rfl) (fun _ _ _ h => h) (Or.inl ⟨by rfl, ?_⟩) (by assumption) ?_
                                rotate_left
                                · intro w hSw
                                  (try dsimp only at hSw)
                                  go_simp
                                  (try with_reducible rfl)
                                simp only [Act.put, List.setIfInBounds_toArray, List.set_cons_zero, List.set_cons_succ]
                                refine wpAnyH_take (i := 6) (v := ?_) (by simp only [List.getElem?_toArray, List.getElem?_cons_succ, List.getElem?_cons_zero]; rfl) (by kernel_rfl) (by kernel_rfl) (by kernel_rfl) (fun _ _ _ h => h) (Or.inl ⟨by rfl, ?_⟩) (by assumption) ?_
                                rotate_left
                                · intro w hSw
                                  (try dsimp only at hSw)
                                  go_simp
                                  (try with_reducible rfl)
                                simp only [Act.put, List.setIfInBounds_toArray, List.set_cons_zero, List.set_cons_succ]
                                refine wpAnyH_take (i := 7) (v := ?_) (by simp only [List.getElem?_toArray, List.getElem?_cons_succ, List.getElem?_cons_zero]; rfl) (by kernel_rfl) (by kernel_rfl) (by kernel_rfl) (fun _ _ _ h => h) (Or.inl ⟨by rfl, ?_⟩) (by assumption) ?_
                                rotate_left
                                · intro w hSw
                                  (try dsimp only at hSw)
                                  go_simp
                                  (try with_reducible rfl)
                                simp only [Act.put, List.setIfInBounds_toArray, List.set_cons_zero, List.set_cons_succ]
                                refine wpAnyH_take (i := 8) (v := ?_) (by simp only [List.getElem?_toArray, List.getElem?_cons_succ, List.getElem?_cons_zero]; rfl) (by kernel_rfl) (by kernel_rfl) (by kernel_rfl) (fun _ _ _ h => h) (Or.inl ⟨by rfl, ?_⟩) (by assumption) ?_
                                rotate_left
                                · intro w hSw
                                  (try dsimp only at hSw)
                                  go_simp
                                  (try with_reducible rfl)
                                simp only [Act.put, List.setIfInBounds_toArray, List.set_cons_zero, List.set_cons_succ]
                                refine wpAnyH_take (i := 9) (v := ?_) (by simp only [List.getElem?_toArray, List.getElem?_cons_succ, List.getElem?_cons_zero]; rfl) (by kernel_rfl) (by kernel_rfl) (by kernel_rfl) (fun _ _ _ h => h) (Or.inl ⟨by rfl, ?_⟩) (by assumption) ?_
                                rotate_left
                                · intro w hSw
                                  (try dsimp only at hSw)
                                  go_simp
                                  (try with_reducible rfl)
                                simp only [Act.put, List.setIfInBounds_toArray, List.set_cons_zero, List.set_cons_succ]
                                refine wpAnyH_take (i := 10) (v := ?_) (by simp only [List.getElem?_toArray, List.getElem?_cons_succ, List.getElem?_cons_zero]; rfl) (by kernel_rfl) (by kernel_rfl) (by kernel_rfl) (fun _ _ _ h => h) (Or.inl ⟨by rfl, ?_⟩) (by assumption) ?_
                                rotate_left
                                · intro w hSw
                                  (try dsimp only at hSw)
                                  go_simp
                                  (try with_reducible rfl)
                                simp only [Act.put, List.setIfInBounds_toArray, List.set_cons_zero, List.set_cons_succ]
                                refine wpAnyH_ready (rs := [5]) (by kernel_rfl) (by simp) ?_
                                refine AllReadyH.cons (by simp only [List.getElem?_toArray, List.getElem?_cons_succ, List.getElem?_cons_zero]; rfl) (fun K hK => ?_) AllReadyH.nil
                                go_simp
                                go_at_call 16; with_reducible refine (HNm.out y HWy.out _).mono ?_
                                rintro e w1 ⟨rfl, kk⟩
                                try go_wp2_with fail
                                refine hK.out _ _ ?_ (fun hHeld2 => ?_)
                                · exact keepP11 pl eb eb eb eb eb eb eb eb eb eb hHeld kk
                                clear hK K hHeld
                                have hHeld := hHeld2
                                clear hHeld2
                                try simp only [Act.put, List.setIfInBounds_toArray, List.set_cons_zero, List.set_cons_succ]
                                refine wpAnyH_ready (rs := [11]) (by kernel_rfl) (by simp) ?_
                                refine AllReadyH.cons (by simp only [List.getElem?_toArray, List.getElem?_cons_succ, List.getElem?_cons_zero]; rfl) (fun K hK => ?_) AllReadyH.nil
                                go_simp
                                go_at_call 16; with_reducible refine (HNm.out x HWx.out _).mono ?_
                                rintro e w2 ⟨rfl, kk⟩
                                try go_wp2_with fail
                                refine hK.out _ _ ?_ (fun hHeld2 => ?_)
                                · exact keepP11 pl eb eb eb eb eb eb eb eb eb eb hHeld kk
                                clear hK K hHeld
                                have hHeld := hHeld2
                                clear hHeld2
                                try simp only [Act.put, List.setIfInBounds_toArray, List.set_cons_zero, List.set_cons_succ]
                                refine wpAnyH_take (i := 12) (v := ?_) (by simp only [List.getElem?_toArray, List.getElem?_cons_succ, List.getElem?_cons_zero]; rfl) (by kernel_rfl) (by kernel_rfl) (by kernel_rfl) (fun _ _ _ h => h) (Or.inl ⟨by rfl, ?_⟩) (by assumption) ?_
                                rotate_left
                                · intro w hSw
                                  (try dsimp only at hSw)
                                  go_simp
                                  (try with_reducible rfl)
                                simp only [Act.put, List.setIfInBounds_toArray, List.set_cons_zero, List.set_cons_succ]
                                try simp only [hst]
                                refine wpAnyH_done (by kernel_rfl) ?_ _
                                refine NoPanic.normal ?_
                                have k := hHeld.2.2.2.2.2.2.2.2.2.2.2
                                clear hHeld
                                have KB41 := Lib.hid (KBi.out.trans k)
                                clear k
                                go_wp2_with fail
                                go_roundw
                                case rel => exact ⟨n + 1, by omega, by go_num, HN2, KB41.out⟩
                                case measure => simp [intOf]; omega
                            · have hnj : n = j := by omega
                              subst hnj
                              have HOk2 := Lib.hid (HSt.out (fun t ht => (by cases ht)) HAp.out)
                              go_wp2_with fail
                              go_roundw
                              case rel => exact ⟨n + 1, by omega, by go_num, HOk2, KBi.out⟩
                              case measure => simp [intOf]; omega
                        · have hjl : j = jb.length := by omega
                          subst hjl
                          have HOkA := Lib.hid (show OkTo N (none) jb jb.length from HOk.out)
                          clear HOk
                          have p0 : wr.cell? ⟨z20, 0, none⟩ = some (.slice A jb.length c) := (HJ.out.kept KB17.out).cell
                          have pl := (HJ.out.kept KB17.out).lt
                          obtain ⟨lt1, lt2⟩ := HLt.out N HNe.out (by rw [← HJb.out]; exact HOkA.out)
                          have x0 : wr.cell? ⟨z12, 0, none⟩ = some (.slice A1 xb.length c1) := (H12.out.kept KB17.out).cell
                          have x1 : wr.cell? ⟨z12, 1, none⟩ = some (.slice B1 xv.length d1) := (H12.out.kept KB17.out).cell
                          have xl := (H12.out.kept KB17.out).lt
                          have y0 : wr.cell? ⟨z15, 0, none⟩ = some (.slice A2 zb.length c2) := (H15.out.kept KB17.out).cell
                          have y1 : wr.cell? ⟨z15, 1, none⟩ = some (.slice B2 zv.length d2) := (H15.out.kept KB17.out).cell
                          have yl := (H15.out.kept KB17.out).lt
                          have ej1 := joinL_sub lt1
                          have ej2 := joinL_sub lt2
                          have HEj := Lib.hid (⟨ej1, ej2⟩ : _ ∧ _)
                          clear ej1 ej2 lt1 lt2
                          go_wp2_with fail
                          clear p0 pl
                          refine (viewJoin_any A2 c2 zb B2 d2 zv A1 c1 xb B1 d1 xv wr (by omega) (by omega) (by omega) (by omega) g21 g22 g11 g12 HW3.out HW4.out HW1.out HW2.out (fun x hx => (HZ.out.wb x hx).elim (lh6 x) (mh6 x)) (fun x hx => (HX.out.wb x hx).elim (lh6 x) (mh6 x)) (HA2.out.kept KB17.out) (HB2_.out.kept KB17.out) (HA1.out.kept KB17.out) (HB1_.out.kept KB17.out)).mono ?_
                          rintro e W18 ⟨A3, c3, B3, d3, rfl, i1, i2, hi1, hi2, k⟩
                          have KB18 := Lib.hid (KB17.out.trans k)
                          clear k
                          rw [show (joinW ⟨zb, zv⟩ ⟨xb, xv⟩).b = zb from HEj.out.1, show (joinW ⟨zb, zv⟩ ⟨xb, xv⟩).v = zv from HEj.out.2]
                          clear hi1 hi2 i1 i2 x0 x1 xl y0 y1 yl
                          have y0 : W18.cell? ⟨z15, 0, none⟩ = some (.slice A2 zb.length c2) := (H15.out.kept KB18.out).cell
                          have y1 : W18.cell? ⟨z15, 1, none⟩ = some (.slice B2 zv.length d2) := (H15.out.kept KB18.out).cell
                          have yl := (H15.out.kept KB18.out).lt
                          have kz := Lib.hid ((Kept.refl W18).alloc (.cells #[.slice A3 zb.length c3, .slice B3 zv.length d3] 29))
                          go_wp2_with fail
                          go_ret
                          exact ⟨by first | rfl | (simp; done), K0.out.trans (KB18.out.trans kz.out)⟩

/-! ### The walk: the call returns true, and of what was there nothing has changed. -/
set_option maxRecDepth 100000 in
set_option maxHeartbeats 12800000 in
theorem walk (w : World) (kA : Option Addr) (kc : Nat) (k : Cf) (khm : k.ws.length ≤ maxLen) (khs : k.seed < 18446744073709551616) (khl : CellsAt w w.heap.size kA (intCells k.ws)) (lA : Option Addr) (lc : Nat) (l : List Bk) (vA : Option Addr) (vc : Nat) (v : List Vt) (lhm : l.length ≤ maxLen) (lhc : l.length ≤ lc) (lhw : WfL l) (lh6 : Wf64L l) (lhl : CellsAt w w.heap.size lA (blockCells l)) (vhm : v.length ≤ maxLen) (vhc : v.length ≤ vc) (vhw : WfVs v) (vhl : CellsAt w w.heap.size vA (votesCells v)) (mA : Option Addr) (mc : Nat) (m : List Bk) (uA : Option Addr) (uc : Nat) (u : List Vt) (mhm : m.length ≤ maxLen) (mhc : m.length ≤ mc) (mhw : WfL m) (mh6 : Wf64L m) (mhl : CellsAt w w.heap.size mA (blockCells m)) (uhm : u.length ≤ maxLen) (uhc : u.length ≤ uc) (uhw : WfVs u) (uhl : CellsAt w w.heap.size uA (votesCells u)) (slot : Int) (hslot1 : -9223372036854775808 ≤ slot) (hslot2 : slot ≤ 9223372036854775807) :
    Calls Try.prog 8 #[.agg #[.slice kA k.ws.length kc, .int .u64 k.seed, .int .i64 k.ep, .int .i64 k.nu, .int .i64 k.de], .agg #[.slice lA l.length lc, .slice vA v.length vc], .agg #[.slice mA m.length mc, .slice uA u.length uc], .int .i64 slot] w fun e w' => e = .returned (.bool true) ∧ Kept w w' := by
  exact walk_of w kA kc k khm khs khl lA lc l vA vc v lhm lhc lhw lh6 lhl vhm vhc vhw vhl mA mc m uA uc u mhm mhc mhw mh6 mhl uhm uhc uhw uhl slot hslot1 hslot2 nameB rfl fun b hb w => name_any b hb w

/-! ### The row's step -/
set_option maxRecDepth 100000 in
theorem lifted (os : Os) (started : os.Started) (H : Type) (enc : TypeId × Value → H) :
    ReturnsInHanded {} Try.checked os 8 .any (Rows.viewEarlySpec.pre6 enc Try.prog Try.f8 Rows.viewEarlyRow.domain false) (Rows.viewEarlySpec.post enc Try.prog Try.f8 false true false false) := by
  refine returnsInHanded_of_change (C := Try.checked) own started (by kernel_rfl) Try.func8
    (ChangeSpec.witness6 (enc := enc) (C := Try.checked) false ⟨#[], #[.agg #[.slice none 0 0, .int .u64 0, .int .i64 0, .int .i64 0, .int .i64 0], .agg #[.slice none 0 0, .slice none 0 0], .agg #[.slice none 0 0, .slice none 0 0], .int .i64 0], []⟩ 8 (by kernel_rfl) (by kernel_rfl) (by kernel_rfl) (by kernel_rfl)) ?_
  intro W base args ds gs before hval0 hW hcnd _
  have hval : ∀ (j : Nat) t v, Try.f8.params[j]? = some t → args[j]? = some v → Value.okWide Try.prog W .any base t v := hval0
  have hW' := hW
  obtain ⟨p, q, hA0, hV, rfl, hfz, hnd⟩ := hW
  have hA : DataW.TrodAll enc Try.prog W 0 (fun _ => true) true Try.f8.params.toList args.toList ds p := hA0
  rw [Try.params8] at hA hval
  obtain ⟨v0, vs0, d0, ds0, p0, q0, hargs, rfl, rfl, h0, r0⟩ := trodAll_cons hA
  obtain ⟨v1, vs1, d1, ds1, p1, q1, rfl, rfl, rfl, h1, r1⟩ := trodAll_cons r0
  obtain ⟨v2, vs2, d2, ds2, p2, q2, rfl, rfl, rfl, h2, r2⟩ := trodAll_cons r1
  obtain ⟨v3, vs3, d3, ds3, p3, q3, rfl, rfl, rfl, h3, r3⟩ := trodAll_cons r2
  obtain ⟨rfl, rfl, rfl⟩ := trodAll_nil r3
  obtain rfl : args = #[v0, v1, v2, v3] := by cases args; simp_all
  obtain ⟨rfl, rfl⟩ := trodVars_none hV
  obtain ⟨kA, kc, k, rfl, khm, khs, khl⟩ := open_conf (hval 0 _ v0 rfl rfl) h0
  obtain ⟨lA, lc, l, vA, vc, v, rfl, lhm, lhc, ⟨lhw, lh6⟩, lhl, vhm, vhc, vhw, vhl⟩ := open_view64 (hval 1 _ v1 rfl rfl) h1
  obtain ⟨mA, mc, m, uA, uc, u, rfl, mhm, mhc, ⟨mhw, mh6⟩, mhl, uhm, uhc, uhw, uhl⟩ := open_view64 (hval 2 _ v2 rfl rfl) h2
  obtain ⟨slot, rfl, hslot1, hslot2⟩ := open_num (hval 3 _ v3 rfl rfl) h3
  clear hA0 hval0
  refine (walk W kA kc k khm khs khl lA lc l vA vc v lhm lhc lhw lh6 lhl vhm vhc vhw vhl mA mc m uA uc u mhm mhc mhw mh6 mhl uhm uhc uhw uhl slot hslot1 hslot2).mono fun e W' ⟨he, hb⟩ => ?_
  subst he
  exact ⟨_, rfl, law_post rfl (by kernel_rfl) rfl hW' rfl hb⟩

theorem over : Rows.viewEarlyRow.holds Try.pinned (OpenSpec.ofChange Rows.viewEarlySpec) :=
  OpenClaim.holds_of_wide 8 Try.f8 rfl rfl rfl rfl rfl rfl rfl ⟨rfl, rfl, rfl, rfl, rfl⟩ rfl rfl rfl rfl rfl (by kernel_rfl) Try.func8 (by kernel_rfl)
    (of_decide_eq_true (by kernel_rfl)) (by unfold Func.isWrapper; first | (rw [if_pos (by decide +kernel)]; kernel_rfl) | (rw [if_neg (by decide +kernel)]; exact ⟨rfl, rfl⟩))
    (fun os started H enc _ => lifted os started H enc)

/-- The statement. -/
theorem proved : Rows.ViewEarlySaid :=
  over
#print axioms proved

end Go.Proofs.Ytacdiicnfoejoaa.viewEarly
