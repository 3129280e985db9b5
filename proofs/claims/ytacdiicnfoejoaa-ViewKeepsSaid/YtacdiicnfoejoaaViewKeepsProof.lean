/-
  Law ViewKeeps of layer 16: a view that may be stays so, whatever comes; it begins by what it was; what is left was there, and cannot be counted now, whatever conf, two views and slot.
-/
import Derived.Test.YtacdiicnfoejoaaViewUse
import Derived.Test.YtacdiicnfoejoaaView
import Derived.Test.YtacdiicnfoejoaaViewAwake
import Derived.Test.YtacdiicnfoejoaaViewOpen64
import Derived.Test.YtacdiicnfoejoaaMixG
import Derived.Test.YtacdiicnfoejoaaGround
import Derived.Test.YtacdiicnfoejoaaVoteG
import Derived.Test.YtacdiicnfoejoaaDutyG
import Derived.Test.YtacdiicnfoejoaaViewRefOnly
namespace Go.Proofs.Ytacdiicnfoejoaa.viewKeeps
set_option maxRecDepth 100000
set_option linter.unusedVariables false
set_option linter.unusedSimpArgs false
open Go.ChangeShapes Go.WideShapes Go.ChangeAt Go.RowKit
set_option linter.unusedVariables false

theorem take_left_len {k : Cf} {w i : Vw} {upto : Int} : (takeC k w i upto).i.b.length ≤ i.b.length ∧ (takeC k w i upto).i.v.length ≤ i.v.length := by
  unfold takeC
  split
  · refine takeN_inv (P := fun s => s.i.b.length ≤ i.b.length ∧ s.i.v.length ≤ i.v.length) (fun s ⟨h1, h2⟩ => ?_) _ _ ⟨List.length_filter_le _ _, List.length_filter_le _ _⟩
    have p1 := pass_count (lost := lostB) (pend := pendB upto) (cap := 60) s.w.b s.full s.i.b
    have p2 := pass_count (lost := lostV (passB upto s).w) (pend := pendV (passB upto s).w upto) (cap := 240) s.w.v (passB upto s).full s.i.v
    have q1 : s.w.b.length ≤ (passB upto s).w.length := by
      cases h : (passB upto s).any with
      | false => exact Nat.le_of_eq (congrArg List.length (p1.2.1 h).symm)
      | true => exact Nat.le_of_lt (p1.2.2 h)
    have q2 : s.w.v.length ≤ (passV upto s).w.length := by
      cases h : (passV upto s).any with
      | false => exact Nat.le_of_eq (congrArg List.length (p2.2.1 h).symm)
      | true => exact Nat.le_of_lt (p2.2.2 h)
    have r1 : (passB upto s).left.length + (passB upto s).w.length ≤ s.i.b.length + s.w.b.length := p1.1
    have r2 : (passV upto s).left.length + (passV upto s).w.length ≤ s.i.v.length + s.w.v.length := p2.1
    exact ⟨by show (passB upto s).left.length ≤ _; omega, by show (passV upto s).left.length ≤ _; omega⟩
  · exact ⟨Nat.le_refl _, Nat.le_refl _⟩
/-- What is so of what Take tells. -/
structure TakeF (k : Cf) (w i : Vw) (upto : Int) (t : TSt) : Prop where
  may : mayW k t.w = true
  lb : t.w.b.length ≤ 60
  lv : t.w.v.length ≤ 240
  yb : t.i.b.length ≤ i.b.length
  yv : t.i.v.length ≤ i.v.length
  tb : t.w.b.take w.b.length = w.b
  tv : t.w.v.take w.v.length = w.v
  gb : w.b.length ≤ t.w.b.length
  gv : w.v.length ≤ t.w.v.length
  wb : ∀ x ∈ t.w.b, x ∈ w.b ∨ x ∈ i.b
  wv : ∀ x ∈ t.w.v, x ∈ w.v ∨ x ∈ i.v
  ib : ∀ x ∈ t.i.b, x ∈ i.b
  iv : ∀ x ∈ t.i.v, x ∈ i.v
  again : t.full = false → takeC k t.w t.i upto = ⟨t.w, t.i, false⟩
theorem take_facts {k : Cf} {w i : Vw} {upto : Int} (hm : mayW k w = true) : TakeF k w i upto (takeC k w i upto) := by
  have h := take_inv (i := i) (upto := upto) hm
  have hv := take_left_valid (i := i) (upto := upto) hm
  have hl := take_left_len (k := k) (w := w) (i := i) (upto := upto)
  obtain ⟨n, e, hn⟩ := h.blocks
  obtain ⟨p, f, hp⟩ := h.votes
  refine ⟨take_may hm, h.lenb, h.lenv, hl.1, hl.2, by rw [e, List.take_left], by rw [f, List.take_left], by rw [e, List.length_append]; omega, by rw [f, List.length_append]; omega, fun x hx => ?_, fun x hx => ?_, fun x hx => (hv.1 x hx).1, fun x hx => (hv.2 x hx).1, fun hf => take_again hm hf⟩
  · rw [e] at hx
    exact (List.mem_append.1 hx).imp id fun q => (only_b.1 (hn x q).1).1
  · rw [f] at hx
    exact (List.mem_append.1 hx).imp id fun q => (only_v.1 (hp x q).1).1

/-! ### The walk: the call returns true, and of what was there nothing has changed. -/
set_option maxRecDepth 100000 in
set_option maxHeartbeats 12800000 in
theorem walk (w : World) (kA : Option Addr) (kc : Nat) (k : Cf) (khm : k.ws.length ≤ maxLen) (khs : k.seed < 18446744073709551616) (khl : CellsAt w w.heap.size kA (intCells k.ws)) (lA : Option Addr) (lc : Nat) (l : List Bk) (vA : Option Addr) (vc : Nat) (v : List Vt) (lhm : l.length ≤ maxLen) (lhc : l.length ≤ lc) (lhw : WfL l) (lh6 : Wf64L l) (lhl : CellsAt w w.heap.size lA (blockCells l)) (vhm : v.length ≤ maxLen) (vhc : v.length ≤ vc) (vhw : WfVs v) (vhl : CellsAt w w.heap.size vA (votesCells v)) (mA : Option Addr) (mc : Nat) (m : List Bk) (uA : Option Addr) (uc : Nat) (u : List Vt) (mhm : m.length ≤ maxLen) (mhc : m.length ≤ mc) (mhw : WfL m) (mh6 : Wf64L m) (mhl : CellsAt w w.heap.size mA (blockCells m)) (uhm : u.length ≤ maxLen) (uhc : u.length ≤ uc) (uhw : WfVs u) (uhl : CellsAt w w.heap.size uA (votesCells u)) (slot : Int) (hslot1 : -9223372036854775808 ≤ slot) (hslot2 : slot ≤ 9223372036854775807) :
    Calls Try.prog 3 #[.agg #[.slice kA k.ws.length kc, .int .u64 k.seed, .int .i64 k.ep, .int .i64 k.nu, .int .i64 k.de], .agg #[.slice lA l.length lc, .slice vA v.length vc], .agg #[.slice mA m.length mc, .slice uA u.length uc], .int .i64 slot] w fun e w' => e = .returned (.bool true) ∧ Kept w w' := by
  cases hf0 : few16C l v 40 with
  | false =>
    go_enter Try.func3, Try.ntmps3
    go_wp2_with fail
    have K0 := Lib.hid ((((Kept.refl w).alloc (.cells #[.slice kA k.ws.length kc, .int .u64 k.seed, .int .i64 k.ep, .int .i64 k.nu, .int .i64 k.de] 25)).alloc (.cells #[.slice lA l.length lc, .slice vA v.length vc] 29)).alloc (.cells #[.slice mA m.length mc, .slice uA u.length uc] 29))
    have HA := Lib.hid (khl.kept K0.out)
    clear khl
    have HL := Lib.hid (lhl.kept K0.out)
    clear lhl
    have HV := Lib.hid (vhl.kept K0.out)
    clear vhl
    have HM := Lib.hid (mhl.kept K0.out)
    clear mhl
    have HU := Lib.hid (uhl.kept K0.out)
    clear uhl
    have HB0 := Lib.hid (((HasCells.new w #[.slice kA k.ws.length kc, .int .u64 k.seed, .int .i64 k.ep, .int .i64 k.nu, .int .i64 k.de] 25 (w.heap.size) (by simp)).alloc (.cells #[.slice lA l.length lc, .slice vA v.length vc] 29)).alloc (.cells #[.slice mA m.length mc, .slice uA u.length uc] 29))
    have HB1 := Lib.hid ((HasCells.new (w.alloc (.cells #[.slice kA k.ws.length kc, .int .u64 k.seed, .int .i64 k.ep, .int .i64 k.nu, .int .i64 k.de] 25)) #[.slice lA l.length lc, .slice vA v.length vc] 29 (w.heap.size + 1) (by simp)).alloc (.cells #[.slice mA m.length mc, .slice uA u.length uc] 29))
    have HB2 := Lib.hid (HasCells.new ((w.alloc (.cells #[.slice kA k.ws.length kc, .int .u64 k.seed, .int .i64 k.ep, .int .i64 k.nu, .int .i64 k.de] 25)).alloc (.cells #[.slice lA l.length lc, .slice vA v.length vc] 29)) #[.slice mA m.length mc, .slice uA u.length uc] 29 (w.heap.size + 1 + 1) (by simp))
    generalize (((w.alloc (.cells #[.slice kA k.ws.length kc, .int .u64 k.seed, .int .i64 k.ep, .int .i64 k.nu, .int .i64 k.de] 25)).alloc (.cells #[.slice lA l.length lc, .slice vA v.length vc] 29)).alloc (.cells #[.slice mA m.length mc, .slice uA u.length uc] 29)) = W0 at *
    generalize w.heap.size + 1 + 1 = z2 at *
    generalize w.heap.size + 1 = z1 at *
    generalize w.heap.size = z0 at *
    have KB0 := Lib.hid (Kept.refl W0)
    refine (awake16 W0).mono ?_
    rintro e W1 ⟨rfl, k⟩
    have KB1 := Lib.hid (KB0.out.trans k)
    clear k
    obtain ⟨b00, b01, b02, b03, b04⟩ := (HB0.out.kept KB1.out).five
    have bz0 := (HB0.out.kept KB1.out).1
    obtain ⟨b10, b11⟩ := (HB1.out.kept KB1.out).two
    have bz1 := (HB1.out.kept KB1.out).1
    obtain ⟨b20, b21⟩ := (HB2.out.kept KB1.out).two
    have bz2 := (HB2.out.kept KB1.out).1
    go_wp2_with fail
    clear b00 b01 b02 b03 b04 bz0 b10 b11 bz1 b20 b21 bz2
    refine (few16_any lA lc l vA vc v 40 W1).mono ?_
    rintro e W2 ⟨rfl, k⟩
    have KB2 := Lib.hid (KB1.out.trans k)
    clear k
    rw [hf0]
    obtain ⟨b00, b01, b02, b03, b04⟩ := (HB0.out.kept KB2.out).five
    have bz0 := (HB0.out.kept KB2.out).1
    obtain ⟨b10, b11⟩ := (HB1.out.kept KB2.out).two
    have bz1 := (HB1.out.kept KB2.out).1
    obtain ⟨b20, b21⟩ := (HB2.out.kept KB2.out).two
    have bz2 := (HB2.out.kept KB2.out).1
    go_wp2_with fail
    clear b00 b01 b02 b03 b04 bz0 b10 b11 bz1 b20 b21 bz2
    refine (few16_any mA mc m uA uc u 40 W2).mono ?_
    rintro e W3 ⟨rfl, k⟩
    have KB3 := Lib.hid (KB2.out.trans k)
    clear k
    obtain ⟨b00, b01, b02, b03, b04⟩ := (HB0.out.kept KB3.out).five
    have bz0 := (HB0.out.kept KB3.out).1
    obtain ⟨b10, b11⟩ := (HB1.out.kept KB3.out).two
    have bz1 := (HB1.out.kept KB3.out).1
    obtain ⟨b20, b21⟩ := (HB2.out.kept KB3.out).two
    have bz2 := (HB2.out.kept KB3.out).1
    go_wp2_with fail
    clear b00 b01 b02 b03 b04 bz0 b10 b11 bz1 b20 b21 bz2
    go_ret
    exact ⟨by first | rfl | (simp; done), K0.out.trans KB3.out⟩
  | true =>
    have F0 := Lib.hid hf0
    clear hf0
    cases hf1 : few16C m u 40 with
    | false =>
      go_enter Try.func3, Try.ntmps3
      go_wp2_with fail
      have K0 := Lib.hid ((((Kept.refl w).alloc (.cells #[.slice kA k.ws.length kc, .int .u64 k.seed, .int .i64 k.ep, .int .i64 k.nu, .int .i64 k.de] 25)).alloc (.cells #[.slice lA l.length lc, .slice vA v.length vc] 29)).alloc (.cells #[.slice mA m.length mc, .slice uA u.length uc] 29))
      have HA := Lib.hid (khl.kept K0.out)
      clear khl
      have HL := Lib.hid (lhl.kept K0.out)
      clear lhl
      have HV := Lib.hid (vhl.kept K0.out)
      clear vhl
      have HM := Lib.hid (mhl.kept K0.out)
      clear mhl
      have HU := Lib.hid (uhl.kept K0.out)
      clear uhl
      have HB0 := Lib.hid (((HasCells.new w #[.slice kA k.ws.length kc, .int .u64 k.seed, .int .i64 k.ep, .int .i64 k.nu, .int .i64 k.de] 25 (w.heap.size) (by simp)).alloc (.cells #[.slice lA l.length lc, .slice vA v.length vc] 29)).alloc (.cells #[.slice mA m.length mc, .slice uA u.length uc] 29))
      have HB1 := Lib.hid ((HasCells.new (w.alloc (.cells #[.slice kA k.ws.length kc, .int .u64 k.seed, .int .i64 k.ep, .int .i64 k.nu, .int .i64 k.de] 25)) #[.slice lA l.length lc, .slice vA v.length vc] 29 (w.heap.size + 1) (by simp)).alloc (.cells #[.slice mA m.length mc, .slice uA u.length uc] 29))
      have HB2 := Lib.hid (HasCells.new ((w.alloc (.cells #[.slice kA k.ws.length kc, .int .u64 k.seed, .int .i64 k.ep, .int .i64 k.nu, .int .i64 k.de] 25)).alloc (.cells #[.slice lA l.length lc, .slice vA v.length vc] 29)) #[.slice mA m.length mc, .slice uA u.length uc] 29 (w.heap.size + 1 + 1) (by simp))
      generalize (((w.alloc (.cells #[.slice kA k.ws.length kc, .int .u64 k.seed, .int .i64 k.ep, .int .i64 k.nu, .int .i64 k.de] 25)).alloc (.cells #[.slice lA l.length lc, .slice vA v.length vc] 29)).alloc (.cells #[.slice mA m.length mc, .slice uA u.length uc] 29)) = W0 at *
      generalize w.heap.size + 1 + 1 = z2 at *
      generalize w.heap.size + 1 = z1 at *
      generalize w.heap.size = z0 at *
      have KB0 := Lib.hid (Kept.refl W0)
      refine (awake16 W0).mono ?_
      rintro e W1 ⟨rfl, k⟩
      have KB1 := Lib.hid (KB0.out.trans k)
      clear k
      obtain ⟨b00, b01, b02, b03, b04⟩ := (HB0.out.kept KB1.out).five
      have bz0 := (HB0.out.kept KB1.out).1
      obtain ⟨b10, b11⟩ := (HB1.out.kept KB1.out).two
      have bz1 := (HB1.out.kept KB1.out).1
      obtain ⟨b20, b21⟩ := (HB2.out.kept KB1.out).two
      have bz2 := (HB2.out.kept KB1.out).1
      go_wp2_with fail
      clear b00 b01 b02 b03 b04 bz0 b10 b11 bz1 b20 b21 bz2
      refine (few16_any lA lc l vA vc v 40 W1).mono ?_
      rintro e W2 ⟨rfl, k⟩
      have KB2 := Lib.hid (KB1.out.trans k)
      clear k
      rw [F0.out]
      obtain ⟨b00, b01, b02, b03, b04⟩ := (HB0.out.kept KB2.out).five
      have bz0 := (HB0.out.kept KB2.out).1
      obtain ⟨b10, b11⟩ := (HB1.out.kept KB2.out).two
      have bz1 := (HB1.out.kept KB2.out).1
      obtain ⟨b20, b21⟩ := (HB2.out.kept KB2.out).two
      have bz2 := (HB2.out.kept KB2.out).1
      go_wp2_with fail
      clear b00 b01 b02 b03 b04 bz0 b10 b11 bz1 b20 b21 bz2
      refine (few16_any mA mc m uA uc u 40 W2).mono ?_
      rintro e W3 ⟨rfl, k⟩
      have KB3 := Lib.hid (KB2.out.trans k)
      clear k
      rw [hf1]
      obtain ⟨b00, b01, b02, b03, b04⟩ := (HB0.out.kept KB3.out).five
      have bz0 := (HB0.out.kept KB3.out).1
      obtain ⟨b10, b11⟩ := (HB1.out.kept KB3.out).two
      have bz1 := (HB1.out.kept KB3.out).1
      obtain ⟨b20, b21⟩ := (HB2.out.kept KB3.out).two
      have bz2 := (HB2.out.kept KB3.out).1
      go_wp2_with fail
      clear b00 b01 b02 b03 b04 bz0 b10 b11 bz1 b20 b21 bz2
      go_ret
      exact ⟨by first | rfl | (simp; done), K0.out.trans KB3.out⟩
    | true =>
      have F1 := Lib.hid hf1
      clear hf1
      go_enter Try.func3, Try.ntmps3
      go_wp2_with fail
      have K0 := Lib.hid ((((Kept.refl w).alloc (.cells #[.slice kA k.ws.length kc, .int .u64 k.seed, .int .i64 k.ep, .int .i64 k.nu, .int .i64 k.de] 25)).alloc (.cells #[.slice lA l.length lc, .slice vA v.length vc] 29)).alloc (.cells #[.slice mA m.length mc, .slice uA u.length uc] 29))
      have HA := Lib.hid (khl.kept K0.out)
      clear khl
      have HL := Lib.hid (lhl.kept K0.out)
      clear lhl
      have HV := Lib.hid (vhl.kept K0.out)
      clear vhl
      have HM := Lib.hid (mhl.kept K0.out)
      clear mhl
      have HU := Lib.hid (uhl.kept K0.out)
      clear uhl
      have HB0 := Lib.hid (((HasCells.new w #[.slice kA k.ws.length kc, .int .u64 k.seed, .int .i64 k.ep, .int .i64 k.nu, .int .i64 k.de] 25 (w.heap.size) (by simp)).alloc (.cells #[.slice lA l.length lc, .slice vA v.length vc] 29)).alloc (.cells #[.slice mA m.length mc, .slice uA u.length uc] 29))
      have HB1 := Lib.hid ((HasCells.new (w.alloc (.cells #[.slice kA k.ws.length kc, .int .u64 k.seed, .int .i64 k.ep, .int .i64 k.nu, .int .i64 k.de] 25)) #[.slice lA l.length lc, .slice vA v.length vc] 29 (w.heap.size + 1) (by simp)).alloc (.cells #[.slice mA m.length mc, .slice uA u.length uc] 29))
      have HB2 := Lib.hid (HasCells.new ((w.alloc (.cells #[.slice kA k.ws.length kc, .int .u64 k.seed, .int .i64 k.ep, .int .i64 k.nu, .int .i64 k.de] 25)).alloc (.cells #[.slice lA l.length lc, .slice vA v.length vc] 29)) #[.slice mA m.length mc, .slice uA u.length uc] 29 (w.heap.size + 1 + 1) (by simp))
      generalize (((w.alloc (.cells #[.slice kA k.ws.length kc, .int .u64 k.seed, .int .i64 k.ep, .int .i64 k.nu, .int .i64 k.de] 25)).alloc (.cells #[.slice lA l.length lc, .slice vA v.length vc] 29)).alloc (.cells #[.slice mA m.length mc, .slice uA u.length uc] 29)) = W0 at *
      generalize w.heap.size + 1 + 1 = z2 at *
      generalize w.heap.size + 1 = z1 at *
      generalize w.heap.size = z0 at *
      have KB0 := Lib.hid (Kept.refl W0)
      refine (awake16 W0).mono ?_
      rintro e W1 ⟨rfl, k⟩
      have KB1 := Lib.hid (KB0.out.trans k)
      clear k
      obtain ⟨b00, b01, b02, b03, b04⟩ := (HB0.out.kept KB1.out).five
      have bz0 := (HB0.out.kept KB1.out).1
      obtain ⟨b10, b11⟩ := (HB1.out.kept KB1.out).two
      have bz1 := (HB1.out.kept KB1.out).1
      obtain ⟨b20, b21⟩ := (HB2.out.kept KB1.out).two
      have bz2 := (HB2.out.kept KB1.out).1
      go_wp2_with fail
      clear b00 b01 b02 b03 b04 bz0 b10 b11 bz1 b20 b21 bz2
      refine (few16_any lA lc l vA vc v 40 W1).mono ?_
      rintro e W2 ⟨rfl, k⟩
      have KB2 := Lib.hid (KB1.out.trans k)
      clear k
      rw [F0.out]
      obtain ⟨b00, b01, b02, b03, b04⟩ := (HB0.out.kept KB2.out).five
      have bz0 := (HB0.out.kept KB2.out).1
      obtain ⟨b10, b11⟩ := (HB1.out.kept KB2.out).two
      have bz1 := (HB1.out.kept KB2.out).1
      obtain ⟨b20, b21⟩ := (HB2.out.kept KB2.out).two
      have bz2 := (HB2.out.kept KB2.out).1
      go_wp2_with fail
      clear b00 b01 b02 b03 b04 bz0 b10 b11 bz1 b20 b21 bz2
      refine (few16_any mA mc m uA uc u 40 W2).mono ?_
      rintro e W3 ⟨rfl, k⟩
      have KB3 := Lib.hid (KB2.out.trans k)
      clear k
      rw [F1.out]
      obtain ⟨hl40, hv40⟩ := few16_yes (n := 40) F0.out
      obtain ⟨hm40, hu40⟩ := few16_yes (n := 40) F1.out
      by_cases hw : (40 : Int) < (k.ws.length : Int)
      · have g40 : decide ((40 : Int) < (k.ws.length : Int)) = true := decide_eq_true hw
        obtain ⟨b00, b01, b02, b03, b04⟩ := (HB0.out.kept KB3.out).five
        have bz0 := (HB0.out.kept KB3.out).1
        obtain ⟨b10, b11⟩ := (HB1.out.kept KB3.out).two
        have bz1 := (HB1.out.kept KB3.out).1
        obtain ⟨b20, b21⟩ := (HB2.out.kept KB3.out).two
        have bz2 := (HB2.out.kept KB3.out).1
        go_wp2_with fail
        clear b00 b01 b02 b03 b04 bz0 b10 b11 bz1 b20 b21 bz2
        go_ret
        exact ⟨by first | rfl | (simp; done), K0.out.trans KB3.out⟩
      · have g40 : decide ((40 : Int) < (k.ws.length : Int)) = false := decide_eq_false hw
        have hk1 : k.ws.length ≤ 1000 := by omega
        obtain ⟨b00, b01, b02, b03, b04⟩ := (HB0.out.kept KB3.out).five
        have bz0 := (HB0.out.kept KB3.out).1
        obtain ⟨b10, b11⟩ := (HB1.out.kept KB3.out).two
        have bz1 := (HB1.out.kept KB3.out).1
        obtain ⟨b20, b21⟩ := (HB2.out.kept KB3.out).two
        have bz2 := (HB2.out.kept KB3.out).1
        go_wp2_with fail
        clear b00 b01 b02 b03 b04 bz0 b10 b11 bz1 b20 b21 bz2
        refine (viewMay_any kA kc k lA lc l vA vc v W3 hk1 khs (by omega) (by omega) lhc vhc lhw vhw (HA.out.kept KB3.out) (HL.out.kept KB3.out) (HV.out.kept KB3.out)).mono ?_
        rintro e W4 ⟨rfl, k⟩
        have KB4 := Lib.hid (KB3.out.trans k)
        clear k
        cases hm : mayW k ⟨l, v⟩ with
        | false =>
          obtain ⟨b00, b01, b02, b03, b04⟩ := (HB0.out.kept KB4.out).five
          have bz0 := (HB0.out.kept KB4.out).1
          obtain ⟨b10, b11⟩ := (HB1.out.kept KB4.out).two
          have bz1 := (HB1.out.kept KB4.out).1
          obtain ⟨b20, b21⟩ := (HB2.out.kept KB4.out).two
          have bz2 := (HB2.out.kept KB4.out).1
          go_wp2_with fail
          clear b00 b01 b02 b03 b04 bz0 b10 b11 bz1 b20 b21 bz2
          go_ret
          exact ⟨by first | rfl | (simp; done), K0.out.trans KB4.out⟩
        | true =>
          have HMay := Lib.hid hm
          obtain ⟨b00, b01, b02, b03, b04⟩ := (HB0.out.kept KB4.out).five
          have bz0 := (HB0.out.kept KB4.out).1
          obtain ⟨b10, b11⟩ := (HB1.out.kept KB4.out).two
          have bz1 := (HB1.out.kept KB4.out).1
          obtain ⟨b20, b21⟩ := (HB2.out.kept KB4.out).two
          have bz2 := (HB2.out.kept KB4.out).1
          go_wp2_with fail
          clear b00 b01 b02 b03 b04 bz0 b10 b11 bz1 b20 b21 bz2
          clear g40
          refine (viewTake_any kA kc k lA lc l vA vc v mA mc m uA uc u slot W4 hk1 khs (by omega) (by omega) (by omega) (by omega) lhc vhc mhc uhc lhw vhw mhw uhw (HA.out.kept KB4.out) (HL.out.kept KB4.out) (HV.out.kept KB4.out) (HM.out.kept KB4.out) (HU.out.kept KB4.out)).mono ?_
          rintro e W5 ⟨A1, c1, B1, d1, C1, a1, D1, b1, rfl, h1, h2, h3, h4, hA1, hB1, hC1, hD1, k⟩
          have KB5 := Lib.hid (KB4.out.trans k)
          clear k
          have HX := Lib.hid (take_facts (i := ⟨m, u⟩) (upto := slot) hm)
          clear hm
          generalize takeC k ⟨l, v⟩ ⟨m, u⟩ slot = t at *
          obtain ⟨⟨xb, xv⟩, ⟨yb, yv⟩, fu⟩ := t
          simp only at h1 h2 h3 h4 hA1 hB1 hC1 hD1 HX
          dsimp only
          have HA1 := Lib.hid hA1
          have HB1_ := Lib.hid hB1
          have HC1 := Lib.hid hC1
          have HD1 := Lib.hid hD1
          clear hA1 hB1 hC1 hD1
          obtain ⟨b00, b01, b02, b03, b04⟩ := (HB0.out.kept KB5.out).five
          have bz0 := (HB0.out.kept KB5.out).1
          obtain ⟨b10, b11⟩ := (HB1.out.kept KB5.out).two
          have bz1 := (HB1.out.kept KB5.out).1
          obtain ⟨b20, b21⟩ := (HB2.out.kept KB5.out).two
          have bz2 := (HB2.out.kept KB5.out).1
          go_wp2_with fail
          clear b00 b01 b02 b03 b04 bz0 b10 b11 bz1 b20 b21 bz2
          have k := ((Kept.refl W5).alloc (.cells #[.slice A1 xb.length c1, .slice B1 xv.length d1] 29)).alloc (.cells #[.slice C1 yb.length a1, .slice D1 yv.length b1] 29)
          have H12 := Lib.hid ((AtB.new W5 #[.slice A1 xb.length c1, .slice B1 xv.length d1] 29).kept ((Kept.refl _).alloc (.cells #[.slice C1 yb.length a1, .slice D1 yv.length b1] 29)))
          have hsz : (W5.alloc (.cells #[.slice A1 xb.length c1, .slice B1 xv.length d1] 29)).heap.size = W5.heap.size + 1 := by simp
          have hnb := AtB.new (W5.alloc (.cells #[.slice A1 xb.length c1, .slice B1 xv.length d1] 29)) #[.slice C1 yb.length a1, .slice D1 yv.length b1] 29
          rw [hsz] at hnb
          have H13 := Lib.hid hnb
          clear hsz hnb
          replace HA1 := Lib.hid (HA1.out.kept k)
          replace HB1_ := Lib.hid (HB1_.out.kept k)
          replace HC1 := Lib.hid (HC1.out.kept k)
          replace HD1 := Lib.hid (HD1.out.kept k)
          have KB6 := Lib.hid (KB5.out.trans k)
          clear k
          generalize (W5.alloc (.cells #[.slice A1 xb.length c1, .slice B1 xv.length d1] 29)).alloc (.cells #[.slice C1 yb.length a1, .slice D1 yv.length b1] 29) = W6 at *
          generalize W5.heap.size + 1 = z13 at *
          generalize W5.heap.size = z12 at *
          have HW1 := Lib.hid (show WfL xb from fun x hx => (HX.out.wb x hx).elim (lhw x) (mhw x))
          have HW2 := Lib.hid (show WfVs xv from fun x hx => (HX.out.wv x hx).elim (vhw x) (uhw x))
          have HW3 := Lib.hid (show WfL yb from fun x hx => mhw x (HX.out.ib x hx))
          have HW4 := Lib.hid (show WfVs yv from fun x hx => uhw x (HX.out.iv x hx))
          have n1 : xb.length ≤ 60 := HX.out.lb
          have n2 : xv.length ≤ 240 := HX.out.lv
          have n3 : yb.length ≤ m.length := HX.out.yb
          have n4 : yv.length ≤ u.length := HX.out.yv
          have n5 : l.length ≤ xb.length := HX.out.gb
          have n6 : v.length ≤ xv.length := HX.out.gv
          have t1 : xb.take l.length = l := HX.out.tb
          have t2 : xv.take v.length = v := HX.out.tv
          have hc1 : l.length ≤ c1 := by omega
          have hd1 : v.length ≤ d1 := by omega
          have HT := Lib.hid (⟨t1, t2⟩ : _ ∧ _)
          clear t1 t2
          have KJ := Lib.hid (Kept.refl W6)
          refine (viewMay_any kA kc k A1 c1 xb B1 d1 xv W6 hk1 khs (by omega) (by omega) h1 h2 HW1.out HW2.out (HA.out.kept KB6.out) (HA1.out.kept KJ.out) (HB1_.out.kept KJ.out)).mono ?_
          rintro e W7 ⟨rfl, k⟩
          replace H12 := Lib.hid (H12.out.kept k)
          replace H13 := Lib.hid (H13.out.kept k)
          replace KJ := Lib.hid (KJ.out.trans k)
          have KB7 := Lib.hid (KB6.out.trans k)
          clear k
          rw [show mayW k ⟨xb, xv⟩ = true from HX.out.may]
          have g1 : decide (xb.length < l.length) = false := decide_eq_false (by omega)
          have g2 : decide (xv.length < v.length) = false := decide_eq_false (by omega)
          have p0 : W7.cell? ⟨z12, 0, none⟩ = some (.slice A1 xb.length c1) := H12.out.cell
          have p1 : W7.cell? ⟨z12, 1, none⟩ = some (.slice B1 xv.length d1) := H12.out.cell
          have pl := H12.out.lt
          obtain ⟨b10, b11⟩ := (HB1.out.kept KB7.out).two
          have bz1 := (HB1.out.kept KB7.out).1
          go_wp2_with fail
          have hs1 := fun w' => upto_blocks A1 xb.length c1 l.length hc1 w'
          have hs2 := fun w' => upto_vts B1 xv.length d1 v.length hd1 w'
          have HS1 := Lib.hid (cells_blocks_take HA1.out l.length)
          have HS2 := Lib.hid (vts_take HB1_.out v.length)
          rw [HT.out.1] at HS1
          rw [HT.out.2] at HS2
          clear g1 g2
          refine wp_region_noPanic ?_
          refine wp_region_held_drew (S := (fun w' => w'.cell? ⟨z12, 0, none⟩ = some (.slice A1 xb.length c1) ∧ w'.cell? ⟨z12, 1, none⟩ = some (.slice B1 xv.length d1) ∧ w'.cell? ⟨z1, 0, none⟩ = some (.slice lA l.length lc) ∧ w'.cell? ⟨z1, 1, none⟩ = some (.slice vA v.length vc) ∧ Kept W7 w')) (by kernel_rfl) ?_ (fun hHeld => ?_)
          · exact ⟨p0, p1, b10, b11, (Kept.refl _).drew⟩
          refine wpAnyH_take (i := 0) (v := ?_) (by simp only [List.getElem?_toArray, List.getElem?_cons_succ, List.getElem?_cons_zero]; rfl) (by kernel_rfl) (by kernel_rfl) (by kernel_rfl) (fun _ _ _ h => h) (Or.inl ⟨by rfl, ?_⟩) (by assumption) ?_
          rotate_left
          · intro w hSw
            (try dsimp only at hSw)
            go_simp
            (try with_reducible rfl)
          simp only [Act.put, List.setIfInBounds_toArray, List.set_cons_zero, List.set_cons_succ]
          refine wpAnyH_take (i := 1) (v := ?_) (by simp only [List.getElem?_toArray, List.getElem?_cons_succ, List.getElem?_cons_zero]; rfl) (by kernel_rfl) (by kernel_rfl) (by kernel_rfl) (fun _ _ _ h => h) (Or.inl ⟨by rfl, ?_⟩) (by assumption) ?_
          rotate_left
          · intro w hSw
            (try dsimp only at hSw)
            go_simp
            (try with_reducible rfl)
          simp only [Act.put, List.setIfInBounds_toArray, List.set_cons_zero, List.set_cons_succ]
          refine wpAnyH_take (i := 2) (v := ?_) (by simp only [List.getElem?_toArray, List.getElem?_cons_succ, List.getElem?_cons_zero]; rfl) (by kernel_rfl) (by kernel_rfl) (by kernel_rfl) (fun _ _ _ h => h) (Or.inl ⟨by rfl, ?_⟩) (by assumption) ?_
          rotate_left
          · intro w hSw
            (try dsimp only at hSw)
            go_simp
            (try with_reducible rfl)
          simp only [Act.put, List.setIfInBounds_toArray, List.set_cons_zero, List.set_cons_succ]
          refine wpAnyH_take (i := 3) (v := ?_) (by simp only [List.getElem?_toArray, List.getElem?_cons_succ, List.getElem?_cons_zero]; rfl) (by kernel_rfl) (by kernel_rfl) (by kernel_rfl) (fun _ _ _ h => h) (Or.inl ⟨by rfl, ?_⟩) (by assumption) ?_
          rotate_left
          · intro w hSw
            (try dsimp only at hSw)
            go_simp
            (try with_reducible rfl)
          simp only [Act.put, List.setIfInBounds_toArray, List.set_cons_zero, List.set_cons_succ]
          refine wpAnyH_take (i := 4) (v := ?_) (by simp only [List.getElem?_toArray, List.getElem?_cons_succ, List.getElem?_cons_zero]; rfl) (by kernel_rfl) (by kernel_rfl) (by kernel_rfl) (fun _ _ _ h => h) (Or.inl ⟨by rfl, ?_⟩) (by assumption) ?_
          rotate_left
          · intro w hSw
            (try dsimp only at hSw)
            go_simp
            (try with_reducible rfl)
          simp only [Act.put, List.setIfInBounds_toArray, List.set_cons_zero, List.set_cons_succ]
          refine wpAnyH_take (i := 5) (v := ?_) (by simp only [List.getElem?_toArray, List.getElem?_cons_succ, List.getElem?_cons_zero]; rfl) (by kernel_rfl) (by kernel_rfl) (by kernel_rfl) (fun _ _ _ h => h) (Or.inl ⟨by rfl, ?_⟩) (by assumption) ?_
          rotate_left
          · intro w hSw
            (try dsimp only at hSw)
            go_simp
            (try with_reducible rfl)
          simp only [Act.put, List.setIfInBounds_toArray, List.set_cons_zero, List.set_cons_succ]
          refine wpAnyH_take (i := 6) (v := ?_) (by simp only [List.getElem?_toArray, List.getElem?_cons_succ, List.getElem?_cons_zero]; rfl) (by kernel_rfl) (by kernel_rfl) (by kernel_rfl) (fun _ _ _ h => h) (Or.inl ⟨by rfl, ?_⟩) (by assumption) ?_
          rotate_left
          · intro w hSw
            (try dsimp only at hSw)
            go_simp
            (try with_reducible rfl)
          simp only [Act.put, List.setIfInBounds_toArray, List.set_cons_zero, List.set_cons_succ]
          refine wpAnyH_take (i := 7) (v := ?_) (by simp only [List.getElem?_toArray, List.getElem?_cons_succ, List.getElem?_cons_zero]; rfl) (by kernel_rfl) (by kernel_rfl) (by kernel_rfl) (fun _ _ _ h => h) (Or.inl ⟨by rfl, ?_⟩) (by assumption) ?_
          rotate_left
          · intro w hSw
            (try dsimp only at hSw)
            go_simp
            (try with_reducible rfl)
          simp only [Act.put, List.setIfInBounds_toArray, List.set_cons_zero, List.set_cons_succ]
          refine wpAnyH_take (i := 8) (v := ?_) (by simp only [List.getElem?_toArray, List.getElem?_cons_succ, List.getElem?_cons_zero]; rfl) (by kernel_rfl) (by kernel_rfl) (by kernel_rfl) (fun _ _ _ h => h) (Or.inl ⟨by rfl, ?_⟩) (by assumption) ?_
          rotate_left
          · intro w hSw
            (try dsimp only at hSw)
            go_simp
            (try with_reducible rfl)
          simp only [Act.put, List.setIfInBounds_toArray, List.set_cons_zero, List.set_cons_succ]
          refine wpAnyH_take (i := 9) (v := ?_) (by simp only [List.getElem?_toArray, List.getElem?_cons_succ, List.getElem?_cons_zero]; rfl) (by kernel_rfl) (by kernel_rfl) (by kernel_rfl) (fun _ _ _ h => h) (Or.inl ⟨by rfl, ?_⟩) (by assumption) ?_
          rotate_left
          · intro w hSw
            (try dsimp only at hSw)
            go_simp
            (try with_reducible rfl)
          simp only [Act.put, List.setIfInBounds_toArray, List.set_cons_zero, List.set_cons_succ]
          refine wpAnyH_take (i := 10) (v := ?_) (by simp only [List.getElem?_toArray, List.getElem?_cons_succ, List.getElem?_cons_zero]; rfl) (by kernel_rfl) (by kernel_rfl) (by kernel_rfl) (fun _ _ _ h => h) (Or.inl ⟨by rfl, ?_⟩) (by assumption) ?_
          rotate_left
          · intro w hSw
            (try dsimp only at hSw)
            go_simp
            (try with_reducible rfl)
          simp only [Act.put, List.setIfInBounds_toArray, List.set_cons_zero, List.set_cons_succ]
          refine wpAnyH_take (i := 11) (v := ?_) (by simp only [List.getElem?_toArray, List.getElem?_cons_succ, List.getElem?_cons_zero]; rfl) (by kernel_rfl) (by kernel_rfl) (by kernel_rfl) (fun _ _ _ h => h) (Or.inl ⟨by rfl, ?_⟩) (by assumption) ?_
          rotate_left
          · intro w hSw
            (try dsimp only at hSw)
            go_simp
            (try with_reducible rfl)
          simp only [Act.put, List.setIfInBounds_toArray, List.set_cons_zero, List.set_cons_succ]
          refine wpAnyH_take (i := 12) (v := ?_) (by simp only [List.getElem?_toArray, List.getElem?_cons_succ, List.getElem?_cons_zero]; rfl) (by kernel_rfl) (by kernel_rfl) (by kernel_rfl) (fun _ _ _ h => h) (Or.inl ⟨by rfl, ?_⟩) (by assumption) ?_
          rotate_left
          · intro w hSw
            (try dsimp only at hSw)
            go_simp
            (try with_reducible rfl)
          simp only [Act.put, List.setIfInBounds_toArray, List.set_cons_zero, List.set_cons_succ]
          refine wpAnyH_take (i := 13) (v := ?_) (by simp only [List.getElem?_toArray, List.getElem?_cons_succ, List.getElem?_cons_zero]; rfl) (by kernel_rfl) (by kernel_rfl) (by kernel_rfl) (fun _ _ _ h => h) (Or.inl ⟨by rfl, ?_⟩) (by assumption) ?_
          rotate_left
          · intro w hSw
            (try dsimp only at hSw)
            go_simp
            (try with_reducible rfl)
          simp only [Act.put, List.setIfInBounds_toArray, List.set_cons_zero, List.set_cons_succ]
          refine wpAnyH_ready (rs := [14]) (by kernel_rfl) (by simp) ?_
          refine AllReadyH.cons (by simp only [List.getElem?_toArray, List.getElem?_cons_succ, List.getElem?_cons_zero]; rfl) (fun K hK => ?_) AllReadyH.nil
          go_simp
          go_at_call 14; with_reducible refine (same_yes A1 c1 B1 d1 lA lc vA vc l v _ (by omega) (by omega) (HS1.out.kept (KJ.out.trans hHeld.2.2.2.2)) (HS2.out.kept (KJ.out.trans hHeld.2.2.2.2)) (HL.out.kept (KB7.out.trans hHeld.2.2.2.2)) (HV.out.kept (KB7.out.trans hHeld.2.2.2.2))).mono ?_
          rintro e w' ⟨rfl, kk⟩
          try go_wp2_with fail
          refine hK.out _ _ ?_ (fun hHeld2 => ?_)
          · exact keepP4 pl pl bz1 bz1 hHeld kk
          clear hK K hHeld
          have hHeld := hHeld2
          clear hHeld2
          try simp only [Act.put, List.setIfInBounds_toArray, List.set_cons_zero, List.set_cons_succ]
          refine wpAnyH_take (i := 15) (v := ?_) (by simp only [List.getElem?_toArray, List.getElem?_cons_succ, List.getElem?_cons_zero]; rfl) (by kernel_rfl) (by kernel_rfl) (by kernel_rfl) (fun _ _ _ h => h) (Or.inl ⟨by rfl, ?_⟩) (by assumption) ?_
          rotate_left
          · intro w hSw
            (try dsimp only at hSw)
            go_simp
            (try with_reducible rfl)
          simp only [Act.put, List.setIfInBounds_toArray, List.set_cons_zero, List.set_cons_succ]
          refine wpAnyH_done (by kernel_rfl) ?_ _
          refine NoPanic.normal ?_
          have k := hHeld.2.2.2.2
          clear hHeld p0 p1 pl b10 b11 bz1 hs1 hs2
          replace H12 := Lib.hid (H12.out.kept k)
          replace H13 := Lib.hid (H13.out.kept k)
          replace KJ := Lib.hid (KJ.out.trans k)
          have KB8 := Lib.hid (KB7.out.trans k)
          clear k
          generalize w' = W8 at *
          clear HS1 HS2
          have p0 : W8.cell? ⟨z12, 0, none⟩ = some (.slice A1 xb.length c1) := H12.out.cell
          have p1 : W8.cell? ⟨z12, 1, none⟩ = some (.slice B1 xv.length d1) := H12.out.cell
          have pl := H12.out.lt
          have q0 : W8.cell? ⟨z13, 0, none⟩ = some (.slice C1 yb.length a1) := H13.out.cell
          have q1 : W8.cell? ⟨z13, 1, none⟩ = some (.slice D1 yv.length b1) := H13.out.cell
          have ql := H13.out.lt
          obtain ⟨b00, b01, b02, b03, b04⟩ := (HB0.out.kept KB8.out).five
          have bz0 := (HB0.out.kept KB8.out).1
          go_wp2_with fail
          clear p0 p1 pl q0 q1 ql
          clear b00 b01 b02 b03 b04 bz0
          refine (viewTake_any kA kc k A1 c1 xb B1 d1 xv C1 a1 yb D1 b1 yv slot W8 hk1 khs (by omega) (by omega) (by omega) (by omega) h1 h2 h3 h4 HW1.out HW2.out HW3.out HW4.out (HA.out.kept KB8.out) (HA1.out.kept KJ.out) (HB1_.out.kept KJ.out) (HC1.out.kept KJ.out) (HD1.out.kept KJ.out)).mono ?_
          rintro e W9 ⟨A2, c2, B2, d2, C2, a2, D2, b2, rfl, i1, i2, i3, i4, hA2, hB2, hC2, hD2, k⟩
          replace H12 := Lib.hid (H12.out.kept k)
          replace H13 := Lib.hid (H13.out.kept k)
          replace KJ := Lib.hid (KJ.out.trans k)
          have KB9 := Lib.hid (KB8.out.trans k)
          clear k
          have HY := Lib.hid (take_facts (i := ⟨yb, yv⟩) (upto := slot) (show mayW k ⟨xb, xv⟩ = true from HX.out.may))
          have HAg := Lib.hid (show fu = false → takeC k ⟨xb, xv⟩ ⟨yb, yv⟩ slot = ⟨⟨xb, xv⟩, ⟨yb, yv⟩, false⟩ from HX.out.again)
          generalize takeC k ⟨xb, xv⟩ ⟨yb, yv⟩ slot = t2 at *
          obtain ⟨⟨pb, pv⟩, ⟨qb, qv⟩, f2⟩ := t2
          simp only at i1 i2 i3 i4 hA2 hB2 hC2 hD2 HY
          have m1 : pb.length ≤ 60 := HY.out.lb
          have m2 : pv.length ≤ 240 := HY.out.lv
          have m3 : qb.length ≤ yb.length := HY.out.yb
          have m4 : qv.length ≤ yv.length := HY.out.yv
          have HF := Lib.hid (show fu = false → xb = pb ∧ xv = pv ∧ yb = qb ∧ yv = qv ∧ f2 = false from fun h => by
            have e := HAg.out h
            injection e with e1 e2 e3
            injection e1 with e4 e5
            injection e2 with e6 e7
            exact ⟨e4.symm, e5.symm, e6.symm, e7.symm, e3⟩)
          clear HAg
          dsimp only
          have HA2 := Lib.hid hA2
          have HB2_ := Lib.hid hB2
          have HC2 := Lib.hid hC2
          have HD2 := Lib.hid hD2
          clear hA2 hB2 hC2 hD2
          have p0 : W9.cell? ⟨z12, 0, none⟩ = some (.slice A1 xb.length c1) := H12.out.cell
          have p1 : W9.cell? ⟨z12, 1, none⟩ = some (.slice B1 xv.length d1) := H12.out.cell
          have pl := H12.out.lt
          obtain ⟨b00, b01, b02, b03, b04⟩ := (HB0.out.kept KB9.out).five
          have bz0 := (HB0.out.kept KB9.out).1
          obtain ⟨b10, b11⟩ := (HB1.out.kept KB9.out).two
          have bz1 := (HB1.out.kept KB9.out).1
          obtain ⟨b20, b21⟩ := (HB2.out.kept KB9.out).two
          have bz2 := (HB2.out.kept KB9.out).1
          go_wp2_with fail
          clear b00 b01 b02 b03 b04 bz0 b10 b11 bz1 b20 b21 bz2
          have k := ((Kept.refl W9).alloc (.cells #[.slice A2 pb.length c2, .slice B2 pv.length d2] 29)).alloc (.cells #[.slice C2 qb.length a2, .slice D2 qv.length b2] 29)
          have H16 := Lib.hid ((AtB.new W9 #[.slice A2 pb.length c2, .slice B2 pv.length d2] 29).kept ((Kept.refl _).alloc (.cells #[.slice C2 qb.length a2, .slice D2 qv.length b2] 29)))
          have hsz : (W9.alloc (.cells #[.slice A2 pb.length c2, .slice B2 pv.length d2] 29)).heap.size = W9.heap.size + 1 := by simp
          have hnb := AtB.new (W9.alloc (.cells #[.slice A2 pb.length c2, .slice B2 pv.length d2] 29)) #[.slice C2 qb.length a2, .slice D2 qv.length b2] 29
          rw [hsz] at hnb
          have H17 := Lib.hid hnb
          clear hsz hnb p0 p1 pl
          replace HA2 := Lib.hid (HA2.out.kept k)
          replace HB2_ := Lib.hid (HB2_.out.kept k)
          replace HC2 := Lib.hid (HC2.out.kept k)
          replace HD2 := Lib.hid (HD2.out.kept k)
          replace H12 := Lib.hid (H12.out.kept k)
          replace H13 := Lib.hid (H13.out.kept k)
          replace KJ := Lib.hid (KJ.out.trans k)
          have KB10 := Lib.hid (KB9.out.trans k)
          clear k
          generalize (W9.alloc (.cells #[.slice A2 pb.length c2, .slice B2 pv.length d2] 29)).alloc (.cells #[.slice C2 qb.length a2, .slice D2 qv.length b2] 29) = W10 at *
          generalize W9.heap.size + 1 = z17 at *
          generalize W9.heap.size = z16 at *
          have KL := Lib.hid (Kept.refl W10)
          refine (same_some A1 c1 B1 d1 A2 c2 B2 d2 xb xv pb pv W10 (by omega) (by omega) (by omega) (by omega) (HA1.out.kept KJ.out) (HB1_.out.kept KJ.out) (HA2.out.kept KL.out) (HB2_.out.kept KL.out)).mono ?_
          rintro e W11 ⟨s1, hs1, rfl, k⟩
          replace H12 := Lib.hid (H12.out.kept k)
          replace H13 := Lib.hid (H13.out.kept k)
          replace KJ := Lib.hid (KJ.out.trans k)
          replace H16 := Lib.hid (H16.out.kept k)
          replace H17 := Lib.hid (H17.out.kept k)
          replace KL := Lib.hid (KL.out.trans k)
          have KB11 := Lib.hid (KB10.out.trans k)
          clear k
          have HS1 := Lib.hid hs1
          clear hs1
          have p0 : W11.cell? ⟨z12, 0, none⟩ = some (.slice A1 xb.length c1) := H12.out.cell
          have p1 : W11.cell? ⟨z12, 1, none⟩ = some (.slice B1 xv.length d1) := H12.out.cell
          have pl := H12.out.lt
          have q0 : W11.cell? ⟨z13, 0, none⟩ = some (.slice C1 yb.length a1) := H13.out.cell
          have q1 : W11.cell? ⟨z13, 1, none⟩ = some (.slice D1 yv.length b1) := H13.out.cell
          have ql := H13.out.lt
          have r0 : W11.cell? ⟨z16, 0, none⟩ = some (.slice A2 pb.length c2) := H16.out.cell
          have r1 : W11.cell? ⟨z16, 1, none⟩ = some (.slice B2 pv.length d2) := H16.out.cell
          have rl := H16.out.lt
          have s0 : W11.cell? ⟨z17, 0, none⟩ = some (.slice C2 qb.length a2) := H17.out.cell
          have s1 : W11.cell? ⟨z17, 1, none⟩ = some (.slice D2 qv.length b2) := H17.out.cell
          have sl := H17.out.lt
          go_wp2_with fail
          clear p0 p1 pl q0 q1 ql r0 r1 rl s0 s1 sl
          refine (same_some C1 a1 D1 b1 C2 a2 D2 b2 yb yv qb qv W11 (by omega) (by omega) (by omega) (by omega) (HC1.out.kept KJ.out) (HD1.out.kept KJ.out) (HC2.out.kept KL.out) (HD2.out.kept KL.out)).mono ?_
          rintro e W12 ⟨s2, hs2, rfl, k⟩
          replace H12 := Lib.hid (H12.out.kept k)
          replace H13 := Lib.hid (H13.out.kept k)
          replace KJ := Lib.hid (KJ.out.trans k)
          replace H16 := Lib.hid (H16.out.kept k)
          replace H17 := Lib.hid (H17.out.kept k)
          replace KL := Lib.hid (KL.out.trans k)
          have KB12 := Lib.hid (KB11.out.trans k)
          clear k
          have HS2 := Lib.hid hs2
          clear hs2
          have p0 : W12.cell? ⟨z12, 0, none⟩ = some (.slice A1 xb.length c1) := H12.out.cell
          have p1 : W12.cell? ⟨z12, 1, none⟩ = some (.slice B1 xv.length d1) := H12.out.cell
          have pl := H12.out.lt
          have q0 : W12.cell? ⟨z13, 0, none⟩ = some (.slice C1 yb.length a1) := H13.out.cell
          have q1 : W12.cell? ⟨z13, 1, none⟩ = some (.slice D1 yv.length b1) := H13.out.cell
          have ql := H13.out.lt
          have r0 : W12.cell? ⟨z16, 0, none⟩ = some (.slice A2 pb.length c2) := H16.out.cell
          have r1 : W12.cell? ⟨z16, 1, none⟩ = some (.slice B2 pv.length d2) := H16.out.cell
          have rl := H16.out.lt
          have s0 : W12.cell? ⟨z17, 0, none⟩ = some (.slice C2 qb.length a2) := H17.out.cell
          have s1 : W12.cell? ⟨z17, 1, none⟩ = some (.slice D2 qv.length b2) := H17.out.cell
          have sl := H17.out.lt
          obtain ⟨b20, b21⟩ := (HB2.out.kept KB12.out).two
          have bz2 := (HB2.out.kept KB12.out).1
          go_wp2_with fail
          clear p0 p1 pl q0 q1 ql r0 r1 rl s0 s1 sl
          clear b20 b21 bz2
          refine (viewJoin_any mA mc m uA uc u C1 a1 yb D1 b1 yv W12 (by omega) (by omega) (by omega) (by omega) mhc uhc h3 h4 mhw uhw HW3.out HW4.out mh6 (mh6.sub HX.out.ib) (HM.out.kept KB12.out) (HU.out.kept KB12.out) (HC1.out.kept KJ.out) (HD1.out.kept KJ.out)).mono ?_
          rintro e W13 ⟨A3, c3, B3, d3, rfl, j1, j2, hj1, hj2, k⟩
          replace H12 := Lib.hid (H12.out.kept k)
          replace H13 := Lib.hid (H13.out.kept k)
          replace KJ := Lib.hid (KJ.out.trans k)
          replace H16 := Lib.hid (H16.out.kept k)
          replace H17 := Lib.hid (H17.out.kept k)
          replace KL := Lib.hid (KL.out.trans k)
          have KB13 := Lib.hid (KB12.out.trans k)
          clear k
          have ej : (joinW ⟨m, u⟩ ⟨yb, yv⟩).b = m := joinL_sub HX.out.ib
          rw [ej]
          have HJv := Lib.hid (rfl : (joinW ⟨m, u⟩ ⟨yb, yv⟩).v = (joinW ⟨m, u⟩ ⟨yb, yv⟩).v)
          generalize (joinW ⟨m, u⟩ ⟨yb, yv⟩).v.length = jl at *
          clear ej hj1 hj2 j1 j2 HJv
          obtain ⟨b00, b01, b02, b03, b04⟩ := (HB0.out.kept KB13.out).five
          have bz0 := (HB0.out.kept KB13.out).1
          obtain ⟨b10, b11⟩ := (HB1.out.kept KB13.out).two
          have bz1 := (HB1.out.kept KB13.out).1
          obtain ⟨b20, b21⟩ := (HB2.out.kept KB13.out).two
          have bz2 := (HB2.out.kept KB13.out).1
          go_wp2_with fail
          clear b00 b01 b02 b03 b04 bz0 b10 b11 bz1 b20 b21 bz2
          have H21 := Lib.hid (AtB.new W13 #[.slice A3 m.length c3, .slice B3 jl d3] 29)
          have k := (Kept.refl W13).alloc (.cells #[.slice A3 m.length c3, .slice B3 jl d3] 29)
          have KB14 := Lib.hid (KB13.out.trans k)
          clear k
          generalize W13.alloc (.cells #[.slice A3 m.length c3, .slice B3 jl d3] 29) = W14 at *
          generalize W13.heap.size = z21 at *
          have p0 : W14.cell? ⟨z21, 0, none⟩ = some (.slice A3 m.length c3) := H21.out.cell
          have p1 : W14.cell? ⟨z21, 1, none⟩ = some (.slice B3 jl d3) := H21.out.cell
          have pl := H21.out.lt
          obtain ⟨b20, b21⟩ := (HB2.out.kept KB14.out).two
          have bz2 := (HB2.out.kept KB14.out).1
          cases fu with
          | true =>
            refine wp_region_noPanic ?_
            refine wp_region_held_drew (S := (fun w' => w'.cell? ⟨z21, 0, none⟩ = some (.slice A3 m.length c3) ∧ w'.cell? ⟨z2, 0, none⟩ = some (.slice mA m.length mc) ∧ Kept W14 w')) (by kernel_rfl) ?_ (fun hHeld => ?_)
            · exact ⟨p0, b20, (Kept.refl _).drew⟩
            refine wpAnyH_take (i := 0) (v := ?_) (by simp only [List.getElem?_toArray, List.getElem?_cons_succ, List.getElem?_cons_zero]; rfl) (by kernel_rfl) (by kernel_rfl) (by kernel_rfl) (fun _ _ _ h => h) (Or.inl ⟨by rfl, ?_⟩) (by assumption) ?_
            rotate_left
            · intro w hSw
              (try dsimp only at hSw)
              go_simp
              (try with_reducible rfl)
            simp only [Act.put, List.setIfInBounds_toArray, List.set_cons_zero, List.set_cons_succ]
            refine wpAnyH_take (i := 1) (v := ?_) (by simp only [List.getElem?_toArray, List.getElem?_cons_succ, List.getElem?_cons_zero]; rfl) (by kernel_rfl) (by kernel_rfl) (by kernel_rfl) (fun _ _ _ h => h) (Or.inl ⟨by rfl, ?_⟩) (by assumption) ?_
            rotate_left
            · intro w hSw
              (try dsimp only at hSw)
              go_simp
              (try with_reducible rfl)
            simp only [Act.put, List.setIfInBounds_toArray, List.set_cons_zero, List.set_cons_succ]
            refine wpAnyH_take (i := 2) (v := ?_) (by simp only [List.getElem?_toArray, List.getElem?_cons_succ, List.getElem?_cons_zero]; rfl) (by kernel_rfl) (by kernel_rfl) (by kernel_rfl) (fun _ _ _ h => h) (Or.inl ⟨by rfl, ?_⟩) (by assumption) ?_
            rotate_left
            · intro w hSw
              (try dsimp only at hSw)
              go_simp
              (try with_reducible rfl)
            simp only [Act.put, List.setIfInBounds_toArray, List.set_cons_zero, List.set_cons_succ]
            refine wpAnyH_take (i := 3) (v := ?_) (by simp only [List.getElem?_toArray, List.getElem?_cons_succ, List.getElem?_cons_zero]; rfl) (by kernel_rfl) (by kernel_rfl) (by kernel_rfl) (fun _ _ _ h => h) (Or.inl ⟨by rfl, ?_⟩) (by assumption) ?_
            rotate_left
            · intro w hSw
              (try dsimp only at hSw)
              go_simp
              (try with_reducible rfl)
            simp only [Act.put, List.setIfInBounds_toArray, List.set_cons_zero, List.set_cons_succ]
            refine wpAnyH_take (i := 4) (v := undef) (by simp only [List.getElem?_toArray, List.getElem?_cons_succ, List.getElem?_cons_zero]; rfl) (by kernel_rfl) (by kernel_rfl) (by kernel_rfl) (fun _ _ _ h => h) (Or.inr ⟨by rfl, rfl⟩) (by assumption) ?_
            simp only [Act.put, List.setIfInBounds_toArray, List.set_cons_zero, List.set_cons_succ]
            refine wpAnyH_take (i := 5) (v := ?_) (by simp only [List.getElem?_toArray, List.getElem?_cons_succ, List.getElem?_cons_zero]; rfl) (by kernel_rfl) (by kernel_rfl) (by kernel_rfl) (fun _ _ _ h => h) (Or.inl ⟨by rfl, ?_⟩) (by assumption) ?_
            rotate_left
            · intro w hSw
              (try dsimp only at hSw)
              go_simp
              (try with_reducible rfl)
            simp only [Act.put, List.setIfInBounds_toArray, List.set_cons_zero, List.set_cons_succ]
            refine wpAnyH_take (i := 6) (v := ?_) (by simp only [List.getElem?_toArray, List.getElem?_cons_succ, List.getElem?_cons_zero]; rfl) (by kernel_rfl) (by kernel_rfl) (by kernel_rfl) (fun _ _ _ h => h) (Or.inl ⟨by rfl, ?_⟩) (by assumption) ?_
            rotate_left
            · intro w hSw
              (try dsimp only at hSw)
              go_simp
              (try with_reducible rfl)
            simp only [Act.put, List.setIfInBounds_toArray, List.set_cons_zero, List.set_cons_succ]
            refine wpAnyH_take (i := 7) (v := undef) (by simp only [List.getElem?_toArray, List.getElem?_cons_succ, List.getElem?_cons_zero]; rfl) (by kernel_rfl) (by kernel_rfl) (by kernel_rfl) (fun _ _ _ h => h) (Or.inr ⟨by rfl, rfl⟩) (by assumption) ?_
            simp only [Act.put, List.setIfInBounds_toArray, List.set_cons_zero, List.set_cons_succ]
            refine wpAnyH_take (i := 8) (v := undef) (by simp only [List.getElem?_toArray, List.getElem?_cons_succ, List.getElem?_cons_zero]; rfl) (by kernel_rfl) (by kernel_rfl) (by kernel_rfl) (fun _ _ _ h => h) (Or.inr ⟨by rfl, rfl⟩) (by assumption) ?_
            simp only [Act.put, List.setIfInBounds_toArray, List.set_cons_zero, List.set_cons_succ]
            refine wpAnyH_take (i := 9) (v := undef) (by simp only [List.getElem?_toArray, List.getElem?_cons_succ, List.getElem?_cons_zero]; rfl) (by kernel_rfl) (by kernel_rfl) (by kernel_rfl) (fun _ _ _ h => h) (Or.inr ⟨by rfl, rfl⟩) (by assumption) ?_
            simp only [Act.put, List.setIfInBounds_toArray, List.set_cons_zero, List.set_cons_succ]
            refine wpAnyH_take (i := 10) (v := undef) (by simp only [List.getElem?_toArray, List.getElem?_cons_succ, List.getElem?_cons_zero]; rfl) (by kernel_rfl) (by kernel_rfl) (by kernel_rfl) (fun _ _ _ h => h) (Or.inr ⟨by rfl, rfl⟩) (by assumption) ?_
            simp only [Act.put, List.setIfInBounds_toArray, List.set_cons_zero, List.set_cons_succ]
            refine wpAnyH_take (i := 11) (v := ?_) (by simp only [List.getElem?_toArray, List.getElem?_cons_succ, List.getElem?_cons_zero]; rfl) (by kernel_rfl) (by kernel_rfl) (by kernel_rfl) (fun _ _ _ h => h) (Or.inl ⟨by rfl, ?_⟩) (by assumption) ?_
            rotate_left
            · intro w hSw
              (try dsimp only at hSw)
              go_simp
              (try with_reducible rfl)
            simp only [Act.put, List.setIfInBounds_toArray, List.set_cons_zero, List.set_cons_succ]
            refine wpAnyH_take (i := 12) (v := ?_) (by simp only [List.getElem?_toArray, List.getElem?_cons_succ, List.getElem?_cons_zero]; rfl) (by kernel_rfl) (by kernel_rfl) (by kernel_rfl) (fun _ _ _ h => h) (Or.inl ⟨by rfl, ?_⟩) (by assumption) ?_
            rotate_left
            · intro w hSw
              (try dsimp only at hSw)
              go_simp
              (try with_reducible rfl)
            simp only [Act.put, List.setIfInBounds_toArray, List.set_cons_zero, List.set_cons_succ]
            refine wpAnyH_take (i := 13) (v := ?_) (by simp only [List.getElem?_toArray, List.getElem?_cons_succ, List.getElem?_cons_zero]; rfl) (by kernel_rfl) (by kernel_rfl) (by kernel_rfl) (fun _ _ _ h => h) (Or.inl ⟨by rfl, ?_⟩) (by assumption) ?_
            rotate_left
            · intro w hSw
              (try dsimp only at hSw)
              go_simp
              (try with_reducible rfl)
            simp only [Act.put, List.setIfInBounds_toArray, List.set_cons_zero, List.set_cons_succ]
            refine wpAnyH_take (i := 14) (v := ?_) (by simp only [List.getElem?_toArray, List.getElem?_cons_succ, List.getElem?_cons_zero]; rfl) (by kernel_rfl) (by kernel_rfl) (by kernel_rfl) (fun _ _ _ h => h) (Or.inl ⟨by rfl, ?_⟩) (by assumption) ?_
            rotate_left
            · intro w hSw
              (try dsimp only at hSw)
              go_simp
              (try with_reducible rfl)
            simp only [Act.put, List.setIfInBounds_toArray, List.set_cons_zero, List.set_cons_succ]
            refine wpAnyH_take (i := 15) (v := ?_) (by simp only [List.getElem?_toArray, List.getElem?_cons_succ, List.getElem?_cons_zero]; rfl) (by kernel_rfl) (by kernel_rfl) (by kernel_rfl) (fun _ _ _ h => h) (Or.inl ⟨by rfl, ?_⟩) (by assumption) ?_
            rotate_left
            · intro w hSw
              (try dsimp only at hSw)
              go_simp
              (try with_reducible rfl)
            simp only [Act.put, List.setIfInBounds_toArray, List.set_cons_zero, List.set_cons_succ]
            refine wpAnyH_take (i := 16) (v := undef) (by simp only [List.getElem?_toArray, List.getElem?_cons_succ, List.getElem?_cons_zero]; rfl) (by kernel_rfl) (by kernel_rfl) (by kernel_rfl) (fun _ _ _ h => h) (Or.inr ⟨by rfl, rfl⟩) (by assumption) ?_
            simp only [Act.put, List.setIfInBounds_toArray, List.set_cons_zero, List.set_cons_succ]
            refine wpAnyH_take (i := 17) (v := undef) (by simp only [List.getElem?_toArray, List.getElem?_cons_succ, List.getElem?_cons_zero]; rfl) (by kernel_rfl) (by kernel_rfl) (by kernel_rfl) (fun _ _ _ h => h) (Or.inr ⟨by rfl, rfl⟩) (by assumption) ?_
            simp only [Act.put, List.setIfInBounds_toArray, List.set_cons_zero, List.set_cons_succ]
            refine wpAnyH_take (i := 18) (v := undef) (by simp only [List.getElem?_toArray, List.getElem?_cons_succ, List.getElem?_cons_zero]; rfl) (by kernel_rfl) (by kernel_rfl) (by kernel_rfl) (fun _ _ _ h => h) (Or.inr ⟨by rfl, rfl⟩) (by assumption) ?_
            simp only [Act.put, List.setIfInBounds_toArray, List.set_cons_zero, List.set_cons_succ]
            refine wpAnyH_take (i := 19) (v := undef) (by simp only [List.getElem?_toArray, List.getElem?_cons_succ, List.getElem?_cons_zero]; rfl) (by kernel_rfl) (by kernel_rfl) (by kernel_rfl) (fun _ _ _ h => h) (Or.inr ⟨by rfl, rfl⟩) (by assumption) ?_
            simp only [Act.put, List.setIfInBounds_toArray, List.set_cons_zero, List.set_cons_succ]
            refine wpAnyH_take (i := 20) (v := undef) (by simp only [List.getElem?_toArray, List.getElem?_cons_succ, List.getElem?_cons_zero]; rfl) (by kernel_rfl) (by kernel_rfl) (by kernel_rfl) (fun _ _ _ h => h) (Or.inr ⟨by rfl, rfl⟩) (by assumption) ?_
            simp only [Act.put, List.setIfInBounds_toArray, List.set_cons_zero, List.set_cons_succ]
            refine wpAnyH_take (i := 21) (v := undef) (by simp only [List.getElem?_toArray, List.getElem?_cons_succ, List.getElem?_cons_zero]; rfl) (by kernel_rfl) (by kernel_rfl) (by kernel_rfl) (fun _ _ _ h => h) (Or.inr ⟨by rfl, rfl⟩) (by assumption) ?_
            simp only [Act.put, List.setIfInBounds_toArray, List.set_cons_zero, List.set_cons_succ]
            refine wpAnyH_take (i := 22) (v := undef) (by simp only [List.getElem?_toArray, List.getElem?_cons_succ, List.getElem?_cons_zero]; rfl) (by kernel_rfl) (by kernel_rfl) (by kernel_rfl) (fun _ _ _ h => h) (Or.inr ⟨by rfl, rfl⟩) (by assumption) ?_
            simp only [Act.put, List.setIfInBounds_toArray, List.set_cons_zero, List.set_cons_succ]
            refine wpAnyH_take (i := 23) (v := ?_) (by simp only [List.getElem?_toArray, List.getElem?_cons_succ, List.getElem?_cons_zero]; rfl) (by kernel_rfl) (by kernel_rfl) (by kernel_rfl) (fun _ _ _ h => h) (Or.inl ⟨by rfl, ?_⟩) (by assumption) ?_
            rotate_left
            · intro w hSw
              (try dsimp only at hSw)
              go_simp
              (try with_reducible rfl)
            simp only [Act.put, List.setIfInBounds_toArray, List.set_cons_zero, List.set_cons_succ]
            refine wpAnyH_take (i := 24) (v := ?_) (by simp only [List.getElem?_toArray, List.getElem?_cons_succ, List.getElem?_cons_zero]; rfl) (by kernel_rfl) (by kernel_rfl) (by kernel_rfl) (fun _ _ _ h => h) (Or.inl ⟨by rfl, ?_⟩) (by assumption) ?_
            rotate_left
            · intro w hSw
              (try dsimp only at hSw)
              go_simp
              (try with_reducible rfl)
            simp only [Act.put, List.setIfInBounds_toArray, List.set_cons_zero, List.set_cons_succ]
            refine wpAnyH_take (i := 25) (v := undef) (by simp only [List.getElem?_toArray, List.getElem?_cons_succ, List.getElem?_cons_zero]; rfl) (by kernel_rfl) (by kernel_rfl) (by kernel_rfl) (fun _ _ _ h => h) (Or.inr ⟨by rfl, rfl⟩) (by assumption) ?_
            simp only [Act.put, List.setIfInBounds_toArray, List.set_cons_zero, List.set_cons_succ]
            refine wpAnyH_take (i := 26) (v := undef) (by simp only [List.getElem?_toArray, List.getElem?_cons_succ, List.getElem?_cons_zero]; rfl) (by kernel_rfl) (by kernel_rfl) (by kernel_rfl) (fun _ _ _ h => h) (Or.inr ⟨by rfl, rfl⟩) (by assumption) ?_
            simp only [Act.put, List.setIfInBounds_toArray, List.set_cons_zero, List.set_cons_succ]
            refine wpAnyH_take (i := 27) (v := undef) (by simp only [List.getElem?_toArray, List.getElem?_cons_succ, List.getElem?_cons_zero]; rfl) (by kernel_rfl) (by kernel_rfl) (by kernel_rfl) (fun _ _ _ h => h) (Or.inr ⟨by rfl, rfl⟩) (by assumption) ?_
            simp only [Act.put, List.setIfInBounds_toArray, List.set_cons_zero, List.set_cons_succ]
            refine wpAnyH_take (i := 28) (v := undef) (by simp only [List.getElem?_toArray, List.getElem?_cons_succ, List.getElem?_cons_zero]; rfl) (by kernel_rfl) (by kernel_rfl) (by kernel_rfl) (fun _ _ _ h => h) (Or.inr ⟨by rfl, rfl⟩) (by assumption) ?_
            simp only [Act.put, List.setIfInBounds_toArray, List.set_cons_zero, List.set_cons_succ]
            refine wpAnyH_take (i := 29) (v := undef) (by simp only [List.getElem?_toArray, List.getElem?_cons_succ, List.getElem?_cons_zero]; rfl) (by kernel_rfl) (by kernel_rfl) (by kernel_rfl) (fun _ _ _ h => h) (Or.inr ⟨by rfl, rfl⟩) (by assumption) ?_
            simp only [Act.put, List.setIfInBounds_toArray, List.set_cons_zero, List.set_cons_succ]
            refine wpAnyH_take (i := 30) (v := undef) (by simp only [List.getElem?_toArray, List.getElem?_cons_succ, List.getElem?_cons_zero]; rfl) (by kernel_rfl) (by kernel_rfl) (by kernel_rfl) (fun _ _ _ h => h) (Or.inr ⟨by rfl, rfl⟩) (by assumption) ?_
            simp only [Act.put, List.setIfInBounds_toArray, List.set_cons_zero, List.set_cons_succ]
            refine wpAnyH_take (i := 31) (v := undef) (by simp only [List.getElem?_toArray, List.getElem?_cons_succ, List.getElem?_cons_zero]; rfl) (by kernel_rfl) (by kernel_rfl) (by kernel_rfl) (fun _ _ _ h => h) (Or.inr ⟨by rfl, rfl⟩) (by assumption) ?_
            simp only [Act.put, List.setIfInBounds_toArray, List.set_cons_zero, List.set_cons_succ]
            refine wpAnyH_take (i := 32) (v := undef) (by simp only [List.getElem?_toArray, List.getElem?_cons_succ, List.getElem?_cons_zero]; rfl) (by kernel_rfl) (by kernel_rfl) (by kernel_rfl) (fun _ _ _ h => h) (Or.inr ⟨by rfl, rfl⟩) (by assumption) ?_
            simp only [Act.put, List.setIfInBounds_toArray, List.set_cons_zero, List.set_cons_succ]
            refine wpAnyH_take (i := 33) (v := undef) (by simp only [List.getElem?_toArray, List.getElem?_cons_succ, List.getElem?_cons_zero]; rfl) (by kernel_rfl) (by kernel_rfl) (by kernel_rfl) (fun _ _ _ h => h) (Or.inr ⟨by rfl, rfl⟩) (by assumption) ?_
            simp only [Act.put, List.setIfInBounds_toArray, List.set_cons_zero, List.set_cons_succ]
            refine wpAnyH_take (i := 34) (v := ?_) (by simp only [List.getElem?_toArray, List.getElem?_cons_succ, List.getElem?_cons_zero]; rfl) (by kernel_rfl) (by kernel_rfl) (by kernel_rfl) (fun _ _ _ h => h) (Or.inl ⟨by rfl, ?_⟩) (by assumption) ?_
            rotate_left
            · intro w hSw
              (try dsimp only at hSw)
              go_simp
              (try with_reducible rfl)
            simp only [Act.put, List.setIfInBounds_toArray, List.set_cons_zero, List.set_cons_succ]
            refine wpAnyH_take (i := 35) (v := ?_) (by simp only [List.getElem?_toArray, List.getElem?_cons_succ, List.getElem?_cons_zero]; rfl) (by kernel_rfl) (by kernel_rfl) (by kernel_rfl) (fun _ _ _ h => h) (Or.inl ⟨by rfl, ?_⟩) (by assumption) ?_
            rotate_left
            · intro w hSw
              (try dsimp only at hSw)
              go_simp
              (try with_reducible rfl)
            simp only [Act.put, List.setIfInBounds_toArray, List.set_cons_zero, List.set_cons_succ]
            refine wpAnyH_take (i := 36) (v := ?_) (by simp only [List.getElem?_toArray, List.getElem?_cons_succ, List.getElem?_cons_zero]; rfl) (by kernel_rfl) (by kernel_rfl) (by kernel_rfl) (fun _ _ _ h => h) (Or.inl ⟨by rfl, ?_⟩) (by assumption) ?_
            rotate_left
            · intro w hSw
              (try dsimp only at hSw)
              go_simp
              (try with_reducible rfl)
            simp only [Act.put, List.setIfInBounds_toArray, List.set_cons_zero, List.set_cons_succ]
            refine wpAnyH_done (by kernel_rfl) ?_ _
            refine NoPanic.normal ?_
            have k := hHeld.2.2
            clear hHeld
            have KB15 := Lib.hid (KB14.out.trans k)
            clear k
            generalize W14.drew = W15 at *
            go_wp2_with fail
            go_ret
            exact ⟨by first | rfl | (simp; done), K0.out.trans KB15.out⟩
          | false =>
            obtain ⟨e1, e2, e3, e4, e5⟩ := HF.out rfl
            have z1_ := HS1.out e1 e2
            have z2_ := HS2.out e3 e4
            clear e1 e2 e3 e4
            subst e5 z1_ z2_
            refine wp_region_noPanic ?_
            refine wp_region_held_drew (S := (fun w' => w'.cell? ⟨z21, 0, none⟩ = some (.slice A3 m.length c3) ∧ w'.cell? ⟨z2, 0, none⟩ = some (.slice mA m.length mc) ∧ Kept W14 w')) (by kernel_rfl) ?_ (fun hHeld => ?_)
            · exact ⟨p0, b20, (Kept.refl _).drew⟩
            refine wpAnyH_take (i := 0) (v := ?_) (by simp only [List.getElem?_toArray, List.getElem?_cons_succ, List.getElem?_cons_zero]; rfl) (by kernel_rfl) (by kernel_rfl) (by kernel_rfl) (fun _ _ _ h => h) (Or.inl ⟨by rfl, ?_⟩) (by assumption) ?_
            rotate_left
            · intro w hSw
              (try dsimp only at hSw)
              go_simp
              (try with_reducible rfl)
            simp only [Act.put, List.setIfInBounds_toArray, List.set_cons_zero, List.set_cons_succ]
            refine wpAnyH_take (i := 1) (v := ?_) (by simp only [List.getElem?_toArray, List.getElem?_cons_succ, List.getElem?_cons_zero]; rfl) (by kernel_rfl) (by kernel_rfl) (by kernel_rfl) (fun _ _ _ h => h) (Or.inl ⟨by rfl, ?_⟩) (by assumption) ?_
            rotate_left
            · intro w hSw
              (try dsimp only at hSw)
              go_simp
              (try with_reducible rfl)
            simp only [Act.put, List.setIfInBounds_toArray, List.set_cons_zero, List.set_cons_succ]
            refine wpAnyH_take (i := 2) (v := ?_) (by simp only [List.getElem?_toArray, List.getElem?_cons_succ, List.getElem?_cons_zero]; rfl) (by kernel_rfl) (by kernel_rfl) (by kernel_rfl) (fun _ _ _ h => h) (Or.inl ⟨by rfl, ?_⟩) (by assumption) ?_
            rotate_left
            · intro w hSw
              (try dsimp only at hSw)
              go_simp
              (try with_reducible rfl)
            simp only [Act.put, List.setIfInBounds_toArray, List.set_cons_zero, List.set_cons_succ]
            refine wpAnyH_take (i := 3) (v := ?_) (by simp only [List.getElem?_toArray, List.getElem?_cons_succ, List.getElem?_cons_zero]; rfl) (by kernel_rfl) (by kernel_rfl) (by kernel_rfl) (fun _ _ _ h => h) (Or.inl ⟨by rfl, ?_⟩) (by assumption) ?_
            rotate_left
            · intro w hSw
              (try dsimp only at hSw)
              go_simp
              (try with_reducible rfl)
            simp only [Act.put, List.setIfInBounds_toArray, List.set_cons_zero, List.set_cons_succ]
            refine wpAnyH_take (i := 4) (v := ?_) (by simp only [List.getElem?_toArray, List.getElem?_cons_succ, List.getElem?_cons_zero]; rfl) (by kernel_rfl) (by kernel_rfl) (by kernel_rfl) (fun _ _ _ h => h) (Or.inl ⟨by rfl, ?_⟩) (by assumption) ?_
            rotate_left
            · intro w hSw
              (try dsimp only at hSw)
              go_simp
              (try with_reducible rfl)
            simp only [Act.put, List.setIfInBounds_toArray, List.set_cons_zero, List.set_cons_succ]
            refine wpAnyH_take (i := 5) (v := ?_) (by simp only [List.getElem?_toArray, List.getElem?_cons_succ, List.getElem?_cons_zero]; rfl) (by kernel_rfl) (by kernel_rfl) (by kernel_rfl) (fun _ _ _ h => h) (Or.inl ⟨by rfl, ?_⟩) (by assumption) ?_
            rotate_left
            · intro w hSw
              (try dsimp only at hSw)
              go_simp
              (try with_reducible rfl)
            simp only [Act.put, List.setIfInBounds_toArray, List.set_cons_zero, List.set_cons_succ]
            refine wpAnyH_take (i := 6) (v := ?_) (by simp only [List.getElem?_toArray, List.getElem?_cons_succ, List.getElem?_cons_zero]; rfl) (by kernel_rfl) (by kernel_rfl) (by kernel_rfl) (fun _ _ _ h => h) (Or.inl ⟨by rfl, ?_⟩) (by assumption) ?_
            rotate_left
            · intro w hSw
              (try dsimp only at hSw)
              go_simp
              (try with_reducible rfl)
            simp only [Act.put, List.setIfInBounds_toArray, List.set_cons_zero, List.set_cons_succ]
            refine wpAnyH_take (i := 7) (v := ?_) (by simp only [List.getElem?_toArray, List.getElem?_cons_succ, List.getElem?_cons_zero]; rfl) (by kernel_rfl) (by kernel_rfl) (by kernel_rfl) (fun _ _ _ h => h) (Or.inl ⟨by rfl, ?_⟩) (by assumption) ?_
            rotate_left
            · intro w hSw
              (try dsimp only at hSw)
              go_simp
              (try with_reducible rfl)
            simp only [Act.put, List.setIfInBounds_toArray, List.set_cons_zero, List.set_cons_succ]
            refine wpAnyH_take (i := 8) (v := ?_) (by simp only [List.getElem?_toArray, List.getElem?_cons_succ, List.getElem?_cons_zero]; rfl) (by kernel_rfl) (by kernel_rfl) (by kernel_rfl) (fun _ _ _ h => h) (Or.inl ⟨by rfl, ?_⟩) (by assumption) ?_
            rotate_left
            · intro w hSw
              (try dsimp only at hSw)
              go_simp
              (try with_reducible rfl)
            simp only [Act.put, List.setIfInBounds_toArray, List.set_cons_zero, List.set_cons_succ]
            refine wpAnyH_take (i := 9) (v := ?_) (by simp only [List.getElem?_toArray, List.getElem?_cons_succ, List.getElem?_cons_zero]; rfl) (by kernel_rfl) (by kernel_rfl) (by kernel_rfl) (fun _ _ _ h => h) (Or.inl ⟨by rfl, ?_⟩) (by assumption) ?_
            rotate_left
            · intro w hSw
              (try dsimp only at hSw)
              go_simp
              (try with_reducible rfl)
            simp only [Act.put, List.setIfInBounds_toArray, List.set_cons_zero, List.set_cons_succ]
            refine wpAnyH_take (i := 10) (v := ?_) (by simp only [List.getElem?_toArray, List.getElem?_cons_succ, List.getElem?_cons_zero]; rfl) (by kernel_rfl) (by kernel_rfl) (by kernel_rfl) (fun _ _ _ h => h) (Or.inl ⟨by rfl, ?_⟩) (by assumption) ?_
            rotate_left
            · intro w hSw
              (try dsimp only at hSw)
              go_simp
              (try with_reducible rfl)
            simp only [Act.put, List.setIfInBounds_toArray, List.set_cons_zero, List.set_cons_succ]
            refine wpAnyH_take (i := 11) (v := ?_) (by simp only [List.getElem?_toArray, List.getElem?_cons_succ, List.getElem?_cons_zero]; rfl) (by kernel_rfl) (by kernel_rfl) (by kernel_rfl) (fun _ _ _ h => h) (Or.inl ⟨by rfl, ?_⟩) (by assumption) ?_
            rotate_left
            · intro w hSw
              (try dsimp only at hSw)
              go_simp
              (try with_reducible rfl)
            simp only [Act.put, List.setIfInBounds_toArray, List.set_cons_zero, List.set_cons_succ]
            refine wpAnyH_take (i := 12) (v := ?_) (by simp only [List.getElem?_toArray, List.getElem?_cons_succ, List.getElem?_cons_zero]; rfl) (by kernel_rfl) (by kernel_rfl) (by kernel_rfl) (fun _ _ _ h => h) (Or.inl ⟨by rfl, ?_⟩) (by assumption) ?_
            rotate_left
            · intro w hSw
              (try dsimp only at hSw)
              go_simp
              (try with_reducible rfl)
            simp only [Act.put, List.setIfInBounds_toArray, List.set_cons_zero, List.set_cons_succ]
            refine wpAnyH_take (i := 13) (v := ?_) (by simp only [List.getElem?_toArray, List.getElem?_cons_succ, List.getElem?_cons_zero]; rfl) (by kernel_rfl) (by kernel_rfl) (by kernel_rfl) (fun _ _ _ h => h) (Or.inl ⟨by rfl, ?_⟩) (by assumption) ?_
            rotate_left
            · intro w hSw
              (try dsimp only at hSw)
              go_simp
              (try with_reducible rfl)
            simp only [Act.put, List.setIfInBounds_toArray, List.set_cons_zero, List.set_cons_succ]
            refine wpAnyH_take (i := 14) (v := ?_) (by simp only [List.getElem?_toArray, List.getElem?_cons_succ, List.getElem?_cons_zero]; rfl) (by kernel_rfl) (by kernel_rfl) (by kernel_rfl) (fun _ _ _ h => h) (Or.inl ⟨by rfl, ?_⟩) (by assumption) ?_
            rotate_left
            · intro w hSw
              (try dsimp only at hSw)
              go_simp
              (try with_reducible rfl)
            simp only [Act.put, List.setIfInBounds_toArray, List.set_cons_zero, List.set_cons_succ]
            refine wpAnyH_take (i := 15) (v := ?_) (by simp only [List.getElem?_toArray, List.getElem?_cons_succ, List.getElem?_cons_zero]; rfl) (by kernel_rfl) (by kernel_rfl) (by kernel_rfl) (fun _ _ _ h => h) (Or.inl ⟨by rfl, ?_⟩) (by assumption) ?_
            rotate_left
            · intro w hSw
              (try dsimp only at hSw)
              go_simp
              (try with_reducible rfl)
            simp only [Act.put, List.setIfInBounds_toArray, List.set_cons_zero, List.set_cons_succ]
            refine wpAnyH_take (i := 16) (v := ?_) (by simp only [List.getElem?_toArray, List.getElem?_cons_succ, List.getElem?_cons_zero]; rfl) (by kernel_rfl) (by kernel_rfl) (by kernel_rfl) (fun _ _ _ h => h) (Or.inl ⟨by rfl, ?_⟩) (by assumption) ?_
            rotate_left
            · intro w hSw
              (try dsimp only at hSw)
              go_simp
              (try with_reducible rfl)
            simp only [Act.put, List.setIfInBounds_toArray, List.set_cons_zero, List.set_cons_succ]
            refine wpAnyH_take (i := 17) (v := ?_) (by simp only [List.getElem?_toArray, List.getElem?_cons_succ, List.getElem?_cons_zero]; rfl) (by kernel_rfl) (by kernel_rfl) (by kernel_rfl) (fun _ _ _ h => h) (Or.inl ⟨by rfl, ?_⟩) (by assumption) ?_
            rotate_left
            · intro w hSw
              (try dsimp only at hSw)
              go_simp
              (try with_reducible rfl)
            simp only [Act.put, List.setIfInBounds_toArray, List.set_cons_zero, List.set_cons_succ]
            refine wpAnyH_take (i := 18) (v := ?_) (by simp only [List.getElem?_toArray, List.getElem?_cons_succ, List.getElem?_cons_zero]; rfl) (by kernel_rfl) (by kernel_rfl) (by kernel_rfl) (fun _ _ _ h => h) (Or.inl ⟨by rfl, ?_⟩) (by assumption) ?_
            rotate_left
            · intro w hSw
              (try dsimp only at hSw)
              go_simp
              (try with_reducible rfl)
            simp only [Act.put, List.setIfInBounds_toArray, List.set_cons_zero, List.set_cons_succ]
            refine wpAnyH_take (i := 19) (v := ?_) (by simp only [List.getElem?_toArray, List.getElem?_cons_succ, List.getElem?_cons_zero]; rfl) (by kernel_rfl) (by kernel_rfl) (by kernel_rfl) (fun _ _ _ h => h) (Or.inl ⟨by rfl, ?_⟩) (by assumption) ?_
            rotate_left
            · intro w hSw
              (try dsimp only at hSw)
              go_simp
              (try with_reducible rfl)
            simp only [Act.put, List.setIfInBounds_toArray, List.set_cons_zero, List.set_cons_succ]
            refine wpAnyH_take (i := 20) (v := ?_) (by simp only [List.getElem?_toArray, List.getElem?_cons_succ, List.getElem?_cons_zero]; rfl) (by kernel_rfl) (by kernel_rfl) (by kernel_rfl) (fun _ _ _ h => h) (Or.inl ⟨by rfl, ?_⟩) (by assumption) ?_
            rotate_left
            · intro w hSw
              (try dsimp only at hSw)
              go_simp
              (try with_reducible rfl)
            simp only [Act.put, List.setIfInBounds_toArray, List.set_cons_zero, List.set_cons_succ]
            refine wpAnyH_take (i := 21) (v := ?_) (by simp only [List.getElem?_toArray, List.getElem?_cons_succ, List.getElem?_cons_zero]; rfl) (by kernel_rfl) (by kernel_rfl) (by kernel_rfl) (fun _ _ _ h => h) (Or.inl ⟨by rfl, ?_⟩) (by assumption) ?_
            rotate_left
            · intro w hSw
              (try dsimp only at hSw)
              go_simp
              (try with_reducible rfl)
            simp only [Act.put, List.setIfInBounds_toArray, List.set_cons_zero, List.set_cons_succ]
            refine wpAnyH_take (i := 22) (v := ?_) (by simp only [List.getElem?_toArray, List.getElem?_cons_succ, List.getElem?_cons_zero]; rfl) (by kernel_rfl) (by kernel_rfl) (by kernel_rfl) (fun _ _ _ h => h) (Or.inl ⟨by rfl, ?_⟩) (by assumption) ?_
            rotate_left
            · intro w hSw
              (try dsimp only at hSw)
              go_simp
              (try with_reducible rfl)
            simp only [Act.put, List.setIfInBounds_toArray, List.set_cons_zero, List.set_cons_succ]
            refine wpAnyH_take (i := 23) (v := ?_) (by simp only [List.getElem?_toArray, List.getElem?_cons_succ, List.getElem?_cons_zero]; rfl) (by kernel_rfl) (by kernel_rfl) (by kernel_rfl) (fun _ _ _ h => h) (Or.inl ⟨by rfl, ?_⟩) (by assumption) ?_
            rotate_left
            · intro w hSw
              (try dsimp only at hSw)
              go_simp
              (try with_reducible rfl)
            simp only [Act.put, List.setIfInBounds_toArray, List.set_cons_zero, List.set_cons_succ]
            refine wpAnyH_take (i := 24) (v := ?_) (by simp only [List.getElem?_toArray, List.getElem?_cons_succ, List.getElem?_cons_zero]; rfl) (by kernel_rfl) (by kernel_rfl) (by kernel_rfl) (fun _ _ _ h => h) (Or.inl ⟨by rfl, ?_⟩) (by assumption) ?_
            rotate_left
            · intro w hSw
              (try dsimp only at hSw)
              go_simp
              (try with_reducible rfl)
            simp only [Act.put, List.setIfInBounds_toArray, List.set_cons_zero, List.set_cons_succ]
            refine wpAnyH_take (i := 25) (v := undef) (by simp only [List.getElem?_toArray, List.getElem?_cons_succ, List.getElem?_cons_zero]; rfl) (by kernel_rfl) (by kernel_rfl) (by kernel_rfl) (fun _ _ _ h => h) (Or.inr ⟨by rfl, rfl⟩) (by assumption) ?_
            simp only [Act.put, List.setIfInBounds_toArray, List.set_cons_zero, List.set_cons_succ]
            refine wpAnyH_take (i := 26) (v := undef) (by simp only [List.getElem?_toArray, List.getElem?_cons_succ, List.getElem?_cons_zero]; rfl) (by kernel_rfl) (by kernel_rfl) (by kernel_rfl) (fun _ _ _ h => h) (Or.inr ⟨by rfl, rfl⟩) (by assumption) ?_
            simp only [Act.put, List.setIfInBounds_toArray, List.set_cons_zero, List.set_cons_succ]
            refine wpAnyH_take (i := 27) (v := undef) (by simp only [List.getElem?_toArray, List.getElem?_cons_succ, List.getElem?_cons_zero]; rfl) (by kernel_rfl) (by kernel_rfl) (by kernel_rfl) (fun _ _ _ h => h) (Or.inr ⟨by rfl, rfl⟩) (by assumption) ?_
            simp only [Act.put, List.setIfInBounds_toArray, List.set_cons_zero, List.set_cons_succ]
            refine wpAnyH_take (i := 28) (v := undef) (by simp only [List.getElem?_toArray, List.getElem?_cons_succ, List.getElem?_cons_zero]; rfl) (by kernel_rfl) (by kernel_rfl) (by kernel_rfl) (fun _ _ _ h => h) (Or.inr ⟨by rfl, rfl⟩) (by assumption) ?_
            simp only [Act.put, List.setIfInBounds_toArray, List.set_cons_zero, List.set_cons_succ]
            refine wpAnyH_take (i := 29) (v := undef) (by simp only [List.getElem?_toArray, List.getElem?_cons_succ, List.getElem?_cons_zero]; rfl) (by kernel_rfl) (by kernel_rfl) (by kernel_rfl) (fun _ _ _ h => h) (Or.inr ⟨by rfl, rfl⟩) (by assumption) ?_
            simp only [Act.put, List.setIfInBounds_toArray, List.set_cons_zero, List.set_cons_succ]
            refine wpAnyH_take (i := 30) (v := undef) (by simp only [List.getElem?_toArray, List.getElem?_cons_succ, List.getElem?_cons_zero]; rfl) (by kernel_rfl) (by kernel_rfl) (by kernel_rfl) (fun _ _ _ h => h) (Or.inr ⟨by rfl, rfl⟩) (by assumption) ?_
            simp only [Act.put, List.setIfInBounds_toArray, List.set_cons_zero, List.set_cons_succ]
            refine wpAnyH_take (i := 31) (v := undef) (by simp only [List.getElem?_toArray, List.getElem?_cons_succ, List.getElem?_cons_zero]; rfl) (by kernel_rfl) (by kernel_rfl) (by kernel_rfl) (fun _ _ _ h => h) (Or.inr ⟨by rfl, rfl⟩) (by assumption) ?_
            simp only [Act.put, List.setIfInBounds_toArray, List.set_cons_zero, List.set_cons_succ]
            refine wpAnyH_take (i := 32) (v := undef) (by simp only [List.getElem?_toArray, List.getElem?_cons_succ, List.getElem?_cons_zero]; rfl) (by kernel_rfl) (by kernel_rfl) (by kernel_rfl) (fun _ _ _ h => h) (Or.inr ⟨by rfl, rfl⟩) (by assumption) ?_
            simp only [Act.put, List.setIfInBounds_toArray, List.set_cons_zero, List.set_cons_succ]
            refine wpAnyH_take (i := 33) (v := undef) (by simp only [List.getElem?_toArray, List.getElem?_cons_succ, List.getElem?_cons_zero]; rfl) (by kernel_rfl) (by kernel_rfl) (by kernel_rfl) (fun _ _ _ h => h) (Or.inr ⟨by rfl, rfl⟩) (by assumption) ?_
            simp only [Act.put, List.setIfInBounds_toArray, List.set_cons_zero, List.set_cons_succ]
            refine wpAnyH_take (i := 34) (v := ?_) (by simp only [List.getElem?_toArray, List.getElem?_cons_succ, List.getElem?_cons_zero]; rfl) (by kernel_rfl) (by kernel_rfl) (by kernel_rfl) (fun _ _ _ h => h) (Or.inl ⟨by rfl, ?_⟩) (by assumption) ?_
            rotate_left
            · intro w hSw
              (try dsimp only at hSw)
              go_simp
              (try with_reducible rfl)
            simp only [Act.put, List.setIfInBounds_toArray, List.set_cons_zero, List.set_cons_succ]
            refine wpAnyH_take (i := 35) (v := ?_) (by simp only [List.getElem?_toArray, List.getElem?_cons_succ, List.getElem?_cons_zero]; rfl) (by kernel_rfl) (by kernel_rfl) (by kernel_rfl) (fun _ _ _ h => h) (Or.inl ⟨by rfl, ?_⟩) (by assumption) ?_
            rotate_left
            · intro w hSw
              (try dsimp only at hSw)
              go_simp
              (try with_reducible rfl)
            simp only [Act.put, List.setIfInBounds_toArray, List.set_cons_zero, List.set_cons_succ]
            refine wpAnyH_take (i := 36) (v := ?_) (by simp only [List.getElem?_toArray, List.getElem?_cons_succ, List.getElem?_cons_zero]; rfl) (by kernel_rfl) (by kernel_rfl) (by kernel_rfl) (fun _ _ _ h => h) (Or.inl ⟨by rfl, ?_⟩) (by assumption) ?_
            rotate_left
            · intro w hSw
              (try dsimp only at hSw)
              go_simp
              (try with_reducible rfl)
            simp only [Act.put, List.setIfInBounds_toArray, List.set_cons_zero, List.set_cons_succ]
            refine wpAnyH_done (by kernel_rfl) ?_ _
            refine NoPanic.normal ?_
            have k := hHeld.2.2
            clear hHeld
            have KB15 := Lib.hid (KB14.out.trans k)
            clear k
            generalize W14.drew = W15 at *
            go_wp2_with fail
            go_ret
            exact ⟨by first | rfl | (simp; done), K0.out.trans KB15.out⟩

/-! ### The row's step -/
set_option maxRecDepth 100000 in
theorem lifted (os : Os) (started : os.Started) (H : Type) (enc : TypeId × Value → H) :
    ReturnsInHanded {} Try.checked os 3 .any (Rows.viewKeepsSpec.pre6 enc Try.prog Try.f3 Rows.viewKeepsRow.domain false) (Rows.viewKeepsSpec.post enc Try.prog Try.f3 false true false false) := by
  refine returnsInHanded_of_change (C := Try.checked) own started (by kernel_rfl) Try.func3
    (ChangeSpec.witness6 (enc := enc) (C := Try.checked) false ⟨#[], #[.agg #[.slice none 0 0, .int .u64 0, .int .i64 0, .int .i64 0, .int .i64 0], .agg #[.slice none 0 0, .slice none 0 0], .agg #[.slice none 0 0, .slice none 0 0], .int .i64 0], []⟩ 8 (by kernel_rfl) (by kernel_rfl) (by kernel_rfl) (by kernel_rfl)) ?_
  intro W base args ds gs before hval0 hW hcnd _
  have hval : ∀ (j : Nat) t v, Try.f3.params[j]? = some t → args[j]? = some v → Value.okWide Try.prog W .any base t v := hval0
  have hW' := hW
  obtain ⟨p, q, hA0, hV, rfl, hfz, hnd⟩ := hW
  have hA : DataW.TrodAll enc Try.prog W 0 (fun _ => true) true Try.f3.params.toList args.toList ds p := hA0
  rw [Try.params3] at hA hval
  obtain ⟨v0, vs0, d0, ds0, p0, q0, hargs, rfl, rfl, h0, r0⟩ := trodAll_cons hA
  obtain ⟨v1, vs1, d1, ds1, p1, q1, rfl, rfl, rfl, h1, r1⟩ := trodAll_cons r0
  obtain ⟨v2, vs2, d2, ds2, p2, q2, rfl, rfl, rfl, h2, r2⟩ := trodAll_cons r1
  obtain ⟨v3, vs3, d3, ds3, p3, q3, rfl, rfl, rfl, h3, r3⟩ := trodAll_cons r2
  obtain ⟨rfl, rfl, rfl⟩ := trodAll_nil r3
  obtain rfl : args = #[v0, v1, v2, v3] := by cases args; simp_all
  obtain ⟨rfl, rfl⟩ := trodVars_none hV
  obtain ⟨kA, kc, k, rfl, khm, khs, khl⟩ := open_conf (hval 0 _ v0 rfl rfl) h0
  obtain ⟨lA, lc, l, vA, vc, v, rfl, lhm, lhc, ⟨lhw, lh6⟩, lhl, vhm, vhc, vhw, vhl⟩ := open_view64 (hval 1 _ v1 rfl rfl) h1
  obtain ⟨mA, mc, m, uA, uc, u, rfl, mhm, mhc, ⟨mhw, mh6⟩, mhl, uhm, uhc, uhw, uhl⟩ := open_view64 (hval 2 _ v2 rfl rfl) h2
  obtain ⟨slot, rfl, hslot1, hslot2⟩ := open_num (hval 3 _ v3 rfl rfl) h3
  clear hA0 hval0
  refine (walk W kA kc k khm khs khl lA lc l vA vc v lhm lhc lhw lh6 lhl vhm vhc vhw vhl mA mc m uA uc u mhm mhc mhw mh6 mhl uhm uhc uhw uhl slot hslot1 hslot2).mono fun e W' ⟨he, hb⟩ => ?_
  subst he
  exact ⟨_, rfl, law_post rfl (by kernel_rfl) rfl hW' rfl hb⟩

theorem over : Rows.viewKeepsRow.holds Try.pinned (OpenSpec.ofChange Rows.viewKeepsSpec) :=
  OpenClaim.holds_of_wide 3 Try.f3 rfl rfl rfl rfl rfl rfl rfl ⟨rfl, rfl, rfl, rfl, rfl⟩ rfl rfl rfl rfl rfl (by kernel_rfl) Try.func3 (by kernel_rfl)
    (of_decide_eq_true (by kernel_rfl)) (by unfold Func.isWrapper; first | (rw [if_pos (by decide +kernel)]; kernel_rfl) | (rw [if_neg (by decide +kernel)]; exact ⟨rfl, rfl⟩))
    (fun os started H enc _ => lifted os started H enc)

/-- The statement. -/
theorem proved : Rows.ViewKeepsSaid :=
  over
#print axioms proved

end Go.Proofs.Ytacdiicnfoejoaa.viewKeeps
