/-
  Law ViewMeets of layer 16: what is counted by a view is counted by each other one that all of it comes to, if that has room, whatever conf, two views and slot.
-/
import Derived.Test.YtacdiicnfoejoaaViewUse
import Derived.Test.YtacdiicnfoejoaaView
import Derived.Test.YtacdiicnfoejoaaViewAwake
import Derived.Test.YtacdiicnfoejoaaViewOpen64
import Derived.Test.YtacdiicnfoejoaaMixG
import Derived.Test.YtacdiicnfoejoaaGround
import Derived.Test.YtacdiicnfoejoaaVoteG
import Derived.Test.YtacdiicnfoejoaaDutyG
import Derived.Test.YtacdiicnfoejoaaViewRefOnly
import Derived.Test.YtacdiicnfoejoaaTreeG
namespace Go.Proofs.Ytacdiicnfoejoaa.viewMeets
set_option maxRecDepth 100000
set_option linter.unusedVariables false
set_option linter.unusedSimpArgs false
open Go.ChangeShapes Go.WideShapes Go.ChangeAt Go.RowKit
set_option linter.unusedVariables false

def OkTo (N : Bk → Id2) (s : Option Int) (l : List Bk) (j : Nat) : Prop := (∀ x ∈ l.take j, ∀ t, s = some t → x.s ≤ t) ∧ (l.take j).Pairwise fun a b => N a ≠ N b
theorem OkTo.step {N : Bk → Id2} {s : Option Int} {l : List Bk} {j : Nat} (hj : j < l.length) (h : OkTo N s l j) (h1 : ∀ t, s = some t → l[j].s ≤ t) (h2 : ∀ x ∈ l.take j, N x ≠ N l[j]) : OkTo N s l (j + 1) := by
  unfold OkTo
  rw [List.take_succ_eq_append_getElem hj]
  refine ⟨fun x hx => ?_, List.pairwise_append.2 ⟨h.2, List.pairwise_singleton _ _, fun a ha b hb => ?_⟩⟩
  · rcases List.mem_append.1 hx with q | q
    · exact h.1 x q
    · rw [List.mem_singleton] at q; subst q; exact h1
  · rw [List.mem_singleton] at hb; subst hb; exact h2 a ha
theorem apart_step {N : Bk → Id2} {l : List Bk} {n : Nat} {y : Bk} (hn : n < l.length) (h : ∀ x ∈ l.take n, N x ≠ N y) (h2 : ¬ N l[n] = N y) : ∀ x ∈ l.take (n + 1), N x ≠ N y := by
  rw [List.take_succ_eq_append_getElem hn]
  intro x hx
  rcases List.mem_append.1 hx with q | q
  · exact h x q
  · rw [List.mem_singleton] at q; subst q; exact h2
theorem votes_step {l : List Vt} {j : Nat} {slot : Int} (hj : j < l.length) (h : ∀ x ∈ l.take j, x.s ≤ slot) (h1 : l[j].s ≤ slot) : ∀ x ∈ l.take (j + 1), x.s ≤ slot := by
  rw [List.take_succ_eq_append_getElem hj]
  intro x hx
  rcases List.mem_append.1 hx with q | q
  · exact h x q
  · rw [List.mem_singleton] at q; subst q; exact h1
/-- What is so of a view that took all of another one. -/
structure MeetF (w i : Vw) (t : TSt) : Prop where
  full : t.full = false
  yb : t.i.b = []
  yv : t.i.v = []
  lb : t.w.b.length ≤ 60
  lv : t.w.v.length ≤ 240
  nb : t.w.b.Nodup
  nv : t.w.v.Nodup
  mb : ∀ x, x ∈ t.w.b ↔ x ∈ w.b ∨ x ∈ i.b
  mv : ∀ x, x ∈ t.w.v ↔ x ∈ w.v ∨ x ∈ i.v
theorem meet_one {k : Cf} {w i : Vw} {slot : Int} (h1 : mayW k w = true) (h2 : mayW k i = true) (hs : ∀ b ∈ i.b, b.s ≤ slot) (hv : ∀ v ∈ i.v, v.s ≤ slot) (hap : Apart (w.b ++ i.b)) (hb : w.b.length + i.b.length ≤ 60) (hc : w.v.length + i.v.length ≤ 240) : MeetF w i (takeC k w i slot) := by
  have hf := take_room (k := k) (w := w) (i := i) (upto := slot) h1 hb hc
  have h := take_inv (i := i) (upto := slot) h1
  obtain ⟨m1, m2, m3, m4⟩ := take_meets h1 h2 hs hv hf hap
  exact ⟨hf, m3, m4, h.lenb, h.lenv, mayB_nodupL h.mayb, h.nodup, m1, m2⟩
theorem meets_both {k : Cf} {N : Bk → Id2} {l m : List Bk} {v u : List Vt} {slot : Int} (h1 : mayW k ⟨l, v⟩ = true) (h2 : mayW k ⟨m, u⟩ = true) (hN : N = nameB) (ho : OkTo N (some slot) (joinL l m) (joinL l m).length) (hv : ∀ x ∈ joinL v u, x.s ≤ slot) (hl : l.length ≤ 25) (hm : m.length ≤ 25) (hvl : v.length ≤ 25) (hul : u.length ≤ 25) :
    MeetF ⟨l, v⟩ ⟨m, u⟩ (takeC k ⟨l, v⟩ ⟨m, u⟩ slot) ∧ MeetF ⟨m, u⟩ ⟨l, v⟩ (takeC k ⟨m, u⟩ ⟨l, v⟩ slot) := by
  subst hN
  obtain ⟨ho1, ho2⟩ := ho
  rw [List.take_length] at ho1 ho2
  have ap := apart_of ho2
  have a1 : Apart (l ++ m) := ap.sub fun x hx => mem_joinL.2 (List.mem_append.1 hx)
  have a2 : Apart (m ++ l) := ap.sub fun x hx => mem_joinL.2 (List.mem_append.1 hx).symm
  exact ⟨meet_one h1 h2 (fun b hb => ho1 b (mem_joinL.2 (Or.inr hb)) slot rfl) (fun x hx => hv x (mem_joinL.2 (Or.inr hx))) a1 (by show l.length + m.length ≤ 60; omega) (by show v.length + u.length ≤ 240; omega),
    meet_one h2 h1 (fun b hb => ho1 b (mem_joinL.2 (Or.inl hb)) slot rfl) (fun x hx => hv x (mem_joinL.2 (Or.inl hx))) a2 (by show m.length + l.length ≤ 60; omega) (by show u.length + v.length ≤ 240; omega)⟩
attribute [local go_sem high] eqIdN in
set_option maxRecDepth 100000 in
set_option maxHeartbeats 12800000 in
theorem walk_of (w : World) (kA : Option Addr) (kc : Nat) (k : Cf) (khm : k.ws.length ≤ maxLen) (khs : k.seed < 18446744073709551616) (khl : CellsAt w w.heap.size kA (intCells k.ws)) (lA : Option Addr) (lc : Nat) (l : List Bk) (vA : Option Addr) (vc : Nat) (v : List Vt) (lhm : l.length ≤ maxLen) (lhc : l.length ≤ lc) (lhw : WfL l) (lh6 : Wf64L l) (lhl : CellsAt w w.heap.size lA (blockCells l)) (vhm : v.length ≤ maxLen) (vhc : v.length ≤ vc) (vhw : WfVs v) (vhl : CellsAt w w.heap.size vA (votesCells v)) (mA : Option Addr) (mc : Nat) (m : List Bk) (uA : Option Addr) (uc : Nat) (u : List Vt) (mhm : m.length ≤ maxLen) (mhc : m.length ≤ mc) (mhw : WfL m) (mh6 : Wf64L m) (mhl : CellsAt w w.heap.size mA (blockCells m)) (uhm : u.length ≤ maxLen) (uhc : u.length ≤ uc) (uhw : WfVs u) (uhl : CellsAt w w.heap.size uA (votesCells u)) (slot : Int) (hslot1 : -9223372036854775808 ≤ slot) (hslot2 : slot ≤ 9223372036854775807) (N : Bk → Id2) (hNe : N = nameB) (hNm : ∀ b, WfB b → ∀ w, Calls Try.prog 16 #[.agg #[.int .i64 b.s, .int .i64 b.f, .int .u64 b.p.1, .int .u64 b.p.2, .int .u64 b.t]] w fun e w' => e = .returned (.agg #[.int .u64 (N b).1, .int .u64 (N b).2]) ∧ Kept w w') :
    Calls Try.prog 5 #[.agg #[.slice kA k.ws.length kc, .int .u64 k.seed, .int .i64 k.ep, .int .i64 k.nu, .int .i64 k.de], .agg #[.slice lA l.length lc, .slice vA v.length vc], .agg #[.slice mA m.length mc, .slice uA u.length uc], .int .i64 slot] w fun e w' => e = .returned (.bool true) ∧ Kept w w' := by
  have HNe := Lib.hid hNe
  have HNm := Lib.hid hNm
  clear hNe hNm
  cases hf0 : few16C l v 25 with
  | false =>
    go_enter Try.func5, Try.ntmps5
    go_wp2_with fail
    have K0 := Lib.hid ((((Kept.refl w).alloc (.cells #[.slice kA k.ws.length kc, .int .u64 k.seed, .int .i64 k.ep, .int .i64 k.nu, .int .i64 k.de] 25)).alloc (.cells #[.slice lA l.length lc, .slice vA v.length vc] 29)).alloc (.cells #[.slice mA m.length mc, .slice uA u.length uc] 29))
    have HA := Lib.hid (khl.kept K0.out)
    clear khl
    have HL := Lib.hid (lhl.kept K0.out)
    clear lhl
    have HV := Lib.hid (vhl.kept K0.out)
    clear vhl
    have HM := Lib.hid (mhl.kept K0.out)
    clear mhl
    have HU := Lib.hid (uhl.kept K0.out)
    clear uhl
    have HB0 := Lib.hid (((HasCells.new w #[.slice kA k.ws.length kc, .int .u64 k.seed, .int .i64 k.ep, .int .i64 k.nu, .int .i64 k.de] 25 (w.heap.size) (by simp)).alloc (.cells #[.slice lA l.length lc, .slice vA v.length vc] 29)).alloc (.cells #[.slice mA m.length mc, .slice uA u.length uc] 29))
    have HB1 := Lib.hid ((HasCells.new (w.alloc (.cells #[.slice kA k.ws.length kc, .int .u64 k.seed, .int .i64 k.ep, .int .i64 k.nu, .int .i64 k.de] 25)) #[.slice lA l.length lc, .slice vA v.length vc] 29 (w.heap.size + 1) (by simp)).alloc (.cells #[.slice mA m.length mc, .slice uA u.length uc] 29))
    have HB2 := Lib.hid (HasCells.new ((w.alloc (.cells #[.slice kA k.ws.length kc, .int .u64 k.seed, .int .i64 k.ep, .int .i64 k.nu, .int .i64 k.de] 25)).alloc (.cells #[.slice lA l.length lc, .slice vA v.length vc] 29)) #[.slice mA m.length mc, .slice uA u.length uc] 29 (w.heap.size + 1 + 1) (by simp))
    generalize (((w.alloc (.cells #[.slice kA k.ws.length kc, .int .u64 k.seed, .int .i64 k.ep, .int .i64 k.nu, .int .i64 k.de] 25)).alloc (.cells #[.slice lA l.length lc, .slice vA v.length vc] 29)).alloc (.cells #[.slice mA m.length mc, .slice uA u.length uc] 29)) = W0 at *
    generalize w.heap.size + 1 + 1 = z2 at *
    generalize w.heap.size + 1 = z1 at *
    generalize w.heap.size = z0 at *
    have KB0 := Lib.hid (Kept.refl W0)
    refine (awake16 W0).mono ?_
    rintro e W1 ⟨rfl, k⟩
    have KB1 := Lib.hid (KB0.out.trans k)
    clear k
    obtain ⟨b00, b01, b02, b03, b04⟩ := (HB0.out.kept KB1.out).five
    have bz0 := (HB0.out.kept KB1.out).1
    obtain ⟨b10, b11⟩ := (HB1.out.kept KB1.out).two
    have bz1 := (HB1.out.kept KB1.out).1
    obtain ⟨b20, b21⟩ := (HB2.out.kept KB1.out).two
    have bz2 := (HB2.out.kept KB1.out).1
    go_wp2_with fail
    clear b00 b01 b02 b03 b04 bz0 b10 b11 bz1 b20 b21 bz2
    refine (few16_any lA lc l vA vc v 25 W1).mono ?_
    rintro e W2 ⟨rfl, k⟩
    have KB2 := Lib.hid (KB1.out.trans k)
    clear k
    rw [hf0]
    obtain ⟨b00, b01, b02, b03, b04⟩ := (HB0.out.kept KB2.out).five
    have bz0 := (HB0.out.kept KB2.out).1
    obtain ⟨b10, b11⟩ := (HB1.out.kept KB2.out).two
    have bz1 := (HB1.out.kept KB2.out).1
    obtain ⟨b20, b21⟩ := (HB2.out.kept KB2.out).two
    have bz2 := (HB2.out.kept KB2.out).1
    go_wp2_with fail
    clear b00 b01 b02 b03 b04 bz0 b10 b11 bz1 b20 b21 bz2
    refine (few16_any mA mc m uA uc u 25 W2).mono ?_
    rintro e W3 ⟨rfl, k⟩
    have KB3 := Lib.hid (KB2.out.trans k)
    clear k
    obtain ⟨b00, b01, b02, b03, b04⟩ := (HB0.out.kept KB3.out).five
    have bz0 := (HB0.out.kept KB3.out).1
    obtain ⟨b10, b11⟩ := (HB1.out.kept KB3.out).two
    have bz1 := (HB1.out.kept KB3.out).1
    obtain ⟨b20, b21⟩ := (HB2.out.kept KB3.out).two
    have bz2 := (HB2.out.kept KB3.out).1
    go_wp2_with fail
    clear b00 b01 b02 b03 b04 bz0 b10 b11 bz1 b20 b21 bz2
    go_ret
    exact ⟨by first | rfl | (simp; done), K0.out.trans KB3.out⟩
  | true =>
    have F0 := Lib.hid hf0
    clear hf0
    cases hf1 : few16C m u 25 with
    | false =>
      go_enter Try.func5, Try.ntmps5
      go_wp2_with fail
      have K0 := Lib.hid ((((Kept.refl w).alloc (.cells #[.slice kA k.ws.length kc, .int .u64 k.seed, .int .i64 k.ep, .int .i64 k.nu, .int .i64 k.de] 25)).alloc (.cells #[.slice lA l.length lc, .slice vA v.length vc] 29)).alloc (.cells #[.slice mA m.length mc, .slice uA u.length uc] 29))
      have HA := Lib.hid (khl.kept K0.out)
      clear khl
      have HL := Lib.hid (lhl.kept K0.out)
      clear lhl
      have HV := Lib.hid (vhl.kept K0.out)
      clear vhl
      have HM := Lib.hid (mhl.kept K0.out)
      clear mhl
      have HU := Lib.hid (uhl.kept K0.out)
      clear uhl
      have HB0 := Lib.hid (((HasCells.new w #[.slice kA k.ws.length kc, .int .u64 k.seed, .int .i64 k.ep, .int .i64 k.nu, .int .i64 k.de] 25 (w.heap.size) (by simp)).alloc (.cells #[.slice lA l.length lc, .slice vA v.length vc] 29)).alloc (.cells #[.slice mA m.length mc, .slice uA u.length uc] 29))
      have HB1 := Lib.hid ((HasCells.new (w.alloc (.cells #[.slice kA k.ws.length kc, .int .u64 k.seed, .int .i64 k.ep, .int .i64 k.nu, .int .i64 k.de] 25)) #[.slice lA l.length lc, .slice vA v.length vc] 29 (w.heap.size + 1) (by simp)).alloc (.cells #[.slice mA m.length mc, .slice uA u.length uc] 29))
      have HB2 := Lib.hid (HasCells.new ((w.alloc (.cells #[.slice kA k.ws.length kc, .int .u64 k.seed, .int .i64 k.ep, .int .i64 k.nu, .int .i64 k.de] 25)).alloc (.cells #[.slice lA l.length lc, .slice vA v.length vc] 29)) #[.slice mA m.length mc, .slice uA u.length uc] 29 (w.heap.size + 1 + 1) (by simp))
      generalize (((w.alloc (.cells #[.slice kA k.ws.length kc, .int .u64 k.seed, .int .i64 k.ep, .int .i64 k.nu, .int .i64 k.de] 25)).alloc (.cells #[.slice lA l.length lc, .slice vA v.length vc] 29)).alloc (.cells #[.slice mA m.length mc, .slice uA u.length uc] 29)) = W0 at *
      generalize w.heap.size + 1 + 1 = z2 at *
      generalize w.heap.size + 1 = z1 at *
      generalize w.heap.size = z0 at *
      have KB0 := Lib.hid (Kept.refl W0)
      refine (awake16 W0).mono ?_
      rintro e W1 ⟨rfl, k⟩
      have KB1 := Lib.hid (KB0.out.trans k)
      clear k
      obtain ⟨b00, b01, b02, b03, b04⟩ := (HB0.out.kept KB1.out).five
      have bz0 := (HB0.out.kept KB1.out).1
      obtain ⟨b10, b11⟩ := (HB1.out.kept KB1.out).two
      have bz1 := (HB1.out.kept KB1.out).1
      obtain ⟨b20, b21⟩ := (HB2.out.kept KB1.out).two
      have bz2 := (HB2.out.kept KB1.out).1
      go_wp2_with fail
      clear b00 b01 b02 b03 b04 bz0 b10 b11 bz1 b20 b21 bz2
      refine (few16_any lA lc l vA vc v 25 W1).mono ?_
      rintro e W2 ⟨rfl, k⟩
      have KB2 := Lib.hid (KB1.out.trans k)
      clear k
      rw [F0.out]
      obtain ⟨b00, b01, b02, b03, b04⟩ := (HB0.out.kept KB2.out).five
      have bz0 := (HB0.out.kept KB2.out).1
      obtain ⟨b10, b11⟩ := (HB1.out.kept KB2.out).two
      have bz1 := (HB1.out.kept KB2.out).1
      obtain ⟨b20, b21⟩ := (HB2.out.kept KB2.out).two
      have bz2 := (HB2.out.kept KB2.out).1
      go_wp2_with fail
      clear b00 b01 b02 b03 b04 bz0 b10 b11 bz1 b20 b21 bz2
      refine (few16_any mA mc m uA uc u 25 W2).mono ?_
      rintro e W3 ⟨rfl, k⟩
      have KB3 := Lib.hid (KB2.out.trans k)
      clear k
      rw [hf1]
      obtain ⟨b00, b01, b02, b03, b04⟩ := (HB0.out.kept KB3.out).five
      have bz0 := (HB0.out.kept KB3.out).1
      obtain ⟨b10, b11⟩ := (HB1.out.kept KB3.out).two
      have bz1 := (HB1.out.kept KB3.out).1
      obtain ⟨b20, b21⟩ := (HB2.out.kept KB3.out).two
      have bz2 := (HB2.out.kept KB3.out).1
      go_wp2_with fail
      clear b00 b01 b02 b03 b04 bz0 b10 b11 bz1 b20 b21 bz2
      go_ret
      exact ⟨by first | rfl | (simp; done), K0.out.trans KB3.out⟩
    | true =>
      have F1 := Lib.hid hf1
      clear hf1
      go_enter Try.func5, Try.ntmps5
      go_wp2_with fail
      have K0 := Lib.hid ((((Kept.refl w).alloc (.cells #[.slice kA k.ws.length kc, .int .u64 k.seed, .int .i64 k.ep, .int .i64 k.nu, .int .i64 k.de] 25)).alloc (.cells #[.slice lA l.length lc, .slice vA v.length vc] 29)).alloc (.cells #[.slice mA m.length mc, .slice uA u.length uc] 29))
      have HA := Lib.hid (khl.kept K0.out)
      clear khl
      have HL := Lib.hid (lhl.kept K0.out)
      clear lhl
      have HV := Lib.hid (vhl.kept K0.out)
      clear vhl
      have HM := Lib.hid (mhl.kept K0.out)
      clear mhl
      have HU := Lib.hid (uhl.kept K0.out)
      clear uhl
      have HB0 := Lib.hid (((HasCells.new w #[.slice kA k.ws.length kc, .int .u64 k.seed, .int .i64 k.ep, .int .i64 k.nu, .int .i64 k.de] 25 (w.heap.size) (by simp)).alloc (.cells #[.slice lA l.length lc, .slice vA v.length vc] 29)).alloc (.cells #[.slice mA m.length mc, .slice uA u.length uc] 29))
      have HB1 := Lib.hid ((HasCells.new (w.alloc (.cells #[.slice kA k.ws.length kc, .int .u64 k.seed, .int .i64 k.ep, .int .i64 k.nu, .int .i64 k.de] 25)) #[.slice lA l.length lc, .slice vA v.length vc] 29 (w.heap.size + 1) (by simp)).alloc (.cells #[.slice mA m.length mc, .slice uA u.length uc] 29))
      have HB2 := Lib.hid (HasCells.new ((w.alloc (.cells #[.slice kA k.ws.length kc, .int .u64 k.seed, .int .i64 k.ep, .int .i64 k.nu, .int .i64 k.de] 25)).alloc (.cells #[.slice lA l.length lc, .slice vA v.length vc] 29)) #[.slice mA m.length mc, .slice uA u.length uc] 29 (w.heap.size + 1 + 1) (by simp))
      generalize (((w.alloc (.cells #[.slice kA k.ws.length kc, .int .u64 k.seed, .int .i64 k.ep, .int .i64 k.nu, .int .i64 k.de] 25)).alloc (.cells #[.slice lA l.length lc, .slice vA v.length vc] 29)).alloc (.cells #[.slice mA m.length mc, .slice uA u.length uc] 29)) = W0 at *
      generalize w.heap.size + 1 + 1 = z2 at *
      generalize w.heap.size + 1 = z1 at *
      generalize w.heap.size = z0 at *
      have KB0 := Lib.hid (Kept.refl W0)
      refine (awake16 W0).mono ?_
      rintro e W1 ⟨rfl, k⟩
      have KB1 := Lib.hid (KB0.out.trans k)
      clear k
      obtain ⟨b00, b01, b02, b03, b04⟩ := (HB0.out.kept KB1.out).five
      have bz0 := (HB0.out.kept KB1.out).1
      obtain ⟨b10, b11⟩ := (HB1.out.kept KB1.out).two
      have bz1 := (HB1.out.kept KB1.out).1
      obtain ⟨b20, b21⟩ := (HB2.out.kept KB1.out).two
      have bz2 := (HB2.out.kept KB1.out).1
      go_wp2_with fail
      clear b00 b01 b02 b03 b04 bz0 b10 b11 bz1 b20 b21 bz2
      refine (few16_any lA lc l vA vc v 25 W1).mono ?_
      rintro e W2 ⟨rfl, k⟩
      have KB2 := Lib.hid (KB1.out.trans k)
      clear k
      rw [F0.out]
      obtain ⟨b00, b01, b02, b03, b04⟩ := (HB0.out.kept KB2.out).five
      have bz0 := (HB0.out.kept KB2.out).1
      obtain ⟨b10, b11⟩ := (HB1.out.kept KB2.out).two
      have bz1 := (HB1.out.kept KB2.out).1
      obtain ⟨b20, b21⟩ := (HB2.out.kept KB2.out).two
      have bz2 := (HB2.out.kept KB2.out).1
      go_wp2_with fail
      clear b00 b01 b02 b03 b04 bz0 b10 b11 bz1 b20 b21 bz2
      refine (few16_any mA mc m uA uc u 25 W2).mono ?_
      rintro e W3 ⟨rfl, k⟩
      have KB3 := Lib.hid (KB2.out.trans k)
      clear k
      rw [F1.out]
      obtain ⟨hl40, hv40⟩ := few16_yes (n := 25) F0.out
      obtain ⟨hm40, hu40⟩ := few16_yes (n := 25) F1.out
      by_cases hw : (40 : Int) < (k.ws.length : Int)
      · have g40 : decide ((40 : Int) < (k.ws.length : Int)) = true := decide_eq_true hw
        obtain ⟨b00, b01, b02, b03, b04⟩ := (HB0.out.kept KB3.out).five
        have bz0 := (HB0.out.kept KB3.out).1
        obtain ⟨b10, b11⟩ := (HB1.out.kept KB3.out).two
        have bz1 := (HB1.out.kept KB3.out).1
        obtain ⟨b20, b21⟩ := (HB2.out.kept KB3.out).two
        have bz2 := (HB2.out.kept KB3.out).1
        go_wp2_with fail
        clear b00 b01 b02 b03 b04 bz0 b10 b11 bz1 b20 b21 bz2
        go_ret
        exact ⟨by first | rfl | (simp; done), K0.out.trans KB3.out⟩
      · have g40 : decide ((40 : Int) < (k.ws.length : Int)) = false := decide_eq_false hw
        have hk1 : k.ws.length ≤ 1000 := by omega
        obtain ⟨b00, b01, b02, b03, b04⟩ := (HB0.out.kept KB3.out).five
        have bz0 := (HB0.out.kept KB3.out).1
        obtain ⟨b10, b11⟩ := (HB1.out.kept KB3.out).two
        have bz1 := (HB1.out.kept KB3.out).1
        obtain ⟨b20, b21⟩ := (HB2.out.kept KB3.out).two
        have bz2 := (HB2.out.kept KB3.out).1
        go_wp2_with fail
        clear b00 b01 b02 b03 b04 bz0 b10 b11 bz1 b20 b21 bz2
        refine (viewMay_any kA kc k lA lc l vA vc v W3 hk1 khs (by omega) (by omega) lhc vhc lhw vhw (HA.out.kept KB3.out) (HL.out.kept KB3.out) (HV.out.kept KB3.out)).mono ?_
        rintro e W4 ⟨rfl, k⟩
        have KB4 := Lib.hid (KB3.out.trans k)
        clear k
        cases hm : mayW k ⟨l, v⟩ with
        | false =>
          obtain ⟨b00, b01, b02, b03, b04⟩ := (HB0.out.kept KB4.out).five
          have bz0 := (HB0.out.kept KB4.out).1
          obtain ⟨b10, b11⟩ := (HB1.out.kept KB4.out).two
          have bz1 := (HB1.out.kept KB4.out).1
          obtain ⟨b20, b21⟩ := (HB2.out.kept KB4.out).two
          have bz2 := (HB2.out.kept KB4.out).1
          go_wp2_with fail
          clear b00 b01 b02 b03 b04 bz0 b10 b11 bz1 b20 b21 bz2
          go_ret
          exact ⟨by first | rfl | (simp; done), K0.out.trans KB4.out⟩
        | true =>
          have HMay := Lib.hid hm
          obtain ⟨b00, b01, b02, b03, b04⟩ := (HB0.out.kept KB4.out).five
          have bz0 := (HB0.out.kept KB4.out).1
          obtain ⟨b10, b11⟩ := (HB1.out.kept KB4.out).two
          have bz1 := (HB1.out.kept KB4.out).1
          obtain ⟨b20, b21⟩ := (HB2.out.kept KB4.out).two
          have bz2 := (HB2.out.kept KB4.out).1
          go_wp2_with fail
          clear b00 b01 b02 b03 b04 bz0 b10 b11 bz1 b20 b21 bz2
          refine (viewMay_any kA kc k mA mc m uA uc u W4 hk1 khs (by omega) (by omega) mhc uhc mhw uhw (HA.out.kept KB4.out) (HM.out.kept KB4.out) (HU.out.kept KB4.out)).mono ?_
          rintro e W5 ⟨rfl, k⟩
          have KB5 := Lib.hid (KB4.out.trans k)
          clear k
          cases hm2 : mayW k ⟨m, u⟩ with
          | false =>
            obtain ⟨b00, b01, b02, b03, b04⟩ := (HB0.out.kept KB5.out).five
            have bz0 := (HB0.out.kept KB5.out).1
            obtain ⟨b10, b11⟩ := (HB1.out.kept KB5.out).two
            have bz1 := (HB1.out.kept KB5.out).1
            obtain ⟨b20, b21⟩ := (HB2.out.kept KB5.out).two
            have bz2 := (HB2.out.kept KB5.out).1
            go_wp2_with fail
            clear b00 b01 b02 b03 b04 bz0 b10 b11 bz1 b20 b21 bz2
            go_ret
            exact ⟨by first | rfl | (simp; done), K0.out.trans KB5.out⟩
          | true =>
            have HMay2 := Lib.hid hm2
            clear hm hm2
            obtain ⟨b00, b01, b02, b03, b04⟩ := (HB0.out.kept KB5.out).five
            have bz0 := (HB0.out.kept KB5.out).1
            obtain ⟨b10, b11⟩ := (HB1.out.kept KB5.out).two
            have bz1 := (HB1.out.kept KB5.out).1
            obtain ⟨b20, b21⟩ := (HB2.out.kept KB5.out).two
            have bz2 := (HB2.out.kept KB5.out).1
            go_wp2_with fail
            clear b00 b01 b02 b03 b04 bz0 b10 b11 bz1 b20 b21 bz2
            clear g40
            refine (viewJoin_any lA lc l vA vc v mA mc m uA uc u W5 (by omega) (by omega) (by omega) (by omega) lhc vhc mhc uhc lhw vhw mhw uhw lh6 mh6 (HL.out.kept KB5.out) (HV.out.kept KB5.out) (HM.out.kept KB5.out) (HU.out.kept KB5.out)).mono ?_
            rintro e W6 ⟨A, c, B, d, rfl, j1, j2, hjA, hjB, k⟩
            have KB6 := Lib.hid (KB5.out.trans k)
            clear k
            have HJA := Lib.hid hjA
            have HJB := Lib.hid hjB
            clear hjA hjB
            have hwj := wfl_join lhw mhw
            have hwk := wfv_join vhw uhw
            have n1 := joinL_len l m
            have n2 := joinL_len v u
            obtain ⟨jb, hjb⟩ : ∃ jb, jb = joinL l m := ⟨_, rfl⟩
            obtain ⟨jv, hjv⟩ : ∃ jv, jv = joinL v u := ⟨_, rfl⟩
            change jb = (joinW ⟨l, v⟩ ⟨m, u⟩).b at hjb
            change jv = (joinW ⟨l, v⟩ ⟨m, u⟩).v at hjv
            rw [← hjb] at HJA j1 ⊢
            rw [← hjv] at HJB j2 ⊢
            change jb = joinL l m at hjb
            change jv = joinL v u at hjv
            rw [← hjb] at hwj n1
            rw [← hjv] at hwk n2
            have HWj := Lib.hid hwj
            have HWk := Lib.hid hwk
            have HJb := Lib.hid hjb
            have HJv := Lib.hid hjv
            clear hjb hjv hwj hwk
            obtain ⟨b00, b01, b02, b03, b04⟩ := (HB0.out.kept KB6.out).five
            have bz0 := (HB0.out.kept KB6.out).1
            obtain ⟨b10, b11⟩ := (HB1.out.kept KB6.out).two
            have bz1 := (HB1.out.kept KB6.out).1
            obtain ⟨b20, b21⟩ := (HB2.out.kept KB6.out).two
            have bz2 := (HB2.out.kept KB6.out).1
            go_wp2_with fail
            clear b00 b01 b02 b03 b04 bz0 b10 b11 bz1 b20 b21 bz2
            have HJ := Lib.hid (AtB.new W6 #[.slice A jb.length c, .slice B jv.length d] 29)
            have k := (Kept.refl W6).alloc (.cells #[.slice A jb.length c, .slice B jv.length d] 29)
            replace HJA := Lib.hid (HJA.out.kept k)
            replace HJB := Lib.hid (HJB.out.kept k)
            have KB7 := Lib.hid (KB6.out.trans k)
            clear k
            generalize W6.alloc (.cells #[.slice A jb.length c, .slice B jv.length d] 29) = W7 at *
            generalize W6.heap.size = z12 at *

            replace HA := Lib.hid (HA.out.kept KB7.out)
            replace HL := Lib.hid (HL.out.kept KB7.out)
            replace HV := Lib.hid (HV.out.kept KB7.out)
            replace HM := Lib.hid (HM.out.kept KB7.out)
            replace HU := Lib.hid (HU.out.kept KB7.out)
            replace HB0 := Lib.hid (HB0.out.kept KB7.out)
            replace HB1 := Lib.hid (HB1.out.kept KB7.out)
            replace HB2 := Lib.hid (HB2.out.kept KB7.out)
            replace K0 := Lib.hid (K0.out.trans KB7.out)
            have KB8 := Lib.hid (Kept.refl W7)
            generalize W7 = WL at *

            go_loopw [13] (fun i w' => ∃ j : Nat, j ≤ jb.length ∧ i = .int .i64 (j : Nat) ∧ Hid (OkTo N (some slot) jb j) ∧ Kept WL w') (fun i _ => jb.length - (intOf i).toNat)
            case atStart => exact ⟨0, by omega, rfl, Lib.hid ⟨fun x hx => (by cases hx), List.Pairwise.nil⟩, Kept.refl _⟩
            case round =>
              obtain ⟨j, hj, rfl, HOk, hK⟩ := hrel
              have KB9 := Lib.hid (KB8.out.trans hK)
              clear hK
              by_cases hlt : j < jb.length
              · obtain ⟨zy, oy, eqA, hby, c0, c1, c2, c3, c4⟩ := block_at HJA.out hlt
                have HWy := Lib.hid (HWj.out _ (List.getElem_mem hlt))
                have HSt := Lib.hid (fun h1 h2 => HOk.out.step hlt h1 h2)
                obtain ⟨y, hy⟩ : ∃ y, y = jb[j] := ⟨_, rfl⟩
                rw [← hy] at c0 c1 c2 c3 c4 HWy HSt
                clear hy HOk
                subst eqA
                have p0 : wr.cell? ⟨z12, 0, none⟩ = some (.slice (some ⟨zy, oy, none⟩) jb.length c) := (HJ.out.kept KB9.out).cell
                have pl := (HJ.out.kept KB9.out).lt
                have e0 := (KB9.out.cell (p := ⟨zy, oy + j * 5, none⟩) hby).trans c0
                have e1 := (KB9.out.cell (p := ⟨zy, oy + j * 5 + 1, none⟩) hby).trans c1
                have e2 := (KB9.out.cell (p := ⟨zy, oy + j * 5 + 2, none⟩) hby).trans c2
                have e3 := (KB9.out.cell (p := ⟨zy, oy + j * 5 + 3, none⟩) hby).trans c3
                have e4 := (KB9.out.cell (p := ⟨zy, oy + j * 5 + 4, none⟩) hby).trans c4
                have eb := Nat.lt_of_lt_of_le hby KB9.out.size_le
                by_cases hs : slot < y.s
                · have gs : decide (slot < y.s) = true := decide_eq_true hs
                  go_wp2_with fail
                  go_ret
                  exact ⟨by first | rfl | (simp; done), K0.out.trans KB9.out⟩
                · have gs : decide (slot < y.s) = false := decide_eq_false hs
                  go_wp2_with fail
                  clear p0 pl e0 e1 e2 e3 e4 eb gs
                  generalize wr = V1 at *
                  go_loopw [14] (fun i w' => ∃ n : Nat, n ≤ j ∧ i = .int .i64 (n : Nat) ∧ Hid (∀ x ∈ jb.take n, N x ≠ N y) ∧ Kept WL w') (fun i _ => j - (intOf i).toNat)
                  case atStart => exact ⟨0, by omega, rfl, Lib.hid (fun x hx => (by cases hx)), KB9.out⟩
                  case round =>
                    obtain ⟨n, hn, rfl, HAp, hK⟩ := hrel
                    have KBi := Lib.hid hK
                    clear hK
                    by_cases hnj : n < j
                    · have hnl : n < jb.length := by omega
                      obtain ⟨zx, ox, eqA, hbx, d0, d1, d2, d3, d4⟩ := block_at HJA.out hnl
                      injection eqA with eqA
                      injection eqA with eq1 eq2 _
                      subst eq1 eq2
                      have HWx := Lib.hid (HWj.out _ (List.getElem_mem hnl))
                      have HSx := Lib.hid (fun h => apart_step hnl HAp.out h)
                      obtain ⟨x, hx⟩ : ∃ x, x = jb[n] := ⟨_, rfl⟩
                      rw [← hx] at d0 d1 d2 d3 d4 HWx HSx
                      clear hx
                      have p0 : wr.cell? ⟨z12, 0, none⟩ = some (.slice (some ⟨zy, oy, none⟩) jb.length c) := (HJ.out.kept KBi.out).cell
                      have pl := (HJ.out.kept KBi.out).lt
                      have e0 := (KBi.out.cell (p := ⟨zy, oy + j * 5, none⟩) hby).trans c0
                      have e1 := (KBi.out.cell (p := ⟨zy, oy + j * 5 + 1, none⟩) hby).trans c1
                      have e2 := (KBi.out.cell (p := ⟨zy, oy + j * 5 + 2, none⟩) hby).trans c2
                      have e3 := (KBi.out.cell (p := ⟨zy, oy + j * 5 + 3, none⟩) hby).trans c3
                      have e4 := (KBi.out.cell (p := ⟨zy, oy + j * 5 + 4, none⟩) hby).trans c4
                      have eb := Nat.lt_of_lt_of_le hby KBi.out.size_le
                      have f0 := (KBi.out.cell (p := ⟨zy, oy + n * 5, none⟩) hby).trans d0
                      have f1 := (KBi.out.cell (p := ⟨zy, oy + n * 5 + 1, none⟩) hby).trans d1
                      have f2 := (KBi.out.cell (p := ⟨zy, oy + n * 5 + 2, none⟩) hby).trans d2
                      have f3 := (KBi.out.cell (p := ⟨zy, oy + n * 5 + 3, none⟩) hby).trans d3
                      have f4 := (KBi.out.cell (p := ⟨zy, oy + n * 5 + 4, none⟩) hby).trans d4
                      go_wp2_with fail
                      by_cases hxy : N y = N x
                      · have hst : sameI (N y) (N x) = true := sameI_yes hxy
                        clear hxy HSx
                        refine wp_region_noPanic ?_
                        refine wp_region_held_drew (S := (fun w' => w'.cell? ⟨z12, 0, none⟩ = some (.slice (some ⟨zy, oy, none⟩) jb.length c) ∧ w'.cell? ⟨zy, oy + j * 5, none⟩ = some (.int .i64 y.s) ∧ w'.cell? ⟨zy, oy + j * 5 + 1, none⟩ = some (.int .i64 y.f) ∧ w'.cell? ⟨zy, oy + j * 5 + 2, none⟩ = some (.int .u64 y.p.1) ∧ w'.cell? ⟨zy, oy + j * 5 + 3, none⟩ = some (.int .u64 y.p.2) ∧ w'.cell? ⟨zy, oy + j * 5 + 4, none⟩ = some (.int .u64 y.t) ∧ w'.cell? ⟨zy, oy + n * 5, none⟩ = some (.int .i64 x.s) ∧ w'.cell? ⟨zy, oy + n * 5 + 1, none⟩ = some (.int .i64 x.f) ∧ w'.cell? ⟨zy, oy + n * 5 + 2, none⟩ = some (.int .u64 x.p.1) ∧ w'.cell? ⟨zy, oy + n * 5 + 3, none⟩ = some (.int .u64 x.p.2) ∧ w'.cell? ⟨zy, oy + n * 5 + 4, none⟩ = some (.int .u64 x.t) ∧ Kept wr w')) (by kernel_rfl) ?_ (fun hHeld => ?_)
                        · exact ⟨p0, e0, e1, e2, e3, e4, f0, f1, f2, f3, f4, (Kept.refl _).drew⟩
                        refine wpAnyH_take (i := 0) (v := ?_) (by simp only [List.getElem?_toArray, List.getElem?_cons_succ, List.getElem?_cons_zero]; rfl) (by kernel_rfl) (by kernel_rfl) (by kernel_rfl) (fun _ _ _ h => h) (Or.inl ⟨by rfl, ?_⟩) (by assumption) ?_
                        rotate_left
                        · intro w hSw
                          (try dsimp only at hSw)
                          go_simp
                          (try with_reducible rfl)
                        simp only [Act.put, List.setIfInBounds_toArray, List.set_cons_zero, List.set_cons_succ]
                        refine wpAnyH_take (i := 1) (v := ?_) (by simp only [List.getElem?_toArray, List.getElem?_cons_succ, List.getElem?_cons_zero]; rfl) (by kernel_rfl) (by kernel_rfl) (by kernel_rfl) (fun _ _ _ h => h) (Or.inl ⟨by rfl, ?_⟩) (by assumption) ?_
                        rotate_left
                        · intro w hSw
                          (try dsimp only at hSw)
                          go_simp
                          (try with_reducible rfl)
                        simp only [Act.put, List.setIfInBounds_toArray, List.set_cons_zero, List.set_cons_succ]
                        refine wpAnyH_take (i := 2) (v := ?_) (by simp only [List.getElem?_toArray, List.getElem?_cons_succ, List.getElem?_cons_zero]; rfl) (by kernel_rfl) (by kernel_rfl) (by kernel_rfl) (fun _ _ _ h => h) (Or.inl ⟨by rfl, ?_⟩) (by assumption) ?_
                        rotate_left
                        · intro w hSw
                          (try dsimp only at hSw)
                          go_simp
                          (try with_reducible rfl)
                        simp only [Act.put, List.setIfInBounds_toArray, List.set_cons_zero, List.set_cons_succ]
                        refine wpAnyH_take (i := 3) (v := ?_) (by simp only [List.getElem?_toArray, List.getElem?_cons_succ, List.getElem?_cons_zero]; rfl) (by kernel_rfl) (by kernel_rfl) (by kernel_rfl) (fun _ _ _ h => h) (Or.inl ⟨by rfl, ?_⟩) (by assumption) ?_
                        rotate_left
                        · intro w hSw
                          (try dsimp only at hSw)
                          go_simp
                          (try with_reducible rfl)
                        simp only [Act.put, List.setIfInBounds_toArray, List.set_cons_zero, List.set_cons_succ]
                        refine wpAnyH_take (i := 4) (v := ?_) (by simp only [List.getElem?_toArray, List.getElem?_cons_succ, List.getElem?_cons_zero]; rfl) (by kernel_rfl) (by kernel_rfl) (by kernel_rfl) (fun _ _ _ h => h) (Or.inl ⟨by rfl, ?_⟩) (by assumption) ?_
                        rotate_left
                        · intro w hSw
                          (try dsimp only at hSw)
                          go_simp
                          (try with_reducible rfl)
                        simp only [Act.put, List.setIfInBounds_toArray, List.set_cons_zero, List.set_cons_succ]
                        refine wpAnyH_take (i := 6) (v := ?_) (by simp only [List.getElem?_toArray, List.getElem?_cons_succ, List.getElem?_cons_zero]; rfl) (by kernel_rfl) (by kernel_rfl) (by kernel_rfl) (fun _ _ _ h => h) (Or.inl ⟨by rfl, ?_⟩) (by assumption) ?_
                        rotate_left
                        · intro w hSw
                          (try dsimp only at hSw)
                          go_simp
                          (try with_reducible rfl)
                        simp only [Act.put, List.setIfInBounds_toArray, List.set_cons_zero, List.set_cons_succ]
                        refine wpAnyH_take (i := 7) (v := ?_) (by simp only [List.getElem?_toArray, List.getElem?_cons_succ, List.getElem?_cons_zero]; rfl) (by kernel_rfl) (by kernel_rfl) (by kernel_rfl) (fun _ _ _ h => h) (Or.inl ⟨by rfl, ?_⟩) (by assumption) ?_
                        rotate_left
                        · intro w hSw
                          (try dsimp only at hSw)
                          go_simp
                          (try with_reducible rfl)
                        simp only [Act.put, List.setIfInBounds_toArray, List.set_cons_zero, List.set_cons_succ]
                        refine wpAnyH_take (i := 8) (v := ?_) (by simp only [List.getElem?_toArray, List.getElem?_cons_succ, List.getElem?_cons_zero]; rfl) (by kernel_rfl) (by kernel_rfl) (by kernel_rfl) (fun _ _ _ h => h) (Or.inl ⟨by rfl, ?_⟩) (by assumption) ?_
                        rotate_left
                        · intro w hSw
                          (try dsimp only at hSw)
                          go_simp
                          (try with_reducible rfl)
                        simp only [Act.put, List.setIfInBounds_toArray, List.set_cons_zero, List.set_cons_succ]
                        refine wpAnyH_take (i := 9) (v := ?_) (by simp only [List.getElem?_toArray, List.getElem?_cons_succ, List.getElem?_cons_zero]; rfl) (by kernel_rfl) (by kernel_rfl) (by kernel_rfl) (fun _ _ _ h => h) (Or.inl ⟨by rfl, ?_⟩) (by assumption) ?_
                        rotate_left
                        · intro w hSw
                          (try dsimp only at hSw)
                          go_simp
                          (try with_reducible rfl)
                        simp only [Act.put, List.setIfInBounds_toArray, List.set_cons_zero, List.set_cons_succ]
                        refine wpAnyH_take (i := 10) (v := ?_) (by simp only [List.getElem?_toArray, List.getElem?_cons_succ, List.getElem?_cons_zero]; rfl) (by kernel_rfl) (by kernel_rfl) (by kernel_rfl) (fun _ _ _ h => h) (Or.inl ⟨by rfl, ?_⟩) (by assumption) ?_
                        rotate_left
                        · intro w hSw
                          (try dsimp only at hSw)
                          go_simp
                          (try with_reducible rfl)
                        simp only [Act.put, List.setIfInBounds_toArray, List.set_cons_zero, List.set_cons_succ]
                        refine wpAnyH_ready (rs := [5]) (by kernel_rfl) (by simp) ?_
                        refine AllReadyH.cons (by simp only [List.getElem?_toArray, List.getElem?_cons_succ, List.getElem?_cons_zero]; rfl) (fun K hK => ?_) AllReadyH.nil
                        go_simp
                        go_at_call 16; with_reducible refine (HNm.out y HWy.out _).mono ?_
                        rintro e w1 ⟨rfl, kk⟩
                        try go_wp2_with fail
                        refine hK.out _ _ ?_ (fun hHeld2 => ?_)
                        · exact keepP11 pl eb eb eb eb eb eb eb eb eb eb hHeld kk
                        clear hK K hHeld
                        have hHeld := hHeld2
                        clear hHeld2
                        try simp only [Act.put, List.setIfInBounds_toArray, List.set_cons_zero, List.set_cons_succ]
                        refine wpAnyH_ready (rs := [11]) (by kernel_rfl) (by simp) ?_
                        refine AllReadyH.cons (by simp only [List.getElem?_toArray, List.getElem?_cons_succ, List.getElem?_cons_zero]; rfl) (fun K hK => ?_) AllReadyH.nil
                        go_simp
                        go_at_call 16; with_reducible refine (HNm.out x HWx.out _).mono ?_
                        rintro e w2 ⟨rfl, kk⟩
                        try go_wp2_with fail
                        refine hK.out _ _ ?_ (fun hHeld2 => ?_)
                        · exact keepP11 pl eb eb eb eb eb eb eb eb eb eb hHeld kk
                        clear hK K hHeld
                        have hHeld := hHeld2
                        clear hHeld2
                        try simp only [Act.put, List.setIfInBounds_toArray, List.set_cons_zero, List.set_cons_succ]
                        refine wpAnyH_take (i := 12) (v := ?_) (by simp only [List.getElem?_toArray, List.getElem?_cons_succ, List.getElem?_cons_zero]; rfl) (by kernel_rfl) (by kernel_rfl) (by kernel_rfl) (fun _ _ _ h => h) (Or.inl ⟨by rfl, ?_⟩) (by assumption) ?_
                        rotate_left
                        · intro w hSw
                          (try dsimp only at hSw)
                          go_simp
                          (try with_reducible rfl)
                        simp only [Act.put, List.setIfInBounds_toArray, List.set_cons_zero, List.set_cons_succ]
                        try simp only [hst]
                        refine wpAnyH_done (by kernel_rfl) ?_ _
                        refine NoPanic.normal ?_
                        have k := hHeld.2.2.2.2.2.2.2.2.2.2.2
                        clear hHeld
                        have KB41 := Lib.hid (KBi.out.trans k)
                        clear k
                        go_wp2_with fail
                        go_ret
                        exact ⟨by first | rfl | (simp; done), K0.out.trans KB41.out⟩
                      · have hst : sameI (N y) (N x) = false := sameI_no hxy
                        have HN2 := Lib.hid (HSx.out fun e => hxy e.symm)
                        clear hxy HSx
                        refine wp_region_noPanic ?_
                        refine wp_region_held_drew (S := (fun w' => w'.cell? ⟨z12, 0, none⟩ = some (.slice (some ⟨zy, oy, none⟩) jb.length c) ∧ w'.cell? ⟨zy, oy + j * 5, none⟩ = some (.int .i64 y.s) ∧ w'.cell? ⟨zy, oy + j * 5 + 1, none⟩ = some (.int .i64 y.f) ∧ w'.cell? ⟨zy, oy + j * 5 + 2, none⟩ = some (.int .u64 y.p.1) ∧ w'.cell? ⟨zy, oy + j * 5 + 3, none⟩ = some (.int .u64 y.p.2) ∧ w'.cell? ⟨zy, oy + j * 5 + 4, none⟩ = some (.int .u64 y.t) ∧ w'.cell? ⟨zy, oy + n * 5, none⟩ = some (.int .i64 x.s) ∧ w'.cell? ⟨zy, oy + n * 5 + 1, none⟩ = some (.int .i64 x.f) ∧ w'.cell? ⟨zy, oy + n * 5 + 2, none⟩ = some (.int .u64 x.p.1) ∧ w'.cell? ⟨zy, oy + n * 5 + 3, none⟩ = some (.int .u64 x.p.2) ∧ w'.cell? ⟨zy, oy + n * 5 + 4, none⟩ = some (.int .u64 x.t) ∧ Kept wr w')) (by kernel_rfl) ?_ (fun hHeld => ?_)
                        · exact ⟨p0, e0, e1, e2, e3, e4, f0, f1, f2, f3, f4, (Kept.refl _).drew⟩
                        refine wpAnyH_take (i := 0) (v := ?_) (by simp only [List.getElem?_toArray, List.getElem?_cons_succ, List.getElem?_cons_zero]; rfl) (by kernel_rfl) (by kernel_rfl) (by kernel_rfl) (fun _ _ _ h => h) (Or.inl ⟨by rfl, ?_⟩) (by assumption) ?_
                        rotate_left
                        · intro w hSw
                          (try dsimp only at hSw)
                          go_simp
                          (try with_reducible rfl)
                        simp only [Act.put, List.setIfInBounds_toArray, List.set_cons_zero, List.set_cons_succ]
                        refine wpAnyH_take (i := 1) (v := ?_) (by simp only [List.getElem?_toArray, List.getElem?_cons_succ, List.getElem?_cons_zero]; rfl) (by kernel_rfl) (by kernel_rfl) (by kernel_rfl) (fun _ _ _ h => h) (Or.inl ⟨by rfl, ?_⟩) (by assumption) ?_
                        rotate_left
                        · intro w hSw
                          (try dsimp only at hSw)
                          go_simp
                          (try with_reducible rfl)
                        simp only [Act.put, List.setIfInBounds_toArray, List.set_cons_zero, List.set_cons_succ]
                        refine wpAnyH_take (i := 2) (v := ?_) (by simp only [List.getElem?_toArray, List.getElem?_cons_succ, List.getElem?_cons_zero]; rfl) (by kernel_rfl) (by kernel_rfl) (by kernel_rfl) (fun _ _ _ h => h) (Or.inl ⟨by rfl, ?_⟩) (by assumption) ?_
                        rotate_left
                        · intro w hSw
                          (try dsimp only at hSw)
                          go_simp
                          (try with_reducible rfl)
                        simp only [Act.put, List.setIfInBounds_toArray, List.set_cons_zero, List.set_cons_succ]
                        refine wpAnyH_take (i := 3) (v := ?_) (by simp only [List.getElem?_toArray, List.getElem?_cons_succ, List.getElem?_cons_zero]; rfl) (by kernel_rfl) (by kernel_rfl) (by kernel_rfl) (fun _ _ _ h => h) (Or.inl ⟨by rfl, ?_⟩) (by assumption) ?_
                        rotate_left
                        · intro w hSw
                          (try dsimp only at hSw)
                          go_simp
                          (try with_reducible rfl)
                        simp only [Act.put, List.setIfInBounds_toArray, List.set_cons_zero, List.set_cons_succ]
                        refine wpAnyH_take (i := 4) (v := ?_) (by simp only [List.getElem?_toArray, List.getElem?_cons_succ, List.getElem?_cons_zero]; rfl) (by kernel_rfl) (by kernel_rfl) (by kernel_rfl) (fun _ _ _ h => h) (Or.inl ⟨by rfl, ?_⟩) (by assumption) ?_
                        rotate_left
                        · intro w hSw
                          (try dsimp only at hSw)
                          go_simp
                          (try with_reducible rfl)
                        simp only [Act.put, List.setIfInBounds_toArray, List.set_cons_zero, List.set_cons_succ]
                        refine wpAnyH_take (i := 6) (v := ?_) (by simp only [List.getElem?_toArray, List.getElem?_cons_succ, List.getElem?_cons_zero]; rfl) (by kernel_rfl) (by kernel_rfl) (by kernel_rfl) (fun _ _ _ h => h) (Or.inl ⟨by rfl, ?_⟩) (by assumption) ?_
                        rotate_left
                        · intro w hSw
                          (try dsimp only at hSw)
                          go_simp
                          (try with_reducible rfl)
                        simp only [Act.put, List.setIfInBounds_toArray, List.set_cons_zero, List.set_cons_succ]
                        refine wpAnyH_take (i := 7) (v := ?_) (by simp only [List.getElem?_toArray, List.getElem?_cons_succ, List.getElem?_cons_zero]; rfl) (by kernel_rfl) (by kernel_rfl) (by kernel_rfl) (fun _ _ _ h => h) (Or.inl ⟨by rfl, ?_⟩) (by assumption) ?_
                        rotate_left
                        · intro w hSw
                          (try dsimp only at hSw)
                          go_simp
                          (try with_reducible rfl)
                        simp only [Act.put, List.setIfInBounds_toArray, List.set_cons_zero, List.set_cons_succ]
                        refine wpAnyH_take (i := 8) (v := ?_) (by simp only [List.getElem?_toArray, List.getElem?_cons_succ, List.getElem?_cons_zero]; rfl) (by kernel_rfl) (by kernel_rfl) (by kernel_rfl) (fun _ _ _ h => h) (Or.inl ⟨by rfl, ?_⟩) (by assumption) ?_
                        rotate_left
                        · intro w hSw
                          (try dsimp only at hSw)
                          go_simp
                          (try with_reducible rfl)
                        simp only [Act.put, List.setIfInBounds_toArray, List.set_cons_zero, List.set_cons_succ]
                        refine wpAnyH_take (i := 9) (v := ?_) (by simp only [List.getElem?_toArray, List.getElem?_cons_succ, List.getElem?_cons_zero]; rfl) (by kernel_rfl) (by kernel_rfl) (by kernel_rfl) (fun _ _ _ h => h) (Or.inl ⟨by rfl, ?_⟩) (by assumption) ?_
                        rotate_left
                        · intro w hSw
                          (try dsimp only at hSw)
                          go_simp
                          (try with_reducible rfl)
                        simp only [Act.put, List.setIfInBounds_toArray, List.set_cons_zero, List.set_cons_succ]
                        refine wpAnyH_take (i := 10) (v := ?_) (by simp only [List.getElem?_toArray, List.getElem?_cons_succ, List.getElem?_cons_zero]; rfl) (by kernel_rfl) (by kernel_rfl) (by kernel_rfl) (fun _ _ _ h => h) (Or.inl ⟨by rfl, ?_⟩) (by assumption) ?_
                        rotate_left
                        · intro w hSw
                          (try dsimp only at hSw)
                          go_simp
                          (try with_reducible rfl)
                        simp only [Act.put, List.setIfInBounds_toArray, List.set_cons_zero, List.set_cons_succ]
                        refine wpAnyH_ready (rs := [5]) (by kernel_rfl) (by simp) ?_
                        refine AllReadyH.cons (by simp only [List.getElem?_toArray, List.getElem?_cons_succ, List.getElem?_cons_zero]; rfl) (fun K hK => ?_) AllReadyH.nil
                        go_simp
                        go_at_call 16; with_reducible refine (HNm.out y HWy.out _).mono ?_
                        rintro e w1 ⟨rfl, kk⟩
                        try go_wp2_with fail
                        refine hK.out _ _ ?_ (fun hHeld2 => ?_)
                        · exact keepP11 pl eb eb eb eb eb eb eb eb eb eb hHeld kk
                        clear hK K hHeld
                        have hHeld := hHeld2
                        clear hHeld2
                        try simp only [Act.put, List.setIfInBounds_toArray, List.set_cons_zero, List.set_cons_succ]
                        refine wpAnyH_ready (rs := [11]) (by kernel_rfl) (by simp) ?_
                        refine AllReadyH.cons (by simp only [List.getElem?_toArray, List.getElem?_cons_succ, List.getElem?_cons_zero]; rfl) (fun K hK => ?_) AllReadyH.nil
                        go_simp
                        go_at_call 16; with_reducible refine (HNm.out x HWx.out _).mono ?_
                        rintro e w2 ⟨rfl, kk⟩
                        try go_wp2_with fail
                        refine hK.out _ _ ?_ (fun hHeld2 => ?_)
                        · exact keepP11 pl eb eb eb eb eb eb eb eb eb eb hHeld kk
                        clear hK K hHeld
                        have hHeld := hHeld2
                        clear hHeld2
                        try simp only [Act.put, List.setIfInBounds_toArray, List.set_cons_zero, List.set_cons_succ]
                        refine wpAnyH_take (i := 12) (v := ?_) (by simp only [List.getElem?_toArray, List.getElem?_cons_succ, List.getElem?_cons_zero]; rfl) (by kernel_rfl) (by kernel_rfl) (by kernel_rfl) (fun _ _ _ h => h) (Or.inl ⟨by rfl, ?_⟩) (by assumption) ?_
                        rotate_left
                        · intro w hSw
                          (try dsimp only at hSw)
                          go_simp
                          (try with_reducible rfl)
                        simp only [Act.put, List.setIfInBounds_toArray, List.set_cons_zero, List.set_cons_succ]
                        try simp only [hst]
                        refine wpAnyH_done (by kernel_rfl) ?_ _
                        refine NoPanic.normal ?_
                        have k := hHeld.2.2.2.2.2.2.2.2.2.2.2
                        clear hHeld
                        have KB41 := Lib.hid (KBi.out.trans k)
                        clear k
                        go_wp2_with fail
                        go_roundw
                        case rel => exact ⟨n + 1, by omega, by go_num, HN2, KB41.out⟩
                        case measure => simp [intOf]; omega
                    · have hnj : n = j := by omega
                      subst hnj
                      have HOk2 := Lib.hid (HSt.out (fun t ht => by injection ht with ht; omega) HAp.out)
                      go_wp2_with fail
                      go_roundw
                      case rel => exact ⟨n + 1, by omega, by go_num, HOk2, KBi.out⟩
                      case measure => simp [intOf]; omega
              · have hjl : j = jb.length := by omega
                subst hjl
                have HOkA := Lib.hid (show OkTo N (some slot) jb jb.length from HOk.out)
                clear HOk
                have p0 : wr.cell? ⟨z12, 0, none⟩ = some (.slice A jb.length c) := (HJ.out.kept KB9.out).cell
                have pl := (HJ.out.kept KB9.out).lt
                go_wp2_with fail
                clear p0 pl
                replace HA := Lib.hid (HA.out.kept KB9.out)
                replace HL := Lib.hid (HL.out.kept KB9.out)
                replace HV := Lib.hid (HV.out.kept KB9.out)
                replace HM := Lib.hid (HM.out.kept KB9.out)
                replace HU := Lib.hid (HU.out.kept KB9.out)
                replace HB0 := Lib.hid (HB0.out.kept KB9.out)
                replace HB1 := Lib.hid (HB1.out.kept KB9.out)
                replace HB2 := Lib.hid (HB2.out.kept KB9.out)
                replace K0 := Lib.hid (K0.out.trans KB9.out)
                have KB10 := Lib.hid (Kept.refl wr)
                replace HJ := Lib.hid (HJ.out.kept KB9.out)
                replace HJA := Lib.hid (HJA.out.kept KB9.out)
                replace HJB := Lib.hid (HJB.out.kept KB9.out)
                generalize wr = WM at *
                go_loopw [15] (fun i w' => ∃ j : Nat, j ≤ jv.length ∧ i = .int .i64 (j : Nat) ∧ Hid (∀ x ∈ jv.take j, x.s ≤ slot) ∧ Kept WM w') (fun i _ => jv.length - (intOf i).toNat)
                case atStart => exact ⟨0, by omega, rfl, Lib.hid (fun x hx => (by cases hx)), Kept.refl _⟩
                case round =>
                  obtain ⟨j, hj, rfl, HVs, hK⟩ := hrel
                  have KB11 := Lib.hid (KB10.out.trans hK)
                  clear hK
                  by_cases hlt : j < jv.length
                  · obtain ⟨zy, oy, eqA, hby, c0, c1, c2, c3⟩ := vote_at HJB.out hlt
                    have HSt := Lib.hid (fun h => votes_step hlt HVs.out h)
                    generalize jv[j] = y at *
                    subst eqA
                    have e0 := (KB11.out.cell (p := ⟨zy, oy + j * 4, none⟩) hby).trans c0
                    have e1 := (KB11.out.cell (p := ⟨zy, oy + j * 4 + 1, none⟩) hby).trans c1
                    have e2 := (KB11.out.cell (p := ⟨zy, oy + j * 4 + 2, none⟩) hby).trans c2
                    have e3 := (KB11.out.cell (p := ⟨zy, oy + j * 4 + 3, none⟩) hby).trans c3
                    have eb := Nat.lt_of_lt_of_le hby KB11.out.size_le
                    have p1 : wr.cell? ⟨z12, 1, none⟩ = some (.slice (some ⟨zy, oy, none⟩) jv.length d) := (HJ.out.kept KB11.out).cell
                    have pl := (HJ.out.kept KB11.out).lt
                    by_cases hs : slot < y.s
                    · have gs : decide (slot < y.s) = true := decide_eq_true hs
                      go_wp2_with fail
                      go_ret
                      exact ⟨by first | rfl | (simp; done), K0.out.trans KB11.out⟩
                    · have gs : decide (slot < y.s) = false := decide_eq_false hs
                      have HN := Lib.hid (HSt.out (by omega))
                      go_wp2_with fail
                      go_roundw
                      case rel => exact ⟨j + 1, by omega, by go_num, HN, KB11.out⟩
                      case measure => simp [intOf]; omega
                  · have hjl : j = jv.length := by omega
                    subst hjl
                    rw [List.take_length] at HVs
                    have p1 : wr.cell? ⟨z12, 1, none⟩ = some (.slice B jv.length d) := (HJ.out.kept KB11.out).cell
                    have pl := (HJ.out.kept KB11.out).lt
                    obtain ⟨b00, b01, b02, b03, b04⟩ := (HB0.out.kept KB11.out).five
                    have bz0 := (HB0.out.kept KB11.out).1
                    obtain ⟨b10, b11⟩ := (HB1.out.kept KB11.out).two
                    have bz1 := (HB1.out.kept KB11.out).1
                    obtain ⟨b20, b21⟩ := (HB2.out.kept KB11.out).two
                    have bz2 := (HB2.out.kept KB11.out).1
                    go_wp2_with fail
                    clear p1 pl
                    clear b00 b01 b02 b03 b04 bz0 b10 b11 bz1 b20 b21 bz2
                    replace HA := Lib.hid (HA.out.kept KB11.out)
                    replace HL := Lib.hid (HL.out.kept KB11.out)
                    replace HV := Lib.hid (HV.out.kept KB11.out)
                    replace HM := Lib.hid (HM.out.kept KB11.out)
                    replace HU := Lib.hid (HU.out.kept KB11.out)
                    replace HB0 := Lib.hid (HB0.out.kept KB11.out)
                    replace HB1 := Lib.hid (HB1.out.kept KB11.out)
                    replace HB2 := Lib.hid (HB2.out.kept KB11.out)
                    replace K0 := Lib.hid (K0.out.trans KB11.out)
                    have KB12 := Lib.hid (Kept.refl wr)
                    replace HJ := Lib.hid (HJ.out.kept KB11.out)
                    replace HJA := Lib.hid (HJA.out.kept KB11.out)
                    replace HJB := Lib.hid (HJB.out.kept KB11.out)
                    generalize wr = WP at *
                    have HB := Lib.hid (meets_both HMay.out HMay2.out HNe.out (by rw [← HJb.out]; exact HOkA.out) (by rw [← HJv.out]; exact HVs.out) (by omega) (by omega) (by omega) (by omega))
                    have KJ := Lib.hid (Kept.refl WP)
                    refine (viewTake_any kA kc k lA lc l vA vc v mA mc m uA uc u slot WP hk1 khs (by omega) (by omega) (by omega) (by omega) lhc vhc mhc uhc lhw vhw mhw uhw (HA.out.kept KB12.out) (HL.out.kept KB12.out) (HV.out.kept KB12.out) (HM.out.kept KB12.out) (HU.out.kept KB12.out)).mono ?_
                    rintro e W13 ⟨A1, c1, B1, d1, C1, a1, D1, b1, rfl, g11, g12, g13, g14, hA1, hB1, hC1, hD1, k⟩
                    replace HJ := Lib.hid (HJ.out.kept k)
                    replace KJ := Lib.hid (KJ.out.trans k)
                    have KB13 := Lib.hid (KB12.out.trans k)
                    clear k
                    obtain ⟨HP1, HQ1, HRr1⟩ : Hid (MeetF ⟨l, v⟩ ⟨m, u⟩ (takeC k ⟨l, v⟩ ⟨m, u⟩ slot)) ∧ True ∧ True := ⟨Lib.hid HB.out.1, trivial, trivial⟩
                    generalize takeC k ⟨l, v⟩ ⟨m, u⟩ slot = t1 at *
                    obtain ⟨⟨x1b, x1v⟩, ⟨y1b, y1v⟩, f1⟩ := t1
                    obtain ⟨e1, e2, e3⟩ : f1 = false ∧ y1b = [] ∧ y1v = [] := ⟨HP1.out.full, HP1.out.yb, HP1.out.yv⟩
                    subst e1 e2 e3
                    simp only [List.length_nil] at g11 g12 g13 g14 hA1 hB1 hC1 hD1
                    have HA1 := Lib.hid hA1
                    have HB1_ := Lib.hid hB1
                    have l11 : x1b.length ≤ 60 := HP1.out.lb
                    have l12 : x1v.length ≤ 240 := HP1.out.lv
                    clear hA1 hB1 hC1 hD1 HQ1 HRr1
                    dsimp only [List.length_nil]
                    obtain ⟨b00, b01, b02, b03, b04⟩ := (HB0.out.kept KB13.out).five
                    have bz0 := (HB0.out.kept KB13.out).1
                    obtain ⟨b10, b11⟩ := (HB1.out.kept KB13.out).two
                    have bz1 := (HB1.out.kept KB13.out).1
                    obtain ⟨b20, b21⟩ := (HB2.out.kept KB13.out).two
                    have bz2 := (HB2.out.kept KB13.out).1
                    go_wp2_with fail
                    clear b00 b01 b02 b03 b04 bz0 b10 b11 bz1 b20 b21 bz2
                    have k := ((Kept.refl W13).alloc (.cells #[.slice A1 x1b.length c1, .slice B1 x1v.length d1] 29)).alloc (.cells #[.slice C1 0 a1, .slice D1 0 b1] 29)
                    have H16 := Lib.hid ((AtB.new W13 #[.slice A1 x1b.length c1, .slice B1 x1v.length d1] 29).kept ((Kept.refl _).alloc (.cells #[.slice C1 0 a1, .slice D1 0 b1] 29)))
                    have hsz : (W13.alloc (.cells #[.slice A1 x1b.length c1, .slice B1 x1v.length d1] 29)).heap.size = W13.heap.size + 1 := by simp
                    have hnb := AtB.new (W13.alloc (.cells #[.slice A1 x1b.length c1, .slice B1 x1v.length d1] 29)) #[.slice C1 0 a1, .slice D1 0 b1] 29
                    rw [hsz] at hnb
                    have H17 := Lib.hid hnb
                    clear hsz hnb
                    replace HA1 := Lib.hid (HA1.out.kept k)
                    replace HB1_ := Lib.hid (HB1_.out.kept k)
                    replace HJ := Lib.hid (HJ.out.kept k)
                    replace KJ := Lib.hid (KJ.out.trans k)
                    have KB14 := Lib.hid (KB13.out.trans k)
                    clear k
                    generalize (W13.alloc (.cells #[.slice A1 x1b.length c1, .slice B1 x1v.length d1] 29)).alloc (.cells #[.slice C1 0 a1, .slice D1 0 b1] 29) = W14 at *
                    generalize W13.heap.size + 1 = z17 at *
                    generalize W13.heap.size = z16 at *
                    have KL := Lib.hid (Kept.refl W14)
                    refine (viewTake_any kA kc k mA mc m uA uc u lA lc l vA vc v slot W14 hk1 khs (by omega) (by omega) (by omega) (by omega) mhc uhc lhc vhc mhw uhw lhw vhw (HA.out.kept KB14.out) (HM.out.kept KB14.out) (HU.out.kept KB14.out) (HL.out.kept KB14.out) (HV.out.kept KB14.out)).mono ?_
                    rintro e W15 ⟨A2, c2, B2, d2, C2, a2, D2, b2, rfl, g21, g22, g23, g24, hA2, hB2, hC2, hD2, k⟩
                    replace HJ := Lib.hid (HJ.out.kept k)
                    replace KJ := Lib.hid (KJ.out.trans k)
                    replace H16 := Lib.hid (H16.out.kept k)
                    replace H17 := Lib.hid (H17.out.kept k)
                    replace KL := Lib.hid (KL.out.trans k)
                    have KB15 := Lib.hid (KB14.out.trans k)
                    clear k
                    obtain ⟨HP2, HQ2, HRr2⟩ : Hid (MeetF ⟨m, u⟩ ⟨l, v⟩ (takeC k ⟨m, u⟩ ⟨l, v⟩ slot)) ∧ True ∧ True := ⟨Lib.hid HB.out.2, trivial, trivial⟩
                    generalize takeC k ⟨m, u⟩ ⟨l, v⟩ slot = t2 at *
                    obtain ⟨⟨x2b, x2v⟩, ⟨y2b, y2v⟩, f2⟩ := t2
                    obtain ⟨e1, e2, e3⟩ : f2 = false ∧ y2b = [] ∧ y2v = [] := ⟨HP2.out.full, HP2.out.yb, HP2.out.yv⟩
                    subst e1 e2 e3
                    simp only [List.length_nil] at g21 g22 g23 g24 hA2 hB2 hC2 hD2
                    have HA2 := Lib.hid hA2
                    have HB2_ := Lib.hid hB2
                    have l21 : x2b.length ≤ 60 := HP2.out.lb
                    have l22 : x2v.length ≤ 240 := HP2.out.lv
                    clear hA2 hB2 hC2 hD2 HQ2 HRr2
                    dsimp only [List.length_nil]
                    have p0 : W15.cell? ⟨z16, 0, none⟩ = some (.slice A1 x1b.length c1) := H16.out.cell
                    have p1 : W15.cell? ⟨z16, 1, none⟩ = some (.slice B1 x1v.length d1) := H16.out.cell
                    have pl := H16.out.lt
                    obtain ⟨b00, b01, b02, b03, b04⟩ := (HB0.out.kept KB15.out).five
                    have bz0 := (HB0.out.kept KB15.out).1
                    obtain ⟨b10, b11⟩ := (HB1.out.kept KB15.out).two
                    have bz1 := (HB1.out.kept KB15.out).1
                    obtain ⟨b20, b21⟩ := (HB2.out.kept KB15.out).two
                    have bz2 := (HB2.out.kept KB15.out).1
                    go_wp2_with fail
                    clear b00 b01 b02 b03 b04 bz0 b10 b11 bz1 b20 b21 bz2
                    have k := ((Kept.refl W15).alloc (.cells #[.slice A2 x2b.length c2, .slice B2 x2v.length d2] 29)).alloc (.cells #[.slice C2 0 a2, .slice D2 0 b2] 29)
                    have H19 := Lib.hid ((AtB.new W15 #[.slice A2 x2b.length c2, .slice B2 x2v.length d2] 29).kept ((Kept.refl _).alloc (.cells #[.slice C2 0 a2, .slice D2 0 b2] 29)))
                    have hsz : (W15.alloc (.cells #[.slice A2 x2b.length c2, .slice B2 x2v.length d2] 29)).heap.size = W15.heap.size + 1 := by simp
                    have hnb := AtB.new (W15.alloc (.cells #[.slice A2 x2b.length c2, .slice B2 x2v.length d2] 29)) #[.slice C2 0 a2, .slice D2 0 b2] 29
                    rw [hsz] at hnb
                    have H20 := Lib.hid hnb
                    clear hsz hnb p0 p1 pl
                    replace HA2 := Lib.hid (HA2.out.kept k)
                    replace HB2_ := Lib.hid (HB2_.out.kept k)
                    replace HJ := Lib.hid (HJ.out.kept k)
                    replace KJ := Lib.hid (KJ.out.trans k)
                    replace H16 := Lib.hid (H16.out.kept k)
                    replace H17 := Lib.hid (H17.out.kept k)
                    replace KL := Lib.hid (KL.out.trans k)
                    have KB16 := Lib.hid (KB15.out.trans k)
                    clear k
                    generalize (W15.alloc (.cells #[.slice A2 x2b.length c2, .slice B2 x2v.length d2] 29)).alloc (.cells #[.slice C2 0 a2, .slice D2 0 b2] 29) = W16 at *
                    generalize W15.heap.size + 1 = z20 at *
                    generalize W15.heap.size = z19 at *
                    have KR := Lib.hid (Kept.refl W16)
                    refine (refAllV_any A1 c1 x1b B1 d1 x1v A2 c2 x2b B2 d2 x2v W16 (by omega) (by omega) (by omega) (by omega) (HA1.out.kept KL.out) (HB1_.out.kept KL.out) (HA2.out.kept KR.out) (HB2_.out.kept KR.out)).mono ?_
                    rintro e W17 ⟨rfl, k⟩
                    replace HJ := Lib.hid (HJ.out.kept k)
                    replace KJ := Lib.hid (KJ.out.trans k)
                    replace H16 := Lib.hid (H16.out.kept k)
                    replace H17 := Lib.hid (H17.out.kept k)
                    replace KL := Lib.hid (KL.out.trans k)
                    replace H19 := Lib.hid (H19.out.kept k)
                    replace H20 := Lib.hid (H20.out.kept k)
                    replace KR := Lib.hid (KR.out.trans k)
                    have KB17 := Lib.hid (KB16.out.trans k)
                    clear k
                    rw [show allW x1b x1v x2b x2v = true from allW_yes HP1.out.nb HP2.out.nb HP1.out.nv HP2.out.nv (fun x => by have h1 := HP1.out.mb x; have h2 := HP2.out.mb x; exact h1.trans (Or.comm.trans h2.symm)) (fun x => by have h1 := HP1.out.mv x; have h2 := HP2.out.mv x; exact h1.trans (Or.comm.trans h2.symm))]
                    have p0 : W17.cell? ⟨z16, 0, none⟩ = some (.slice A1 x1b.length c1) := H16.out.cell
                    have p1 : W17.cell? ⟨z16, 1, none⟩ = some (.slice B1 x1v.length d1) := H16.out.cell
                    have pl := H16.out.lt
                    have q0 : W17.cell? ⟨z12, 0, none⟩ = some (.slice A jb.length c) := HJ.out.cell
                    have q1 : W17.cell? ⟨z12, 1, none⟩ = some (.slice B jv.length d) := HJ.out.cell
                    have ql := HJ.out.lt
                    go_wp2_with fail
                    clear p0 p1 pl q0 q1 ql
                    refine (refAllV_any A1 c1 x1b B1 d1 x1v A c jb B d jv W17 (by omega) (by omega) (by omega) (by omega) (HA1.out.kept KL.out) (HB1_.out.kept KL.out) (HJA.out.kept KJ.out) (HJB.out.kept KJ.out)).mono ?_
                    rintro e W18 ⟨rfl, k⟩
                    replace HJ := Lib.hid (HJ.out.kept k)
                    replace KJ := Lib.hid (KJ.out.trans k)
                    replace H16 := Lib.hid (H16.out.kept k)
                    replace H17 := Lib.hid (H17.out.kept k)
                    replace KL := Lib.hid (KL.out.trans k)
                    replace H19 := Lib.hid (H19.out.kept k)
                    replace H20 := Lib.hid (H20.out.kept k)
                    replace KR := Lib.hid (KR.out.trans k)
                    have KB18 := Lib.hid (KB17.out.trans k)
                    clear k
                    rw [show allW x1b x1v jb jv = true from by
                      rw [HJb.out, HJv.out]
                      exact allW_yes HP1.out.nb (joinL_nodup (mayB_nodupL (mayW_iff.1 HMay.out).1)) HP1.out.nv (joinL_nodup (mayW_iff.1 HMay.out).2.2.2.2.2.1) (fun x => (HP1.out.mb x).trans mem_joinL.symm) (fun x => (HP1.out.mv x).trans mem_joinL.symm)]
                    have p0 : W18.cell? ⟨z17, 0, none⟩ = some (.slice C1 0 a1) := H17.out.cell
                    have p1 : W18.cell? ⟨z17, 1, none⟩ = some (.slice D1 0 b1) := H17.out.cell
                    have pl := H17.out.lt
                    have q0 : W18.cell? ⟨z20, 0, none⟩ = some (.slice C2 0 a2) := H20.out.cell
                    have q1 : W18.cell? ⟨z20, 1, none⟩ = some (.slice D2 0 b2) := H20.out.cell
                    have ql := H20.out.lt
                    go_wp2_with fail
                    go_ret
                    exact ⟨by first | rfl | (simp; done), K0.out.trans KB18.out⟩

/-! ### The walk: the call returns true, and of what was there nothing has changed. -/
set_option maxRecDepth 100000 in
set_option maxHeartbeats 12800000 in
theorem walk (w : World) (kA : Option Addr) (kc : Nat) (k : Cf) (khm : k.ws.length ≤ maxLen) (khs : k.seed < 18446744073709551616) (khl : CellsAt w w.heap.size kA (intCells k.ws)) (lA : Option Addr) (lc : Nat) (l : List Bk) (vA : Option Addr) (vc : Nat) (v : List Vt) (lhm : l.length ≤ maxLen) (lhc : l.length ≤ lc) (lhw : WfL l) (lh6 : Wf64L l) (lhl : CellsAt w w.heap.size lA (blockCells l)) (vhm : v.length ≤ maxLen) (vhc : v.length ≤ vc) (vhw : WfVs v) (vhl : CellsAt w w.heap.size vA (votesCells v)) (mA : Option Addr) (mc : Nat) (m : List Bk) (uA : Option Addr) (uc : Nat) (u : List Vt) (mhm : m.length ≤ maxLen) (mhc : m.length ≤ mc) (mhw : WfL m) (mh6 : Wf64L m) (mhl : CellsAt w w.heap.size mA (blockCells m)) (uhm : u.length ≤ maxLen) (uhc : u.length ≤ uc) (uhw : WfVs u) (uhl : CellsAt w w.heap.size uA (votesCells u)) (slot : Int) (hslot1 : -9223372036854775808 ≤ slot) (hslot2 : slot ≤ 9223372036854775807) :
    Calls Try.prog 5 #[.agg #[.slice kA k.ws.length kc, .int .u64 k.seed, .int .i64 k.ep, .int .i64 k.nu, .int .i64 k.de], .agg #[.slice lA l.length lc, .slice vA v.length vc], .agg #[.slice mA m.length mc, .slice uA u.length uc], .int .i64 slot] w fun e w' => e = .returned (.bool true) ∧ Kept w w' := by
  exact walk_of w kA kc k khm khs khl lA lc l vA vc v lhm lhc lhw lh6 lhl vhm vhc vhw vhl mA mc m uA uc u mhm mhc mhw mh6 mhl uhm uhc uhw uhl slot hslot1 hslot2 nameB rfl fun b hb w => name_any b hb w

/-! ### The row's step -/
set_option maxRecDepth 100000 in
theorem lifted (os : Os) (started : os.Started) (H : Type) (enc : TypeId × Value → H) :
    ReturnsInHanded {} Try.checked os 5 .any (Rows.viewMeetsSpec.pre6 enc Try.prog Try.f5 Rows.viewMeetsRow.domain false) (Rows.viewMeetsSpec.post enc Try.prog Try.f5 false true false false) := by
  refine returnsInHanded_of_change (C := Try.checked) own started (by kernel_rfl) Try.func5
    (ChangeSpec.witness6 (enc := enc) (C := Try.checked) false ⟨#[], #[.agg #[.slice none 0 0, .int .u64 0, .int .i64 0, .int .i64 0, .int .i64 0], .agg #[.slice none 0 0, .slice none 0 0], .agg #[.slice none 0 0, .slice none 0 0], .int .i64 0], []⟩ 8 (by kernel_rfl) (by kernel_rfl) (by kernel_rfl) (by kernel_rfl)) ?_
  intro W base args ds gs before hval0 hW hcnd _
  have hval : ∀ (j : Nat) t v, Try.f5.params[j]? = some t → args[j]? = some v → Value.okWide Try.prog W .any base t v := hval0
  have hW' := hW
  obtain ⟨p, q, hA0, hV, rfl, hfz, hnd⟩ := hW
  have hA : DataW.TrodAll enc Try.prog W 0 (fun _ => true) true Try.f5.params.toList args.toList ds p := hA0
  rw [Try.params5] at hA hval
  obtain ⟨v0, vs0, d0, ds0, p0, q0, hargs, rfl, rfl, h0, r0⟩ := trodAll_cons hA
  obtain ⟨v1, vs1, d1, ds1, p1, q1, rfl, rfl, rfl, h1, r1⟩ := trodAll_cons r0
  obtain ⟨v2, vs2, d2, ds2, p2, q2, rfl, rfl, rfl, h2, r2⟩ := trodAll_cons r1
  obtain ⟨v3, vs3, d3, ds3, p3, q3, rfl, rfl, rfl, h3, r3⟩ := trodAll_cons r2
  obtain ⟨rfl, rfl, rfl⟩ := trodAll_nil r3
  obtain rfl : args = #[v0, v1, v2, v3] := by cases args; simp_all
  obtain ⟨rfl, rfl⟩ := trodVars_none hV
  obtain ⟨kA, kc, k, rfl, khm, khs, khl⟩ := open_conf (hval 0 _ v0 rfl rfl) h0
  obtain ⟨lA, lc, l, vA, vc, v, rfl, lhm, lhc, ⟨lhw, lh6⟩, lhl, vhm, vhc, vhw, vhl⟩ := open_view64 (hval 1 _ v1 rfl rfl) h1
  obtain ⟨mA, mc, m, uA, uc, u, rfl, mhm, mhc, ⟨mhw, mh6⟩, mhl, uhm, uhc, uhw, uhl⟩ := open_view64 (hval 2 _ v2 rfl rfl) h2
  obtain ⟨slot, rfl, hslot1, hslot2⟩ := open_num (hval 3 _ v3 rfl rfl) h3
  clear hA0 hval0
  refine (walk W kA kc k khm khs khl lA lc l vA vc v lhm lhc lhw lh6 lhl vhm vhc vhw vhl mA mc m uA uc u mhm mhc mhw mh6 mhl uhm uhc uhw uhl slot hslot1 hslot2).mono fun e W' ⟨he, hb⟩ => ?_
  subst he
  exact ⟨_, rfl, law_post rfl (by kernel_rfl) rfl hW' rfl hb⟩

theorem over : Rows.viewMeetsRow.holds Try.pinned (OpenSpec.ofChange Rows.viewMeetsSpec) :=
  OpenClaim.holds_of_wide 5 Try.f5 rfl rfl rfl rfl rfl rfl rfl ⟨rfl, rfl, rfl, rfl, rfl⟩ rfl rfl rfl rfl rfl (by kernel_rfl) Try.func5 (by kernel_rfl)
    (of_decide_eq_true (by kernel_rfl)) (by unfold Func.isWrapper; first | (rw [if_pos (by decide +kernel)]; kernel_rfl) | (rw [if_neg (by decide +kernel)]; exact ⟨rfl, rfl⟩))
    (fun os started H enc _ => lifted os started H enc)

/-- The statement. -/
theorem proved : Rows.ViewMeetsSaid :=
  over
#print axioms proved

end Go.Proofs.Ytacdiicnfoejoaa.viewMeets
