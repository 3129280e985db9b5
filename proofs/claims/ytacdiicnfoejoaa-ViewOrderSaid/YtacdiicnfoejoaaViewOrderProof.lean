/-
 Law ViewOrder of layer 16: with room neither the order of what comes matters to what is counted, nor parts of it, where no two blocks have one name, whatever conf, two views, slot and places.
-/
import Derived.Test.YtacdiicnfoejoaaViewUse
import Derived.Test.YtacdiicnfoejoaaView
import Derived.Test.YtacdiicnfoejoaaViewAwake
import Derived.Test.YtacdiicnfoejoaaViewOpen64
import Derived.Test.YtacdiicnfoejoaaMixG
import Derived.Test.YtacdiicnfoejoaaGround
import Derived.Test.YtacdiicnfoejoaaVoteG
import Derived.Test.YtacdiicnfoejoaaDutyG
import Derived.Test.YtacdiicnfoejoaaViewOrderFacts
import Derived.Test.YtacdiicnfoejoaaViewRefOnly
import Derived.Test.YtacdiicnfoejoaaTreeG
namespace Go.Proofs.Ytacdiicnfoejoaa.viewOrder
set_option maxRecDepth 100000
set_option linter.unusedVariables false
set_option linter.unusedSimpArgs false
open Go.ChangeShapes Go.WideShapes Go.ChangeAt Go.RowKit
set_option linter.unusedVariables false

attribute [local go_sem high] eqIdN in
set_option maxRecDepth 100000 in
set_option maxHeartbeats 12800000 in
theorem walk_of (w : World) (kA : Option Addr) (kc : Nat) (k : Cf) (khm : k.ws.length ≤ maxLen) (khs : k.seed < 18446744073709551616) (khl : CellsAt w w.heap.size kA (intCells k.ws)) (lA : Option Addr) (lc : Nat) (l : List Bk) (vA : Option Addr) (vc : Nat) (v : List Vt) (lhm : l.length ≤ maxLen) (lhc : l.length ≤ lc) (lhw : WfL l) (lh6 : Wf64L l) (lhl : CellsAt w w.heap.size lA (blockCells l)) (vhm : v.length ≤ maxLen) (vhc : v.length ≤ vc) (vhw : WfVs v) (vhl : CellsAt w w.heap.size vA (votesCells v)) (mA : Option Addr) (mc : Nat) (m : List Bk) (uA : Option Addr) (uc : Nat) (u : List Vt) (mhm : m.length ≤ maxLen) (mhc : m.length ≤ mc) (mhw : WfL m) (mh6 : Wf64L m) (mhl : CellsAt w w.heap.size mA (blockCells m)) (uhm : u.length ≤ maxLen) (uhc : u.length ≤ uc) (uhw : WfVs u) (uhl : CellsAt w w.heap.size uA (votesCells u)) (slot : Int) (hslot1 : -9223372036854775808 ≤ slot) (hslot2 : slot ≤ 9223372036854775807) (p : Int) (hp1 : -9223372036854775808 ≤ p) (hp2 : p ≤ 9223372036854775807) (q : Int) (hq1 : -9223372036854775808 ≤ q) (hq2 : q ≤ 9223372036854775807) (N : Bk → Id2) (hNe : N = nameB) (hNm : ∀ b, WfB b → ∀ w, Calls Try.prog 16 #[.agg #[.int .i64 b.s, .int .i64 b.f, .int .u64 b.p.1, .int .u64 b.p.2, .int .u64 b.t]] w fun e w' => e = .returned (.agg #[.int .u64 (N b).1, .int .u64 (N b).2]) ∧ Kept w w') :
 Calls Try.prog 4 #[.agg #[.slice kA k.ws.length kc, .int .u64 k.seed, .int .i64 k.ep, .int .i64 k.nu, .int .i64 k.de], .agg #[.slice lA l.length lc, .slice vA v.length vc], .agg #[.slice mA m.length mc, .slice uA u.length uc], .int .i64 slot, .int .i64 p, .int .i64 q] w fun e w' => e = .returned (.bool true) ∧ Kept w w' := by
 have HNe := Lib.hid hNe
 have HNm := Lib.hid hNm
 clear hNe hNm
 cases hf0 : few16C l v 25 with
 | false =>
  go_enter Try.func4, Try.ntmps4
  go_wp2_with fail
  have K0 := Lib.hid ((((Kept.refl w).alloc (.cells #[.slice kA k.ws.length kc, .int .u64 k.seed, .int .i64 k.ep, .int .i64 k.nu, .int .i64 k.de] 25)).alloc (.cells #[.slice lA l.length lc, .slice vA v.length vc] 29)).alloc (.cells #[.slice mA m.length mc, .slice uA u.length uc] 29))
  have HA := Lib.hid (khl.kept K0.out)
  clear khl
  have HL := Lib.hid (lhl.kept K0.out)
  clear lhl
  have HV := Lib.hid (vhl.kept K0.out)
  clear vhl
  have HM := Lib.hid (mhl.kept K0.out)
  clear mhl
  have HU := Lib.hid (uhl.kept K0.out)
  clear uhl
  have HB0 := Lib.hid (((HasCells.new w #[.slice kA k.ws.length kc, .int .u64 k.seed, .int .i64 k.ep, .int .i64 k.nu, .int .i64 k.de] 25 (w.heap.size) (by simp)).alloc (.cells #[.slice lA l.length lc, .slice vA v.length vc] 29)).alloc (.cells #[.slice mA m.length mc, .slice uA u.length uc] 29))
  have HB1 := Lib.hid ((HasCells.new (w.alloc (.cells #[.slice kA k.ws.length kc, .int .u64 k.seed, .int .i64 k.ep, .int .i64 k.nu, .int .i64 k.de] 25)) #[.slice lA l.length lc, .slice vA v.length vc] 29 (w.heap.size + 1) (by simp)).alloc (.cells #[.slice mA m.length mc, .slice uA u.length uc] 29))
  have HB2 := Lib.hid (HasCells.new ((w.alloc (.cells #[.slice kA k.ws.length kc, .int .u64 k.seed, .int .i64 k.ep, .int .i64 k.nu, .int .i64 k.de] 25)).alloc (.cells #[.slice lA l.length lc, .slice vA v.length vc] 29)) #[.slice mA m.length mc, .slice uA u.length uc] 29 (w.heap.size + 1 + 1) (by simp))
  generalize (((w.alloc (.cells #[.slice kA k.ws.length kc, .int .u64 k.seed, .int .i64 k.ep, .int .i64 k.nu, .int .i64 k.de] 25)).alloc (.cells #[.slice lA l.length lc, .slice vA v.length vc] 29)).alloc (.cells #[.slice mA m.length mc, .slice uA u.length uc] 29)) = W0 at *
  generalize w.heap.size + 1 + 1 = z2 at *
  generalize w.heap.size + 1 = z1 at *
  generalize w.heap.size = z0 at *
  have KB0 := Lib.hid (Kept.refl W0)
  refine (awake16 W0).mono ?_
  rintro e W1 ⟨rfl, k⟩
  have KB1 := Lib.hid (KB0.out.trans k)
  clear k
  obtain ⟨b00, b01, b02, b03, b04⟩ := (HB0.out.kept KB1.out).five
  have bz0 := (HB0.out.kept KB1.out).1
  obtain ⟨b10, b11⟩ := (HB1.out.kept KB1.out).two
  have bz1 := (HB1.out.kept KB1.out).1
  obtain ⟨b20, b21⟩ := (HB2.out.kept KB1.out).two
  have bz2 := (HB2.out.kept KB1.out).1
  go_wp2_with fail
  clear b00 b01 b02 b03 b04 bz0 b10 b11 bz1 b20 b21 bz2
  refine (few16_any lA lc l vA vc v 25 W1).mono ?_
  rintro e W2 ⟨rfl, k⟩
  have KB2 := Lib.hid (KB1.out.trans k)
  clear k
  rw [hf0]
  obtain ⟨b00, b01, b02, b03, b04⟩ := (HB0.out.kept KB2.out).five
  have bz0 := (HB0.out.kept KB2.out).1
  obtain ⟨b10, b11⟩ := (HB1.out.kept KB2.out).two
  have bz1 := (HB1.out.kept KB2.out).1
  obtain ⟨b20, b21⟩ := (HB2.out.kept KB2.out).two
  have bz2 := (HB2.out.kept KB2.out).1
  go_wp2_with fail
  clear b00 b01 b02 b03 b04 bz0 b10 b11 bz1 b20 b21 bz2
  refine (few16_any mA mc m uA uc u 25 W2).mono ?_
  rintro e W3 ⟨rfl, k⟩
  have KB3 := Lib.hid (KB2.out.trans k)
  clear k
  obtain ⟨b00, b01, b02, b03, b04⟩ := (HB0.out.kept KB3.out).five
  have bz0 := (HB0.out.kept KB3.out).1
  obtain ⟨b10, b11⟩ := (HB1.out.kept KB3.out).two
  have bz1 := (HB1.out.kept KB3.out).1
  obtain ⟨b20, b21⟩ := (HB2.out.kept KB3.out).two
  have bz2 := (HB2.out.kept KB3.out).1
  go_wp2_with fail
  clear b00 b01 b02 b03 b04 bz0 b10 b11 bz1 b20 b21 bz2
  go_ret
  exact ⟨by first | rfl | (simp; done), K0.out.trans KB3.out⟩
 | true =>
  have F0 := Lib.hid hf0
  clear hf0
  cases hf1 : few16C m u 25 with
  | false =>
   go_enter Try.func4, Try.ntmps4
   go_wp2_with fail
   have K0 := Lib.hid ((((Kept.refl w).alloc (.cells #[.slice kA k.ws.length kc, .int .u64 k.seed, .int .i64 k.ep, .int .i64 k.nu, .int .i64 k.de] 25)).alloc (.cells #[.slice lA l.length lc, .slice vA v.length vc] 29)).alloc (.cells #[.slice mA m.length mc, .slice uA u.length uc] 29))
   have HA := Lib.hid (khl.kept K0.out)
   clear khl
   have HL := Lib.hid (lhl.kept K0.out)
   clear lhl
   have HV := Lib.hid (vhl.kept K0.out)
   clear vhl
   have HM := Lib.hid (mhl.kept K0.out)
   clear mhl
   have HU := Lib.hid (uhl.kept K0.out)
   clear uhl
   have HB0 := Lib.hid (((HasCells.new w #[.slice kA k.ws.length kc, .int .u64 k.seed, .int .i64 k.ep, .int .i64 k.nu, .int .i64 k.de] 25 (w.heap.size) (by simp)).alloc (.cells #[.slice lA l.length lc, .slice vA v.length vc] 29)).alloc (.cells #[.slice mA m.length mc, .slice uA u.length uc] 29))
   have HB1 := Lib.hid ((HasCells.new (w.alloc (.cells #[.slice kA k.ws.length kc, .int .u64 k.seed, .int .i64 k.ep, .int .i64 k.nu, .int .i64 k.de] 25)) #[.slice lA l.length lc, .slice vA v.length vc] 29 (w.heap.size + 1) (by simp)).alloc (.cells #[.slice mA m.length mc, .slice uA u.length uc] 29))
   have HB2 := Lib.hid (HasCells.new ((w.alloc (.cells #[.slice kA k.ws.length kc, .int .u64 k.seed, .int .i64 k.ep, .int .i64 k.nu, .int .i64 k.de] 25)).alloc (.cells #[.slice lA l.length lc, .slice vA v.length vc] 29)) #[.slice mA m.length mc, .slice uA u.length uc] 29 (w.heap.size + 1 + 1) (by simp))
   generalize (((w.alloc (.cells #[.slice kA k.ws.length kc, .int .u64 k.seed, .int .i64 k.ep, .int .i64 k.nu, .int .i64 k.de] 25)).alloc (.cells #[.slice lA l.length lc, .slice vA v.length vc] 29)).alloc (.cells #[.slice mA m.length mc, .slice uA u.length uc] 29)) = W0 at *
   generalize w.heap.size + 1 + 1 = z2 at *
   generalize w.heap.size + 1 = z1 at *
   generalize w.heap.size = z0 at *
   have KB0 := Lib.hid (Kept.refl W0)
   refine (awake16 W0).mono ?_
   rintro e W1 ⟨rfl, k⟩
   have KB1 := Lib.hid (KB0.out.trans k)
   clear k
   obtain ⟨b00, b01, b02, b03, b04⟩ := (HB0.out.kept KB1.out).five
   have bz0 := (HB0.out.kept KB1.out).1
   obtain ⟨b10, b11⟩ := (HB1.out.kept KB1.out).two
   have bz1 := (HB1.out.kept KB1.out).1
   obtain ⟨b20, b21⟩ := (HB2.out.kept KB1.out).two
   have bz2 := (HB2.out.kept KB1.out).1
   go_wp2_with fail
   clear b00 b01 b02 b03 b04 bz0 b10 b11 bz1 b20 b21 bz2
   refine (few16_any lA lc l vA vc v 25 W1).mono ?_
   rintro e W2 ⟨rfl, k⟩
   have KB2 := Lib.hid (KB1.out.trans k)
   clear k
   rw [F0.out]
   obtain ⟨b00, b01, b02, b03, b04⟩ := (HB0.out.kept KB2.out).five
   have bz0 := (HB0.out.kept KB2.out).1
   obtain ⟨b10, b11⟩ := (HB1.out.kept KB2.out).two
   have bz1 := (HB1.out.kept KB2.out).1
   obtain ⟨b20, b21⟩ := (HB2.out.kept KB2.out).two
   have bz2 := (HB2.out.kept KB2.out).1
   go_wp2_with fail
   clear b00 b01 b02 b03 b04 bz0 b10 b11 bz1 b20 b21 bz2
   refine (few16_any mA mc m uA uc u 25 W2).mono ?_
   rintro e W3 ⟨rfl, k⟩
   have KB3 := Lib.hid (KB2.out.trans k)
   clear k
   rw [hf1]
   obtain ⟨b00, b01, b02, b03, b04⟩ := (HB0.out.kept KB3.out).five
   have bz0 := (HB0.out.kept KB3.out).1
   obtain ⟨b10, b11⟩ := (HB1.out.kept KB3.out).two
   have bz1 := (HB1.out.kept KB3.out).1
   obtain ⟨b20, b21⟩ := (HB2.out.kept KB3.out).two
   have bz2 := (HB2.out.kept KB3.out).1
   go_wp2_with fail
   clear b00 b01 b02 b03 b04 bz0 b10 b11 bz1 b20 b21 bz2
   go_ret
   exact ⟨by first | rfl | (simp; done), K0.out.trans KB3.out⟩
  | true =>
   have F1 := Lib.hid hf1
   clear hf1
   go_enter Try.func4, Try.ntmps4
   go_wp2_with fail
   have K0 := Lib.hid ((((Kept.refl w).alloc (.cells #[.slice kA k.ws.length kc, .int .u64 k.seed, .int .i64 k.ep, .int .i64 k.nu, .int .i64 k.de] 25)).alloc (.cells #[.slice lA l.length lc, .slice vA v.length vc] 29)).alloc (.cells #[.slice mA m.length mc, .slice uA u.length uc] 29))
   have HA := Lib.hid (khl.kept K0.out)
   clear khl
   have HL := Lib.hid (lhl.kept K0.out)
   clear lhl
   have HV := Lib.hid (vhl.kept K0.out)
   clear vhl
   have HM := Lib.hid (mhl.kept K0.out)
   clear mhl
   have HU := Lib.hid (uhl.kept K0.out)
   clear uhl
   have HB0 := Lib.hid (((HasCells.new w #[.slice kA k.ws.length kc, .int .u64 k.seed, .int .i64 k.ep, .int .i64 k.nu, .int .i64 k.de] 25 (w.heap.size) (by simp)).alloc (.cells #[.slice lA l.length lc, .slice vA v.length vc] 29)).alloc (.cells #[.slice mA m.length mc, .slice uA u.length uc] 29))
   have HB1 := Lib.hid ((HasCells.new (w.alloc (.cells #[.slice kA k.ws.length kc, .int .u64 k.seed, .int .i64 k.ep, .int .i64 k.nu, .int .i64 k.de] 25)) #[.slice lA l.length lc, .slice vA v.length vc] 29 (w.heap.size + 1) (by simp)).alloc (.cells #[.slice mA m.length mc, .slice uA u.length uc] 29))
   have HB2 := Lib.hid (HasCells.new ((w.alloc (.cells #[.slice kA k.ws.length kc, .int .u64 k.seed, .int .i64 k.ep, .int .i64 k.nu, .int .i64 k.de] 25)).alloc (.cells #[.slice lA l.length lc, .slice vA v.length vc] 29)) #[.slice mA m.length mc, .slice uA u.length uc] 29 (w.heap.size + 1 + 1) (by simp))
   generalize (((w.alloc (.cells #[.slice kA k.ws.length kc, .int .u64 k.seed, .int .i64 k.ep, .int .i64 k.nu, .int .i64 k.de] 25)).alloc (.cells #[.slice lA l.length lc, .slice vA v.length vc] 29)).alloc (.cells #[.slice mA m.length mc, .slice uA u.length uc] 29)) = W0 at *
   generalize w.heap.size + 1 + 1 = z2 at *
   generalize w.heap.size + 1 = z1 at *
   generalize w.heap.size = z0 at *
   have KB0 := Lib.hid (Kept.refl W0)
   refine (awake16 W0).mono ?_
   rintro e W1 ⟨rfl, k⟩
   have KB1 := Lib.hid (KB0.out.trans k)
   clear k
   obtain ⟨b00, b01, b02, b03, b04⟩ := (HB0.out.kept KB1.out).five
   have bz0 := (HB0.out.kept KB1.out).1
   obtain ⟨b10, b11⟩ := (HB1.out.kept KB1.out).two
   have bz1 := (HB1.out.kept KB1.out).1
   obtain ⟨b20, b21⟩ := (HB2.out.kept KB1.out).two
   have bz2 := (HB2.out.kept KB1.out).1
   go_wp2_with fail
   clear b00 b01 b02 b03 b04 bz0 b10 b11 bz1 b20 b21 bz2
   refine (few16_any lA lc l vA vc v 25 W1).mono ?_
   rintro e W2 ⟨rfl, k⟩
   have KB2 := Lib.hid (KB1.out.trans k)
   clear k
   rw [F0.out]
   obtain ⟨b00, b01, b02, b03, b04⟩ := (HB0.out.kept KB2.out).five
   have bz0 := (HB0.out.kept KB2.out).1
   obtain ⟨b10, b11⟩ := (HB1.out.kept KB2.out).two
   have bz1 := (HB1.out.kept KB2.out).1
   obtain ⟨b20, b21⟩ := (HB2.out.kept KB2.out).two
   have bz2 := (HB2.out.kept KB2.out).1
   go_wp2_with fail
   clear b00 b01 b02 b03 b04 bz0 b10 b11 bz1 b20 b21 bz2
   refine (few16_any mA mc m uA uc u 25 W2).mono ?_
   rintro e W3 ⟨rfl, k⟩
   have KB3 := Lib.hid (KB2.out.trans k)
   clear k
   rw [F1.out]
   obtain ⟨hl40, hv40⟩ := few16_yes (n := 25) F0.out
   obtain ⟨hm40, hu40⟩ := few16_yes (n := 25) F1.out
   by_cases hw : (40 : Int) < (k.ws.length : Int)
   ·have g40 : decide ((40 : Int) < (k.ws.length : Int)) = true := decide_eq_true hw
    obtain ⟨b00, b01, b02, b03, b04⟩ := (HB0.out.kept KB3.out).five
    have bz0 := (HB0.out.kept KB3.out).1
    obtain ⟨b10, b11⟩ := (HB1.out.kept KB3.out).two
    have bz1 := (HB1.out.kept KB3.out).1
    obtain ⟨b20, b21⟩ := (HB2.out.kept KB3.out).two
    have bz2 := (HB2.out.kept KB3.out).1
    go_wp2_with fail
    clear b00 b01 b02 b03 b04 bz0 b10 b11 bz1 b20 b21 bz2
    go_ret
    exact ⟨by first | rfl | (simp; done), K0.out.trans KB3.out⟩
   ·have g40 : decide ((40 : Int) < (k.ws.length : Int)) = false := decide_eq_false hw
    have hk1 : k.ws.length ≤ 1000 := by omega
    obtain ⟨b00, b01, b02, b03, b04⟩ := (HB0.out.kept KB3.out).five
    have bz0 := (HB0.out.kept KB3.out).1
    obtain ⟨b10, b11⟩ := (HB1.out.kept KB3.out).two
    have bz1 := (HB1.out.kept KB3.out).1
    obtain ⟨b20, b21⟩ := (HB2.out.kept KB3.out).two
    have bz2 := (HB2.out.kept KB3.out).1
    go_wp2_with fail
    clear b00 b01 b02 b03 b04 bz0 b10 b11 bz1 b20 b21 bz2
    refine (viewMay_any kA kc k lA lc l vA vc v W3 hk1 khs (by omega) (by omega) lhc vhc lhw vhw (HA.out.kept KB3.out) (HL.out.kept KB3.out) (HV.out.kept KB3.out)).mono ?_
    rintro e W4 ⟨rfl, k⟩
    have KB4 := Lib.hid (KB3.out.trans k)
    clear k
    cases hm : mayW k ⟨l, v⟩ with
    | false =>
     obtain ⟨b00, b01, b02, b03, b04⟩ := (HB0.out.kept KB4.out).five
     have bz0 := (HB0.out.kept KB4.out).1
     obtain ⟨b10, b11⟩ := (HB1.out.kept KB4.out).two
     have bz1 := (HB1.out.kept KB4.out).1
     obtain ⟨b20, b21⟩ := (HB2.out.kept KB4.out).two
     have bz2 := (HB2.out.kept KB4.out).1
     go_wp2_with fail
     clear b00 b01 b02 b03 b04 bz0 b10 b11 bz1 b20 b21 bz2
     go_ret
     exact ⟨by first | rfl | (simp; done), K0.out.trans KB4.out⟩
    | true =>
     have HMay := Lib.hid hm
     by_cases hp1 : p < 0
     ·have gp1 : decide (p < 0) = true := decide_eq_true hp1
      obtain ⟨b00, b01, b02, b03, b04⟩ := (HB0.out.kept KB4.out).five
      have bz0 := (HB0.out.kept KB4.out).1
      obtain ⟨b10, b11⟩ := (HB1.out.kept KB4.out).two
      have bz1 := (HB1.out.kept KB4.out).1
      obtain ⟨b20, b21⟩ := (HB2.out.kept KB4.out).two
      have bz2 := (HB2.out.kept KB4.out).1
      go_wp2_with fail
      clear b00 b01 b02 b03 b04 bz0 b10 b11 bz1 b20 b21 bz2
      go_ret
      exact ⟨by first | rfl | (simp; done), K0.out.trans KB4.out⟩
     ·by_cases hp2 : (m.length : Int) < p
      ·have gp1 : decide (p < 0) = false := decide_eq_false hp1
       have gp2 : decide ((m.length : Int) < p) = true := decide_eq_true hp2
       obtain ⟨b00, b01, b02, b03, b04⟩ := (HB0.out.kept KB4.out).five
       have bz0 := (HB0.out.kept KB4.out).1
       obtain ⟨b10, b11⟩ := (HB1.out.kept KB4.out).two
       have bz1 := (HB1.out.kept KB4.out).1
       obtain ⟨b20, b21⟩ := (HB2.out.kept KB4.out).two
       have bz2 := (HB2.out.kept KB4.out).1
       go_wp2_with fail
       clear b00 b01 b02 b03 b04 bz0 b10 b11 bz1 b20 b21 bz2
       go_ret
       exact ⟨by first | rfl | (simp; done), K0.out.trans KB4.out⟩
      ·by_cases hq1 : q < 0
       ·have gp1 : decide (p < 0) = false := decide_eq_false hp1
        have gp2 : decide ((m.length : Int) < p) = false := decide_eq_false hp2
        have gq1 : decide (q < 0) = true := decide_eq_true hq1
        obtain ⟨b00, b01, b02, b03, b04⟩ := (HB0.out.kept KB4.out).five
        have bz0 := (HB0.out.kept KB4.out).1
        obtain ⟨b10, b11⟩ := (HB1.out.kept KB4.out).two
        have bz1 := (HB1.out.kept KB4.out).1
        obtain ⟨b20, b21⟩ := (HB2.out.kept KB4.out).two
        have bz2 := (HB2.out.kept KB4.out).1
        go_wp2_with fail
        clear b00 b01 b02 b03 b04 bz0 b10 b11 bz1 b20 b21 bz2
        go_ret
        exact ⟨by first | rfl | (simp; done), K0.out.trans KB4.out⟩
       ·by_cases hq2 : (u.length : Int) < q
        ·have gp1 : decide (p < 0) = false := decide_eq_false hp1
         have gp2 : decide ((m.length : Int) < p) = false := decide_eq_false hp2
         have gq1 : decide (q < 0) = false := decide_eq_false hq1
         have gq2 : decide ((u.length : Int) < q) = true := decide_eq_true hq2
         obtain ⟨b00, b01, b02, b03, b04⟩ := (HB0.out.kept KB4.out).five
         have bz0 := (HB0.out.kept KB4.out).1
         obtain ⟨b10, b11⟩ := (HB1.out.kept KB4.out).two
         have bz1 := (HB1.out.kept KB4.out).1
         obtain ⟨b20, b21⟩ := (HB2.out.kept KB4.out).two
         have bz2 := (HB2.out.kept KB4.out).1
         go_wp2_with fail
         clear b00 b01 b02 b03 b04 bz0 b10 b11 bz1 b20 b21 bz2
         go_ret
         exact ⟨by first | rfl | (simp; done), K0.out.trans KB4.out⟩
        ·have gp1 : decide (p < 0) = false := decide_eq_false hp1
         have gp2 : decide ((m.length : Int) < p) = false := decide_eq_false hp2
         have gq1 : decide (q < 0) = false := decide_eq_false hq1
         have gq2 : decide ((u.length : Int) < q) = false := decide_eq_false hq2
         obtain ⟨b00, b01, b02, b03, b04⟩ := (HB0.out.kept KB4.out).five
         have bz0 := (HB0.out.kept KB4.out).1
         obtain ⟨b10, b11⟩ := (HB1.out.kept KB4.out).two
         have bz1 := (HB1.out.kept KB4.out).1
         obtain ⟨b20, b21⟩ := (HB2.out.kept KB4.out).two
         have bz2 := (HB2.out.kept KB4.out).1
         go_wp2_with fail
         clear b00 b01 b02 b03 b04 bz0 b10 b11 bz1 b20 b21 bz2
         clear g40 gp1 gp2 gq1 gq2
         obtain ⟨np1, rfl⟩ : ∃ n : Nat, p = (n : Int) := ⟨p.toNat, by omega⟩
         obtain ⟨nq1, rfl⟩ : ∃ n : Nat, q = (n : Int) := ⟨q.toNat, by omega⟩
         have hnp1 : np1 ≤ m.length := by omega
         have hnq1 : nq1 ≤ u.length := by omega
         clear hp1 hp2 hq1 hq2
         refine (viewJoin_any lA lc l vA vc v mA mc m uA uc u W4 (by omega) (by omega) (by omega) (by omega) lhc vhc mhc uhc lhw vhw mhw uhw lh6 mh6 (HL.out.kept KB4.out) (HV.out.kept KB4.out) (HM.out.kept KB4.out) (HU.out.kept KB4.out)).mono ?_
         rintro e W5 ⟨A, c, B, d, rfl, j1, j2, hjA, hjB, k⟩
         have KB5 := Lib.hid (KB4.out.trans k)
         clear k
         have HJA := Lib.hid hjA
         have HJB := Lib.hid hjB
         clear hjA hjB
         have hwj := wfl_join lhw mhw
         have hwk := wfv_join vhw uhw
         have n1 := joinL_len l m
         have n2 := joinL_len v u
         obtain ⟨jb, hjb⟩ : ∃ jb, jb = joinL l m := ⟨_, rfl⟩
         obtain ⟨jv, hjv⟩ : ∃ jv, jv = joinL v u := ⟨_, rfl⟩
         change jb = (joinW ⟨l, v⟩ ⟨m, u⟩).b at hjb
         change jv = (joinW ⟨l, v⟩ ⟨m, u⟩).v at hjv
         rw [← hjb] at HJA j1 ⊢
         rw [← hjv] at HJB j2 ⊢
         change jb = joinL l m at hjb
         change jv = joinL v u at hjv
         rw [← hjb] at hwj n1
         rw [← hjv] at hwk n2
         have HWj := Lib.hid hwj
         have HWk := Lib.hid hwk
         have HJb := Lib.hid hjb
         have HJv := Lib.hid hjv
         clear hjb hjv hwj hwk
         obtain ⟨b00, b01, b02, b03, b04⟩ := (HB0.out.kept KB5.out).five
         have bz0 := (HB0.out.kept KB5.out).1
         obtain ⟨b10, b11⟩ := (HB1.out.kept KB5.out).two
         have bz1 := (HB1.out.kept KB5.out).1
         obtain ⟨b20, b21⟩ := (HB2.out.kept KB5.out).two
         have bz2 := (HB2.out.kept KB5.out).1
         go_wp2_with fail
         clear b00 b01 b02 b03 b04 bz0 b10 b11 bz1 b20 b21 bz2
         have HJ := Lib.hid (AtB.new W5 #[.slice A jb.length c, .slice B jv.length d] 29)
         have k := (Kept.refl W5).alloc (.cells #[.slice A jb.length c, .slice B jv.length d] 29)
         replace HJA := Lib.hid (HJA.out.kept k)
         replace HJB := Lib.hid (HJB.out.kept k)
         have KB6 := Lib.hid (KB5.out.trans k)
         clear k
         generalize W5.alloc (.cells #[.slice A jb.length c, .slice B jv.length d] 29) = W6 at *
         generalize W5.heap.size = z16 at *
         replace HA := Lib.hid (HA.out.kept KB6.out)
         replace HL := Lib.hid (HL.out.kept KB6.out)
         replace HV := Lib.hid (HV.out.kept KB6.out)
         replace HM := Lib.hid (HM.out.kept KB6.out)
         replace HU := Lib.hid (HU.out.kept KB6.out)
         replace HB0 := Lib.hid (HB0.out.kept KB6.out)
         replace HB1 := Lib.hid (HB1.out.kept KB6.out)
         replace HB2 := Lib.hid (HB2.out.kept KB6.out)
         replace K0 := Lib.hid (K0.out.trans KB6.out)
         have KB7 := Lib.hid (Kept.refl W6)
         generalize W6 = WL at *
         go_loopw [17] (fun i w' => ∃ j : Nat, j ≤ jb.length ∧ i = .int .i64 (j : Nat) ∧ Hid (OkTo N (none) jb j) ∧ Kept WL w') (fun i _ => jb.length - (intOf i).toNat)
         case atStart => exact ⟨0, by omega, rfl, Lib.hid ⟨fun x hx => (by cases hx), List.Pairwise.nil⟩, Kept.refl _⟩
         case round =>
          obtain ⟨j, hj, rfl, HOk, hK⟩ := hrel
          have KB8 := Lib.hid (KB7.out.trans hK)
          clear hK
          by_cases hlt : j < jb.length
          ·obtain ⟨zy, oy, eqA, hby, c0, c1, c2, c3, c4⟩ := block_at HJA.out hlt
           have HWy := Lib.hid (HWj.out _ (List.getElem_mem hlt))
           have HSt := Lib.hid (fun h1 h2 => HOk.out.step hlt h1 h2)
           obtain ⟨y, hy⟩ : ∃ y, y = jb[j] := ⟨_, rfl⟩
           rw [← hy] at c0 c1 c2 c3 c4 HWy HSt
           clear hy HOk
           subst eqA
           have p0 : wr.cell? ⟨z16, 0, none⟩ = some (.slice (some ⟨zy, oy, none⟩) jb.length c) := (HJ.out.kept KB8.out).cell
           have pl := (HJ.out.kept KB8.out).lt
           have e0 := (KB8.out.cell (p := ⟨zy, oy + j * 5, none⟩) hby).trans c0
           have e1 := (KB8.out.cell (p := ⟨zy, oy + j * 5 + 1, none⟩) hby).trans c1
           have e2 := (KB8.out.cell (p := ⟨zy, oy + j * 5 + 2, none⟩) hby).trans c2
           have e3 := (KB8.out.cell (p := ⟨zy, oy + j * 5 + 3, none⟩) hby).trans c3
           have e4 := (KB8.out.cell (p := ⟨zy, oy + j * 5 + 4, none⟩) hby).trans c4
           have eb := Nat.lt_of_lt_of_le hby KB8.out.size_le
           go_wp2_with fail
           clear p0 pl e0 e1 e2 e3 e4 eb
           generalize wr = V1 at *
           go_loopw [18] (fun i w' => ∃ n : Nat, n ≤ j ∧ i = .int .i64 (n : Nat) ∧ Hid (∀ x ∈ jb.take n, N x ≠ N y) ∧ Kept WL w') (fun i _ => j - (intOf i).toNat)
           case atStart => exact ⟨0, by omega, rfl, Lib.hid (fun x hx => (by cases hx)), KB8.out⟩
           case round =>
            obtain ⟨n, hn, rfl, HAp, hK⟩ := hrel
            have KBi := Lib.hid hK
            clear hK
            by_cases hnj : n < j
            ·have hnl : n < jb.length := by omega
             obtain ⟨zx, ox, eqA, hbx, d0, d1, d2, d3, d4⟩ := block_at HJA.out hnl
             injection eqA with eqA
             injection eqA with eq1 eq2 _
             subst eq1 eq2
             have HWx := Lib.hid (HWj.out _ (List.getElem_mem hnl))
             have HSx := Lib.hid (fun h => apart_step hnl HAp.out h)
             obtain ⟨x, hx⟩ : ∃ x, x = jb[n] := ⟨_, rfl⟩
             rw [← hx] at d0 d1 d2 d3 d4 HWx HSx
             clear hx
             have p0 : wr.cell? ⟨z16, 0, none⟩ = some (.slice (some ⟨zy, oy, none⟩) jb.length c) := (HJ.out.kept KBi.out).cell
             have pl := (HJ.out.kept KBi.out).lt
             have e0 := (KBi.out.cell (p := ⟨zy, oy + j * 5, none⟩) hby).trans c0
             have e1 := (KBi.out.cell (p := ⟨zy, oy + j * 5 + 1, none⟩) hby).trans c1
             have e2 := (KBi.out.cell (p := ⟨zy, oy + j * 5 + 2, none⟩) hby).trans c2
             have e3 := (KBi.out.cell (p := ⟨zy, oy + j * 5 + 3, none⟩) hby).trans c3
             have e4 := (KBi.out.cell (p := ⟨zy, oy + j * 5 + 4, none⟩) hby).trans c4
             have eb := Nat.lt_of_lt_of_le hby KBi.out.size_le
             have f0 := (KBi.out.cell (p := ⟨zy, oy + n * 5, none⟩) hby).trans d0
             have f1 := (KBi.out.cell (p := ⟨zy, oy + n * 5 + 1, none⟩) hby).trans d1
             have f2 := (KBi.out.cell (p := ⟨zy, oy + n * 5 + 2, none⟩) hby).trans d2
             have f3 := (KBi.out.cell (p := ⟨zy, oy + n * 5 + 3, none⟩) hby).trans d3
             have f4 := (KBi.out.cell (p := ⟨zy, oy + n * 5 + 4, none⟩) hby).trans d4
             go_wp2_with fail
             by_cases hxy : N y = N x
             ·have hst : sameI (N y) (N x) = true := sameI_yes hxy
              clear hxy HSx
              refine wp_region_noPanic ?_
              refine wp_region_held_drew (S := (fun w' => w'.cell? ⟨z16, 0, none⟩ = some (.slice (some ⟨zy, oy, none⟩) jb.length c) ∧ w'.cell? ⟨zy, oy + j * 5, none⟩ = some (.int .i64 y.s) ∧ w'.cell? ⟨zy, oy + j * 5 + 1, none⟩ = some (.int .i64 y.f) ∧ w'.cell? ⟨zy, oy + j * 5 + 2, none⟩ = some (.int .u64 y.p.1) ∧ w'.cell? ⟨zy, oy + j * 5 + 3, none⟩ = some (.int .u64 y.p.2) ∧ w'.cell? ⟨zy, oy + j * 5 + 4, none⟩ = some (.int .u64 y.t) ∧ w'.cell? ⟨zy, oy + n * 5, none⟩ = some (.int .i64 x.s) ∧ w'.cell? ⟨zy, oy + n * 5 + 1, none⟩ = some (.int .i64 x.f) ∧ w'.cell? ⟨zy, oy + n * 5 + 2, none⟩ = some (.int .u64 x.p.1) ∧ w'.cell? ⟨zy, oy + n * 5 + 3, none⟩ = some (.int .u64 x.p.2) ∧ w'.cell? ⟨zy, oy + n * 5 + 4, none⟩ = some (.int .u64 x.t) ∧ Kept wr w')) (by kernel_rfl) ?_ (fun hHeld => ?_)
              ·exact ⟨p0, e0, e1, e2, e3, e4, f0, f1, f2, f3, f4, (Kept.refl _).drew⟩
              refine wpAnyH_take (i := 0) (v := ?_) (by simp only [List.getElem?_toArray, List.getElem?_cons_succ, List.getElem?_cons_zero]; rfl) (by kernel_rfl) (by kernel_rfl) (by kernel_rfl) (fun _ _ _ h => h) (Or.inl ⟨by rfl, ?_⟩) (by assumption) ?_
              rotate_left
              ·intro w hSw
               (try dsimp only at hSw)
               go_simp
               (try with_reducible rfl)
              simp only [Act.put, List.setIfInBounds_toArray, List.set_cons_zero, List.set_cons_succ]
              refine wpAnyH_take (i := 1) (v := ?_) (by simp only [List.getElem?_toArray, List.getElem?_cons_succ, List.getElem?_cons_zero]; rfl) (by kernel_rfl) (by kernel_rfl) (by kernel_rfl) (fun _ _ _ h => h) (Or.inl ⟨by rfl, ?_⟩) (by assumption) ?_
              rotate_left
              ·intro w hSw
               (try dsimp only at hSw)
               go_simp
               (try with_reducible rfl)
              simp only [Act.put, List.setIfInBounds_toArray, List.set_cons_zero, List.set_cons_succ]
              refine wpAnyH_take (i := 2) (v := ?_) (by simp only [List.getElem?_toArray, List.getElem?_cons_succ, List.getElem?_cons_zero]; rfl) (by kernel_rfl) (by kernel_rfl) (by kernel_rfl) (fun _ _ _ h => h) (Or.inl ⟨by rfl, ?_⟩) (by assumption) ?_
              rotate_left
              ·intro w hSw
               (try dsimp only at hSw)
               go_simp
               (try with_reducible rfl)
              simp only [Act.put, List.setIfInBounds_toArray, List.set_cons_zero, List.set_cons_succ]
              refine wpAnyH_take (i := 3) (v := ?_) (by simp only [List.getElem?_toArray, List.getElem?_cons_succ, List.getElem?_cons_zero]; rfl) (by kernel_rfl) (by kernel_rfl) (by kernel_rfl) (fun _ _ _ h => h) (Or.inl ⟨by rfl, ?_⟩) (by assumption) ?_
              rotate_left
              ·intro w hSw
               (try dsimp only at hSw)
               go_simp
               (try with_reducible rfl)
              simp only [Act.put, List.setIfInBounds_toArray, List.set_cons_zero, List.set_cons_succ]
              refine wpAnyH_take (i := 4) (v := ?_) (by simp only [List.getElem?_toArray, List.getElem?_cons_succ, List.getElem?_cons_zero]; rfl) (by kernel_rfl) (by kernel_rfl) (by kernel_rfl) (fun _ _ _ h => h) (Or.inl ⟨by rfl, ?_⟩) (by assumption) ?_
              rotate_left
              ·intro w hSw
               (try dsimp only at hSw)
               go_simp
               (try with_reducible rfl)
              simp only [Act.put, List.setIfInBounds_toArray, List.set_cons_zero, List.set_cons_succ]
              refine wpAnyH_take (i := 6) (v := ?_) (by simp only [List.getElem?_toArray, List.getElem?_cons_succ, List.getElem?_cons_zero]; rfl) (by kernel_rfl) (by kernel_rfl) (by kernel_rfl) (fun _ _ _ h => h) (Or.inl ⟨by rfl, ?_⟩) (by assumption) ?_
              rotate_left
              ·intro w hSw
               (try dsimp only at hSw)
               go_simp
               (try with_reducible rfl)
              simp only [Act.put, List.setIfInBounds_toArray, List.set_cons_zero, List.set_cons_succ]
              refine wpAnyH_take (i := 7) (v := ?_) (by simp only [List.getElem?_toArray, List.getElem?_cons_succ, List.getElem?_cons_zero]; rfl) (by kernel_rfl) (by kernel_rfl) (by kernel_rfl) (fun _ _ _ h => h) (Or.inl ⟨by rfl, ?_⟩) (by assumption) ?_
              rotate_left
              ·intro w hSw
               (try dsimp only at hSw)
               go_simp
               (try with_reducible rfl)
              simp only [Act.put, List.setIfInBounds_toArray, List.set_cons_zero, List.set_cons_succ]
              refine wpAnyH_take (i := 8) (v := ?_) (by simp only [List.getElem?_toArray, List.getElem?_cons_succ, List.getElem?_cons_zero]; rfl) (by kernel_rfl) (by kernel_rfl) (by kernel_rfl) (fun _ _ _ h => h) (Or.inl ⟨by rfl, ?_⟩) (by assumption) ?_
              rotate_left
              ·intro w hSw
               (try dsimp only at hSw)
               go_simp
               (try with_reducible rfl)
              simp only [Act.put, List.setIfInBounds_toArray, List.set_cons_zero, List.set_cons_succ]
              refine wpAnyH_take (i := 9) (v := ?_) (by simp only [List.getElem?_toArray, List.getElem?_cons_succ, List.getElem?_cons_zero]; rfl) (by kernel_rfl) (by kernel_rfl) (by kernel_rfl) (fun _ _ _ h => h) (Or.inl ⟨by rfl, ?_⟩) (by assumption) ?_
              rotate_left
              ·intro w hSw
               (try dsimp only at hSw)
               go_simp
               (try with_reducible rfl)
              simp only [Act.put, List.setIfInBounds_toArray, List.set_cons_zero, List.set_cons_succ]
              refine wpAnyH_take (i := 10) (v := ?_) (by simp only [List.getElem?_toArray, List.getElem?_cons_succ, List.getElem?_cons_zero]; rfl) (by kernel_rfl) (by kernel_rfl) (by kernel_rfl) (fun _ _ _ h => h) (Or.inl ⟨by rfl, ?_⟩) (by assumption) ?_
              rotate_left
              ·intro w hSw
               (try dsimp only at hSw)
               go_simp
               (try with_reducible rfl)
              simp only [Act.put, List.setIfInBounds_toArray, List.set_cons_zero, List.set_cons_succ]
              refine wpAnyH_ready (rs := [5]) (by kernel_rfl) (by simp) ?_
              refine AllReadyH.cons (by simp only [List.getElem?_toArray, List.getElem?_cons_succ, List.getElem?_cons_zero]; rfl) (fun K hK => ?_) AllReadyH.nil
              go_simp
              go_at_call 16; with_reducible refine (HNm.out y HWy.out _).mono ?_
              rintro e w1 ⟨rfl, kk⟩
              try go_wp2_with fail
              refine hK.out _ _ ?_ (fun hHeld2 => ?_)
              ·exact keepP11 pl eb eb eb eb eb eb eb eb eb eb hHeld kk
              clear hK K hHeld
              have hHeld := hHeld2
              clear hHeld2
              try simp only [Act.put, List.setIfInBounds_toArray, List.set_cons_zero, List.set_cons_succ]
              refine wpAnyH_ready (rs := [11]) (by kernel_rfl) (by simp) ?_
              refine AllReadyH.cons (by simp only [List.getElem?_toArray, List.getElem?_cons_succ, List.getElem?_cons_zero]; rfl) (fun K hK => ?_) AllReadyH.nil
              go_simp
              go_at_call 16; with_reducible refine (HNm.out x HWx.out _).mono ?_
              rintro e w2 ⟨rfl, kk⟩
              try go_wp2_with fail
              refine hK.out _ _ ?_ (fun hHeld2 => ?_)
              ·exact keepP11 pl eb eb eb eb eb eb eb eb eb eb hHeld kk
              clear hK K hHeld
              have hHeld := hHeld2
              clear hHeld2
              try simp only [Act.put, List.setIfInBounds_toArray, List.set_cons_zero, List.set_cons_succ]
              refine wpAnyH_take (i := 12) (v := ?_) (by simp only [List.getElem?_toArray, List.getElem?_cons_succ, List.getElem?_cons_zero]; rfl) (by kernel_rfl) (by kernel_rfl) (by kernel_rfl) (fun _ _ _ h => h) (Or.inl ⟨by rfl, ?_⟩) (by assumption) ?_
              rotate_left
              ·intro w hSw
               (try dsimp only at hSw)
               go_simp
               (try with_reducible rfl)
              simp only [Act.put, List.setIfInBounds_toArray, List.set_cons_zero, List.set_cons_succ]
              try simp only [hst]
              refine wpAnyH_done (by kernel_rfl) ?_ _
              refine NoPanic.normal ?_
              have k := hHeld.2.2.2.2.2.2.2.2.2.2.2
              clear hHeld
              have KB41 := Lib.hid (KBi.out.trans k)
              clear k
              go_wp2_with fail
              go_ret
              exact ⟨by first | rfl | (simp; done), K0.out.trans KB41.out⟩
             ·have hst : sameI (N y) (N x) = false := sameI_no hxy
              have HN2 := Lib.hid (HSx.out fun e => hxy e.symm)
              clear hxy HSx
              refine wp_region_noPanic ?_
              refine wp_region_held_drew (S := (fun w' => w'.cell? ⟨z16, 0, none⟩ = some (.slice (some ⟨zy, oy, none⟩) jb.length c) ∧ w'.cell? ⟨zy, oy + j * 5, none⟩ = some (.int .i64 y.s) ∧ w'.cell? ⟨zy, oy + j * 5 + 1, none⟩ = some (.int .i64 y.f) ∧ w'.cell? ⟨zy, oy + j * 5 + 2, none⟩ = some (.int .u64 y.p.1) ∧ w'.cell? ⟨zy, oy + j * 5 + 3, none⟩ = some (.int .u64 y.p.2) ∧ w'.cell? ⟨zy, oy + j * 5 + 4, none⟩ = some (.int .u64 y.t) ∧ w'.cell? ⟨zy, oy + n * 5, none⟩ = some (.int .i64 x.s) ∧ w'.cell? ⟨zy, oy + n * 5 + 1, none⟩ = some (.int .i64 x.f) ∧ w'.cell? ⟨zy, oy + n * 5 + 2, none⟩ = some (.int .u64 x.p.1) ∧ w'.cell? ⟨zy, oy + n * 5 + 3, none⟩ = some (.int .u64 x.p.2) ∧ w'.cell? ⟨zy, oy + n * 5 + 4, none⟩ = some (.int .u64 x.t) ∧ Kept wr w')) (by kernel_rfl) ?_ (fun hHeld => ?_)
              ·exact ⟨p0, e0, e1, e2, e3, e4, f0, f1, f2, f3, f4, (Kept.refl _).drew⟩
              refine wpAnyH_take (i := 0) (v := ?_) (by simp only [List.getElem?_toArray, List.getElem?_cons_succ, List.getElem?_cons_zero]; rfl) (by kernel_rfl) (by kernel_rfl) (by kernel_rfl) (fun _ _ _ h => h) (Or.inl ⟨by rfl, ?_⟩) (by assumption) ?_
              rotate_left
              ·intro w hSw
               (try dsimp only at hSw)
               go_simp
               (try with_reducible rfl)
              simp only [Act.put, List.setIfInBounds_toArray, List.set_cons_zero, List.set_cons_succ]
              refine wpAnyH_take (i := 1) (v := ?_) (by simp only [List.getElem?_toArray, List.getElem?_cons_succ, List.getElem?_cons_zero]; rfl) (by kernel_rfl) (by kernel_rfl) (by kernel_rfl) (fun _ _ _ h => h) (Or.inl ⟨by rfl, ?_⟩) (by assumption) ?_
              rotate_left
              ·intro w hSw
               (try dsimp only at hSw)
               go_simp
               (try with_reducible rfl)
              simp only [Act.put, List.setIfInBounds_toArray, List.set_cons_zero, List.set_cons_succ]
              refine wpAnyH_take (i := 2) (v := ?_) (by simp only [List.getElem?_toArray, List.getElem?_cons_succ, List.getElem?_cons_zero]; rfl) (by kernel_rfl) (by kernel_rfl) (by kernel_rfl) (fun _ _ _ h => h) (Or.inl ⟨by rfl, ?_⟩) (by assumption) ?_
              rotate_left
              ·intro w hSw
               (try dsimp only at hSw)
               go_simp
               (try with_reducible rfl)
              simp only [Act.put, List.setIfInBounds_toArray, List.set_cons_zero, List.set_cons_succ]
              refine wpAnyH_take (i := 3) (v := ?_) (by simp only [List.getElem?_toArray, List.getElem?_cons_succ, List.getElem?_cons_zero]; rfl) (by kernel_rfl) (by kernel_rfl) (by kernel_rfl) (fun _ _ _ h => h) (Or.inl ⟨by rfl, ?_⟩) (by assumption) ?_
              rotate_left
              ·intro w hSw
               (try dsimp only at hSw)
               go_simp
               (try with_reducible rfl)
              simp only [Act.put, List.setIfInBounds_toArray, List.set_cons_zero, List.set_cons_succ]
              refine wpAnyH_take (i := 4) (v := ?_) (by simp only [List.getElem?_toArray, List.getElem?_cons_succ, List.getElem?_cons_zero]; rfl) (by kernel_rfl) (by kernel_rfl) (by kernel_rfl) (fun _ _ _ h => h) (Or.inl ⟨by rfl, ?_⟩) (by assumption) ?_
              rotate_left
              ·intro w hSw
               (try dsimp only at hSw)
               go_simp
               (try with_reducible rfl)
              simp only [Act.put, List.setIfInBounds_toArray, List.set_cons_zero, List.set_cons_succ]
              refine wpAnyH_take (i := 6) (v := ?_) (by simp only [List.getElem?_toArray, List.getElem?_cons_succ, List.getElem?_cons_zero]; rfl) (by kernel_rfl) (by kernel_rfl) (by kernel_rfl) (fun _ _ _ h => h) (Or.inl ⟨by rfl, ?_⟩) (by assumption) ?_
              rotate_left
              ·intro w hSw
               (try dsimp only at hSw)
               go_simp
               (try with_reducible rfl)
              simp only [Act.put, List.setIfInBounds_toArray, List.set_cons_zero, List.set_cons_succ]
              refine wpAnyH_take (i := 7) (v := ?_) (by simp only [List.getElem?_toArray, List.getElem?_cons_succ, List.getElem?_cons_zero]; rfl) (by kernel_rfl) (by kernel_rfl) (by kernel_rfl) (fun _ _ _ h => h) (Or.inl ⟨by rfl, ?_⟩) (by assumption) ?_
              rotate_left
              ·intro w hSw
               (try dsimp only at hSw)
               go_simp
               (try with_reducible rfl)
              simp only [Act.put, List.setIfInBounds_toArray, List.set_cons_zero, List.set_cons_succ]
              refine wpAnyH_take (i := 8) (v := ?_) (by simp only [List.getElem?_toArray, List.getElem?_cons_succ, List.getElem?_cons_zero]; rfl) (by kernel_rfl) (by kernel_rfl) (by kernel_rfl) (fun _ _ _ h => h) (Or.inl ⟨by rfl, ?_⟩) (by assumption) ?_
              rotate_left
              ·intro w hSw
               (try dsimp only at hSw)
               go_simp
               (try with_reducible rfl)
              simp only [Act.put, List.setIfInBounds_toArray, List.set_cons_zero, List.set_cons_succ]
              refine wpAnyH_take (i := 9) (v := ?_) (by simp only [List.getElem?_toArray, List.getElem?_cons_succ, List.getElem?_cons_zero]; rfl) (by kernel_rfl) (by kernel_rfl) (by kernel_rfl) (fun _ _ _ h => h) (Or.inl ⟨by rfl, ?_⟩) (by assumption) ?_
              rotate_left
              ·intro w hSw
               (try dsimp only at hSw)
               go_simp
               (try with_reducible rfl)
              simp only [Act.put, List.setIfInBounds_toArray, List.set_cons_zero, List.set_cons_succ]
              refine wpAnyH_take (i := 10) (v := ?_) (by simp only [List.getElem?_toArray, List.getElem?_cons_succ, List.getElem?_cons_zero]; rfl) (by kernel_rfl) (by kernel_rfl) (by kernel_rfl) (fun _ _ _ h => h) (Or.inl ⟨by rfl, ?_⟩) (by assumption) ?_
              rotate_left
              ·intro w hSw
               (try dsimp only at hSw)
               go_simp
               (try with_reducible rfl)
              simp only [Act.put, List.setIfInBounds_toArray, List.set_cons_zero, List.set_cons_succ]
              refine wpAnyH_ready (rs := [5]) (by kernel_rfl) (by simp) ?_
              refine AllReadyH.cons (by simp only [List.getElem?_toArray, List.getElem?_cons_succ, List.getElem?_cons_zero]; rfl) (fun K hK => ?_) AllReadyH.nil
              go_simp
              go_at_call 16; with_reducible refine (HNm.out y HWy.out _).mono ?_
              rintro e w1 ⟨rfl, kk⟩
              try go_wp2_with fail
              refine hK.out _ _ ?_ (fun hHeld2 => ?_)
              ·exact keepP11 pl eb eb eb eb eb eb eb eb eb eb hHeld kk
              clear hK K hHeld
              have hHeld := hHeld2
              clear hHeld2
              try simp only [Act.put, List.setIfInBounds_toArray, List.set_cons_zero, List.set_cons_succ]
              refine wpAnyH_ready (rs := [11]) (by kernel_rfl) (by simp) ?_
              refine AllReadyH.cons (by simp only [List.getElem?_toArray, List.getElem?_cons_succ, List.getElem?_cons_zero]; rfl) (fun K hK => ?_) AllReadyH.nil
              go_simp
              go_at_call 16; with_reducible refine (HNm.out x HWx.out _).mono ?_
              rintro e w2 ⟨rfl, kk⟩
              try go_wp2_with fail
              refine hK.out _ _ ?_ (fun hHeld2 => ?_)
              ·exact keepP11 pl eb eb eb eb eb eb eb eb eb eb hHeld kk
              clear hK K hHeld
              have hHeld := hHeld2
              clear hHeld2
              try simp only [Act.put, List.setIfInBounds_toArray, List.set_cons_zero, List.set_cons_succ]
              refine wpAnyH_take (i := 12) (v := ?_) (by simp only [List.getElem?_toArray, List.getElem?_cons_succ, List.getElem?_cons_zero]; rfl) (by kernel_rfl) (by kernel_rfl) (by kernel_rfl) (fun _ _ _ h => h) (Or.inl ⟨by rfl, ?_⟩) (by assumption) ?_
              rotate_left
              ·intro w hSw
               (try dsimp only at hSw)
               go_simp
               (try with_reducible rfl)
              simp only [Act.put, List.setIfInBounds_toArray, List.set_cons_zero, List.set_cons_succ]
              try simp only [hst]
              refine wpAnyH_done (by kernel_rfl) ?_ _
              refine NoPanic.normal ?_
              have k := hHeld.2.2.2.2.2.2.2.2.2.2.2
              clear hHeld
              have KB41 := Lib.hid (KBi.out.trans k)
              clear k
              go_wp2_with fail
              go_roundw
              case rel => exact ⟨n + 1, by omega, by go_num, HN2, KB41.out⟩
              case measure => simp [intOf]; omega
            ·have hnj : n = j := by omega
             subst hnj
             have HOk2 := Lib.hid (HSt.out (fun t ht => (by cases ht)) HAp.out)
             go_wp2_with fail
             go_roundw
             case rel => exact ⟨n + 1, by omega, by go_num, HOk2, KBi.out⟩
             case measure => simp [intOf]; omega
          ·have hjl : j = jb.length := by omega
           subst hjl
           have HOkA := Lib.hid (show OkTo N (none) jb jb.length from HOk.out)
           clear HOk
           have p0 : wr.cell? ⟨z16, 0, none⟩ = some (.slice A jb.length c) := (HJ.out.kept KB8.out).cell
           have pl := (HJ.out.kept KB8.out).lt
           replace HA := Lib.hid (HA.out.kept KB8.out)
           replace HL := Lib.hid (HL.out.kept KB8.out)
           replace HV := Lib.hid (HV.out.kept KB8.out)
           replace HM := Lib.hid (HM.out.kept KB8.out)
           replace HU := Lib.hid (HU.out.kept KB8.out)
           replace HB0 := Lib.hid (HB0.out.kept KB8.out)
           replace HB1 := Lib.hid (HB1.out.kept KB8.out)
           replace HB2 := Lib.hid (HB2.out.kept KB8.out)
           replace K0 := Lib.hid (K0.out.trans KB8.out)
           have KB9 := Lib.hid (Kept.refl wr)
           generalize wr = WP at *
           obtain ⟨ob, hob⟩ : ∃ x, x = m.take np1 := ⟨_, rfl⟩
           obtain ⟨ov, hov⟩ : ∃ x, x = u.take nq1 := ⟨_, rfl⟩
           obtain ⟨tb, htb⟩ : ∃ x, x = m.drop np1 := ⟨_, rfl⟩
           obtain ⟨tv, htv⟩ : ∃ x, x = u.drop nq1 := ⟨_, rfl⟩
           have OF := order_all (slot := slot) HMay.out HNe.out (by rw [← HJb.out]; exact HOkA.out) (by omega) (by omega) (by omega) (by omega) hob hov htb htv
           have lob : ob.length = np1 := by rw [hob, List.length_take]; omega
           have lov : ov.length = nq1 := by rw [hov, List.length_take]; omega
           have ltb : tb.length = m.length - np1 := by rw [htb, List.length_drop]
           have ltv : tv.length = u.length - nq1 := by rw [htv, List.length_drop]
           have HWo := Lib.hid (show (WfL ob ∧ Wf64L ob) ∧ WfVs ov from ⟨⟨fun x hx => mhw x (by rw [hob] at hx; exact List.mem_of_mem_take hx), fun x hx => mh6 x (by rw [hob] at hx; exact List.mem_of_mem_take hx)⟩, fun x hx => uhw x (by rw [hov] at hx; exact List.mem_of_mem_take hx)⟩)
           have HWt := Lib.hid (show (WfL tb ∧ Wf64L tb) ∧ WfVs tv from ⟨⟨fun x hx => mhw x (by rw [htb] at hx; exact List.mem_of_mem_drop hx), fun x hx => mh6 x (by rw [htb] at hx; exact List.mem_of_mem_drop hx)⟩, fun x hx => uhw x (by rw [htv] at hx; exact List.mem_of_mem_drop hx)⟩)
           have hLo := cells_blocks_take (HM.out.kept KB9.out) np1
           have hVo := vts_take (HU.out.kept KB9.out) nq1
           obtain ⟨tA, hfA, hLt⟩ := from_blocks (HM.out.kept KB9.out) mc np1 hnp1 mhc
           obtain ⟨tB, hfB, hVt⟩ := from_votes (HU.out.kept KB9.out) uc nq1 hnq1 uhc
           rw [← hob] at hLo
           rw [← hov] at hVo
           rw [← htb] at hLt
           rw [← htv] at hVt
           have HLo := Lib.hid hLo
           have HVo := Lib.hid hVo
           have HLt := Lib.hid hLt
           have HVt := Lib.hid hVt
           have huA : ∀ w', (Instr.slice 26 (.slice mA m.length mc) none (some (.int .i64 (np1 : Int))) none).run Try.prog w' = .ok (.slice mA ob.length mc) w' := fun w' => by rw [lob]; exact upto_blocks mA m.length mc np1 (by omega) w'
           have huB : ∀ w', (Instr.slice 27 (.slice uA u.length uc) none (some (.int .i64 (nq1 : Int))) none).run Try.prog w' = .ok (.slice uA ov.length uc) w' := fun w' => by rw [lov]; exact upto_vts uA u.length uc nq1 (by omega) w'
           rw [← ltb] at hfA
           rw [← ltv] at hfB
           obtain ⟨tc, htc⟩ : ∃ x, x = mc - np1 := ⟨_, rfl⟩
           obtain ⟨td, htd⟩ : ∃ x, x = uc - nq1 := ⟨_, rfl⟩
           rw [← htc] at hfA
           rw [← htd] at hfB
           have bob : ob.length ≤ 25 := by omega
           have bov : ov.length ≤ 25 := by omega
           have btb : tb.length ≤ 25 := by omega
           have btv : tv.length ≤ 25 := by omega
           have HuA := Lib.hid huA
           have HuB := Lib.hid huB
           have HfA := Lib.hid hfA
           have HfB := Lib.hid hfB
           obtain ⟨t1, ht1⟩ : ∃ t, t = takeC k ⟨l, v⟩ ⟨m, u⟩ slot := ⟨_, rfl⟩
           obtain ⟨t2, ht2⟩ : ∃ t, t = takeC k ⟨l, v⟩ ⟨tb, tv⟩ slot := ⟨_, rfl⟩
           rw [← ht1, ← ht2] at OF
           obtain ⟨j3, hj3⟩ : ∃ j, j = joinW t2.i ⟨ob, ov⟩ := ⟨_, rfl⟩
           obtain ⟨j4, hj4⟩ : ∃ j, j = joinW ⟨tb, tv⟩ ⟨ob, ov⟩ := ⟨_, rfl⟩
           rw [← hj3, ← hj4] at OF
           obtain ⟨t3, ht3⟩ : ∃ t, t = takeC k t2.w j3 slot := ⟨_, rfl⟩
           obtain ⟨t4, ht4⟩ : ∃ t, t = takeC k ⟨l, v⟩ j4 slot := ⟨_, rfl⟩
           rw [← ht3, ← ht4] at OF
           have HOF := Lib.hid OF
           have HT1 := Lib.hid (fun V (kV : Kept WP V) => (show Calls Try.prog 13 #[.agg #[.slice kA k.ws.length kc, .int .u64 k.seed, .int .i64 k.ep, .int .i64 k.nu, .int .i64 k.de], .agg #[.slice lA l.length lc, .slice vA v.length vc], .agg #[.slice mA m.length mc, .slice uA u.length uc], .int .i64 slot] V (TakeW WP t1 V) from by
            rw [ht1]
            exact (viewTakeN_any kA kc k lA lc l vA vc v mA mc m uA uc u slot V hk1 khs (by omega) (by omega) lhw vhw (by omega) (by omega) mhw uhw ((HA.out.kept KB9.out).kept kV) ((HL.out.kept KB9.out).kept kV) ((HV.out.kept KB9.out).kept kV) ((HM.out.kept KB9.out).kept kV) ((HU.out.kept KB9.out).kept kV)).mono fun _ _ h => TakeNew.since kV h))
           have HT2 := Lib.hid (fun V (kV : Kept WP V) => (show Calls Try.prog 13 #[.agg #[.slice kA k.ws.length kc, .int .u64 k.seed, .int .i64 k.ep, .int .i64 k.nu, .int .i64 k.de], .agg #[.slice lA l.length lc, .slice vA v.length vc], .agg #[.slice tA tb.length tc, .slice tB tv.length td], .int .i64 slot] V (TakeW WP t2 V) from by
            rw [ht2]
            exact (viewTakeN_any kA kc k lA lc l vA vc v tA tc tb tB td tv slot V hk1 khs (by omega) (by omega) lhw vhw (by omega) (by omega) HWt.out.1.1 HWt.out.2 ((HA.out.kept KB9.out).kept kV) ((HL.out.kept KB9.out).kept kV) ((HV.out.kept KB9.out).kept kV) (HLt.out.kept kV) (HVt.out.kept kV)).mono fun _ _ h => TakeNew.since kV h))
           have HW2 := Lib.hid (show (WfL t2.i.b ∧ Wf64L t2.i.b) ∧ WfVs t2.i.v ∧ WfL t2.w.b ∧ WfVs t2.w.v from ⟨⟨fun x hx => mhw x (OF.we x hx), fun x hx => mh6 x (OF.we x hx)⟩, fun x hx => uhw x (OF.wev x hx), fun x hx => (OF.wy x hx).elim (lhw x) (mhw x), fun x hx => (OF.wyv x hx).elim (vhw x) (uhw x)⟩)
           have HLn3 := Lib.hid (show j3.b.length ≤ 50 ∧ j3.v.length ≤ 50 from by
            rw [hj3]
            have q1 := (joinL_len t2.i.b ob).2
            have q2 := (joinL_len t2.i.v ov).2
            have := OF.el
            have := OF.ev
            exact ⟨by show (joinL t2.i.b ob).length ≤ 50; omega, by show (joinL t2.i.v ov).length ≤ 50; omega⟩)
           have HLn4 := Lib.hid (show j4.b.length ≤ 50 ∧ j4.v.length ≤ 50 from by
            rw [hj4]
            have q1 := (joinL_len tb ob).2
            have q2 := (joinL_len tv ov).2
            exact ⟨by show (joinL tb ob).length ≤ 50; omega, by show (joinL tv ov).length ≤ 50; omega⟩)
           have HWj3 := Lib.hid (show WfL j3.b ∧ WfVs j3.v from by rw [hj3]; exact ⟨wfl_join HW2.out.1.1 HWo.out.1.1, wfv_join HW2.out.2.1 HWo.out.2⟩)
           have HWj4 := Lib.hid (show WfL j4.b ∧ WfVs j4.v from by rw [hj4]; exact ⟨wfl_join HWt.out.1.1 HWo.out.1.1, wfv_join HWt.out.2 HWo.out.2⟩)
           have HJ3 := Lib.hid (fun V (kV : Kept WP V) C a D b (hC : CellsAt V V.heap.size C (blockCells t2.i.b)) (hD : CellsAt V V.heap.size D (votesCells t2.i.v)) => (show Calls Try.prog 15 #[.agg #[.slice C t2.i.b.length a, .slice D t2.i.v.length b], .agg #[.slice mA ob.length mc, .slice uA ov.length uc]] V (JoinWd WP j3 V) from by
            rw [hj3]
            exact (viewJoinN_any C a t2.i.b D b t2.i.v mA mc ob uA uc ov V (by have := OF.el; omega) (by have := OF.ev; omega) (by omega) (by omega) HW2.out.1.1 HW2.out.1.2 HW2.out.2.1 HWo.out.1.1 HWo.out.1.2 HWo.out.2 hC hD (HLo.out.kept kV) (HVo.out.kept kV)).mono fun _ _ h => ViewNew.since kV h))
           have HJ4 := Lib.hid (fun V (kV : Kept WP V) => (show Calls Try.prog 15 #[.agg #[.slice tA tb.length tc, .slice tB tv.length td], .agg #[.slice mA ob.length mc, .slice uA ov.length uc]] V (JoinWd WP j4 V) from by
            rw [hj4]
            exact (viewJoinN_any tA tc tb tB td tv mA mc ob uA uc ov V (by omega) (by omega) (by omega) (by omega) HWt.out.1.1 HWt.out.1.2 HWt.out.2 HWo.out.1.1 HWo.out.1.2 HWo.out.2 (HLt.out.kept kV) (HVt.out.kept kV) (HLo.out.kept kV) (HVo.out.kept kV)).mono fun _ _ h => ViewNew.since kV h))
           have HT3 := Lib.hid (fun V (kV : Kept WP V) A c B d C a D b (hA : CellsAt V V.heap.size A (blockCells t2.w.b)) (hB : CellsAt V V.heap.size B (votesCells t2.w.v)) (hC : CellsAt V V.heap.size C (blockCells j3.b)) (hD : CellsAt V V.heap.size D (votesCells j3.v)) => (show Calls Try.prog 13 #[.agg #[.slice kA k.ws.length kc, .int .u64 k.seed, .int .i64 k.ep, .int .i64 k.nu, .int .i64 k.de], .agg #[.slice A t2.w.b.length c, .slice B t2.w.v.length d], .agg #[.slice C j3.b.length a, .slice D j3.v.length b], .int .i64 slot] V (TakeW WP t3 V) from by
            rw [ht3]
            exact (viewTakeN_any kA kc k A c t2.w.b B d t2.w.v C a j3.b D b j3.v slot V hk1 khs (by have := OF.y60; omega) (by have := OF.y240; omega) HW2.out.2.2.1 HW2.out.2.2.2 (by have := HLn3.out.1; omega) (by have := HLn3.out.2; omega) HWj3.out.1 HWj3.out.2 ((HA.out.kept KB9.out).kept kV) hA hB hC hD).mono fun _ _ h => TakeNew.since kV h))
           have HT4 := Lib.hid (fun V (kV : Kept WP V) C a D b (hC : CellsAt V V.heap.size C (blockCells j4.b)) (hD : CellsAt V V.heap.size D (votesCells j4.v)) => (show Calls Try.prog 13 #[.agg #[.slice kA k.ws.length kc, .int .u64 k.seed, .int .i64 k.ep, .int .i64 k.nu, .int .i64 k.de], .agg #[.slice lA l.length lc, .slice vA v.length vc], .agg #[.slice C j4.b.length a, .slice D j4.v.length b], .int .i64 slot] V (TakeW WP t4 V) from by
            rw [ht4]
            exact (viewTakeN_any kA kc k lA lc l vA vc v C a j4.b D b j4.v slot V hk1 khs (by omega) (by omega) lhw vhw (by have := HLn4.out.1; omega) (by have := HLn4.out.2; omega) HWj4.out.1 HWj4.out.2 ((HA.out.kept KB9.out).kept kV) ((HL.out.kept KB9.out).kept kV) ((HV.out.kept KB9.out).kept kV) hC hD).mono fun _ _ h => TakeNew.since kV h))
           clear OF hob hov htb htv lob lov ltb ltv hLo hVo hLt hVt hfA hfB huA huB htc htd ht1 ht2 ht3 ht4 hj3 hj4 HOkA HJ HJA HJB HJb HJv HWj HWk HMay HW2 HLn3 HLn4 HWj3 HWj4 HWo HWt HLo HVo HLt HVt hnp1 hnq1
           obtain ⟨⟨xb, xv⟩, ⟨x1, x2⟩, fx⟩ := t1
           obtain ⟨⟨yb, yv⟩, ⟨eb, ev⟩, fy⟩ := t2
           obtain ⟨⟨zb, zv⟩, ⟨z1_, z2_⟩, fz⟩ := t3
           obtain ⟨⟨ub, uv⟩, ⟨u1_, u2_⟩, fu⟩ := t4
           obtain ⟨j3b, j3v⟩ := j3
           obtain ⟨j4b, j4v⟩ := j4
           dsimp only at HOF HT1 HT2 HT3 HT4 HJ3 HJ4
           have HAz := Lib.hid (show allW xb xv zb zv = true from HOF.out.az)
           have HAu := Lib.hid (show allW xb xv ub uv = true from HOF.out.au)
           have bx1 : xb.length ≤ 60 := HOF.out.x60
           have bx2 : xv.length ≤ 240 := HOF.out.x240
           have bz1' : zb.length ≤ 60 := HOF.out.z60
           have bz2' : zv.length ≤ 240 := HOF.out.z240
           have bu1 : ub.length ≤ 60 := HOF.out.u60
           have bu2 : uv.length ≤ 240 := HOF.out.u240
           clear HOF
           obtain ⟨b00, b01, b02, b03, b04⟩ := (HB0.out.kept KB9.out).five
           have bz0 := (HB0.out.kept KB9.out).1
           obtain ⟨b10, b11⟩ := (HB1.out.kept KB9.out).two
           have bz1 := (HB1.out.kept KB9.out).1
           obtain ⟨b20, b21⟩ := (HB2.out.kept KB9.out).two
           have bz2 := (HB2.out.kept KB9.out).1
           go_wp2_with fail
           clear b00 b01 b02 b03 b04 bz0 b10 b11 bz1 b20 b21 bz2
           refine (HT1.out WP KB9.out).mono ?_
           rintro e W10 ⟨A1, c1, B1, d1, C1, a1, D1, b1, rfl, hX, hXv, _, _, k⟩
           have KB10 := Lib.hid (KB9.out.trans k)
           clear k
           dsimp only
           dsimp only at hX hXv
           have HX := Lib.hid hX
           have HXv := Lib.hid hXv
           clear hX hXv
           obtain ⟨b00, b01, b02, b03, b04⟩ := (HB0.out.kept KB10.out).five
           have bz0 := (HB0.out.kept KB10.out).1
           obtain ⟨b10, b11⟩ := (HB1.out.kept KB10.out).two
           have bz1 := (HB1.out.kept KB10.out).1
           obtain ⟨b20, b21⟩ := (HB2.out.kept KB10.out).two
           have bz2 := (HB2.out.kept KB10.out).1
           go_wp2_with fail
           clear b00 b01 b02 b03 b04 bz0 b10 b11 bz1 b20 b21 bz2
           have k := ((Kept.refl W10).alloc (.cells #[.slice A1 xb.length c1, .slice B1 xv.length d1] 29)).alloc (.cells #[.slice C1 x1.length a1, .slice D1 x2.length b1] 29)
           have H19 := Lib.hid ((AtB.new W10 #[.slice A1 xb.length c1, .slice B1 xv.length d1] 29).kept ((Kept.refl _).alloc (.cells #[.slice C1 x1.length a1, .slice D1 x2.length b1] 29)))
           have hsz : (W10.alloc (.cells #[.slice A1 xb.length c1, .slice B1 xv.length d1] 29)).heap.size = W10.heap.size + 1 := by simp
           have hnb := AtB.new (W10.alloc (.cells #[.slice A1 xb.length c1, .slice B1 xv.length d1] 29)) #[.slice C1 x1.length a1, .slice D1 x2.length b1] 29
           rw [hsz] at hnb
           have H20 := Lib.hid hnb
           clear hsz hnb
           replace HX := Lib.hid (HX.out.kept k)
           replace HXv := Lib.hid (HXv.out.kept k)
           have KB11 := Lib.hid (KB10.out.trans k)
           clear k
           generalize (W10.alloc (.cells #[.slice A1 xb.length c1, .slice B1 xv.length d1] 29)).alloc (.cells #[.slice C1 x1.length a1, .slice D1 x2.length b1] 29) = W11 at *
           generalize W10.heap.size + 1 = z20 at *
           generalize W10.heap.size = z19 at *
           clear H20
           obtain ⟨b20, b21⟩ := (HB2.out.kept KB11.out).two
           have bz2 := (HB2.out.kept KB11.out).1
           go_wp2_with fail
           have s0 := HuA.out
           have s1 := HuB.out
           refine wp_region_noPanic ?_
           refine wp_region_held_drew (S := (fun w' => w'.cell? ⟨z2, 0, none⟩ = some (.slice mA m.length mc) ∧ w'.cell? ⟨z2, 1, none⟩ = some (.slice uA u.length uc) ∧ Kept W11 w')) (by kernel_rfl) ?_ (fun hHeld => ?_)
           ·exact ⟨b20, b21, (Kept.refl _).drew⟩
           generalize hVV : W11.drew = V0 at *
           clear hVV
           refine wpAnyH_take (i := 0) (v := ?_) (by simp only [List.getElem?_toArray, List.getElem?_cons_succ, List.getElem?_cons_zero]; rfl) (by kernel_rfl) (by kernel_rfl) (by kernel_rfl) (fun _ _ _ h => h) (Or.inl ⟨by rfl, ?_⟩) (by assumption) ?_
           rotate_left
           ·intro w hSw
            (try dsimp only at hSw)
            go_simp
            (try with_reducible rfl)
           simp only [Act.put, List.setIfInBounds_toArray, List.set_cons_zero, List.set_cons_succ]
           refine wpAnyH_take (i := 1) (v := ?_) (by simp only [List.getElem?_toArray, List.getElem?_cons_succ, List.getElem?_cons_zero]; rfl) (by kernel_rfl) (by kernel_rfl) (by kernel_rfl) (fun _ _ _ h => h) (Or.inl ⟨by rfl, ?_⟩) (by assumption) ?_
           rotate_left
           ·intro w hSw
            (try dsimp only at hSw)
            go_simp
            (try with_reducible rfl)
           simp only [Act.put, List.setIfInBounds_toArray, List.set_cons_zero, List.set_cons_succ]
           refine wpAnyH_take (i := 2) (v := ?_) (by simp only [List.getElem?_toArray, List.getElem?_cons_succ, List.getElem?_cons_zero]; rfl) (by kernel_rfl) (by kernel_rfl) (by kernel_rfl) (fun _ _ _ h => h) (Or.inl ⟨by rfl, ?_⟩) (by assumption) ?_
           rotate_left
           ·intro w hSw
            (try dsimp only at hSw)
            go_simp
            (try with_reducible rfl)
           simp only [Act.put, List.setIfInBounds_toArray, List.set_cons_zero, List.set_cons_succ]
           refine wpAnyH_take (i := 3) (v := ?_) (by simp only [List.getElem?_toArray, List.getElem?_cons_succ, List.getElem?_cons_zero]; rfl) (by kernel_rfl) (by kernel_rfl) (by kernel_rfl) (fun _ _ _ h => h) (Or.inl ⟨by rfl, ?_⟩) (by assumption) ?_
           rotate_left
           ·intro w hSw
            (try dsimp only at hSw)
            go_simp
            (try with_reducible rfl)
           simp only [Act.put, List.setIfInBounds_toArray, List.set_cons_zero, List.set_cons_succ]
           refine wpAnyH_take (i := 4) (v := ?_) (by simp only [List.getElem?_toArray, List.getElem?_cons_succ, List.getElem?_cons_zero]; rfl) (by kernel_rfl) (by kernel_rfl) (by kernel_rfl) (fun _ _ _ h => h) (Or.inl ⟨by rfl, ?_⟩) (by assumption) ?_
           rotate_left
           ·intro w hSw
            (try dsimp only at hSw)
            go_simp
            (try with_reducible rfl)
           simp only [Act.put, List.setIfInBounds_toArray, List.set_cons_zero, List.set_cons_succ]
           refine wpAnyH_take (i := 5) (v := ?_) (by simp only [List.getElem?_toArray, List.getElem?_cons_succ, List.getElem?_cons_zero]; rfl) (by kernel_rfl) (by kernel_rfl) (by kernel_rfl) (fun _ _ _ h => h) (Or.inl ⟨by rfl, ?_⟩) (by assumption) ?_
           rotate_left
           ·intro w hSw
            (try dsimp only at hSw)
            go_simp
            (try with_reducible rfl)
           simp only [Act.put, List.setIfInBounds_toArray, List.set_cons_zero, List.set_cons_succ]
           refine wpAnyH_take (i := 6) (v := ?_) (by simp only [List.getElem?_toArray, List.getElem?_cons_succ, List.getElem?_cons_zero]; rfl) (by kernel_rfl) (by kernel_rfl) (by kernel_rfl) (fun _ _ _ h => h) (Or.inl ⟨by rfl, ?_⟩) (by assumption) ?_
           rotate_left
           ·intro w hSw
            (try dsimp only at hSw)
            go_simp
            (try with_reducible rfl)
           simp only [Act.put, List.setIfInBounds_toArray, List.set_cons_zero, List.set_cons_succ]
           refine wpAnyH_take (i := 7) (v := ?_) (by simp only [List.getElem?_toArray, List.getElem?_cons_succ, List.getElem?_cons_zero]; rfl) (by kernel_rfl) (by kernel_rfl) (by kernel_rfl) (fun _ _ _ h => h) (Or.inl ⟨by rfl, ?_⟩) (by assumption) ?_
           rotate_left
           ·intro w hSw
            (try dsimp only at hSw)
            go_simp
            (try with_reducible rfl)
           simp only [Act.put, List.setIfInBounds_toArray, List.set_cons_zero, List.set_cons_succ]
           refine wpAnyH_take (i := 8) (v := ?_) (by simp only [List.getElem?_toArray, List.getElem?_cons_succ, List.getElem?_cons_zero]; rfl) (by kernel_rfl) (by kernel_rfl) (by kernel_rfl) (fun _ _ _ h => h) (Or.inl ⟨by rfl, ?_⟩) (by assumption) ?_
           rotate_left
           ·intro w hSw
            (try dsimp only at hSw)
            go_simp
            (try with_reducible rfl)
           simp only [Act.put, List.setIfInBounds_toArray, List.set_cons_zero, List.set_cons_succ]
           refine wpAnyH_ready (rs := [9]) (by kernel_rfl) (by simp) ?_
           refine AllReadyH.cons (by simp only [List.getElem?_toArray, List.getElem?_cons_succ, List.getElem?_cons_zero]; rfl) (fun K hK => ?_) (AllReadyH.nil)
           have h5 := AtB.new V0 #[.slice none 0 0, .slice none 0 0] 29
           have hge := hHeld.2.2.size_le
           have kT := hHeld.2.2.alloc (.cells #[.slice none 0 0, .slice none 0 0] 29)
           go_simp
           obtain ⟨z22, hz⟩ : ∃ z, z = V0.heap.size := ⟨_, rfl⟩
           rw [← hz] at h5 hge ⊢
           clear hz
           generalize V0.alloc (.cells #[.slice none 0 0, .slice none 0 0] 29) = V1 at *
           refine hK.out _ _ ?_ (fun hHeld2 => ?_)
           ·exact ⟨(kT.cell (p := ⟨z2, 0, none⟩) bz2).trans b20, (kT.cell (p := ⟨z2, 1, none⟩) bz2).trans b21, kT⟩
           clear hK K hHeld
           have hHeld := hHeld2
           clear hHeld2
           try simp only [Act.put, List.setIfInBounds_toArray, List.set_cons_zero, List.set_cons_succ]
           refine wpAnyH_ready (rs := [10]) (by kernel_rfl) (by simp) ?_
           refine AllReadyH.cons (by simp only [List.getElem?_toArray, List.getElem?_cons_succ, List.getElem?_cons_zero]; rfl) (fun K hK => ?_) (AllReadyH.nil)
           have c0 : V1.cell? ⟨z22, 0, none⟩ = some (.slice none 0 0) := h5.cell
           have c1 : V1.cell? ⟨z22, 1, none⟩ = some (.slice none 0 0) := h5.cell
           have f0 := h5.fr 0
           have f1 := h5.fr 1
           have lt := h5.lt
           replace h5 := h5.set2 (.slice mA ob.length mc) (.slice uA ov.length uc)
           have kT := (hHeld.2.2.setCell (p := ⟨z22, 0, none⟩) hge (.slice mA ob.length mc)).setCell (p := ⟨z22, 1, none⟩) hge (.slice uA ov.length uc)
           go_simp
           generalize (V1.setCell ⟨z22, 0, none⟩ (.slice mA ob.length mc)).setCell ⟨z22, 1, none⟩ (.slice uA ov.length uc) = V2 at *
           clear c0 c1 f0 f1 lt
           refine hK.out _ _ ?_ (fun hHeld2 => ?_)
           ·exact ⟨(kT.cell (p := ⟨z2, 0, none⟩) bz2).trans b20, (kT.cell (p := ⟨z2, 1, none⟩) bz2).trans b21, kT⟩
           clear hK K hHeld
           have hHeld := hHeld2
           clear hHeld2
           try simp only [Act.put, List.setIfInBounds_toArray, List.set_cons_zero, List.set_cons_succ]
           refine wpAnyH_done (by kernel_rfl) ?_ _
           refine NoPanic.normal ?_
           have k := hHeld.2.2
           clear hHeld b20 b21 bz2 s0 s1
           have H22 := Lib.hid h5
           clear h5 hge
           replace HX := Lib.hid (HX.out.kept k)
           replace HXv := Lib.hid (HXv.out.kept k)
           replace H19 := Lib.hid (H19.out.kept k)
           have KB12 := Lib.hid (KB11.out.trans k)
           clear k
           generalize V2 = W12 at *
           obtain ⟨b20, b21⟩ := (HB2.out.kept KB12.out).two
           have bz2 := (HB2.out.kept KB12.out).1
           go_wp2_with fail
           have s0 := HfA.out
           have s1 := HfB.out
           refine wp_region_noPanic ?_
           refine wp_region_held_drew (S := (fun w' => w'.cell? ⟨z2, 0, none⟩ = some (.slice mA m.length mc) ∧ w'.cell? ⟨z2, 1, none⟩ = some (.slice uA u.length uc) ∧ Kept W12 w')) (by kernel_rfl) ?_ (fun hHeld => ?_)
           ·exact ⟨b20, b21, (Kept.refl _).drew⟩
           generalize hVV : W12.drew = V0 at *
           clear hVV
           refine wpAnyH_take (i := 0) (v := ?_) (by simp only [List.getElem?_toArray, List.getElem?_cons_succ, List.getElem?_cons_zero]; rfl) (by kernel_rfl) (by kernel_rfl) (by kernel_rfl) (fun _ _ _ h => h) (Or.inl ⟨by rfl, ?_⟩) (by assumption) ?_
           rotate_left
           ·intro w hSw
            (try dsimp only at hSw)
            go_simp
            (try with_reducible rfl)
           simp only [Act.put, List.setIfInBounds_toArray, List.set_cons_zero, List.set_cons_succ]
           refine wpAnyH_take (i := 1) (v := ?_) (by simp only [List.getElem?_toArray, List.getElem?_cons_succ, List.getElem?_cons_zero]; rfl) (by kernel_rfl) (by kernel_rfl) (by kernel_rfl) (fun _ _ _ h => h) (Or.inl ⟨by rfl, ?_⟩) (by assumption) ?_
           rotate_left
           ·intro w hSw
            (try dsimp only at hSw)
            go_simp
            (try with_reducible rfl)
           simp only [Act.put, List.setIfInBounds_toArray, List.set_cons_zero, List.set_cons_succ]
           refine wpAnyH_take (i := 2) (v := ?_) (by simp only [List.getElem?_toArray, List.getElem?_cons_succ, List.getElem?_cons_zero]; rfl) (by kernel_rfl) (by kernel_rfl) (by kernel_rfl) (fun _ _ _ h => h) (Or.inl ⟨by rfl, ?_⟩) (by assumption) ?_
           rotate_left
           ·intro w hSw
            (try dsimp only at hSw)
            go_simp
            (try with_reducible rfl)
           simp only [Act.put, List.setIfInBounds_toArray, List.set_cons_zero, List.set_cons_succ]
           refine wpAnyH_take (i := 3) (v := ?_) (by simp only [List.getElem?_toArray, List.getElem?_cons_succ, List.getElem?_cons_zero]; rfl) (by kernel_rfl) (by kernel_rfl) (by kernel_rfl) (fun _ _ _ h => h) (Or.inl ⟨by rfl, ?_⟩) (by assumption) ?_
           rotate_left
           ·intro w hSw
            (try dsimp only at hSw)
            go_simp
            (try with_reducible rfl)
           simp only [Act.put, List.setIfInBounds_toArray, List.set_cons_zero, List.set_cons_succ]
           refine wpAnyH_take (i := 4) (v := ?_) (by simp only [List.getElem?_toArray, List.getElem?_cons_succ, List.getElem?_cons_zero]; rfl) (by kernel_rfl) (by kernel_rfl) (by kernel_rfl) (fun _ _ _ h => h) (Or.inl ⟨by rfl, ?_⟩) (by assumption) ?_
           rotate_left
           ·intro w hSw
            (try dsimp only at hSw)
            go_simp
            (try with_reducible rfl)
           simp only [Act.put, List.setIfInBounds_toArray, List.set_cons_zero, List.set_cons_succ]
           refine wpAnyH_take (i := 5) (v := ?_) (by simp only [List.getElem?_toArray, List.getElem?_cons_succ, List.getElem?_cons_zero]; rfl) (by kernel_rfl) (by kernel_rfl) (by kernel_rfl) (fun _ _ _ h => h) (Or.inl ⟨by rfl, ?_⟩) (by assumption) ?_
           rotate_left
           ·intro w hSw
            (try dsimp only at hSw)
            go_simp
            (try with_reducible rfl)
           simp only [Act.put, List.setIfInBounds_toArray, List.set_cons_zero, List.set_cons_succ]
           refine wpAnyH_take (i := 6) (v := ?_) (by simp only [List.getElem?_toArray, List.getElem?_cons_succ, List.getElem?_cons_zero]; rfl) (by kernel_rfl) (by kernel_rfl) (by kernel_rfl) (fun _ _ _ h => h) (Or.inl ⟨by rfl, ?_⟩) (by assumption) ?_
           rotate_left
           ·intro w hSw
            (try dsimp only at hSw)
            go_simp
            (try with_reducible rfl)
           simp only [Act.put, List.setIfInBounds_toArray, List.set_cons_zero, List.set_cons_succ]
           refine wpAnyH_take (i := 7) (v := ?_) (by simp only [List.getElem?_toArray, List.getElem?_cons_succ, List.getElem?_cons_zero]; rfl) (by kernel_rfl) (by kernel_rfl) (by kernel_rfl) (fun _ _ _ h => h) (Or.inl ⟨by rfl, ?_⟩) (by assumption) ?_
           rotate_left
           ·intro w hSw
            (try dsimp only at hSw)
            go_simp
            (try with_reducible rfl)
           simp only [Act.put, List.setIfInBounds_toArray, List.set_cons_zero, List.set_cons_succ]
           refine wpAnyH_take (i := 8) (v := ?_) (by simp only [List.getElem?_toArray, List.getElem?_cons_succ, List.getElem?_cons_zero]; rfl) (by kernel_rfl) (by kernel_rfl) (by kernel_rfl) (fun _ _ _ h => h) (Or.inl ⟨by rfl, ?_⟩) (by assumption) ?_
           rotate_left
           ·intro w hSw
            (try dsimp only at hSw)
            go_simp
            (try with_reducible rfl)
           simp only [Act.put, List.setIfInBounds_toArray, List.set_cons_zero, List.set_cons_succ]
           refine wpAnyH_ready (rs := [9]) (by kernel_rfl) (by simp) ?_
           refine AllReadyH.cons (by simp only [List.getElem?_toArray, List.getElem?_cons_succ, List.getElem?_cons_zero]; rfl) (fun K hK => ?_) (AllReadyH.nil)
           have h5 := AtB.new V0 #[.slice none 0 0, .slice none 0 0] 29
           have hge := hHeld.2.2.size_le
           have kT := hHeld.2.2.alloc (.cells #[.slice none 0 0, .slice none 0 0] 29)
           go_simp
           obtain ⟨z23, hz⟩ : ∃ z, z = V0.heap.size := ⟨_, rfl⟩
           rw [← hz] at h5 hge ⊢
           clear hz
           generalize V0.alloc (.cells #[.slice none 0 0, .slice none 0 0] 29) = V1 at *
           refine hK.out _ _ ?_ (fun hHeld2 => ?_)
           ·exact ⟨(kT.cell (p := ⟨z2, 0, none⟩) bz2).trans b20, (kT.cell (p := ⟨z2, 1, none⟩) bz2).trans b21, kT⟩
           clear hK K hHeld
           have hHeld := hHeld2
           clear hHeld2
           try simp only [Act.put, List.setIfInBounds_toArray, List.set_cons_zero, List.set_cons_succ]
           refine wpAnyH_ready (rs := [10]) (by kernel_rfl) (by simp) ?_
           refine AllReadyH.cons (by simp only [List.getElem?_toArray, List.getElem?_cons_succ, List.getElem?_cons_zero]; rfl) (fun K hK => ?_) (AllReadyH.nil)
           have c0 : V1.cell? ⟨z23, 0, none⟩ = some (.slice none 0 0) := h5.cell
           have c1 : V1.cell? ⟨z23, 1, none⟩ = some (.slice none 0 0) := h5.cell
           have f0 := h5.fr 0
           have f1 := h5.fr 1
           have lt := h5.lt
           replace h5 := h5.set2 (.slice tA tb.length tc) (.slice tB tv.length td)
           have kT := (hHeld.2.2.setCell (p := ⟨z23, 0, none⟩) hge (.slice tA tb.length tc)).setCell (p := ⟨z23, 1, none⟩) hge (.slice tB tv.length td)
           go_simp
           generalize (V1.setCell ⟨z23, 0, none⟩ (.slice tA tb.length tc)).setCell ⟨z23, 1, none⟩ (.slice tB tv.length td) = V2 at *
           clear c0 c1 f0 f1 lt
           refine hK.out _ _ ?_ (fun hHeld2 => ?_)
           ·exact ⟨(kT.cell (p := ⟨z2, 0, none⟩) bz2).trans b20, (kT.cell (p := ⟨z2, 1, none⟩) bz2).trans b21, kT⟩
           clear hK K hHeld
           have hHeld := hHeld2
           clear hHeld2
           try simp only [Act.put, List.setIfInBounds_toArray, List.set_cons_zero, List.set_cons_succ]
           refine wpAnyH_done (by kernel_rfl) ?_ _
           refine NoPanic.normal ?_
           have k := hHeld.2.2
           clear hHeld b20 b21 bz2 s0 s1
           have H23 := Lib.hid h5
           clear h5 hge
           replace HX := Lib.hid (HX.out.kept k)
           replace HXv := Lib.hid (HXv.out.kept k)
           replace H19 := Lib.hid (H19.out.kept k)
           replace H22 := Lib.hid (H22.out.kept k)
           have KB13 := Lib.hid (KB12.out.trans k)
           clear k
           generalize V2 = W13 at *
           have p0 : W13.cell? ⟨z23, 0, none⟩ = some (.slice tA tb.length tc) := H23.out.cell
           have p1 : W13.cell? ⟨z23, 1, none⟩ = some (.slice tB tv.length td) := H23.out.cell
           have pl := H23.out.lt
           obtain ⟨b00, b01, b02, b03, b04⟩ := (HB0.out.kept KB13.out).five
           have bz0 := (HB0.out.kept KB13.out).1
           obtain ⟨b10, b11⟩ := (HB1.out.kept KB13.out).two
           have bz1 := (HB1.out.kept KB13.out).1
           go_wp2_with fail
           clear p0 p1 pl
           clear b00 b01 b02 b03 b04 bz0 b10 b11 bz1
           refine (HT2.out W13 KB13.out).mono ?_
           rintro e W14 ⟨A2, c2, B2, d2, C2, a2, D2, b2, rfl, hY, hYv, hE, hEv, k⟩
           replace HX := Lib.hid (HX.out.kept k)
           replace HXv := Lib.hid (HXv.out.kept k)
           replace H19 := Lib.hid (H19.out.kept k)
           replace H22 := Lib.hid (H22.out.kept k)
           replace H23 := Lib.hid (H23.out.kept k)
           have KB14 := Lib.hid (KB13.out.trans k)
           clear k
           dsimp only
           dsimp only at hY hYv hE hEv
           have HY := Lib.hid hY
           have HYv := Lib.hid hYv
           have HE := Lib.hid hE
           have HEv := Lib.hid hEv
           clear hY hYv hE hEv
           obtain ⟨b00, b01, b02, b03, b04⟩ := (HB0.out.kept KB14.out).five
           have bz0 := (HB0.out.kept KB14.out).1
           obtain ⟨b10, b11⟩ := (HB1.out.kept KB14.out).two
           have bz1 := (HB1.out.kept KB14.out).1
           obtain ⟨b20, b21⟩ := (HB2.out.kept KB14.out).two
           have bz2 := (HB2.out.kept KB14.out).1
           go_wp2_with fail
           clear b00 b01 b02 b03 b04 bz0 b10 b11 bz1 b20 b21 bz2
           have k := ((Kept.refl W14).alloc (.cells #[.slice A2 yb.length c2, .slice B2 yv.length d2] 29)).alloc (.cells #[.slice C2 eb.length a2, .slice D2 ev.length b2] 29)
           have H24 := Lib.hid ((AtB.new W14 #[.slice A2 yb.length c2, .slice B2 yv.length d2] 29).kept ((Kept.refl _).alloc (.cells #[.slice C2 eb.length a2, .slice D2 ev.length b2] 29)))
           have hsz : (W14.alloc (.cells #[.slice A2 yb.length c2, .slice B2 yv.length d2] 29)).heap.size = W14.heap.size + 1 := by simp
           have hnb := AtB.new (W14.alloc (.cells #[.slice A2 yb.length c2, .slice B2 yv.length d2] 29)) #[.slice C2 eb.length a2, .slice D2 ev.length b2] 29
           rw [hsz] at hnb
           have H25 := Lib.hid hnb
           clear hsz hnb
           replace HX := Lib.hid (HX.out.kept k)
           replace HXv := Lib.hid (HXv.out.kept k)
           replace H19 := Lib.hid (H19.out.kept k)
           replace H22 := Lib.hid (H22.out.kept k)
           replace H23 := Lib.hid (H23.out.kept k)
           replace HY := Lib.hid (HY.out.kept k)
           replace HYv := Lib.hid (HYv.out.kept k)
           replace HE := Lib.hid (HE.out.kept k)
           replace HEv := Lib.hid (HEv.out.kept k)
           have KB15 := Lib.hid (KB14.out.trans k)
           clear k
           generalize (W14.alloc (.cells #[.slice A2 yb.length c2, .slice B2 yv.length d2] 29)).alloc (.cells #[.slice C2 eb.length a2, .slice D2 ev.length b2] 29) = W15 at *
           generalize W14.heap.size + 1 = z25 at *
           generalize W14.heap.size = z24 at *
           obtain ⟨b00, b01, b02, b03, b04⟩ := (HB0.out.kept KB15.out).five
           have bz0 := (HB0.out.kept KB15.out).1
           have p0 : W15.cell? ⟨z24, 0, none⟩ = some (.slice A2 yb.length c2) := H24.out.cell
           have p1 : W15.cell? ⟨z24, 1, none⟩ = some (.slice B2 yv.length d2) := H24.out.cell
           have pl := H24.out.lt
           have q0 : W15.cell? ⟨z25, 0, none⟩ = some (.slice C2 eb.length a2) := H25.out.cell
           have q1 : W15.cell? ⟨z25, 1, none⟩ = some (.slice D2 ev.length b2) := H25.out.cell
           have ql := H25.out.lt
           have r0 : W15.cell? ⟨z22, 0, none⟩ = some (.slice mA ob.length mc) := H22.out.cell
           have r1 : W15.cell? ⟨z22, 1, none⟩ = some (.slice uA ov.length uc) := H22.out.cell
           have rl := H22.out.lt
           go_wp2_with fail
           refine cut14 ?f19 (fun A3 c3 B3 d3 A c B d C a D b z y w' => AtB w' z #[.slice A zb.length c, .slice B zv.length d] 29 ∧ R2 WP zb zv A c B d w' ∧ Kept W15 w') ?_ ?_
           rotate_left
           ·intro Q1 hQ1
            have KP := KB15.out
            have HW0 : WP.heap.size ≤ W15.heap.size := KP.size_le
            refine wp_region_noPanic ?_
            refine wp_region_held_drew (S := Kept W15) (by kernel_rfl) ?_ (fun hHeld => ?_)
            ·exact (Kept.refl _).drew
            generalize hVV : W15.drew = V0 at *
            clear hVV
            refine tk 0 (v := ?_) (hy := Or.inl ⟨by rfl, ?_⟩) (h := ?_)
            rotate_left
            ·intro w hSw
             have q0 := (hSw.cell (p := ⟨z0, 0, none⟩) bz0).trans b00
             have q1 := (hSw.cell (p := ⟨z0, 1, none⟩) bz0).trans b01
             have q2 := (hSw.cell (p := ⟨z0, 2, none⟩) bz0).trans b02
             have q3 := (hSw.cell (p := ⟨z0, 3, none⟩) bz0).trans b03
             have q4 := (hSw.cell (p := ⟨z0, 4, none⟩) bz0).trans b04
             go_simp
             try with_reducible rfl
            simp only [Act.put, List.setIfInBounds_toArray, List.set_cons_zero, List.set_cons_succ]
            refine tk 1 (v := ?_) (hy := Or.inl ⟨by rfl, ?_⟩) (h := ?_)
            rotate_left
            ·intro w hSw
             have q0 := (hSw.cell (p := ⟨z24, 0, none⟩) pl).trans p0
             have q1 := (hSw.cell (p := ⟨z24, 1, none⟩) pl).trans p1
             go_simp
             try with_reducible rfl
            simp only [Act.put, List.setIfInBounds_toArray, List.set_cons_zero, List.set_cons_succ]
            refine tk 2 (v := ?_) (hy := Or.inl ⟨by rfl, ?_⟩) (h := ?_)
            rotate_left
            ·intro w hSw
             have q0 := (hSw.cell (p := ⟨z25, 0, none⟩) ql).trans q0
             have q1 := (hSw.cell (p := ⟨z25, 1, none⟩) ql).trans q1
             go_simp
             try with_reducible rfl
            simp only [Act.put, List.setIfInBounds_toArray, List.set_cons_zero, List.set_cons_succ]
            refine tk 3 (v := ?_) (hy := Or.inl ⟨by rfl, ?_⟩) (h := ?_)
            rotate_left
            ·intro w hSw
             have q0 := (hSw.cell (p := ⟨z22, 0, none⟩) rl).trans r0
             have q1 := (hSw.cell (p := ⟨z22, 1, none⟩) rl).trans r1
             go_simp
             try with_reducible rfl
            simp only [Act.put, List.setIfInBounds_toArray, List.set_cons_zero, List.set_cons_succ]
            refine tk 5 (v := ?_) (hy := Or.inl ⟨by rfl, ?_⟩) (h := ?_)
            rotate_left
            ·intro w hSw
             go_simp
             try with_reducible rfl
            simp only [Act.put, List.setIfInBounds_toArray, List.set_cons_zero, List.set_cons_succ]
            refine wpAnyH_ready (rs := [4, 11, 12]) (by kernel_rfl) (by simp) ?_
            refine rc (h := fun K hK => ?_) (hs := rc (h := fun K hK => ?_) (hs := rc (h := fun K hK => ?_) (hs := AllReadyH.nil)))
            ·
             go_simp
             go_at_call 15
             refine (HJ3.out V0 (KP.trans hHeld) C2 a2 D2 b2 (CellsAt.of_own (HE.out.kept hHeld).1) (CellsAt.of_own (HEv.out.kept hHeld).1)).mono ?_
             rintro e V1 ⟨A3, c3, B3, d3, rfl, hj1, hj2, kk⟩
             have hj : R2 WP _ _ A3 c3 B3 d3 V1 := ⟨hj1, hj2⟩
             clear hj1 hj2
             refine hK.out _ _ (hHeld.trans kk) (fun h2 => ?_)
             clear hK K hHeld
             have hHeld := h2
             clear h2
             try simp only [Act.put, List.setIfInBounds_toArray, List.set_cons_zero, List.set_cons_succ]
             refine wpAnyH_ready (rs := [6, 11, 12]) (by kernel_rfl) (by simp) ?_
             refine rc (h := fun K hK => ?_) (hs := rc (h := fun K hK => ?_) (hs := rc (h := fun K hK => ?_) (hs := AllReadyH.nil)))
             ·
              go_simp
              go_at_call 13
              refine (HT3.out V1 (KP.trans hHeld) A2 c2 B2 d2 A3 c3 B3 d3 (CellsAt.of_own (HY.out.kept hHeld).1) (CellsAt.of_own (HYv.out.kept hHeld).1) (CellsAt.of_own hj.b.1) (CellsAt.of_own hj.v.1)).mono ?_
              rintro e V2 ⟨A, c, B, d, C, a, D, b, rfl, hz1, hz2, _, _, kk⟩
              have hz : R2 WP zb zv A c B d V2 := ⟨hz1, hz2⟩
              clear hz1 hz2 hj
              refine hK.out _ _ (hHeld.trans kk) (fun h2 => ?_)
              clear hK K hHeld
              have hHeld := h2
              clear h2
              try simp only [Act.put, List.setIfInBounds_toArray, List.set_cons_zero, List.set_cons_succ]
              refine tk 7 (v := ?_) (hy := Or.inl ⟨by rfl, ?_⟩) (h := ?_)
              rotate_left
              ·intro w hSw
               go_simp
               try with_reducible rfl
              simp only [Act.put, List.setIfInBounds_toArray, List.set_cons_zero, List.set_cons_succ]
              refine tk 8 (v := ?_) (hy := Or.inl ⟨by rfl, ?_⟩) (h := ?_)
              rotate_left
              ·intro w hSw
               go_simp
               try with_reducible rfl
              simp only [Act.put, List.setIfInBounds_toArray, List.set_cons_zero, List.set_cons_succ]
              refine tk 9 (v := ?_) (hy := Or.inl ⟨by rfl, ?_⟩) (h := ?_)
              rotate_left
              ·intro w hSw
               go_simp
               try with_reducible rfl
              simp only [Act.put, List.setIfInBounds_toArray, List.set_cons_zero, List.set_cons_succ]
              refine tk 10 (v := ?_) (hy := Or.inl ⟨by rfl, ?_⟩) (h := ?_)
              rotate_left
              ·intro w hSw
               go_simp
               try with_reducible rfl
              simp only [Act.put, List.setIfInBounds_toArray, List.set_cons_zero, List.set_cons_succ]
              refine wpAnyH_ready (rs := [11, 12]) (by kernel_rfl) (by simp) ?_
              refine rc (h := fun K hK => ?_) (hs := rc (h := fun K hK => ?_) (hs := AllReadyH.nil))
              ·
               have h7 := AtB.new V2 #[.slice none 0 0, .slice none 0 0] 29
               have kk := (Kept.refl V2).alloc (.cells #[.slice none 0 0, .slice none 0 0] 29)
               replace hz := hz.kept kk
               go_simp
               obtain ⟨z, hz_⟩ : ∃ z, z = V2.heap.size := ⟨_, rfl⟩
               have gh7 : W15.heap.size ≤ z := by rw [hz_]; exact hHeld.size_le
               rw [← hz_] at h7 ⊢
               clear hz_
               generalize V2.alloc (.cells #[.slice none 0 0, .slice none 0 0] 29) = V3 at *
               refine hK.out _ _ (hHeld.trans kk) (fun h2 => ?_)
               clear hK K hHeld
               have hHeld := h2
               clear h2
               try simp only [Act.put, List.setIfInBounds_toArray, List.set_cons_zero, List.set_cons_succ]
               refine wpAnyH_ready (rs := [12]) (by kernel_rfl) (by simp) ?_
               refine rc (h := fun K hK => ?_) (hs := AllReadyH.nil)
               have h8 := AtB.new V3 #[.slice none 0 0, .slice none 0 0] 29
               have kk := (Kept.refl V3).alloc (.cells #[.slice none 0 0, .slice none 0 0] 29)
               have hlo := h7.lt
               replace hz := hz.kept kk
               replace h7 := h7.kept kk
               go_simp
               obtain ⟨y, hz_⟩ : ∃ z, z = V3.heap.size := ⟨_, rfl⟩
               have gh8 : W15.heap.size ≤ y := by rw [hz_]; exact hHeld.size_le
               have hne : z ≠ y := by omega
               clear hlo
               rw [← hz_] at h8 ⊢
               clear hz_
               generalize V3.alloc (.cells #[.slice none 0 0, .slice none 0 0] 29) = V4 at *
               refine hK.out _ _ (hHeld.trans kk) (fun h2 => ?_)
               clear hK K hHeld
               have hHeld := h2
               clear h2
               try simp only [Act.put, List.setIfInBounds_toArray, List.set_cons_zero, List.set_cons_succ]
               refine wpAnyH_ready (rs := [13]) (by kernel_rfl) (by simp) ?_
               refine rc (h := fun K hK => ?_) (hs := AllReadyH.nil)
               obtain ⟨c0, c1, f0, f1, lt⟩ := box0 h7
               replace hz := hz.put h7 (Nat.le_trans HW0 gh7) (.slice A zb.length c) (.slice B zv.length d)
               replace h8 := h8.two hne (.slice A zb.length c) (.slice B zv.length d)
               replace h7 := h7.set2 (.slice A zb.length c) (.slice B zv.length d)
               have kk := put2 hHeld gh7 (.slice A zb.length c) (.slice B zv.length d)
               go_simp
               generalize (V4.setCell ⟨z, 0, none⟩ (.slice A zb.length c)).setCell ⟨z, 1, none⟩ (.slice B zv.length d) = V5 at *
               clear c0 c1 f0 f1 lt
               refine hK.out _ _ (kk) (fun h2 => ?_)
               clear hK K hHeld
               have hHeld := h2
               clear h2
               try simp only [Act.put, List.setIfInBounds_toArray, List.set_cons_zero, List.set_cons_succ]
               refine wpAnyH_ready (rs := [14]) (by kernel_rfl) (by simp) ?_
               refine rc (h := fun K hK => ?_) (hs := AllReadyH.nil)
               obtain ⟨c0, c1, f0, f1, lt⟩ := box0 h8
               replace hz := hz.put h8 (Nat.le_trans HW0 gh8) (.slice C z1_.length a) (.slice D z2_.length b)
               replace h7 := h7.two hne.symm (.slice C z1_.length a) (.slice D z2_.length b)
               replace h8 := h8.set2 (.slice C z1_.length a) (.slice D z2_.length b)
               have kk := put2 hHeld gh8 (.slice C z1_.length a) (.slice D z2_.length b)
               go_simp
               generalize (V5.setCell ⟨y, 0, none⟩ (.slice C z1_.length a)).setCell ⟨y, 1, none⟩ (.slice D z2_.length b) = V6 at *
               clear c0 c1 f0 f1 lt
               refine hK.out _ _ (kk) (fun h2 => ?_)
               clear hK K hHeld
               have hHeld := h2
               clear h2
               try simp only [Act.put, List.setIfInBounds_toArray, List.set_cons_zero, List.set_cons_succ]
               refine tk 15 (v := ?_) (hy := Or.inl ⟨by rfl, ?_⟩) (h := ?_)
               rotate_left
               ·intro w hSw
                go_simp
                try with_reducible rfl
               simp only [Act.put, List.setIfInBounds_toArray, List.set_cons_zero, List.set_cons_succ]
               refine wpAnyH_done (by kernel_rfl) ?_ _
               refine NoPanic.normal ?_
               exact hQ1.out A3 c3 B3 d3 A c B d C a D b z y _ ⟨h7, hz, hHeld⟩
              ·
               have h8 := AtB.new V2 #[.slice none 0 0, .slice none 0 0] 29
               have kk := (Kept.refl V2).alloc (.cells #[.slice none 0 0, .slice none 0 0] 29)
               replace hz := hz.kept kk
               go_simp
               obtain ⟨y, hz_⟩ : ∃ z, z = V2.heap.size := ⟨_, rfl⟩
               have gh8 : W15.heap.size ≤ y := by rw [hz_]; exact hHeld.size_le
               rw [← hz_] at h8 ⊢
               clear hz_
               generalize V2.alloc (.cells #[.slice none 0 0, .slice none 0 0] 29) = V3 at *
               refine hK.out _ _ (hHeld.trans kk) (fun h2 => ?_)
               clear hK K hHeld
               have hHeld := h2
               clear h2
               try simp only [Act.put, List.setIfInBounds_toArray, List.set_cons_zero, List.set_cons_succ]
               refine wpAnyH_ready (rs := [11]) (by kernel_rfl) (by simp) ?_
               refine rc (h := fun K hK => ?_) (hs := AllReadyH.nil)
               have h7 := AtB.new V3 #[.slice none 0 0, .slice none 0 0] 29
               have kk := (Kept.refl V3).alloc (.cells #[.slice none 0 0, .slice none 0 0] 29)
               have hlo := h8.lt
               replace hz := hz.kept kk
               replace h8 := h8.kept kk
               go_simp
               obtain ⟨z, hz_⟩ : ∃ z, z = V3.heap.size := ⟨_, rfl⟩
               have gh7 : W15.heap.size ≤ z := by rw [hz_]; exact hHeld.size_le
               have hne : z ≠ y := by omega
               clear hlo
               rw [← hz_] at h7 ⊢
               clear hz_
               generalize V3.alloc (.cells #[.slice none 0 0, .slice none 0 0] 29) = V4 at *
               refine hK.out _ _ (hHeld.trans kk) (fun h2 => ?_)
               clear hK K hHeld
               have hHeld := h2
               clear h2
               try simp only [Act.put, List.setIfInBounds_toArray, List.set_cons_zero, List.set_cons_succ]
               refine wpAnyH_ready (rs := [13]) (by kernel_rfl) (by simp) ?_
               refine rc (h := fun K hK => ?_) (hs := AllReadyH.nil)
               obtain ⟨c0, c1, f0, f1, lt⟩ := box0 h7
               replace hz := hz.put h7 (Nat.le_trans HW0 gh7) (.slice A zb.length c) (.slice B zv.length d)
               replace h8 := h8.two hne (.slice A zb.length c) (.slice B zv.length d)
               replace h7 := h7.set2 (.slice A zb.length c) (.slice B zv.length d)
               have kk := put2 hHeld gh7 (.slice A zb.length c) (.slice B zv.length d)
               go_simp
               generalize (V4.setCell ⟨z, 0, none⟩ (.slice A zb.length c)).setCell ⟨z, 1, none⟩ (.slice B zv.length d) = V5 at *
               clear c0 c1 f0 f1 lt
               refine hK.out _ _ (kk) (fun h2 => ?_)
               clear hK K hHeld
               have hHeld := h2
               clear h2
               try simp only [Act.put, List.setIfInBounds_toArray, List.set_cons_zero, List.set_cons_succ]
               refine wpAnyH_ready (rs := [14]) (by kernel_rfl) (by simp) ?_
               refine rc (h := fun K hK => ?_) (hs := AllReadyH.nil)
               obtain ⟨c0, c1, f0, f1, lt⟩ := box0 h8
               replace hz := hz.put h8 (Nat.le_trans HW0 gh8) (.slice C z1_.length a) (.slice D z2_.length b)
               replace h7 := h7.two hne.symm (.slice C z1_.length a) (.slice D z2_.length b)
               replace h8 := h8.set2 (.slice C z1_.length a) (.slice D z2_.length b)
               have kk := put2 hHeld gh8 (.slice C z1_.length a) (.slice D z2_.length b)
               go_simp
               generalize (V5.setCell ⟨y, 0, none⟩ (.slice C z1_.length a)).setCell ⟨y, 1, none⟩ (.slice D z2_.length b) = V6 at *
               clear c0 c1 f0 f1 lt
               refine hK.out _ _ (kk) (fun h2 => ?_)
               clear hK K hHeld
               have hHeld := h2
               clear h2
               try simp only [Act.put, List.setIfInBounds_toArray, List.set_cons_zero, List.set_cons_succ]
               refine tk 15 (v := ?_) (hy := Or.inl ⟨by rfl, ?_⟩) (h := ?_)
               rotate_left
               ·intro w hSw
                go_simp
                try with_reducible rfl
               simp only [Act.put, List.setIfInBounds_toArray, List.set_cons_zero, List.set_cons_succ]
               refine wpAnyH_done (by kernel_rfl) ?_ _
               refine NoPanic.normal ?_
               exact hQ1.out A3 c3 B3 d3 A c B d C a D b z y _ ⟨h7, hz, hHeld⟩
             ·
              have h7 := AtB.new V1 #[.slice none 0 0, .slice none 0 0] 29
              have kk := (Kept.refl V1).alloc (.cells #[.slice none 0 0, .slice none 0 0] 29)
              replace hj := hj.kept kk
              go_simp
              obtain ⟨z, hz_⟩ : ∃ z, z = V1.heap.size := ⟨_, rfl⟩
              have gh7 : W15.heap.size ≤ z := by rw [hz_]; exact hHeld.size_le
              rw [← hz_] at h7 ⊢
              clear hz_
              generalize V1.alloc (.cells #[.slice none 0 0, .slice none 0 0] 29) = V2 at *
              refine hK.out _ _ (hHeld.trans kk) (fun h2 => ?_)
              clear hK K hHeld
              have hHeld := h2
              clear h2
              try simp only [Act.put, List.setIfInBounds_toArray, List.set_cons_zero, List.set_cons_succ]
              refine wpAnyH_ready (rs := [6, 12]) (by kernel_rfl) (by simp) ?_
              refine rc (h := fun K hK => ?_) (hs := rc (h := fun K hK => ?_) (hs := AllReadyH.nil))
              ·
               go_simp
               go_at_call 13
               refine (HT3.out V2 (KP.trans hHeld) A2 c2 B2 d2 A3 c3 B3 d3 (CellsAt.of_own (HY.out.kept hHeld).1) (CellsAt.of_own (HYv.out.kept hHeld).1) (CellsAt.of_own hj.b.1) (CellsAt.of_own hj.v.1)).mono ?_
               rintro e V3 ⟨A, c, B, d, C, a, D, b, rfl, hz1, hz2, _, _, kk⟩
               replace h7 := h7.kept kk
               have hz : R2 WP zb zv A c B d V3 := ⟨hz1, hz2⟩
               clear hz1 hz2 hj
               refine hK.out _ _ (hHeld.trans kk) (fun h2 => ?_)
               clear hK K hHeld
               have hHeld := h2
               clear h2
               try simp only [Act.put, List.setIfInBounds_toArray, List.set_cons_zero, List.set_cons_succ]
               refine tk 7 (v := ?_) (hy := Or.inl ⟨by rfl, ?_⟩) (h := ?_)
               rotate_left
               ·intro w hSw
                go_simp
                try with_reducible rfl
               simp only [Act.put, List.setIfInBounds_toArray, List.set_cons_zero, List.set_cons_succ]
               refine tk 8 (v := ?_) (hy := Or.inl ⟨by rfl, ?_⟩) (h := ?_)
               rotate_left
               ·intro w hSw
                go_simp
                try with_reducible rfl
               simp only [Act.put, List.setIfInBounds_toArray, List.set_cons_zero, List.set_cons_succ]
               refine tk 9 (v := ?_) (hy := Or.inl ⟨by rfl, ?_⟩) (h := ?_)
               rotate_left
               ·intro w hSw
                go_simp
                try with_reducible rfl
               simp only [Act.put, List.setIfInBounds_toArray, List.set_cons_zero, List.set_cons_succ]
               refine tk 10 (v := ?_) (hy := Or.inl ⟨by rfl, ?_⟩) (h := ?_)
               rotate_left
               ·intro w hSw
                go_simp
                try with_reducible rfl
               simp only [Act.put, List.setIfInBounds_toArray, List.set_cons_zero, List.set_cons_succ]
               refine wpAnyH_ready (rs := [12]) (by kernel_rfl) (by simp) ?_
               refine rc (h := fun K hK => ?_) (hs := AllReadyH.nil)
               have h8 := AtB.new V3 #[.slice none 0 0, .slice none 0 0] 29
               have kk := (Kept.refl V3).alloc (.cells #[.slice none 0 0, .slice none 0 0] 29)
               have hlo := h7.lt
               replace hz := hz.kept kk
               replace h7 := h7.kept kk
               go_simp
               obtain ⟨y, hz_⟩ : ∃ z, z = V3.heap.size := ⟨_, rfl⟩
               have gh8 : W15.heap.size ≤ y := by rw [hz_]; exact hHeld.size_le
               have hne : z ≠ y := by omega
               clear hlo
               rw [← hz_] at h8 ⊢
               clear hz_
               generalize V3.alloc (.cells #[.slice none 0 0, .slice none 0 0] 29) = V4 at *
               refine hK.out _ _ (hHeld.trans kk) (fun h2 => ?_)
               clear hK K hHeld
               have hHeld := h2
               clear h2
               try simp only [Act.put, List.setIfInBounds_toArray, List.set_cons_zero, List.set_cons_succ]
               refine wpAnyH_ready (rs := [13]) (by kernel_rfl) (by simp) ?_
               refine rc (h := fun K hK => ?_) (hs := AllReadyH.nil)
               obtain ⟨c0, c1, f0, f1, lt⟩ := box0 h7
               replace hz := hz.put h7 (Nat.le_trans HW0 gh7) (.slice A zb.length c) (.slice B zv.length d)
               replace h8 := h8.two hne (.slice A zb.length c) (.slice B zv.length d)
               replace h7 := h7.set2 (.slice A zb.length c) (.slice B zv.length d)
               have kk := put2 hHeld gh7 (.slice A zb.length c) (.slice B zv.length d)
               go_simp
               generalize (V4.setCell ⟨z, 0, none⟩ (.slice A zb.length c)).setCell ⟨z, 1, none⟩ (.slice B zv.length d) = V5 at *
               clear c0 c1 f0 f1 lt
               refine hK.out _ _ (kk) (fun h2 => ?_)
               clear hK K hHeld
               have hHeld := h2
               clear h2
               try simp only [Act.put, List.setIfInBounds_toArray, List.set_cons_zero, List.set_cons_succ]
               refine wpAnyH_ready (rs := [14]) (by kernel_rfl) (by simp) ?_
               refine rc (h := fun K hK => ?_) (hs := AllReadyH.nil)
               obtain ⟨c0, c1, f0, f1, lt⟩ := box0 h8
               replace hz := hz.put h8 (Nat.le_trans HW0 gh8) (.slice C z1_.length a) (.slice D z2_.length b)
               replace h7 := h7.two hne.symm (.slice C z1_.length a) (.slice D z2_.length b)
               replace h8 := h8.set2 (.slice C z1_.length a) (.slice D z2_.length b)
               have kk := put2 hHeld gh8 (.slice C z1_.length a) (.slice D z2_.length b)
               go_simp
               generalize (V5.setCell ⟨y, 0, none⟩ (.slice C z1_.length a)).setCell ⟨y, 1, none⟩ (.slice D z2_.length b) = V6 at *
               clear c0 c1 f0 f1 lt
               refine hK.out _ _ (kk) (fun h2 => ?_)
               clear hK K hHeld
               have hHeld := h2
               clear h2
               try simp only [Act.put, List.setIfInBounds_toArray, List.set_cons_zero, List.set_cons_succ]
               refine tk 15 (v := ?_) (hy := Or.inl ⟨by rfl, ?_⟩) (h := ?_)
               rotate_left
               ·intro w hSw
                go_simp
                try with_reducible rfl
               simp only [Act.put, List.setIfInBounds_toArray, List.set_cons_zero, List.set_cons_succ]
               refine wpAnyH_done (by kernel_rfl) ?_ _
               refine NoPanic.normal ?_
               exact hQ1.out A3 c3 B3 d3 A c B d C a D b z y _ ⟨h7, hz, hHeld⟩
              ·
               have h8 := AtB.new V2 #[.slice none 0 0, .slice none 0 0] 29
               have kk := (Kept.refl V2).alloc (.cells #[.slice none 0 0, .slice none 0 0] 29)
               have hlo := h7.lt
               replace hj := hj.kept kk
               replace h7 := h7.kept kk
               go_simp
               obtain ⟨y, hz_⟩ : ∃ z, z = V2.heap.size := ⟨_, rfl⟩
               have gh8 : W15.heap.size ≤ y := by rw [hz_]; exact hHeld.size_le
               have hne : z ≠ y := by omega
               clear hlo
               rw [← hz_] at h8 ⊢
               clear hz_
               generalize V2.alloc (.cells #[.slice none 0 0, .slice none 0 0] 29) = V3 at *
               refine hK.out _ _ (hHeld.trans kk) (fun h2 => ?_)
               clear hK K hHeld
               have hHeld := h2
               clear h2
               try simp only [Act.put, List.setIfInBounds_toArray, List.set_cons_zero, List.set_cons_succ]
               refine wpAnyH_ready (rs := [6]) (by kernel_rfl) (by simp) ?_
               refine rc (h := fun K hK => ?_) (hs := AllReadyH.nil)
               go_simp
               go_at_call 13
               refine (HT3.out V3 (KP.trans hHeld) A2 c2 B2 d2 A3 c3 B3 d3 (CellsAt.of_own (HY.out.kept hHeld).1) (CellsAt.of_own (HYv.out.kept hHeld).1) (CellsAt.of_own hj.b.1) (CellsAt.of_own hj.v.1)).mono ?_
               rintro e V4 ⟨A, c, B, d, C, a, D, b, rfl, hz1, hz2, _, _, kk⟩
               replace h7 := h7.kept kk
               replace h8 := h8.kept kk
               have hz : R2 WP zb zv A c B d V4 := ⟨hz1, hz2⟩
               clear hz1 hz2 hj
               refine hK.out _ _ (hHeld.trans kk) (fun h2 => ?_)
               clear hK K hHeld
               have hHeld := h2
               clear h2
               try simp only [Act.put, List.setIfInBounds_toArray, List.set_cons_zero, List.set_cons_succ]
               refine tk 7 (v := ?_) (hy := Or.inl ⟨by rfl, ?_⟩) (h := ?_)
               rotate_left
               ·intro w hSw
                go_simp
                try with_reducible rfl
               simp only [Act.put, List.setIfInBounds_toArray, List.set_cons_zero, List.set_cons_succ]
               refine tk 8 (v := ?_) (hy := Or.inl ⟨by rfl, ?_⟩) (h := ?_)
               rotate_left
               ·intro w hSw
                go_simp
                try with_reducible rfl
               simp only [Act.put, List.setIfInBounds_toArray, List.set_cons_zero, List.set_cons_succ]
               refine tk 9 (v := ?_) (hy := Or.inl ⟨by rfl, ?_⟩) (h := ?_)
               rotate_left
               ·intro w hSw
                go_simp
                try with_reducible rfl
               simp only [Act.put, List.setIfInBounds_toArray, List.set_cons_zero, List.set_cons_succ]
               refine tk 10 (v := ?_) (hy := Or.inl ⟨by rfl, ?_⟩) (h := ?_)
               rotate_left
               ·intro w hSw
                go_simp
                try with_reducible rfl
               simp only [Act.put, List.setIfInBounds_toArray, List.set_cons_zero, List.set_cons_succ]
               refine wpAnyH_ready (rs := [13]) (by kernel_rfl) (by simp) ?_
               refine rc (h := fun K hK => ?_) (hs := AllReadyH.nil)
               obtain ⟨c0, c1, f0, f1, lt⟩ := box0 h7
               replace hz := hz.put h7 (Nat.le_trans HW0 gh7) (.slice A zb.length c) (.slice B zv.length d)
               replace h8 := h8.two hne (.slice A zb.length c) (.slice B zv.length d)
               replace h7 := h7.set2 (.slice A zb.length c) (.slice B zv.length d)
               have kk := put2 hHeld gh7 (.slice A zb.length c) (.slice B zv.length d)
               go_simp
               generalize (V4.setCell ⟨z, 0, none⟩ (.slice A zb.length c)).setCell ⟨z, 1, none⟩ (.slice B zv.length d) = V5 at *
               clear c0 c1 f0 f1 lt
               refine hK.out _ _ (kk) (fun h2 => ?_)
               clear hK K hHeld
               have hHeld := h2
               clear h2
               try simp only [Act.put, List.setIfInBounds_toArray, List.set_cons_zero, List.set_cons_succ]
               refine wpAnyH_ready (rs := [14]) (by kernel_rfl) (by simp) ?_
               refine rc (h := fun K hK => ?_) (hs := AllReadyH.nil)
               obtain ⟨c0, c1, f0, f1, lt⟩ := box0 h8
               replace hz := hz.put h8 (Nat.le_trans HW0 gh8) (.slice C z1_.length a) (.slice D z2_.length b)
               replace h7 := h7.two hne.symm (.slice C z1_.length a) (.slice D z2_.length b)
               replace h8 := h8.set2 (.slice C z1_.length a) (.slice D z2_.length b)
               have kk := put2 hHeld gh8 (.slice C z1_.length a) (.slice D z2_.length b)
               go_simp
               generalize (V5.setCell ⟨y, 0, none⟩ (.slice C z1_.length a)).setCell ⟨y, 1, none⟩ (.slice D z2_.length b) = V6 at *
               clear c0 c1 f0 f1 lt
               refine hK.out _ _ (kk) (fun h2 => ?_)
               clear hK K hHeld
               have hHeld := h2
               clear h2
               try simp only [Act.put, List.setIfInBounds_toArray, List.set_cons_zero, List.set_cons_succ]
               refine tk 15 (v := ?_) (hy := Or.inl ⟨by rfl, ?_⟩) (h := ?_)
               rotate_left
               ·intro w hSw
                go_simp
                try with_reducible rfl
               simp only [Act.put, List.setIfInBounds_toArray, List.set_cons_zero, List.set_cons_succ]
               refine wpAnyH_done (by kernel_rfl) ?_ _
               refine NoPanic.normal ?_
               exact hQ1.out A3 c3 B3 d3 A c B d C a D b z y _ ⟨h7, hz, hHeld⟩
             ·
              have h8 := AtB.new V1 #[.slice none 0 0, .slice none 0 0] 29
              have kk := (Kept.refl V1).alloc (.cells #[.slice none 0 0, .slice none 0 0] 29)
              replace hj := hj.kept kk
              go_simp
              obtain ⟨y, hz_⟩ : ∃ z, z = V1.heap.size := ⟨_, rfl⟩
              have gh8 : W15.heap.size ≤ y := by rw [hz_]; exact hHeld.size_le
              rw [← hz_] at h8 ⊢
              clear hz_
              generalize V1.alloc (.cells #[.slice none 0 0, .slice none 0 0] 29) = V2 at *
              refine hK.out _ _ (hHeld.trans kk) (fun h2 => ?_)
              clear hK K hHeld
              have hHeld := h2
              clear h2
              try simp only [Act.put, List.setIfInBounds_toArray, List.set_cons_zero, List.set_cons_succ]
              refine wpAnyH_ready (rs := [6, 11]) (by kernel_rfl) (by simp) ?_
              refine rc (h := fun K hK => ?_) (hs := rc (h := fun K hK => ?_) (hs := AllReadyH.nil))
              ·
               go_simp
               go_at_call 13
               refine (HT3.out V2 (KP.trans hHeld) A2 c2 B2 d2 A3 c3 B3 d3 (CellsAt.of_own (HY.out.kept hHeld).1) (CellsAt.of_own (HYv.out.kept hHeld).1) (CellsAt.of_own hj.b.1) (CellsAt.of_own hj.v.1)).mono ?_
               rintro e V3 ⟨A, c, B, d, C, a, D, b, rfl, hz1, hz2, _, _, kk⟩
               replace h8 := h8.kept kk
               have hz : R2 WP zb zv A c B d V3 := ⟨hz1, hz2⟩
               clear hz1 hz2 hj
               refine hK.out _ _ (hHeld.trans kk) (fun h2 => ?_)
               clear hK K hHeld
               have hHeld := h2
               clear h2
               try simp only [Act.put, List.setIfInBounds_toArray, List.set_cons_zero, List.set_cons_succ]
               refine tk 7 (v := ?_) (hy := Or.inl ⟨by rfl, ?_⟩) (h := ?_)
               rotate_left
               ·intro w hSw
                go_simp
                try with_reducible rfl
               simp only [Act.put, List.setIfInBounds_toArray, List.set_cons_zero, List.set_cons_succ]
               refine tk 8 (v := ?_) (hy := Or.inl ⟨by rfl, ?_⟩) (h := ?_)
               rotate_left
               ·intro w hSw
                go_simp
                try with_reducible rfl
               simp only [Act.put, List.setIfInBounds_toArray, List.set_cons_zero, List.set_cons_succ]
               refine tk 9 (v := ?_) (hy := Or.inl ⟨by rfl, ?_⟩) (h := ?_)
               rotate_left
               ·intro w hSw
                go_simp
                try with_reducible rfl
               simp only [Act.put, List.setIfInBounds_toArray, List.set_cons_zero, List.set_cons_succ]
               refine tk 10 (v := ?_) (hy := Or.inl ⟨by rfl, ?_⟩) (h := ?_)
               rotate_left
               ·intro w hSw
                go_simp
                try with_reducible rfl
               simp only [Act.put, List.setIfInBounds_toArray, List.set_cons_zero, List.set_cons_succ]
               refine wpAnyH_ready (rs := [11]) (by kernel_rfl) (by simp) ?_
               refine rc (h := fun K hK => ?_) (hs := AllReadyH.nil)
               have h7 := AtB.new V3 #[.slice none 0 0, .slice none 0 0] 29
               have kk := (Kept.refl V3).alloc (.cells #[.slice none 0 0, .slice none 0 0] 29)
               have hlo := h8.lt
               replace hz := hz.kept kk
               replace h8 := h8.kept kk
               go_simp
               obtain ⟨z, hz_⟩ : ∃ z, z = V3.heap.size := ⟨_, rfl⟩
               have gh7 : W15.heap.size ≤ z := by rw [hz_]; exact hHeld.size_le
               have hne : z ≠ y := by omega
               clear hlo
               rw [← hz_] at h7 ⊢
               clear hz_
               generalize V3.alloc (.cells #[.slice none 0 0, .slice none 0 0] 29) = V4 at *
               refine hK.out _ _ (hHeld.trans kk) (fun h2 => ?_)
               clear hK K hHeld
               have hHeld := h2
               clear h2
               try simp only [Act.put, List.setIfInBounds_toArray, List.set_cons_zero, List.set_cons_succ]
               refine wpAnyH_ready (rs := [13]) (by kernel_rfl) (by simp) ?_
               refine rc (h := fun K hK => ?_) (hs := AllReadyH.nil)
               obtain ⟨c0, c1, f0, f1, lt⟩ := box0 h7
               replace hz := hz.put h7 (Nat.le_trans HW0 gh7) (.slice A zb.length c) (.slice B zv.length d)
               replace h8 := h8.two hne (.slice A zb.length c) (.slice B zv.length d)
               replace h7 := h7.set2 (.slice A zb.length c) (.slice B zv.length d)
               have kk := put2 hHeld gh7 (.slice A zb.length c) (.slice B zv.length d)
               go_simp
               generalize (V4.setCell ⟨z, 0, none⟩ (.slice A zb.length c)).setCell ⟨z, 1, none⟩ (.slice B zv.length d) = V5 at *
               clear c0 c1 f0 f1 lt
               refine hK.out _ _ (kk) (fun h2 => ?_)
               clear hK K hHeld
               have hHeld := h2
               clear h2
               try simp only [Act.put, List.setIfInBounds_toArray, List.set_cons_zero, List.set_cons_succ]
               refine wpAnyH_ready (rs := [14]) (by kernel_rfl) (by simp) ?_
               refine rc (h := fun K hK => ?_) (hs := AllReadyH.nil)
               obtain ⟨c0, c1, f0, f1, lt⟩ := box0 h8
               replace hz := hz.put h8 (Nat.le_trans HW0 gh8) (.slice C z1_.length a) (.slice D z2_.length b)
               replace h7 := h7.two hne.symm (.slice C z1_.length a) (.slice D z2_.length b)
               replace h8 := h8.set2 (.slice C z1_.length a) (.slice D z2_.length b)
               have kk := put2 hHeld gh8 (.slice C z1_.length a) (.slice D z2_.length b)
               go_simp
               generalize (V5.setCell ⟨y, 0, none⟩ (.slice C z1_.length a)).setCell ⟨y, 1, none⟩ (.slice D z2_.length b) = V6 at *
               clear c0 c1 f0 f1 lt
               refine hK.out _ _ (kk) (fun h2 => ?_)
               clear hK K hHeld
               have hHeld := h2
               clear h2
               try simp only [Act.put, List.setIfInBounds_toArray, List.set_cons_zero, List.set_cons_succ]
               refine tk 15 (v := ?_) (hy := Or.inl ⟨by rfl, ?_⟩) (h := ?_)
               rotate_left
               ·intro w hSw
                go_simp
                try with_reducible rfl
               simp only [Act.put, List.setIfInBounds_toArray, List.set_cons_zero, List.set_cons_succ]
               refine wpAnyH_done (by kernel_rfl) ?_ _
               refine NoPanic.normal ?_
               exact hQ1.out A3 c3 B3 d3 A c B d C a D b z y _ ⟨h7, hz, hHeld⟩
              ·
               have h7 := AtB.new V2 #[.slice none 0 0, .slice none 0 0] 29
               have kk := (Kept.refl V2).alloc (.cells #[.slice none 0 0, .slice none 0 0] 29)
               have hlo := h8.lt
               replace hj := hj.kept kk
               replace h8 := h8.kept kk
               go_simp
               obtain ⟨z, hz_⟩ : ∃ z, z = V2.heap.size := ⟨_, rfl⟩
               have gh7 : W15.heap.size ≤ z := by rw [hz_]; exact hHeld.size_le
               have hne : z ≠ y := by omega
               clear hlo
               rw [← hz_] at h7 ⊢
               clear hz_
               generalize V2.alloc (.cells #[.slice none 0 0, .slice none 0 0] 29) = V3 at *
               refine hK.out _ _ (hHeld.trans kk) (fun h2 => ?_)
               clear hK K hHeld
               have hHeld := h2
               clear h2
               try simp only [Act.put, List.setIfInBounds_toArray, List.set_cons_zero, List.set_cons_succ]
               refine wpAnyH_ready (rs := [6]) (by kernel_rfl) (by simp) ?_
               refine rc (h := fun K hK => ?_) (hs := AllReadyH.nil)
               go_simp
               go_at_call 13
               refine (HT3.out V3 (KP.trans hHeld) A2 c2 B2 d2 A3 c3 B3 d3 (CellsAt.of_own (HY.out.kept hHeld).1) (CellsAt.of_own (HYv.out.kept hHeld).1) (CellsAt.of_own hj.b.1) (CellsAt.of_own hj.v.1)).mono ?_
               rintro e V4 ⟨A, c, B, d, C, a, D, b, rfl, hz1, hz2, _, _, kk⟩
               replace h7 := h7.kept kk
               replace h8 := h8.kept kk
               have hz : R2 WP zb zv A c B d V4 := ⟨hz1, hz2⟩
               clear hz1 hz2 hj
               refine hK.out _ _ (hHeld.trans kk) (fun h2 => ?_)
               clear hK K hHeld
               have hHeld := h2
               clear h2
               try simp only [Act.put, List.setIfInBounds_toArray, List.set_cons_zero, List.set_cons_succ]
               refine tk 7 (v := ?_) (hy := Or.inl ⟨by rfl, ?_⟩) (h := ?_)
               rotate_left
               ·intro w hSw
                go_simp
                try with_reducible rfl
               simp only [Act.put, List.setIfInBounds_toArray, List.set_cons_zero, List.set_cons_succ]
               refine tk 8 (v := ?_) (hy := Or.inl ⟨by rfl, ?_⟩) (h := ?_)
               rotate_left
               ·intro w hSw
                go_simp
                try with_reducible rfl
               simp only [Act.put, List.setIfInBounds_toArray, List.set_cons_zero, List.set_cons_succ]
               refine tk 9 (v := ?_) (hy := Or.inl ⟨by rfl, ?_⟩) (h := ?_)
               rotate_left
               ·intro w hSw
                go_simp
                try with_reducible rfl
               simp only [Act.put, List.setIfInBounds_toArray, List.set_cons_zero, List.set_cons_succ]
               refine tk 10 (v := ?_) (hy := Or.inl ⟨by rfl, ?_⟩) (h := ?_)
               rotate_left
               ·intro w hSw
                go_simp
                try with_reducible rfl
               simp only [Act.put, List.setIfInBounds_toArray, List.set_cons_zero, List.set_cons_succ]
               refine wpAnyH_ready (rs := [13]) (by kernel_rfl) (by simp) ?_
               refine rc (h := fun K hK => ?_) (hs := AllReadyH.nil)
               obtain ⟨c0, c1, f0, f1, lt⟩ := box0 h7
               replace hz := hz.put h7 (Nat.le_trans HW0 gh7) (.slice A zb.length c) (.slice B zv.length d)
               replace h8 := h8.two hne (.slice A zb.length c) (.slice B zv.length d)
               replace h7 := h7.set2 (.slice A zb.length c) (.slice B zv.length d)
               have kk := put2 hHeld gh7 (.slice A zb.length c) (.slice B zv.length d)
               go_simp
               generalize (V4.setCell ⟨z, 0, none⟩ (.slice A zb.length c)).setCell ⟨z, 1, none⟩ (.slice B zv.length d) = V5 at *
               clear c0 c1 f0 f1 lt
               refine hK.out _ _ (kk) (fun h2 => ?_)
               clear hK K hHeld
               have hHeld := h2
               clear h2
               try simp only [Act.put, List.setIfInBounds_toArray, List.set_cons_zero, List.set_cons_succ]
               refine wpAnyH_ready (rs := [14]) (by kernel_rfl) (by simp) ?_
               refine rc (h := fun K hK => ?_) (hs := AllReadyH.nil)
               obtain ⟨c0, c1, f0, f1, lt⟩ := box0 h8
               replace hz := hz.put h8 (Nat.le_trans HW0 gh8) (.slice C z1_.length a) (.slice D z2_.length b)
               replace h7 := h7.two hne.symm (.slice C z1_.length a) (.slice D z2_.length b)
               replace h8 := h8.set2 (.slice C z1_.length a) (.slice D z2_.length b)
               have kk := put2 hHeld gh8 (.slice C z1_.length a) (.slice D z2_.length b)
               go_simp
               generalize (V5.setCell ⟨y, 0, none⟩ (.slice C z1_.length a)).setCell ⟨y, 1, none⟩ (.slice D z2_.length b) = V6 at *
               clear c0 c1 f0 f1 lt
               refine hK.out _ _ (kk) (fun h2 => ?_)
               clear hK K hHeld
               have hHeld := h2
               clear h2
               try simp only [Act.put, List.setIfInBounds_toArray, List.set_cons_zero, List.set_cons_succ]
               refine tk 15 (v := ?_) (hy := Or.inl ⟨by rfl, ?_⟩) (h := ?_)
               rotate_left
               ·intro w hSw
                go_simp
                try with_reducible rfl
               simp only [Act.put, List.setIfInBounds_toArray, List.set_cons_zero, List.set_cons_succ]
               refine wpAnyH_done (by kernel_rfl) ?_ _
               refine NoPanic.normal ?_
               exact hQ1.out A3 c3 B3 d3 A c B d C a D b z y _ ⟨h7, hz, hHeld⟩
            ·
             have h7 := AtB.new V0 #[.slice none 0 0, .slice none 0 0] 29
             have kk := (Kept.refl V0).alloc (.cells #[.slice none 0 0, .slice none 0 0] 29)
             go_simp
             obtain ⟨z, hz_⟩ : ∃ z, z = V0.heap.size := ⟨_, rfl⟩
             have gh7 : W15.heap.size ≤ z := by rw [hz_]; exact hHeld.size_le
             rw [← hz_] at h7 ⊢
             clear hz_
             generalize V0.alloc (.cells #[.slice none 0 0, .slice none 0 0] 29) = V1 at *
             refine hK.out _ _ (hHeld.trans kk) (fun h2 => ?_)
             clear hK K hHeld
             have hHeld := h2
             clear h2
             try simp only [Act.put, List.setIfInBounds_toArray, List.set_cons_zero, List.set_cons_succ]
             refine wpAnyH_ready (rs := [4, 12]) (by kernel_rfl) (by simp) ?_
             refine rc (h := fun K hK => ?_) (hs := rc (h := fun K hK => ?_) (hs := AllReadyH.nil))
             ·
              go_simp
              go_at_call 15
              refine (HJ3.out V1 (KP.trans hHeld) C2 a2 D2 b2 (CellsAt.of_own (HE.out.kept hHeld).1) (CellsAt.of_own (HEv.out.kept hHeld).1)).mono ?_
              rintro e V2 ⟨A3, c3, B3, d3, rfl, hj1, hj2, kk⟩
              replace h7 := h7.kept kk
              have hj : R2 WP _ _ A3 c3 B3 d3 V2 := ⟨hj1, hj2⟩
              clear hj1 hj2
              refine hK.out _ _ (hHeld.trans kk) (fun h2 => ?_)
              clear hK K hHeld
              have hHeld := h2
              clear h2
              try simp only [Act.put, List.setIfInBounds_toArray, List.set_cons_zero, List.set_cons_succ]
              refine wpAnyH_ready (rs := [6, 12]) (by kernel_rfl) (by simp) ?_
              refine rc (h := fun K hK => ?_) (hs := rc (h := fun K hK => ?_) (hs := AllReadyH.nil))
              ·
               go_simp
               go_at_call 13
               refine (HT3.out V2 (KP.trans hHeld) A2 c2 B2 d2 A3 c3 B3 d3 (CellsAt.of_own (HY.out.kept hHeld).1) (CellsAt.of_own (HYv.out.kept hHeld).1) (CellsAt.of_own hj.b.1) (CellsAt.of_own hj.v.1)).mono ?_
               rintro e V3 ⟨A, c, B, d, C, a, D, b, rfl, hz1, hz2, _, _, kk⟩
               replace h7 := h7.kept kk
               have hz : R2 WP zb zv A c B d V3 := ⟨hz1, hz2⟩
               clear hz1 hz2 hj
               refine hK.out _ _ (hHeld.trans kk) (fun h2 => ?_)
               clear hK K hHeld
               have hHeld := h2
               clear h2
               try simp only [Act.put, List.setIfInBounds_toArray, List.set_cons_zero, List.set_cons_succ]
               refine tk 7 (v := ?_) (hy := Or.inl ⟨by rfl, ?_⟩) (h := ?_)
               rotate_left
               ·intro w hSw
                go_simp
                try with_reducible rfl
               simp only [Act.put, List.setIfInBounds_toArray, List.set_cons_zero, List.set_cons_succ]
               refine tk 8 (v := ?_) (hy := Or.inl ⟨by rfl, ?_⟩) (h := ?_)
               rotate_left
               ·intro w hSw
                go_simp
                try with_reducible rfl
               simp only [Act.put, List.setIfInBounds_toArray, List.set_cons_zero, List.set_cons_succ]
               refine tk 9 (v := ?_) (hy := Or.inl ⟨by rfl, ?_⟩) (h := ?_)
               rotate_left
               ·intro w hSw
                go_simp
                try with_reducible rfl
               simp only [Act.put, List.setIfInBounds_toArray, List.set_cons_zero, List.set_cons_succ]
               refine tk 10 (v := ?_) (hy := Or.inl ⟨by rfl, ?_⟩) (h := ?_)
               rotate_left
               ·intro w hSw
                go_simp
                try with_reducible rfl
               simp only [Act.put, List.setIfInBounds_toArray, List.set_cons_zero, List.set_cons_succ]
               refine wpAnyH_ready (rs := [12]) (by kernel_rfl) (by simp) ?_
               refine rc (h := fun K hK => ?_) (hs := AllReadyH.nil)
               have h8 := AtB.new V3 #[.slice none 0 0, .slice none 0 0] 29
               have kk := (Kept.refl V3).alloc (.cells #[.slice none 0 0, .slice none 0 0] 29)
               have hlo := h7.lt
               replace hz := hz.kept kk
               replace h7 := h7.kept kk
               go_simp
               obtain ⟨y, hz_⟩ : ∃ z, z = V3.heap.size := ⟨_, rfl⟩
               have gh8 : W15.heap.size ≤ y := by rw [hz_]; exact hHeld.size_le
               have hne : z ≠ y := by omega
               clear hlo
               rw [← hz_] at h8 ⊢
               clear hz_
               generalize V3.alloc (.cells #[.slice none 0 0, .slice none 0 0] 29) = V4 at *
               refine hK.out _ _ (hHeld.trans kk) (fun h2 => ?_)
               clear hK K hHeld
               have hHeld := h2
               clear h2
               try simp only [Act.put, List.setIfInBounds_toArray, List.set_cons_zero, List.set_cons_succ]
               refine wpAnyH_ready (rs := [13]) (by kernel_rfl) (by simp) ?_
               refine rc (h := fun K hK => ?_) (hs := AllReadyH.nil)
               obtain ⟨c0, c1, f0, f1, lt⟩ := box0 h7
               replace hz := hz.put h7 (Nat.le_trans HW0 gh7) (.slice A zb.length c) (.slice B zv.length d)
               replace h8 := h8.two hne (.slice A zb.length c) (.slice B zv.length d)
               replace h7 := h7.set2 (.slice A zb.length c) (.slice B zv.length d)
               have kk := put2 hHeld gh7 (.slice A zb.length c) (.slice B zv.length d)
               go_simp
               generalize (V4.setCell ⟨z, 0, none⟩ (.slice A zb.length c)).setCell ⟨z, 1, none⟩ (.slice B zv.length d) = V5 at *
               clear c0 c1 f0 f1 lt
               refine hK.out _ _ (kk) (fun h2 => ?_)
               clear hK K hHeld
               have hHeld := h2
               clear h2
               try simp only [Act.put, List.setIfInBounds_toArray, List.set_cons_zero, List.set_cons_succ]
               refine wpAnyH_ready (rs := [14]) (by kernel_rfl) (by simp) ?_
               refine rc (h := fun K hK => ?_) (hs := AllReadyH.nil)
               obtain ⟨c0, c1, f0, f1, lt⟩ := box0 h8
               replace hz := hz.put h8 (Nat.le_trans HW0 gh8) (.slice C z1_.length a) (.slice D z2_.length b)
               replace h7 := h7.two hne.symm (.slice C z1_.length a) (.slice D z2_.length b)
               replace h8 := h8.set2 (.slice C z1_.length a) (.slice D z2_.length b)
               have kk := put2 hHeld gh8 (.slice C z1_.length a) (.slice D z2_.length b)
               go_simp
               generalize (V5.setCell ⟨y, 0, none⟩ (.slice C z1_.length a)).setCell ⟨y, 1, none⟩ (.slice D z2_.length b) = V6 at *
               clear c0 c1 f0 f1 lt
               refine hK.out _ _ (kk) (fun h2 => ?_)
               clear hK K hHeld
               have hHeld := h2
               clear h2
               try simp only [Act.put, List.setIfInBounds_toArray, List.set_cons_zero, List.set_cons_succ]
               refine tk 15 (v := ?_) (hy := Or.inl ⟨by rfl, ?_⟩) (h := ?_)
               rotate_left
               ·intro w hSw
                go_simp
                try with_reducible rfl
               simp only [Act.put, List.setIfInBounds_toArray, List.set_cons_zero, List.set_cons_succ]
               refine wpAnyH_done (by kernel_rfl) ?_ _
               refine NoPanic.normal ?_
               exact hQ1.out A3 c3 B3 d3 A c B d C a D b z y _ ⟨h7, hz, hHeld⟩
              ·
               have h8 := AtB.new V2 #[.slice none 0 0, .slice none 0 0] 29
               have kk := (Kept.refl V2).alloc (.cells #[.slice none 0 0, .slice none 0 0] 29)
               have hlo := h7.lt
               replace hj := hj.kept kk
               replace h7 := h7.kept kk
               go_simp
               obtain ⟨y, hz_⟩ : ∃ z, z = V2.heap.size := ⟨_, rfl⟩
               have gh8 : W15.heap.size ≤ y := by rw [hz_]; exact hHeld.size_le
               have hne : z ≠ y := by omega
               clear hlo
               rw [← hz_] at h8 ⊢
               clear hz_
               generalize V2.alloc (.cells #[.slice none 0 0, .slice none 0 0] 29) = V3 at *
               refine hK.out _ _ (hHeld.trans kk) (fun h2 => ?_)
               clear hK K hHeld
               have hHeld := h2
               clear h2
               try simp only [Act.put, List.setIfInBounds_toArray, List.set_cons_zero, List.set_cons_succ]
               refine wpAnyH_ready (rs := [6]) (by kernel_rfl) (by simp) ?_
               refine rc (h := fun K hK => ?_) (hs := AllReadyH.nil)
               go_simp
               go_at_call 13
               refine (HT3.out V3 (KP.trans hHeld) A2 c2 B2 d2 A3 c3 B3 d3 (CellsAt.of_own (HY.out.kept hHeld).1) (CellsAt.of_own (HYv.out.kept hHeld).1) (CellsAt.of_own hj.b.1) (CellsAt.of_own hj.v.1)).mono ?_
               rintro e V4 ⟨A, c, B, d, C, a, D, b, rfl, hz1, hz2, _, _, kk⟩
               replace h7 := h7.kept kk
               replace h8 := h8.kept kk
               have hz : R2 WP zb zv A c B d V4 := ⟨hz1, hz2⟩
               clear hz1 hz2 hj
               refine hK.out _ _ (hHeld.trans kk) (fun h2 => ?_)
               clear hK K hHeld
               have hHeld := h2
               clear h2
               try simp only [Act.put, List.setIfInBounds_toArray, List.set_cons_zero, List.set_cons_succ]
               refine tk 7 (v := ?_) (hy := Or.inl ⟨by rfl, ?_⟩) (h := ?_)
               rotate_left
               ·intro w hSw
                go_simp
                try with_reducible rfl
               simp only [Act.put, List.setIfInBounds_toArray, List.set_cons_zero, List.set_cons_succ]
               refine tk 8 (v := ?_) (hy := Or.inl ⟨by rfl, ?_⟩) (h := ?_)
               rotate_left
               ·intro w hSw
                go_simp
                try with_reducible rfl
               simp only [Act.put, List.setIfInBounds_toArray, List.set_cons_zero, List.set_cons_succ]
               refine tk 9 (v := ?_) (hy := Or.inl ⟨by rfl, ?_⟩) (h := ?_)
               rotate_left
               ·intro w hSw
                go_simp
                try with_reducible rfl
               simp only [Act.put, List.setIfInBounds_toArray, List.set_cons_zero, List.set_cons_succ]
               refine tk 10 (v := ?_) (hy := Or.inl ⟨by rfl, ?_⟩) (h := ?_)
               rotate_left
               ·intro w hSw
                go_simp
                try with_reducible rfl
               simp only [Act.put, List.setIfInBounds_toArray, List.set_cons_zero, List.set_cons_succ]
               refine wpAnyH_ready (rs := [13]) (by kernel_rfl) (by simp) ?_
               refine rc (h := fun K hK => ?_) (hs := AllReadyH.nil)
               obtain ⟨c0, c1, f0, f1, lt⟩ := box0 h7
               replace hz := hz.put h7 (Nat.le_trans HW0 gh7) (.slice A zb.length c) (.slice B zv.length d)
               replace h8 := h8.two hne (.slice A zb.length c) (.slice B zv.length d)
               replace h7 := h7.set2 (.slice A zb.length c) (.slice B zv.length d)
               have kk := put2 hHeld gh7 (.slice A zb.length c) (.slice B zv.length d)
               go_simp
               generalize (V4.setCell ⟨z, 0, none⟩ (.slice A zb.length c)).setCell ⟨z, 1, none⟩ (.slice B zv.length d) = V5 at *
               clear c0 c1 f0 f1 lt
               refine hK.out _ _ (kk) (fun h2 => ?_)
               clear hK K hHeld
               have hHeld := h2
               clear h2
               try simp only [Act.put, List.setIfInBounds_toArray, List.set_cons_zero, List.set_cons_succ]
               refine wpAnyH_ready (rs := [14]) (by kernel_rfl) (by simp) ?_
               refine rc (h := fun K hK => ?_) (hs := AllReadyH.nil)
               obtain ⟨c0, c1, f0, f1, lt⟩ := box0 h8
               replace hz := hz.put h8 (Nat.le_trans HW0 gh8) (.slice C z1_.length a) (.slice D z2_.length b)
               replace h7 := h7.two hne.symm (.slice C z1_.length a) (.slice D z2_.length b)
               replace h8 := h8.set2 (.slice C z1_.length a) (.slice D z2_.length b)
               have kk := put2 hHeld gh8 (.slice C z1_.length a) (.slice D z2_.length b)
               go_simp
               generalize (V5.setCell ⟨y, 0, none⟩ (.slice C z1_.length a)).setCell ⟨y, 1, none⟩ (.slice D z2_.length b) = V6 at *
               clear c0 c1 f0 f1 lt
               refine hK.out _ _ (kk) (fun h2 => ?_)
               clear hK K hHeld
               have hHeld := h2
               clear h2
               try simp only [Act.put, List.setIfInBounds_toArray, List.set_cons_zero, List.set_cons_succ]
               refine tk 15 (v := ?_) (hy := Or.inl ⟨by rfl, ?_⟩) (h := ?_)
               rotate_left
               ·intro w hSw
                go_simp
                try with_reducible rfl
               simp only [Act.put, List.setIfInBounds_toArray, List.set_cons_zero, List.set_cons_succ]
               refine wpAnyH_done (by kernel_rfl) ?_ _
               refine NoPanic.normal ?_
               exact hQ1.out A3 c3 B3 d3 A c B d C a D b z y _ ⟨h7, hz, hHeld⟩
             ·
              have h8 := AtB.new V1 #[.slice none 0 0, .slice none 0 0] 29
              have kk := (Kept.refl V1).alloc (.cells #[.slice none 0 0, .slice none 0 0] 29)
              have hlo := h7.lt
              replace h7 := h7.kept kk
              go_simp
              obtain ⟨y, hz_⟩ : ∃ z, z = V1.heap.size := ⟨_, rfl⟩
              have gh8 : W15.heap.size ≤ y := by rw [hz_]; exact hHeld.size_le
              have hne : z ≠ y := by omega
              clear hlo
              rw [← hz_] at h8 ⊢
              clear hz_
              generalize V1.alloc (.cells #[.slice none 0 0, .slice none 0 0] 29) = V2 at *
              refine hK.out _ _ (hHeld.trans kk) (fun h2 => ?_)
              clear hK K hHeld
              have hHeld := h2
              clear h2
              try simp only [Act.put, List.setIfInBounds_toArray, List.set_cons_zero, List.set_cons_succ]
              refine wpAnyH_ready (rs := [4]) (by kernel_rfl) (by simp) ?_
              refine rc (h := fun K hK => ?_) (hs := AllReadyH.nil)
              go_simp
              go_at_call 15
              refine (HJ3.out V2 (KP.trans hHeld) C2 a2 D2 b2 (CellsAt.of_own (HE.out.kept hHeld).1) (CellsAt.of_own (HEv.out.kept hHeld).1)).mono ?_
              rintro e V3 ⟨A3, c3, B3, d3, rfl, hj1, hj2, kk⟩
              replace h7 := h7.kept kk
              replace h8 := h8.kept kk
              have hj : R2 WP _ _ A3 c3 B3 d3 V3 := ⟨hj1, hj2⟩
              clear hj1 hj2
              refine hK.out _ _ (hHeld.trans kk) (fun h2 => ?_)
              clear hK K hHeld
              have hHeld := h2
              clear h2
              try simp only [Act.put, List.setIfInBounds_toArray, List.set_cons_zero, List.set_cons_succ]
              refine wpAnyH_ready (rs := [6]) (by kernel_rfl) (by simp) ?_
              refine rc (h := fun K hK => ?_) (hs := AllReadyH.nil)
              go_simp
              go_at_call 13
              refine (HT3.out V3 (KP.trans hHeld) A2 c2 B2 d2 A3 c3 B3 d3 (CellsAt.of_own (HY.out.kept hHeld).1) (CellsAt.of_own (HYv.out.kept hHeld).1) (CellsAt.of_own hj.b.1) (CellsAt.of_own hj.v.1)).mono ?_
              rintro e V4 ⟨A, c, B, d, C, a, D, b, rfl, hz1, hz2, _, _, kk⟩
              replace h7 := h7.kept kk
              replace h8 := h8.kept kk
              have hz : R2 WP zb zv A c B d V4 := ⟨hz1, hz2⟩
              clear hz1 hz2 hj
              refine hK.out _ _ (hHeld.trans kk) (fun h2 => ?_)
              clear hK K hHeld
              have hHeld := h2
              clear h2
              try simp only [Act.put, List.setIfInBounds_toArray, List.set_cons_zero, List.set_cons_succ]
              refine tk 7 (v := ?_) (hy := Or.inl ⟨by rfl, ?_⟩) (h := ?_)
              rotate_left
              ·intro w hSw
               go_simp
               try with_reducible rfl
              simp only [Act.put, List.setIfInBounds_toArray, List.set_cons_zero, List.set_cons_succ]
              refine tk 8 (v := ?_) (hy := Or.inl ⟨by rfl, ?_⟩) (h := ?_)
              rotate_left
              ·intro w hSw
               go_simp
               try with_reducible rfl
              simp only [Act.put, List.setIfInBounds_toArray, List.set_cons_zero, List.set_cons_succ]
              refine tk 9 (v := ?_) (hy := Or.inl ⟨by rfl, ?_⟩) (h := ?_)
              rotate_left
              ·intro w hSw
               go_simp
               try with_reducible rfl
              simp only [Act.put, List.setIfInBounds_toArray, List.set_cons_zero, List.set_cons_succ]
              refine tk 10 (v := ?_) (hy := Or.inl ⟨by rfl, ?_⟩) (h := ?_)
              rotate_left
              ·intro w hSw
               go_simp
               try with_reducible rfl
              simp only [Act.put, List.setIfInBounds_toArray, List.set_cons_zero, List.set_cons_succ]
              refine wpAnyH_ready (rs := [13]) (by kernel_rfl) (by simp) ?_
              refine rc (h := fun K hK => ?_) (hs := AllReadyH.nil)
              obtain ⟨c0, c1, f0, f1, lt⟩ := box0 h7
              replace hz := hz.put h7 (Nat.le_trans HW0 gh7) (.slice A zb.length c) (.slice B zv.length d)
              replace h8 := h8.two hne (.slice A zb.length c) (.slice B zv.length d)
              replace h7 := h7.set2 (.slice A zb.length c) (.slice B zv.length d)
              have kk := put2 hHeld gh7 (.slice A zb.length c) (.slice B zv.length d)
              go_simp
              generalize (V4.setCell ⟨z, 0, none⟩ (.slice A zb.length c)).setCell ⟨z, 1, none⟩ (.slice B zv.length d) = V5 at *
              clear c0 c1 f0 f1 lt
              refine hK.out _ _ (kk) (fun h2 => ?_)
              clear hK K hHeld
              have hHeld := h2
              clear h2
              try simp only [Act.put, List.setIfInBounds_toArray, List.set_cons_zero, List.set_cons_succ]
              refine wpAnyH_ready (rs := [14]) (by kernel_rfl) (by simp) ?_
              refine rc (h := fun K hK => ?_) (hs := AllReadyH.nil)
              obtain ⟨c0, c1, f0, f1, lt⟩ := box0 h8
              replace hz := hz.put h8 (Nat.le_trans HW0 gh8) (.slice C z1_.length a) (.slice D z2_.length b)
              replace h7 := h7.two hne.symm (.slice C z1_.length a) (.slice D z2_.length b)
              replace h8 := h8.set2 (.slice C z1_.length a) (.slice D z2_.length b)
              have kk := put2 hHeld gh8 (.slice C z1_.length a) (.slice D z2_.length b)
              go_simp
              generalize (V5.setCell ⟨y, 0, none⟩ (.slice C z1_.length a)).setCell ⟨y, 1, none⟩ (.slice D z2_.length b) = V6 at *
              clear c0 c1 f0 f1 lt
              refine hK.out _ _ (kk) (fun h2 => ?_)
              clear hK K hHeld
              have hHeld := h2
              clear h2
              try simp only [Act.put, List.setIfInBounds_toArray, List.set_cons_zero, List.set_cons_succ]
              refine tk 15 (v := ?_) (hy := Or.inl ⟨by rfl, ?_⟩) (h := ?_)
              rotate_left
              ·intro w hSw
               go_simp
               try with_reducible rfl
              simp only [Act.put, List.setIfInBounds_toArray, List.set_cons_zero, List.set_cons_succ]
              refine wpAnyH_done (by kernel_rfl) ?_ _
              refine NoPanic.normal ?_
              exact hQ1.out A3 c3 B3 d3 A c B d C a D b z y _ ⟨h7, hz, hHeld⟩
            ·
             have h8 := AtB.new V0 #[.slice none 0 0, .slice none 0 0] 29
             have kk := (Kept.refl V0).alloc (.cells #[.slice none 0 0, .slice none 0 0] 29)
             go_simp
             obtain ⟨y, hz_⟩ : ∃ z, z = V0.heap.size := ⟨_, rfl⟩
             have gh8 : W15.heap.size ≤ y := by rw [hz_]; exact hHeld.size_le
             rw [← hz_] at h8 ⊢
             clear hz_
             generalize V0.alloc (.cells #[.slice none 0 0, .slice none 0 0] 29) = V1 at *
             refine hK.out _ _ (hHeld.trans kk) (fun h2 => ?_)
             clear hK K hHeld
             have hHeld := h2
             clear h2
             try simp only [Act.put, List.setIfInBounds_toArray, List.set_cons_zero, List.set_cons_succ]
             refine wpAnyH_ready (rs := [4, 11]) (by kernel_rfl) (by simp) ?_
             refine rc (h := fun K hK => ?_) (hs := rc (h := fun K hK => ?_) (hs := AllReadyH.nil))
             ·
              go_simp
              go_at_call 15
              refine (HJ3.out V1 (KP.trans hHeld) C2 a2 D2 b2 (CellsAt.of_own (HE.out.kept hHeld).1) (CellsAt.of_own (HEv.out.kept hHeld).1)).mono ?_
              rintro e V2 ⟨A3, c3, B3, d3, rfl, hj1, hj2, kk⟩
              replace h8 := h8.kept kk
              have hj : R2 WP _ _ A3 c3 B3 d3 V2 := ⟨hj1, hj2⟩
              clear hj1 hj2
              refine hK.out _ _ (hHeld.trans kk) (fun h2 => ?_)
              clear hK K hHeld
              have hHeld := h2
              clear h2
              try simp only [Act.put, List.setIfInBounds_toArray, List.set_cons_zero, List.set_cons_succ]
              refine wpAnyH_ready (rs := [6, 11]) (by kernel_rfl) (by simp) ?_
              refine rc (h := fun K hK => ?_) (hs := rc (h := fun K hK => ?_) (hs := AllReadyH.nil))
              ·
               go_simp
               go_at_call 13
               refine (HT3.out V2 (KP.trans hHeld) A2 c2 B2 d2 A3 c3 B3 d3 (CellsAt.of_own (HY.out.kept hHeld).1) (CellsAt.of_own (HYv.out.kept hHeld).1) (CellsAt.of_own hj.b.1) (CellsAt.of_own hj.v.1)).mono ?_
               rintro e V3 ⟨A, c, B, d, C, a, D, b, rfl, hz1, hz2, _, _, kk⟩
               replace h8 := h8.kept kk
               have hz : R2 WP zb zv A c B d V3 := ⟨hz1, hz2⟩
               clear hz1 hz2 hj
               refine hK.out _ _ (hHeld.trans kk) (fun h2 => ?_)
               clear hK K hHeld
               have hHeld := h2
               clear h2
               try simp only [Act.put, List.setIfInBounds_toArray, List.set_cons_zero, List.set_cons_succ]
               refine tk 7 (v := ?_) (hy := Or.inl ⟨by rfl, ?_⟩) (h := ?_)
               rotate_left
               ·intro w hSw
                go_simp
                try with_reducible rfl
               simp only [Act.put, List.setIfInBounds_toArray, List.set_cons_zero, List.set_cons_succ]
               refine tk 8 (v := ?_) (hy := Or.inl ⟨by rfl, ?_⟩) (h := ?_)
               rotate_left
               ·intro w hSw
                go_simp
                try with_reducible rfl
               simp only [Act.put, List.setIfInBounds_toArray, List.set_cons_zero, List.set_cons_succ]
               refine tk 9 (v := ?_) (hy := Or.inl ⟨by rfl, ?_⟩) (h := ?_)
               rotate_left
               ·intro w hSw
                go_simp
                try with_reducible rfl
               simp only [Act.put, List.setIfInBounds_toArray, List.set_cons_zero, List.set_cons_succ]
               refine tk 10 (v := ?_) (hy := Or.inl ⟨by rfl, ?_⟩) (h := ?_)
               rotate_left
               ·intro w hSw
                go_simp
                try with_reducible rfl
               simp only [Act.put, List.setIfInBounds_toArray, List.set_cons_zero, List.set_cons_succ]
               refine wpAnyH_ready (rs := [11]) (by kernel_rfl) (by simp) ?_
               refine rc (h := fun K hK => ?_) (hs := AllReadyH.nil)
               have h7 := AtB.new V3 #[.slice none 0 0, .slice none 0 0] 29
               have kk := (Kept.refl V3).alloc (.cells #[.slice none 0 0, .slice none 0 0] 29)
               have hlo := h8.lt
               replace hz := hz.kept kk
               replace h8 := h8.kept kk
               go_simp
               obtain ⟨z, hz_⟩ : ∃ z, z = V3.heap.size := ⟨_, rfl⟩
               have gh7 : W15.heap.size ≤ z := by rw [hz_]; exact hHeld.size_le
               have hne : z ≠ y := by omega
               clear hlo
               rw [← hz_] at h7 ⊢
               clear hz_
               generalize V3.alloc (.cells #[.slice none 0 0, .slice none 0 0] 29) = V4 at *
               refine hK.out _ _ (hHeld.trans kk) (fun h2 => ?_)
               clear hK K hHeld
               have hHeld := h2
               clear h2
               try simp only [Act.put, List.setIfInBounds_toArray, List.set_cons_zero, List.set_cons_succ]
               refine wpAnyH_ready (rs := [13]) (by kernel_rfl) (by simp) ?_
               refine rc (h := fun K hK => ?_) (hs := AllReadyH.nil)
               obtain ⟨c0, c1, f0, f1, lt⟩ := box0 h7
               replace hz := hz.put h7 (Nat.le_trans HW0 gh7) (.slice A zb.length c) (.slice B zv.length d)
               replace h8 := h8.two hne (.slice A zb.length c) (.slice B zv.length d)
               replace h7 := h7.set2 (.slice A zb.length c) (.slice B zv.length d)
               have kk := put2 hHeld gh7 (.slice A zb.length c) (.slice B zv.length d)
               go_simp
               generalize (V4.setCell ⟨z, 0, none⟩ (.slice A zb.length c)).setCell ⟨z, 1, none⟩ (.slice B zv.length d) = V5 at *
               clear c0 c1 f0 f1 lt
               refine hK.out _ _ (kk) (fun h2 => ?_)
               clear hK K hHeld
               have hHeld := h2
               clear h2
               try simp only [Act.put, List.setIfInBounds_toArray, List.set_cons_zero, List.set_cons_succ]
               refine wpAnyH_ready (rs := [14]) (by kernel_rfl) (by simp) ?_
               refine rc (h := fun K hK => ?_) (hs := AllReadyH.nil)
               obtain ⟨c0, c1, f0, f1, lt⟩ := box0 h8
               replace hz := hz.put h8 (Nat.le_trans HW0 gh8) (.slice C z1_.length a) (.slice D z2_.length b)
               replace h7 := h7.two hne.symm (.slice C z1_.length a) (.slice D z2_.length b)
               replace h8 := h8.set2 (.slice C z1_.length a) (.slice D z2_.length b)
               have kk := put2 hHeld gh8 (.slice C z1_.length a) (.slice D z2_.length b)
               go_simp
               generalize (V5.setCell ⟨y, 0, none⟩ (.slice C z1_.length a)).setCell ⟨y, 1, none⟩ (.slice D z2_.length b) = V6 at *
               clear c0 c1 f0 f1 lt
               refine hK.out _ _ (kk) (fun h2 => ?_)
               clear hK K hHeld
               have hHeld := h2
               clear h2
               try simp only [Act.put, List.setIfInBounds_toArray, List.set_cons_zero, List.set_cons_succ]
               refine tk 15 (v := ?_) (hy := Or.inl ⟨by rfl, ?_⟩) (h := ?_)
               rotate_left
               ·intro w hSw
                go_simp
                try with_reducible rfl
               simp only [Act.put, List.setIfInBounds_toArray, List.set_cons_zero, List.set_cons_succ]
               refine wpAnyH_done (by kernel_rfl) ?_ _
               refine NoPanic.normal ?_
               exact hQ1.out A3 c3 B3 d3 A c B d C a D b z y _ ⟨h7, hz, hHeld⟩
              ·
               have h7 := AtB.new V2 #[.slice none 0 0, .slice none 0 0] 29
               have kk := (Kept.refl V2).alloc (.cells #[.slice none 0 0, .slice none 0 0] 29)
               have hlo := h8.lt
               replace hj := hj.kept kk
               replace h8 := h8.kept kk
               go_simp
               obtain ⟨z, hz_⟩ : ∃ z, z = V2.heap.size := ⟨_, rfl⟩
               have gh7 : W15.heap.size ≤ z := by rw [hz_]; exact hHeld.size_le
               have hne : z ≠ y := by omega
               clear hlo
               rw [← hz_] at h7 ⊢
               clear hz_
               generalize V2.alloc (.cells #[.slice none 0 0, .slice none 0 0] 29) = V3 at *
               refine hK.out _ _ (hHeld.trans kk) (fun h2 => ?_)
               clear hK K hHeld
               have hHeld := h2
               clear h2
               try simp only [Act.put, List.setIfInBounds_toArray, List.set_cons_zero, List.set_cons_succ]
               refine wpAnyH_ready (rs := [6]) (by kernel_rfl) (by simp) ?_
               refine rc (h := fun K hK => ?_) (hs := AllReadyH.nil)
               go_simp
               go_at_call 13
               refine (HT3.out V3 (KP.trans hHeld) A2 c2 B2 d2 A3 c3 B3 d3 (CellsAt.of_own (HY.out.kept hHeld).1) (CellsAt.of_own (HYv.out.kept hHeld).1) (CellsAt.of_own hj.b.1) (CellsAt.of_own hj.v.1)).mono ?_
               rintro e V4 ⟨A, c, B, d, C, a, D, b, rfl, hz1, hz2, _, _, kk⟩
               replace h7 := h7.kept kk
               replace h8 := h8.kept kk
               have hz : R2 WP zb zv A c B d V4 := ⟨hz1, hz2⟩
               clear hz1 hz2 hj
               refine hK.out _ _ (hHeld.trans kk) (fun h2 => ?_)
               clear hK K hHeld
               have hHeld := h2
               clear h2
               try simp only [Act.put, List.setIfInBounds_toArray, List.set_cons_zero, List.set_cons_succ]
               refine tk 7 (v := ?_) (hy := Or.inl ⟨by rfl, ?_⟩) (h := ?_)
               rotate_left
               ·intro w hSw
                go_simp
                try with_reducible rfl
               simp only [Act.put, List.setIfInBounds_toArray, List.set_cons_zero, List.set_cons_succ]
               refine tk 8 (v := ?_) (hy := Or.inl ⟨by rfl, ?_⟩) (h := ?_)
               rotate_left
               ·intro w hSw
                go_simp
                try with_reducible rfl
               simp only [Act.put, List.setIfInBounds_toArray, List.set_cons_zero, List.set_cons_succ]
               refine tk 9 (v := ?_) (hy := Or.inl ⟨by rfl, ?_⟩) (h := ?_)
               rotate_left
               ·intro w hSw
                go_simp
                try with_reducible rfl
               simp only [Act.put, List.setIfInBounds_toArray, List.set_cons_zero, List.set_cons_succ]
               refine tk 10 (v := ?_) (hy := Or.inl ⟨by rfl, ?_⟩) (h := ?_)
               rotate_left
               ·intro w hSw
                go_simp
                try with_reducible rfl
               simp only [Act.put, List.setIfInBounds_toArray, List.set_cons_zero, List.set_cons_succ]
               refine wpAnyH_ready (rs := [13]) (by kernel_rfl) (by simp) ?_
               refine rc (h := fun K hK => ?_) (hs := AllReadyH.nil)
               obtain ⟨c0, c1, f0, f1, lt⟩ := box0 h7
               replace hz := hz.put h7 (Nat.le_trans HW0 gh7) (.slice A zb.length c) (.slice B zv.length d)
               replace h8 := h8.two hne (.slice A zb.length c) (.slice B zv.length d)
               replace h7 := h7.set2 (.slice A zb.length c) (.slice B zv.length d)
               have kk := put2 hHeld gh7 (.slice A zb.length c) (.slice B zv.length d)
               go_simp
               generalize (V4.setCell ⟨z, 0, none⟩ (.slice A zb.length c)).setCell ⟨z, 1, none⟩ (.slice B zv.length d) = V5 at *
               clear c0 c1 f0 f1 lt
               refine hK.out _ _ (kk) (fun h2 => ?_)
               clear hK K hHeld
               have hHeld := h2
               clear h2
               try simp only [Act.put, List.setIfInBounds_toArray, List.set_cons_zero, List.set_cons_succ]
               refine wpAnyH_ready (rs := [14]) (by kernel_rfl) (by simp) ?_
               refine rc (h := fun K hK => ?_) (hs := AllReadyH.nil)
               obtain ⟨c0, c1, f0, f1, lt⟩ := box0 h8
               replace hz := hz.put h8 (Nat.le_trans HW0 gh8) (.slice C z1_.length a) (.slice D z2_.length b)
               replace h7 := h7.two hne.symm (.slice C z1_.length a) (.slice D z2_.length b)
               replace h8 := h8.set2 (.slice C z1_.length a) (.slice D z2_.length b)
               have kk := put2 hHeld gh8 (.slice C z1_.length a) (.slice D z2_.length b)
               go_simp
               generalize (V5.setCell ⟨y, 0, none⟩ (.slice C z1_.length a)).setCell ⟨y, 1, none⟩ (.slice D z2_.length b) = V6 at *
               clear c0 c1 f0 f1 lt
               refine hK.out _ _ (kk) (fun h2 => ?_)
               clear hK K hHeld
               have hHeld := h2
               clear h2
               try simp only [Act.put, List.setIfInBounds_toArray, List.set_cons_zero, List.set_cons_succ]
               refine tk 15 (v := ?_) (hy := Or.inl ⟨by rfl, ?_⟩) (h := ?_)
               rotate_left
               ·intro w hSw
                go_simp
                try with_reducible rfl
               simp only [Act.put, List.setIfInBounds_toArray, List.set_cons_zero, List.set_cons_succ]
               refine wpAnyH_done (by kernel_rfl) ?_ _
               refine NoPanic.normal ?_
               exact hQ1.out A3 c3 B3 d3 A c B d C a D b z y _ ⟨h7, hz, hHeld⟩
             ·
              have h7 := AtB.new V1 #[.slice none 0 0, .slice none 0 0] 29
              have kk := (Kept.refl V1).alloc (.cells #[.slice none 0 0, .slice none 0 0] 29)
              have hlo := h8.lt
              replace h8 := h8.kept kk
              go_simp
              obtain ⟨z, hz_⟩ : ∃ z, z = V1.heap.size := ⟨_, rfl⟩
              have gh7 : W15.heap.size ≤ z := by rw [hz_]; exact hHeld.size_le
              have hne : z ≠ y := by omega
              clear hlo
              rw [← hz_] at h7 ⊢
              clear hz_
              generalize V1.alloc (.cells #[.slice none 0 0, .slice none 0 0] 29) = V2 at *
              refine hK.out _ _ (hHeld.trans kk) (fun h2 => ?_)
              clear hK K hHeld
              have hHeld := h2
              clear h2
              try simp only [Act.put, List.setIfInBounds_toArray, List.set_cons_zero, List.set_cons_succ]
              refine wpAnyH_ready (rs := [4]) (by kernel_rfl) (by simp) ?_
              refine rc (h := fun K hK => ?_) (hs := AllReadyH.nil)
              go_simp
              go_at_call 15
              refine (HJ3.out V2 (KP.trans hHeld) C2 a2 D2 b2 (CellsAt.of_own (HE.out.kept hHeld).1) (CellsAt.of_own (HEv.out.kept hHeld).1)).mono ?_
              rintro e V3 ⟨A3, c3, B3, d3, rfl, hj1, hj2, kk⟩
              replace h7 := h7.kept kk
              replace h8 := h8.kept kk
              have hj : R2 WP _ _ A3 c3 B3 d3 V3 := ⟨hj1, hj2⟩
              clear hj1 hj2
              refine hK.out _ _ (hHeld.trans kk) (fun h2 => ?_)
              clear hK K hHeld
              have hHeld := h2
              clear h2
              try simp only [Act.put, List.setIfInBounds_toArray, List.set_cons_zero, List.set_cons_succ]
              refine wpAnyH_ready (rs := [6]) (by kernel_rfl) (by simp) ?_
              refine rc (h := fun K hK => ?_) (hs := AllReadyH.nil)
              go_simp
              go_at_call 13
              refine (HT3.out V3 (KP.trans hHeld) A2 c2 B2 d2 A3 c3 B3 d3 (CellsAt.of_own (HY.out.kept hHeld).1) (CellsAt.of_own (HYv.out.kept hHeld).1) (CellsAt.of_own hj.b.1) (CellsAt.of_own hj.v.1)).mono ?_
              rintro e V4 ⟨A, c, B, d, C, a, D, b, rfl, hz1, hz2, _, _, kk⟩
              replace h7 := h7.kept kk
              replace h8 := h8.kept kk
              have hz : R2 WP zb zv A c B d V4 := ⟨hz1, hz2⟩
              clear hz1 hz2 hj
              refine hK.out _ _ (hHeld.trans kk) (fun h2 => ?_)
              clear hK K hHeld
              have hHeld := h2
              clear h2
              try simp only [Act.put, List.setIfInBounds_toArray, List.set_cons_zero, List.set_cons_succ]
              refine tk 7 (v := ?_) (hy := Or.inl ⟨by rfl, ?_⟩) (h := ?_)
              rotate_left
              ·intro w hSw
               go_simp
               try with_reducible rfl
              simp only [Act.put, List.setIfInBounds_toArray, List.set_cons_zero, List.set_cons_succ]
              refine tk 8 (v := ?_) (hy := Or.inl ⟨by rfl, ?_⟩) (h := ?_)
              rotate_left
              ·intro w hSw
               go_simp
               try with_reducible rfl
              simp only [Act.put, List.setIfInBounds_toArray, List.set_cons_zero, List.set_cons_succ]
              refine tk 9 (v := ?_) (hy := Or.inl ⟨by rfl, ?_⟩) (h := ?_)
              rotate_left
              ·intro w hSw
               go_simp
               try with_reducible rfl
              simp only [Act.put, List.setIfInBounds_toArray, List.set_cons_zero, List.set_cons_succ]
              refine tk 10 (v := ?_) (hy := Or.inl ⟨by rfl, ?_⟩) (h := ?_)
              rotate_left
              ·intro w hSw
               go_simp
               try with_reducible rfl
              simp only [Act.put, List.setIfInBounds_toArray, List.set_cons_zero, List.set_cons_succ]
              refine wpAnyH_ready (rs := [13]) (by kernel_rfl) (by simp) ?_
              refine rc (h := fun K hK => ?_) (hs := AllReadyH.nil)
              obtain ⟨c0, c1, f0, f1, lt⟩ := box0 h7
              replace hz := hz.put h7 (Nat.le_trans HW0 gh7) (.slice A zb.length c) (.slice B zv.length d)
              replace h8 := h8.two hne (.slice A zb.length c) (.slice B zv.length d)
              replace h7 := h7.set2 (.slice A zb.length c) (.slice B zv.length d)
              have kk := put2 hHeld gh7 (.slice A zb.length c) (.slice B zv.length d)
              go_simp
              generalize (V4.setCell ⟨z, 0, none⟩ (.slice A zb.length c)).setCell ⟨z, 1, none⟩ (.slice B zv.length d) = V5 at *
              clear c0 c1 f0 f1 lt
              refine hK.out _ _ (kk) (fun h2 => ?_)
              clear hK K hHeld
              have hHeld := h2
              clear h2
              try simp only [Act.put, List.setIfInBounds_toArray, List.set_cons_zero, List.set_cons_succ]
              refine wpAnyH_ready (rs := [14]) (by kernel_rfl) (by simp) ?_
              refine rc (h := fun K hK => ?_) (hs := AllReadyH.nil)
              obtain ⟨c0, c1, f0, f1, lt⟩ := box0 h8
              replace hz := hz.put h8 (Nat.le_trans HW0 gh8) (.slice C z1_.length a) (.slice D z2_.length b)
              replace h7 := h7.two hne.symm (.slice C z1_.length a) (.slice D z2_.length b)
              replace h8 := h8.set2 (.slice C z1_.length a) (.slice D z2_.length b)
              have kk := put2 hHeld gh8 (.slice C z1_.length a) (.slice D z2_.length b)
              go_simp
              generalize (V5.setCell ⟨y, 0, none⟩ (.slice C z1_.length a)).setCell ⟨y, 1, none⟩ (.slice D z2_.length b) = V6 at *
              clear c0 c1 f0 f1 lt
              refine hK.out _ _ (kk) (fun h2 => ?_)
              clear hK K hHeld
              have hHeld := h2
              clear h2
              try simp only [Act.put, List.setIfInBounds_toArray, List.set_cons_zero, List.set_cons_succ]
              refine tk 15 (v := ?_) (hy := Or.inl ⟨by rfl, ?_⟩) (h := ?_)
              rotate_left
              ·intro w hSw
               go_simp
               try with_reducible rfl
              simp only [Act.put, List.setIfInBounds_toArray, List.set_cons_zero, List.set_cons_succ]
              refine wpAnyH_done (by kernel_rfl) ?_ _
              refine NoPanic.normal ?_
              exact hQ1.out A3 c3 B3 d3 A c B d C a D b z y _ ⟨h7, hz, hHeld⟩
           intro A3 c3 B3 d3 A19 c19 B19 d19 C a D b z27 zy wT hpost
           obtain ⟨h27, ⟨hz1, hz2⟩, k⟩ := hpost
           have H27 := Lib.hid h27
           have H27b := Lib.hid hz1
           have H27v := Lib.hid hz2
           clear h27 hz1 hz2 b00 b01 b02 b03 b04 bz0 p0 p1 pl q0 q1 ql r0 r1 rl
           replace HX := Lib.hid (HX.out.kept k)
           replace HXv := Lib.hid (HXv.out.kept k)
           replace H19 := Lib.hid (H19.out.kept k)
           replace H22 := Lib.hid (H22.out.kept k)
           replace H23 := Lib.hid (H23.out.kept k)
           replace HY := Lib.hid (HY.out.kept k)
           replace HYv := Lib.hid (HYv.out.kept k)
           replace HE := Lib.hid (HE.out.kept k)
           replace HEv := Lib.hid (HEv.out.kept k)
           replace H24 := Lib.hid (H24.out.kept k)
           replace H25 := Lib.hid (H25.out.kept k)
           have KB16 := Lib.hid (KB15.out.trans k)
           clear k
           generalize wT = W16 at *
           try dsimp only
           clear HY HYv HE HEv H24 H25
           obtain ⟨b00, b01, b02, b03, b04⟩ := (HB0.out.kept KB16.out).five
           have bz0 := (HB0.out.kept KB16.out).1
           obtain ⟨b10, b11⟩ := (HB1.out.kept KB16.out).two
           have bz1 := (HB1.out.kept KB16.out).1
           have p0 : W16.cell? ⟨z23, 0, none⟩ = some (.slice tA tb.length tc) := H23.out.cell
           have p1 : W16.cell? ⟨z23, 1, none⟩ = some (.slice tB tv.length td) := H23.out.cell
           have pl := H23.out.lt
           have q0 : W16.cell? ⟨z22, 0, none⟩ = some (.slice mA ob.length mc) := H22.out.cell
           have q1 : W16.cell? ⟨z22, 1, none⟩ = some (.slice uA ov.length uc) := H22.out.cell
           have ql := H22.out.lt
           go_wp2_with fail
           refine cut14 ?f20 (fun A3 c3 B3 d3 A c B d C a D b z y w' => AtB w' z #[.slice A ub.length c, .slice B uv.length d] 29 ∧ R2 WP ub uv A c B d w' ∧ Kept W16 w') ?_ ?_
           rotate_left
           ·intro Q1 hQ1
            have KP := KB16.out
            have HW0 : WP.heap.size ≤ W16.heap.size := KP.size_le
            refine wp_region_noPanic ?_
            refine wp_region_held_drew (S := Kept W16) (by kernel_rfl) ?_ (fun hHeld => ?_)
            ·exact (Kept.refl _).drew
            generalize hVV : W16.drew = V0 at *
            clear hVV
            refine tk 0 (v := ?_) (hy := Or.inl ⟨by rfl, ?_⟩) (h := ?_)
            rotate_left
            ·intro w hSw
             have q0 := (hSw.cell (p := ⟨z0, 0, none⟩) bz0).trans b00
             have q1 := (hSw.cell (p := ⟨z0, 1, none⟩) bz0).trans b01
             have q2 := (hSw.cell (p := ⟨z0, 2, none⟩) bz0).trans b02
             have q3 := (hSw.cell (p := ⟨z0, 3, none⟩) bz0).trans b03
             have q4 := (hSw.cell (p := ⟨z0, 4, none⟩) bz0).trans b04
             go_simp
             try with_reducible rfl
            simp only [Act.put, List.setIfInBounds_toArray, List.set_cons_zero, List.set_cons_succ]
            refine tk 1 (v := ?_) (hy := Or.inl ⟨by rfl, ?_⟩) (h := ?_)
            rotate_left
            ·intro w hSw
             have q0 := (hSw.cell (p := ⟨z1, 0, none⟩) bz1).trans b10
             have q1 := (hSw.cell (p := ⟨z1, 1, none⟩) bz1).trans b11
             go_simp
             try with_reducible rfl
            simp only [Act.put, List.setIfInBounds_toArray, List.set_cons_zero, List.set_cons_succ]
            refine tk 2 (v := ?_) (hy := Or.inl ⟨by rfl, ?_⟩) (h := ?_)
            rotate_left
            ·intro w hSw
             have q0 := (hSw.cell (p := ⟨z23, 0, none⟩) pl).trans p0
             have q1 := (hSw.cell (p := ⟨z23, 1, none⟩) pl).trans p1
             go_simp
             try with_reducible rfl
            simp only [Act.put, List.setIfInBounds_toArray, List.set_cons_zero, List.set_cons_succ]
            refine tk 3 (v := ?_) (hy := Or.inl ⟨by rfl, ?_⟩) (h := ?_)
            rotate_left
            ·intro w hSw
             have q0 := (hSw.cell (p := ⟨z22, 0, none⟩) ql).trans q0
             have q1 := (hSw.cell (p := ⟨z22, 1, none⟩) ql).trans q1
             go_simp
             try with_reducible rfl
            simp only [Act.put, List.setIfInBounds_toArray, List.set_cons_zero, List.set_cons_succ]
            refine tk 5 (v := ?_) (hy := Or.inl ⟨by rfl, ?_⟩) (h := ?_)
            rotate_left
            ·intro w hSw
             go_simp
             try with_reducible rfl
            simp only [Act.put, List.setIfInBounds_toArray, List.set_cons_zero, List.set_cons_succ]
            refine wpAnyH_ready (rs := [4, 11, 12]) (by kernel_rfl) (by simp) ?_
            refine rc (h := fun K hK => ?_) (hs := rc (h := fun K hK => ?_) (hs := rc (h := fun K hK => ?_) (hs := AllReadyH.nil)))
            ·
             go_simp
             go_at_call 15
             refine (HJ4.out V0 (KP.trans hHeld)).mono ?_
             rintro e V1 ⟨A3, c3, B3, d3, rfl, hj1, hj2, kk⟩
             have hj : R2 WP _ _ A3 c3 B3 d3 V1 := ⟨hj1, hj2⟩
             clear hj1 hj2
             refine hK.out _ _ (hHeld.trans kk) (fun h2 => ?_)
             clear hK K hHeld
             have hHeld := h2
             clear h2
             try simp only [Act.put, List.setIfInBounds_toArray, List.set_cons_zero, List.set_cons_succ]
             refine wpAnyH_ready (rs := [6, 11, 12]) (by kernel_rfl) (by simp) ?_
             refine rc (h := fun K hK => ?_) (hs := rc (h := fun K hK => ?_) (hs := rc (h := fun K hK => ?_) (hs := AllReadyH.nil)))
             ·
              go_simp
              go_at_call 13
              refine (HT4.out V1 (KP.trans hHeld) A3 c3 B3 d3 (CellsAt.of_own hj.b.1) (CellsAt.of_own hj.v.1)).mono ?_
              rintro e V2 ⟨A, c, B, d, C, a, D, b, rfl, hz1, hz2, _, _, kk⟩
              have hz : R2 WP ub uv A c B d V2 := ⟨hz1, hz2⟩
              clear hz1 hz2 hj
              refine hK.out _ _ (hHeld.trans kk) (fun h2 => ?_)
              clear hK K hHeld
              have hHeld := h2
              clear h2
              try simp only [Act.put, List.setIfInBounds_toArray, List.set_cons_zero, List.set_cons_succ]
              refine tk 7 (v := ?_) (hy := Or.inl ⟨by rfl, ?_⟩) (h := ?_)
              rotate_left
              ·intro w hSw
               go_simp
               try with_reducible rfl
              simp only [Act.put, List.setIfInBounds_toArray, List.set_cons_zero, List.set_cons_succ]
              refine tk 8 (v := ?_) (hy := Or.inl ⟨by rfl, ?_⟩) (h := ?_)
              rotate_left
              ·intro w hSw
               go_simp
               try with_reducible rfl
              simp only [Act.put, List.setIfInBounds_toArray, List.set_cons_zero, List.set_cons_succ]
              refine tk 9 (v := ?_) (hy := Or.inl ⟨by rfl, ?_⟩) (h := ?_)
              rotate_left
              ·intro w hSw
               go_simp
               try with_reducible rfl
              simp only [Act.put, List.setIfInBounds_toArray, List.set_cons_zero, List.set_cons_succ]
              refine tk 10 (v := ?_) (hy := Or.inl ⟨by rfl, ?_⟩) (h := ?_)
              rotate_left
              ·intro w hSw
               go_simp
               try with_reducible rfl
              simp only [Act.put, List.setIfInBounds_toArray, List.set_cons_zero, List.set_cons_succ]
              refine wpAnyH_ready (rs := [11, 12]) (by kernel_rfl) (by simp) ?_
              refine rc (h := fun K hK => ?_) (hs := rc (h := fun K hK => ?_) (hs := AllReadyH.nil))
              ·
               have h7 := AtB.new V2 #[.slice none 0 0, .slice none 0 0] 29
               have kk := (Kept.refl V2).alloc (.cells #[.slice none 0 0, .slice none 0 0] 29)
               replace hz := hz.kept kk
               go_simp
               obtain ⟨z, hz_⟩ : ∃ z, z = V2.heap.size := ⟨_, rfl⟩
               have gh7 : W16.heap.size ≤ z := by rw [hz_]; exact hHeld.size_le
               rw [← hz_] at h7 ⊢
               clear hz_
               generalize V2.alloc (.cells #[.slice none 0 0, .slice none 0 0] 29) = V3 at *
               refine hK.out _ _ (hHeld.trans kk) (fun h2 => ?_)
               clear hK K hHeld
               have hHeld := h2
               clear h2
               try simp only [Act.put, List.setIfInBounds_toArray, List.set_cons_zero, List.set_cons_succ]
               refine wpAnyH_ready (rs := [12]) (by kernel_rfl) (by simp) ?_
               refine rc (h := fun K hK => ?_) (hs := AllReadyH.nil)
               have h8 := AtB.new V3 #[.slice none 0 0, .slice none 0 0] 29
               have kk := (Kept.refl V3).alloc (.cells #[.slice none 0 0, .slice none 0 0] 29)
               have hlo := h7.lt
               replace hz := hz.kept kk
               replace h7 := h7.kept kk
               go_simp
               obtain ⟨y, hz_⟩ : ∃ z, z = V3.heap.size := ⟨_, rfl⟩
               have gh8 : W16.heap.size ≤ y := by rw [hz_]; exact hHeld.size_le
               have hne : z ≠ y := by omega
               clear hlo
               rw [← hz_] at h8 ⊢
               clear hz_
               generalize V3.alloc (.cells #[.slice none 0 0, .slice none 0 0] 29) = V4 at *
               refine hK.out _ _ (hHeld.trans kk) (fun h2 => ?_)
               clear hK K hHeld
               have hHeld := h2
               clear h2
               try simp only [Act.put, List.setIfInBounds_toArray, List.set_cons_zero, List.set_cons_succ]
               refine wpAnyH_ready (rs := [13]) (by kernel_rfl) (by simp) ?_
               refine rc (h := fun K hK => ?_) (hs := AllReadyH.nil)
               obtain ⟨c0, c1, f0, f1, lt⟩ := box0 h7
               replace hz := hz.put h7 (Nat.le_trans HW0 gh7) (.slice A ub.length c) (.slice B uv.length d)
               replace h8 := h8.two hne (.slice A ub.length c) (.slice B uv.length d)
               replace h7 := h7.set2 (.slice A ub.length c) (.slice B uv.length d)
               have kk := put2 hHeld gh7 (.slice A ub.length c) (.slice B uv.length d)
               go_simp
               generalize (V4.setCell ⟨z, 0, none⟩ (.slice A ub.length c)).setCell ⟨z, 1, none⟩ (.slice B uv.length d) = V5 at *
               clear c0 c1 f0 f1 lt
               refine hK.out _ _ (kk) (fun h2 => ?_)
               clear hK K hHeld
               have hHeld := h2
               clear h2
               try simp only [Act.put, List.setIfInBounds_toArray, List.set_cons_zero, List.set_cons_succ]
               refine wpAnyH_ready (rs := [14]) (by kernel_rfl) (by simp) ?_
               refine rc (h := fun K hK => ?_) (hs := AllReadyH.nil)
               obtain ⟨c0, c1, f0, f1, lt⟩ := box0 h8
               replace hz := hz.put h8 (Nat.le_trans HW0 gh8) (.slice C u1_.length a) (.slice D u2_.length b)
               replace h7 := h7.two hne.symm (.slice C u1_.length a) (.slice D u2_.length b)
               replace h8 := h8.set2 (.slice C u1_.length a) (.slice D u2_.length b)
               have kk := put2 hHeld gh8 (.slice C u1_.length a) (.slice D u2_.length b)
               go_simp
               generalize (V5.setCell ⟨y, 0, none⟩ (.slice C u1_.length a)).setCell ⟨y, 1, none⟩ (.slice D u2_.length b) = V6 at *
               clear c0 c1 f0 f1 lt
               refine hK.out _ _ (kk) (fun h2 => ?_)
               clear hK K hHeld
               have hHeld := h2
               clear h2
               try simp only [Act.put, List.setIfInBounds_toArray, List.set_cons_zero, List.set_cons_succ]
               refine tk 15 (v := ?_) (hy := Or.inl ⟨by rfl, ?_⟩) (h := ?_)
               rotate_left
               ·intro w hSw
                go_simp
                try with_reducible rfl
               simp only [Act.put, List.setIfInBounds_toArray, List.set_cons_zero, List.set_cons_succ]
               refine wpAnyH_done (by kernel_rfl) ?_ _
               refine NoPanic.normal ?_
               exact hQ1.out A3 c3 B3 d3 A c B d C a D b z y _ ⟨h7, hz, hHeld⟩
              ·
               have h8 := AtB.new V2 #[.slice none 0 0, .slice none 0 0] 29
               have kk := (Kept.refl V2).alloc (.cells #[.slice none 0 0, .slice none 0 0] 29)
               replace hz := hz.kept kk
               go_simp
               obtain ⟨y, hz_⟩ : ∃ z, z = V2.heap.size := ⟨_, rfl⟩
               have gh8 : W16.heap.size ≤ y := by rw [hz_]; exact hHeld.size_le
               rw [← hz_] at h8 ⊢
               clear hz_
               generalize V2.alloc (.cells #[.slice none 0 0, .slice none 0 0] 29) = V3 at *
               refine hK.out _ _ (hHeld.trans kk) (fun h2 => ?_)
               clear hK K hHeld
               have hHeld := h2
               clear h2
               try simp only [Act.put, List.setIfInBounds_toArray, List.set_cons_zero, List.set_cons_succ]
               refine wpAnyH_ready (rs := [11]) (by kernel_rfl) (by simp) ?_
               refine rc (h := fun K hK => ?_) (hs := AllReadyH.nil)
               have h7 := AtB.new V3 #[.slice none 0 0, .slice none 0 0] 29
               have kk := (Kept.refl V3).alloc (.cells #[.slice none 0 0, .slice none 0 0] 29)
               have hlo := h8.lt
               replace hz := hz.kept kk
               replace h8 := h8.kept kk
               go_simp
               obtain ⟨z, hz_⟩ : ∃ z, z = V3.heap.size := ⟨_, rfl⟩
               have gh7 : W16.heap.size ≤ z := by rw [hz_]; exact hHeld.size_le
               have hne : z ≠ y := by omega
               clear hlo
               rw [← hz_] at h7 ⊢
               clear hz_
               generalize V3.alloc (.cells #[.slice none 0 0, .slice none 0 0] 29) = V4 at *
               refine hK.out _ _ (hHeld.trans kk) (fun h2 => ?_)
               clear hK K hHeld
               have hHeld := h2
               clear h2
               try simp only [Act.put, List.setIfInBounds_toArray, List.set_cons_zero, List.set_cons_succ]
               refine wpAnyH_ready (rs := [13]) (by kernel_rfl) (by simp) ?_
               refine rc (h := fun K hK => ?_) (hs := AllReadyH.nil)
               obtain ⟨c0, c1, f0, f1, lt⟩ := box0 h7
               replace hz := hz.put h7 (Nat.le_trans HW0 gh7) (.slice A ub.length c) (.slice B uv.length d)
               replace h8 := h8.two hne (.slice A ub.length c) (.slice B uv.length d)
               replace h7 := h7.set2 (.slice A ub.length c) (.slice B uv.length d)
               have kk := put2 hHeld gh7 (.slice A ub.length c) (.slice B uv.length d)
               go_simp
               generalize (V4.setCell ⟨z, 0, none⟩ (.slice A ub.length c)).setCell ⟨z, 1, none⟩ (.slice B uv.length d) = V5 at *
               clear c0 c1 f0 f1 lt
               refine hK.out _ _ (kk) (fun h2 => ?_)
               clear hK K hHeld
               have hHeld := h2
               clear h2
               try simp only [Act.put, List.setIfInBounds_toArray, List.set_cons_zero, List.set_cons_succ]
               refine wpAnyH_ready (rs := [14]) (by kernel_rfl) (by simp) ?_
               refine rc (h := fun K hK => ?_) (hs := AllReadyH.nil)
               obtain ⟨c0, c1, f0, f1, lt⟩ := box0 h8
               replace hz := hz.put h8 (Nat.le_trans HW0 gh8) (.slice C u1_.length a) (.slice D u2_.length b)
               replace h7 := h7.two hne.symm (.slice C u1_.length a) (.slice D u2_.length b)
               replace h8 := h8.set2 (.slice C u1_.length a) (.slice D u2_.length b)
               have kk := put2 hHeld gh8 (.slice C u1_.length a) (.slice D u2_.length b)
               go_simp
               generalize (V5.setCell ⟨y, 0, none⟩ (.slice C u1_.length a)).setCell ⟨y, 1, none⟩ (.slice D u2_.length b) = V6 at *
               clear c0 c1 f0 f1 lt
               refine hK.out _ _ (kk) (fun h2 => ?_)
               clear hK K hHeld
               have hHeld := h2
               clear h2
               try simp only [Act.put, List.setIfInBounds_toArray, List.set_cons_zero, List.set_cons_succ]
               refine tk 15 (v := ?_) (hy := Or.inl ⟨by rfl, ?_⟩) (h := ?_)
               rotate_left
               ·intro w hSw
                go_simp
                try with_reducible rfl
               simp only [Act.put, List.setIfInBounds_toArray, List.set_cons_zero, List.set_cons_succ]
               refine wpAnyH_done (by kernel_rfl) ?_ _
               refine NoPanic.normal ?_
               exact hQ1.out A3 c3 B3 d3 A c B d C a D b z y _ ⟨h7, hz, hHeld⟩
             ·
              have h7 := AtB.new V1 #[.slice none 0 0, .slice none 0 0] 29
              have kk := (Kept.refl V1).alloc (.cells #[.slice none 0 0, .slice none 0 0] 29)
              replace hj := hj.kept kk
              go_simp
              obtain ⟨z, hz_⟩ : ∃ z, z = V1.heap.size := ⟨_, rfl⟩
              have gh7 : W16.heap.size ≤ z := by rw [hz_]; exact hHeld.size_le
              rw [← hz_] at h7 ⊢
              clear hz_
              generalize V1.alloc (.cells #[.slice none 0 0, .slice none 0 0] 29) = V2 at *
              refine hK.out _ _ (hHeld.trans kk) (fun h2 => ?_)
              clear hK K hHeld
              have hHeld := h2
              clear h2
              try simp only [Act.put, List.setIfInBounds_toArray, List.set_cons_zero, List.set_cons_succ]
              refine wpAnyH_ready (rs := [6, 12]) (by kernel_rfl) (by simp) ?_
              refine rc (h := fun K hK => ?_) (hs := rc (h := fun K hK => ?_) (hs := AllReadyH.nil))
              ·
               go_simp
               go_at_call 13
               refine (HT4.out V2 (KP.trans hHeld) A3 c3 B3 d3 (CellsAt.of_own hj.b.1) (CellsAt.of_own hj.v.1)).mono ?_
               rintro e V3 ⟨A, c, B, d, C, a, D, b, rfl, hz1, hz2, _, _, kk⟩
               replace h7 := h7.kept kk
               have hz : R2 WP ub uv A c B d V3 := ⟨hz1, hz2⟩
               clear hz1 hz2 hj
               refine hK.out _ _ (hHeld.trans kk) (fun h2 => ?_)
               clear hK K hHeld
               have hHeld := h2
               clear h2
               try simp only [Act.put, List.setIfInBounds_toArray, List.set_cons_zero, List.set_cons_succ]
               refine tk 7 (v := ?_) (hy := Or.inl ⟨by rfl, ?_⟩) (h := ?_)
               rotate_left
               ·intro w hSw
                go_simp
                try with_reducible rfl
               simp only [Act.put, List.setIfInBounds_toArray, List.set_cons_zero, List.set_cons_succ]
               refine tk 8 (v := ?_) (hy := Or.inl ⟨by rfl, ?_⟩) (h := ?_)
               rotate_left
               ·intro w hSw
                go_simp
                try with_reducible rfl
               simp only [Act.put, List.setIfInBounds_toArray, List.set_cons_zero, List.set_cons_succ]
               refine tk 9 (v := ?_) (hy := Or.inl ⟨by rfl, ?_⟩) (h := ?_)
               rotate_left
               ·intro w hSw
                go_simp
                try with_reducible rfl
               simp only [Act.put, List.setIfInBounds_toArray, List.set_cons_zero, List.set_cons_succ]
               refine tk 10 (v := ?_) (hy := Or.inl ⟨by rfl, ?_⟩) (h := ?_)
               rotate_left
               ·intro w hSw
                go_simp
                try with_reducible rfl
               simp only [Act.put, List.setIfInBounds_toArray, List.set_cons_zero, List.set_cons_succ]
               refine wpAnyH_ready (rs := [12]) (by kernel_rfl) (by simp) ?_
               refine rc (h := fun K hK => ?_) (hs := AllReadyH.nil)
               have h8 := AtB.new V3 #[.slice none 0 0, .slice none 0 0] 29
               have kk := (Kept.refl V3).alloc (.cells #[.slice none 0 0, .slice none 0 0] 29)
               have hlo := h7.lt
               replace hz := hz.kept kk
               replace h7 := h7.kept kk
               go_simp
               obtain ⟨y, hz_⟩ : ∃ z, z = V3.heap.size := ⟨_, rfl⟩
               have gh8 : W16.heap.size ≤ y := by rw [hz_]; exact hHeld.size_le
               have hne : z ≠ y := by omega
               clear hlo
               rw [← hz_] at h8 ⊢
               clear hz_
               generalize V3.alloc (.cells #[.slice none 0 0, .slice none 0 0] 29) = V4 at *
               refine hK.out _ _ (hHeld.trans kk) (fun h2 => ?_)
               clear hK K hHeld
               have hHeld := h2
               clear h2
               try simp only [Act.put, List.setIfInBounds_toArray, List.set_cons_zero, List.set_cons_succ]
               refine wpAnyH_ready (rs := [13]) (by kernel_rfl) (by simp) ?_
               refine rc (h := fun K hK => ?_) (hs := AllReadyH.nil)
               obtain ⟨c0, c1, f0, f1, lt⟩ := box0 h7
               replace hz := hz.put h7 (Nat.le_trans HW0 gh7) (.slice A ub.length c) (.slice B uv.length d)
               replace h8 := h8.two hne (.slice A ub.length c) (.slice B uv.length d)
               replace h7 := h7.set2 (.slice A ub.length c) (.slice B uv.length d)
               have kk := put2 hHeld gh7 (.slice A ub.length c) (.slice B uv.length d)
               go_simp
               generalize (V4.setCell ⟨z, 0, none⟩ (.slice A ub.length c)).setCell ⟨z, 1, none⟩ (.slice B uv.length d) = V5 at *
               clear c0 c1 f0 f1 lt
               refine hK.out _ _ (kk) (fun h2 => ?_)
               clear hK K hHeld
               have hHeld := h2
               clear h2
               try simp only [Act.put, List.setIfInBounds_toArray, List.set_cons_zero, List.set_cons_succ]
               refine wpAnyH_ready (rs := [14]) (by kernel_rfl) (by simp) ?_
               refine rc (h := fun K hK => ?_) (hs := AllReadyH.nil)
               obtain ⟨c0, c1, f0, f1, lt⟩ := box0 h8
               replace hz := hz.put h8 (Nat.le_trans HW0 gh8) (.slice C u1_.length a) (.slice D u2_.length b)
               replace h7 := h7.two hne.symm (.slice C u1_.length a) (.slice D u2_.length b)
               replace h8 := h8.set2 (.slice C u1_.length a) (.slice D u2_.length b)
               have kk := put2 hHeld gh8 (.slice C u1_.length a) (.slice D u2_.length b)
               go_simp
               generalize (V5.setCell ⟨y, 0, none⟩ (.slice C u1_.length a)).setCell ⟨y, 1, none⟩ (.slice D u2_.length b) = V6 at *
               clear c0 c1 f0 f1 lt
               refine hK.out _ _ (kk) (fun h2 => ?_)
               clear hK K hHeld
               have hHeld := h2
               clear h2
               try simp only [Act.put, List.setIfInBounds_toArray, List.set_cons_zero, List.set_cons_succ]
               refine tk 15 (v := ?_) (hy := Or.inl ⟨by rfl, ?_⟩) (h := ?_)
               rotate_left
               ·intro w hSw
                go_simp
                try with_reducible rfl
               simp only [Act.put, List.setIfInBounds_toArray, List.set_cons_zero, List.set_cons_succ]
               refine wpAnyH_done (by kernel_rfl) ?_ _
               refine NoPanic.normal ?_
               exact hQ1.out A3 c3 B3 d3 A c B d C a D b z y _ ⟨h7, hz, hHeld⟩
              ·
               have h8 := AtB.new V2 #[.slice none 0 0, .slice none 0 0] 29
               have kk := (Kept.refl V2).alloc (.cells #[.slice none 0 0, .slice none 0 0] 29)
               have hlo := h7.lt
               replace hj := hj.kept kk
               replace h7 := h7.kept kk
               go_simp
               obtain ⟨y, hz_⟩ : ∃ z, z = V2.heap.size := ⟨_, rfl⟩
               have gh8 : W16.heap.size ≤ y := by rw [hz_]; exact hHeld.size_le
               have hne : z ≠ y := by omega
               clear hlo
               rw [← hz_] at h8 ⊢
               clear hz_
               generalize V2.alloc (.cells #[.slice none 0 0, .slice none 0 0] 29) = V3 at *
               refine hK.out _ _ (hHeld.trans kk) (fun h2 => ?_)
               clear hK K hHeld
               have hHeld := h2
               clear h2
               try simp only [Act.put, List.setIfInBounds_toArray, List.set_cons_zero, List.set_cons_succ]
               refine wpAnyH_ready (rs := [6]) (by kernel_rfl) (by simp) ?_
               refine rc (h := fun K hK => ?_) (hs := AllReadyH.nil)
               go_simp
               go_at_call 13
               refine (HT4.out V3 (KP.trans hHeld) A3 c3 B3 d3 (CellsAt.of_own hj.b.1) (CellsAt.of_own hj.v.1)).mono ?_
               rintro e V4 ⟨A, c, B, d, C, a, D, b, rfl, hz1, hz2, _, _, kk⟩
               replace h7 := h7.kept kk
               replace h8 := h8.kept kk
               have hz : R2 WP ub uv A c B d V4 := ⟨hz1, hz2⟩
               clear hz1 hz2 hj
               refine hK.out _ _ (hHeld.trans kk) (fun h2 => ?_)
               clear hK K hHeld
               have hHeld := h2
               clear h2
               try simp only [Act.put, List.setIfInBounds_toArray, List.set_cons_zero, List.set_cons_succ]
               refine tk 7 (v := ?_) (hy := Or.inl ⟨by rfl, ?_⟩) (h := ?_)
               rotate_left
               ·intro w hSw
                go_simp
                try with_reducible rfl
               simp only [Act.put, List.setIfInBounds_toArray, List.set_cons_zero, List.set_cons_succ]
               refine tk 8 (v := ?_) (hy := Or.inl ⟨by rfl, ?_⟩) (h := ?_)
               rotate_left
               ·intro w hSw
                go_simp
                try with_reducible rfl
               simp only [Act.put, List.setIfInBounds_toArray, List.set_cons_zero, List.set_cons_succ]
               refine tk 9 (v := ?_) (hy := Or.inl ⟨by rfl, ?_⟩) (h := ?_)
               rotate_left
               ·intro w hSw
                go_simp
                try with_reducible rfl
               simp only [Act.put, List.setIfInBounds_toArray, List.set_cons_zero, List.set_cons_succ]
               refine tk 10 (v := ?_) (hy := Or.inl ⟨by rfl, ?_⟩) (h := ?_)
               rotate_left
               ·intro w hSw
                go_simp
                try with_reducible rfl
               simp only [Act.put, List.setIfInBounds_toArray, List.set_cons_zero, List.set_cons_succ]
               refine wpAnyH_ready (rs := [13]) (by kernel_rfl) (by simp) ?_
               refine rc (h := fun K hK => ?_) (hs := AllReadyH.nil)
               obtain ⟨c0, c1, f0, f1, lt⟩ := box0 h7
               replace hz := hz.put h7 (Nat.le_trans HW0 gh7) (.slice A ub.length c) (.slice B uv.length d)
               replace h8 := h8.two hne (.slice A ub.length c) (.slice B uv.length d)
               replace h7 := h7.set2 (.slice A ub.length c) (.slice B uv.length d)
               have kk := put2 hHeld gh7 (.slice A ub.length c) (.slice B uv.length d)
               go_simp
               generalize (V4.setCell ⟨z, 0, none⟩ (.slice A ub.length c)).setCell ⟨z, 1, none⟩ (.slice B uv.length d) = V5 at *
               clear c0 c1 f0 f1 lt
               refine hK.out _ _ (kk) (fun h2 => ?_)
               clear hK K hHeld
               have hHeld := h2
               clear h2
               try simp only [Act.put, List.setIfInBounds_toArray, List.set_cons_zero, List.set_cons_succ]
               refine wpAnyH_ready (rs := [14]) (by kernel_rfl) (by simp) ?_
               refine rc (h := fun K hK => ?_) (hs := AllReadyH.nil)
               obtain ⟨c0, c1, f0, f1, lt⟩ := box0 h8
               replace hz := hz.put h8 (Nat.le_trans HW0 gh8) (.slice C u1_.length a) (.slice D u2_.length b)
               replace h7 := h7.two hne.symm (.slice C u1_.length a) (.slice D u2_.length b)
               replace h8 := h8.set2 (.slice C u1_.length a) (.slice D u2_.length b)
               have kk := put2 hHeld gh8 (.slice C u1_.length a) (.slice D u2_.length b)
               go_simp
               generalize (V5.setCell ⟨y, 0, none⟩ (.slice C u1_.length a)).setCell ⟨y, 1, none⟩ (.slice D u2_.length b) = V6 at *
               clear c0 c1 f0 f1 lt
               refine hK.out _ _ (kk) (fun h2 => ?_)
               clear hK K hHeld
               have hHeld := h2
               clear h2
               try simp only [Act.put, List.setIfInBounds_toArray, List.set_cons_zero, List.set_cons_succ]
               refine tk 15 (v := ?_) (hy := Or.inl ⟨by rfl, ?_⟩) (h := ?_)
               rotate_left
               ·intro w hSw
                go_simp
                try with_reducible rfl
               simp only [Act.put, List.setIfInBounds_toArray, List.set_cons_zero, List.set_cons_succ]
               refine wpAnyH_done (by kernel_rfl) ?_ _
               refine NoPanic.normal ?_
               exact hQ1.out A3 c3 B3 d3 A c B d C a D b z y _ ⟨h7, hz, hHeld⟩
             ·
              have h8 := AtB.new V1 #[.slice none 0 0, .slice none 0 0] 29
              have kk := (Kept.refl V1).alloc (.cells #[.slice none 0 0, .slice none 0 0] 29)
              replace hj := hj.kept kk
              go_simp
              obtain ⟨y, hz_⟩ : ∃ z, z = V1.heap.size := ⟨_, rfl⟩
              have gh8 : W16.heap.size ≤ y := by rw [hz_]; exact hHeld.size_le
              rw [← hz_] at h8 ⊢
              clear hz_
              generalize V1.alloc (.cells #[.slice none 0 0, .slice none 0 0] 29) = V2 at *
              refine hK.out _ _ (hHeld.trans kk) (fun h2 => ?_)
              clear hK K hHeld
              have hHeld := h2
              clear h2
              try simp only [Act.put, List.setIfInBounds_toArray, List.set_cons_zero, List.set_cons_succ]
              refine wpAnyH_ready (rs := [6, 11]) (by kernel_rfl) (by simp) ?_
              refine rc (h := fun K hK => ?_) (hs := rc (h := fun K hK => ?_) (hs := AllReadyH.nil))
              ·
               go_simp
               go_at_call 13
               refine (HT4.out V2 (KP.trans hHeld) A3 c3 B3 d3 (CellsAt.of_own hj.b.1) (CellsAt.of_own hj.v.1)).mono ?_
               rintro e V3 ⟨A, c, B, d, C, a, D, b, rfl, hz1, hz2, _, _, kk⟩
               replace h8 := h8.kept kk
               have hz : R2 WP ub uv A c B d V3 := ⟨hz1, hz2⟩
               clear hz1 hz2 hj
               refine hK.out _ _ (hHeld.trans kk) (fun h2 => ?_)
               clear hK K hHeld
               have hHeld := h2
               clear h2
               try simp only [Act.put, List.setIfInBounds_toArray, List.set_cons_zero, List.set_cons_succ]
               refine tk 7 (v := ?_) (hy := Or.inl ⟨by rfl, ?_⟩) (h := ?_)
               rotate_left
               ·intro w hSw
                go_simp
                try with_reducible rfl
               simp only [Act.put, List.setIfInBounds_toArray, List.set_cons_zero, List.set_cons_succ]
               refine tk 8 (v := ?_) (hy := Or.inl ⟨by rfl, ?_⟩) (h := ?_)
               rotate_left
               ·intro w hSw
                go_simp
                try with_reducible rfl
               simp only [Act.put, List.setIfInBounds_toArray, List.set_cons_zero, List.set_cons_succ]
               refine tk 9 (v := ?_) (hy := Or.inl ⟨by rfl, ?_⟩) (h := ?_)
               rotate_left
               ·intro w hSw
                go_simp
                try with_reducible rfl
               simp only [Act.put, List.setIfInBounds_toArray, List.set_cons_zero, List.set_cons_succ]
               refine tk 10 (v := ?_) (hy := Or.inl ⟨by rfl, ?_⟩) (h := ?_)
               rotate_left
               ·intro w hSw
                go_simp
                try with_reducible rfl
               simp only [Act.put, List.setIfInBounds_toArray, List.set_cons_zero, List.set_cons_succ]
               refine wpAnyH_ready (rs := [11]) (by kernel_rfl) (by simp) ?_
               refine rc (h := fun K hK => ?_) (hs := AllReadyH.nil)
               have h7 := AtB.new V3 #[.slice none 0 0, .slice none 0 0] 29
               have kk := (Kept.refl V3).alloc (.cells #[.slice none 0 0, .slice none 0 0] 29)
               have hlo := h8.lt
               replace hz := hz.kept kk
               replace h8 := h8.kept kk
               go_simp
               obtain ⟨z, hz_⟩ : ∃ z, z = V3.heap.size := ⟨_, rfl⟩
               have gh7 : W16.heap.size ≤ z := by rw [hz_]; exact hHeld.size_le
               have hne : z ≠ y := by omega
               clear hlo
               rw [← hz_] at h7 ⊢
               clear hz_
               generalize V3.alloc (.cells #[.slice none 0 0, .slice none 0 0] 29) = V4 at *
               refine hK.out _ _ (hHeld.trans kk) (fun h2 => ?_)
               clear hK K hHeld
               have hHeld := h2
               clear h2
               try simp only [Act.put, List.setIfInBounds_toArray, List.set_cons_zero, List.set_cons_succ]
               refine wpAnyH_ready (rs := [13]) (by kernel_rfl) (by simp) ?_
               refine rc (h := fun K hK => ?_) (hs := AllReadyH.nil)
               obtain ⟨c0, c1, f0, f1, lt⟩ := box0 h7
               replace hz := hz.put h7 (Nat.le_trans HW0 gh7) (.slice A ub.length c) (.slice B uv.length d)
               replace h8 := h8.two hne (.slice A ub.length c) (.slice B uv.length d)
               replace h7 := h7.set2 (.slice A ub.length c) (.slice B uv.length d)
               have kk := put2 hHeld gh7 (.slice A ub.length c) (.slice B uv.length d)
               go_simp
               generalize (V4.setCell ⟨z, 0, none⟩ (.slice A ub.length c)).setCell ⟨z, 1, none⟩ (.slice B uv.length d) = V5 at *
               clear c0 c1 f0 f1 lt
               refine hK.out _ _ (kk) (fun h2 => ?_)
               clear hK K hHeld
               have hHeld := h2
               clear h2
               try simp only [Act.put, List.setIfInBounds_toArray, List.set_cons_zero, List.set_cons_succ]
               refine wpAnyH_ready (rs := [14]) (by kernel_rfl) (by simp) ?_
               refine rc (h := fun K hK => ?_) (hs := AllReadyH.nil)
               obtain ⟨c0, c1, f0, f1, lt⟩ := box0 h8
               replace hz := hz.put h8 (Nat.le_trans HW0 gh8) (.slice C u1_.length a) (.slice D u2_.length b)
               replace h7 := h7.two hne.symm (.slice C u1_.length a) (.slice D u2_.length b)
               replace h8 := h8.set2 (.slice C u1_.length a) (.slice D u2_.length b)
               have kk := put2 hHeld gh8 (.slice C u1_.length a) (.slice D u2_.length b)
               go_simp
               generalize (V5.setCell ⟨y, 0, none⟩ (.slice C u1_.length a)).setCell ⟨y, 1, none⟩ (.slice D u2_.length b) = V6 at *
               clear c0 c1 f0 f1 lt
               refine hK.out _ _ (kk) (fun h2 => ?_)
               clear hK K hHeld
               have hHeld := h2
               clear h2
               try simp only [Act.put, List.setIfInBounds_toArray, List.set_cons_zero, List.set_cons_succ]
               refine tk 15 (v := ?_) (hy := Or.inl ⟨by rfl, ?_⟩) (h := ?_)
               rotate_left
               ·intro w hSw
                go_simp
                try with_reducible rfl
               simp only [Act.put, List.setIfInBounds_toArray, List.set_cons_zero, List.set_cons_succ]
               refine wpAnyH_done (by kernel_rfl) ?_ _
               refine NoPanic.normal ?_
               exact hQ1.out A3 c3 B3 d3 A c B d C a D b z y _ ⟨h7, hz, hHeld⟩
              ·
               have h7 := AtB.new V2 #[.slice none 0 0, .slice none 0 0] 29
               have kk := (Kept.refl V2).alloc (.cells #[.slice none 0 0, .slice none 0 0] 29)
               have hlo := h8.lt
               replace hj := hj.kept kk
               replace h8 := h8.kept kk
               go_simp
               obtain ⟨z, hz_⟩ : ∃ z, z = V2.heap.size := ⟨_, rfl⟩
               have gh7 : W16.heap.size ≤ z := by rw [hz_]; exact hHeld.size_le
               have hne : z ≠ y := by omega
               clear hlo
               rw [← hz_] at h7 ⊢
               clear hz_
               generalize V2.alloc (.cells #[.slice none 0 0, .slice none 0 0] 29) = V3 at *
               refine hK.out _ _ (hHeld.trans kk) (fun h2 => ?_)
               clear hK K hHeld
               have hHeld := h2
               clear h2
               try simp only [Act.put, List.setIfInBounds_toArray, List.set_cons_zero, List.set_cons_succ]
               refine wpAnyH_ready (rs := [6]) (by kernel_rfl) (by simp) ?_
               refine rc (h := fun K hK => ?_) (hs := AllReadyH.nil)
               go_simp
               go_at_call 13
               refine (HT4.out V3 (KP.trans hHeld) A3 c3 B3 d3 (CellsAt.of_own hj.b.1) (CellsAt.of_own hj.v.1)).mono ?_
               rintro e V4 ⟨A, c, B, d, C, a, D, b, rfl, hz1, hz2, _, _, kk⟩
               replace h7 := h7.kept kk
               replace h8 := h8.kept kk
               have hz : R2 WP ub uv A c B d V4 := ⟨hz1, hz2⟩
               clear hz1 hz2 hj
               refine hK.out _ _ (hHeld.trans kk) (fun h2 => ?_)
               clear hK K hHeld
               have hHeld := h2
               clear h2
               try simp only [Act.put, List.setIfInBounds_toArray, List.set_cons_zero, List.set_cons_succ]
               refine tk 7 (v := ?_) (hy := Or.inl ⟨by rfl, ?_⟩) (h := ?_)
               rotate_left
               ·intro w hSw
                go_simp
                try with_reducible rfl
               simp only [Act.put, List.setIfInBounds_toArray, List.set_cons_zero, List.set_cons_succ]
               refine tk 8 (v := ?_) (hy := Or.inl ⟨by rfl, ?_⟩) (h := ?_)
               rotate_left
               ·intro w hSw
                go_simp
                try with_reducible rfl
               simp only [Act.put, List.setIfInBounds_toArray, List.set_cons_zero, List.set_cons_succ]
               refine tk 9 (v := ?_) (hy := Or.inl ⟨by rfl, ?_⟩) (h := ?_)
               rotate_left
               ·intro w hSw
                go_simp
                try with_reducible rfl
               simp only [Act.put, List.setIfInBounds_toArray, List.set_cons_zero, List.set_cons_succ]
               refine tk 10 (v := ?_) (hy := Or.inl ⟨by rfl, ?_⟩) (h := ?_)
               rotate_left
               ·intro w hSw
                go_simp
                try with_reducible rfl
               simp only [Act.put, List.setIfInBounds_toArray, List.set_cons_zero, List.set_cons_succ]
               refine wpAnyH_ready (rs := [13]) (by kernel_rfl) (by simp) ?_
               refine rc (h := fun K hK => ?_) (hs := AllReadyH.nil)
               obtain ⟨c0, c1, f0, f1, lt⟩ := box0 h7
               replace hz := hz.put h7 (Nat.le_trans HW0 gh7) (.slice A ub.length c) (.slice B uv.length d)
               replace h8 := h8.two hne (.slice A ub.length c) (.slice B uv.length d)
               replace h7 := h7.set2 (.slice A ub.length c) (.slice B uv.length d)
               have kk := put2 hHeld gh7 (.slice A ub.length c) (.slice B uv.length d)
               go_simp
               generalize (V4.setCell ⟨z, 0, none⟩ (.slice A ub.length c)).setCell ⟨z, 1, none⟩ (.slice B uv.length d) = V5 at *
               clear c0 c1 f0 f1 lt
               refine hK.out _ _ (kk) (fun h2 => ?_)
               clear hK K hHeld
               have hHeld := h2
               clear h2
               try simp only [Act.put, List.setIfInBounds_toArray, List.set_cons_zero, List.set_cons_succ]
               refine wpAnyH_ready (rs := [14]) (by kernel_rfl) (by simp) ?_
               refine rc (h := fun K hK => ?_) (hs := AllReadyH.nil)
               obtain ⟨c0, c1, f0, f1, lt⟩ := box0 h8
               replace hz := hz.put h8 (Nat.le_trans HW0 gh8) (.slice C u1_.length a) (.slice D u2_.length b)
               replace h7 := h7.two hne.symm (.slice C u1_.length a) (.slice D u2_.length b)
               replace h8 := h8.set2 (.slice C u1_.length a) (.slice D u2_.length b)
               have kk := put2 hHeld gh8 (.slice C u1_.length a) (.slice D u2_.length b)
               go_simp
               generalize (V5.setCell ⟨y, 0, none⟩ (.slice C u1_.length a)).setCell ⟨y, 1, none⟩ (.slice D u2_.length b) = V6 at *
               clear c0 c1 f0 f1 lt
               refine hK.out _ _ (kk) (fun h2 => ?_)
               clear hK K hHeld
               have hHeld := h2
               clear h2
               try simp only [Act.put, List.setIfInBounds_toArray, List.set_cons_zero, List.set_cons_succ]
               refine tk 15 (v := ?_) (hy := Or.inl ⟨by rfl, ?_⟩) (h := ?_)
               rotate_left
               ·intro w hSw
                go_simp
                try with_reducible rfl
               simp only [Act.put, List.setIfInBounds_toArray, List.set_cons_zero, List.set_cons_succ]
               refine wpAnyH_done (by kernel_rfl) ?_ _
               refine NoPanic.normal ?_
               exact hQ1.out A3 c3 B3 d3 A c B d C a D b z y _ ⟨h7, hz, hHeld⟩
            ·
             have h7 := AtB.new V0 #[.slice none 0 0, .slice none 0 0] 29
             have kk := (Kept.refl V0).alloc (.cells #[.slice none 0 0, .slice none 0 0] 29)
             go_simp
             obtain ⟨z, hz_⟩ : ∃ z, z = V0.heap.size := ⟨_, rfl⟩
             have gh7 : W16.heap.size ≤ z := by rw [hz_]; exact hHeld.size_le
             rw [← hz_] at h7 ⊢
             clear hz_
             generalize V0.alloc (.cells #[.slice none 0 0, .slice none 0 0] 29) = V1 at *
             refine hK.out _ _ (hHeld.trans kk) (fun h2 => ?_)
             clear hK K hHeld
             have hHeld := h2
             clear h2
             try simp only [Act.put, List.setIfInBounds_toArray, List.set_cons_zero, List.set_cons_succ]
             refine wpAnyH_ready (rs := [4, 12]) (by kernel_rfl) (by simp) ?_
             refine rc (h := fun K hK => ?_) (hs := rc (h := fun K hK => ?_) (hs := AllReadyH.nil))
             ·
              go_simp
              go_at_call 15
              refine (HJ4.out V1 (KP.trans hHeld)).mono ?_
              rintro e V2 ⟨A3, c3, B3, d3, rfl, hj1, hj2, kk⟩
              replace h7 := h7.kept kk
              have hj : R2 WP _ _ A3 c3 B3 d3 V2 := ⟨hj1, hj2⟩
              clear hj1 hj2
              refine hK.out _ _ (hHeld.trans kk) (fun h2 => ?_)
              clear hK K hHeld
              have hHeld := h2
              clear h2
              try simp only [Act.put, List.setIfInBounds_toArray, List.set_cons_zero, List.set_cons_succ]
              refine wpAnyH_ready (rs := [6, 12]) (by kernel_rfl) (by simp) ?_
              refine rc (h := fun K hK => ?_) (hs := rc (h := fun K hK => ?_) (hs := AllReadyH.nil))
              ·
               go_simp
               go_at_call 13
               refine (HT4.out V2 (KP.trans hHeld) A3 c3 B3 d3 (CellsAt.of_own hj.b.1) (CellsAt.of_own hj.v.1)).mono ?_
               rintro e V3 ⟨A, c, B, d, C, a, D, b, rfl, hz1, hz2, _, _, kk⟩
               replace h7 := h7.kept kk
               have hz : R2 WP ub uv A c B d V3 := ⟨hz1, hz2⟩
               clear hz1 hz2 hj
               refine hK.out _ _ (hHeld.trans kk) (fun h2 => ?_)
               clear hK K hHeld
               have hHeld := h2
               clear h2
               try simp only [Act.put, List.setIfInBounds_toArray, List.set_cons_zero, List.set_cons_succ]
               refine tk 7 (v := ?_) (hy := Or.inl ⟨by rfl, ?_⟩) (h := ?_)
               rotate_left
               ·intro w hSw
                go_simp
                try with_reducible rfl
               simp only [Act.put, List.setIfInBounds_toArray, List.set_cons_zero, List.set_cons_succ]
               refine tk 8 (v := ?_) (hy := Or.inl ⟨by rfl, ?_⟩) (h := ?_)
               rotate_left
               ·intro w hSw
                go_simp
                try with_reducible rfl
               simp only [Act.put, List.setIfInBounds_toArray, List.set_cons_zero, List.set_cons_succ]
               refine tk 9 (v := ?_) (hy := Or.inl ⟨by rfl, ?_⟩) (h := ?_)
               rotate_left
               ·intro w hSw
                go_simp
                try with_reducible rfl
               simp only [Act.put, List.setIfInBounds_toArray, List.set_cons_zero, List.set_cons_succ]
               refine tk 10 (v := ?_) (hy := Or.inl ⟨by rfl, ?_⟩) (h := ?_)
               rotate_left
               ·intro w hSw
                go_simp
                try with_reducible rfl
               simp only [Act.put, List.setIfInBounds_toArray, List.set_cons_zero, List.set_cons_succ]
               refine wpAnyH_ready (rs := [12]) (by kernel_rfl) (by simp) ?_
               refine rc (h := fun K hK => ?_) (hs := AllReadyH.nil)
               have h8 := AtB.new V3 #[.slice none 0 0, .slice none 0 0] 29
               have kk := (Kept.refl V3).alloc (.cells #[.slice none 0 0, .slice none 0 0] 29)
               have hlo := h7.lt
               replace hz := hz.kept kk
               replace h7 := h7.kept kk
               go_simp
               obtain ⟨y, hz_⟩ : ∃ z, z = V3.heap.size := ⟨_, rfl⟩
               have gh8 : W16.heap.size ≤ y := by rw [hz_]; exact hHeld.size_le
               have hne : z ≠ y := by omega
               clear hlo
               rw [← hz_] at h8 ⊢
               clear hz_
               generalize V3.alloc (.cells #[.slice none 0 0, .slice none 0 0] 29) = V4 at *
               refine hK.out _ _ (hHeld.trans kk) (fun h2 => ?_)
               clear hK K hHeld
               have hHeld := h2
               clear h2
               try simp only [Act.put, List.setIfInBounds_toArray, List.set_cons_zero, List.set_cons_succ]
               refine wpAnyH_ready (rs := [13]) (by kernel_rfl) (by simp) ?_
               refine rc (h := fun K hK => ?_) (hs := AllReadyH.nil)
               obtain ⟨c0, c1, f0, f1, lt⟩ := box0 h7
               replace hz := hz.put h7 (Nat.le_trans HW0 gh7) (.slice A ub.length c) (.slice B uv.length d)
               replace h8 := h8.two hne (.slice A ub.length c) (.slice B uv.length d)
               replace h7 := h7.set2 (.slice A ub.length c) (.slice B uv.length d)
               have kk := put2 hHeld gh7 (.slice A ub.length c) (.slice B uv.length d)
               go_simp
               generalize (V4.setCell ⟨z, 0, none⟩ (.slice A ub.length c)).setCell ⟨z, 1, none⟩ (.slice B uv.length d) = V5 at *
               clear c0 c1 f0 f1 lt
               refine hK.out _ _ (kk) (fun h2 => ?_)
               clear hK K hHeld
               have hHeld := h2
               clear h2
               try simp only [Act.put, List.setIfInBounds_toArray, List.set_cons_zero, List.set_cons_succ]
               refine wpAnyH_ready (rs := [14]) (by kernel_rfl) (by simp) ?_
               refine rc (h := fun K hK => ?_) (hs := AllReadyH.nil)
               obtain ⟨c0, c1, f0, f1, lt⟩ := box0 h8
               replace hz := hz.put h8 (Nat.le_trans HW0 gh8) (.slice C u1_.length a) (.slice D u2_.length b)
               replace h7 := h7.two hne.symm (.slice C u1_.length a) (.slice D u2_.length b)
               replace h8 := h8.set2 (.slice C u1_.length a) (.slice D u2_.length b)
               have kk := put2 hHeld gh8 (.slice C u1_.length a) (.slice D u2_.length b)
               go_simp
               generalize (V5.setCell ⟨y, 0, none⟩ (.slice C u1_.length a)).setCell ⟨y, 1, none⟩ (.slice D u2_.length b) = V6 at *
               clear c0 c1 f0 f1 lt
               refine hK.out _ _ (kk) (fun h2 => ?_)
               clear hK K hHeld
               have hHeld := h2
               clear h2
               try simp only [Act.put, List.setIfInBounds_toArray, List.set_cons_zero, List.set_cons_succ]
               refine tk 15 (v := ?_) (hy := Or.inl ⟨by rfl, ?_⟩) (h := ?_)
               rotate_left
               ·intro w hSw
                go_simp
                try with_reducible rfl
               simp only [Act.put, List.setIfInBounds_toArray, List.set_cons_zero, List.set_cons_succ]
               refine wpAnyH_done (by kernel_rfl) ?_ _
               refine NoPanic.normal ?_
               exact hQ1.out A3 c3 B3 d3 A c B d C a D b z y _ ⟨h7, hz, hHeld⟩
              ·
               have h8 := AtB.new V2 #[.slice none 0 0, .slice none 0 0] 29
               have kk := (Kept.refl V2).alloc (.cells #[.slice none 0 0, .slice none 0 0] 29)
               have hlo := h7.lt
               replace hj := hj.kept kk
               replace h7 := h7.kept kk
               go_simp
               obtain ⟨y, hz_⟩ : ∃ z, z = V2.heap.size := ⟨_, rfl⟩
               have gh8 : W16.heap.size ≤ y := by rw [hz_]; exact hHeld.size_le
               have hne : z ≠ y := by omega
               clear hlo
               rw [← hz_] at h8 ⊢
               clear hz_
               generalize V2.alloc (.cells #[.slice none 0 0, .slice none 0 0] 29) = V3 at *
               refine hK.out _ _ (hHeld.trans kk) (fun h2 => ?_)
               clear hK K hHeld
               have hHeld := h2
               clear h2
               try simp only [Act.put, List.setIfInBounds_toArray, List.set_cons_zero, List.set_cons_succ]
               refine wpAnyH_ready (rs := [6]) (by kernel_rfl) (by simp) ?_
               refine rc (h := fun K hK => ?_) (hs := AllReadyH.nil)
               go_simp
               go_at_call 13
               refine (HT4.out V3 (KP.trans hHeld) A3 c3 B3 d3 (CellsAt.of_own hj.b.1) (CellsAt.of_own hj.v.1)).mono ?_
               rintro e V4 ⟨A, c, B, d, C, a, D, b, rfl, hz1, hz2, _, _, kk⟩
               replace h7 := h7.kept kk
               replace h8 := h8.kept kk
               have hz : R2 WP ub uv A c B d V4 := ⟨hz1, hz2⟩
               clear hz1 hz2 hj
               refine hK.out _ _ (hHeld.trans kk) (fun h2 => ?_)
               clear hK K hHeld
               have hHeld := h2
               clear h2
               try simp only [Act.put, List.setIfInBounds_toArray, List.set_cons_zero, List.set_cons_succ]
               refine tk 7 (v := ?_) (hy := Or.inl ⟨by rfl, ?_⟩) (h := ?_)
               rotate_left
               ·intro w hSw
                go_simp
                try with_reducible rfl
               simp only [Act.put, List.setIfInBounds_toArray, List.set_cons_zero, List.set_cons_succ]
               refine tk 8 (v := ?_) (hy := Or.inl ⟨by rfl, ?_⟩) (h := ?_)
               rotate_left
               ·intro w hSw
                go_simp
                try with_reducible rfl
               simp only [Act.put, List.setIfInBounds_toArray, List.set_cons_zero, List.set_cons_succ]
               refine tk 9 (v := ?_) (hy := Or.inl ⟨by rfl, ?_⟩) (h := ?_)
               rotate_left
               ·intro w hSw
                go_simp
                try with_reducible rfl
               simp only [Act.put, List.setIfInBounds_toArray, List.set_cons_zero, List.set_cons_succ]
               refine tk 10 (v := ?_) (hy := Or.inl ⟨by rfl, ?_⟩) (h := ?_)
               rotate_left
               ·intro w hSw
                go_simp
                try with_reducible rfl
               simp only [Act.put, List.setIfInBounds_toArray, List.set_cons_zero, List.set_cons_succ]
               refine wpAnyH_ready (rs := [13]) (by kernel_rfl) (by simp) ?_
               refine rc (h := fun K hK => ?_) (hs := AllReadyH.nil)
               obtain ⟨c0, c1, f0, f1, lt⟩ := box0 h7
               replace hz := hz.put h7 (Nat.le_trans HW0 gh7) (.slice A ub.length c) (.slice B uv.length d)
               replace h8 := h8.two hne (.slice A ub.length c) (.slice B uv.length d)
               replace h7 := h7.set2 (.slice A ub.length c) (.slice B uv.length d)
               have kk := put2 hHeld gh7 (.slice A ub.length c) (.slice B uv.length d)
               go_simp
               generalize (V4.setCell ⟨z, 0, none⟩ (.slice A ub.length c)).setCell ⟨z, 1, none⟩ (.slice B uv.length d) = V5 at *
               clear c0 c1 f0 f1 lt
               refine hK.out _ _ (kk) (fun h2 => ?_)
               clear hK K hHeld
               have hHeld := h2
               clear h2
               try simp only [Act.put, List.setIfInBounds_toArray, List.set_cons_zero, List.set_cons_succ]
               refine wpAnyH_ready (rs := [14]) (by kernel_rfl) (by simp) ?_
               refine rc (h := fun K hK => ?_) (hs := AllReadyH.nil)
               obtain ⟨c0, c1, f0, f1, lt⟩ := box0 h8
               replace hz := hz.put h8 (Nat.le_trans HW0 gh8) (.slice C u1_.length a) (.slice D u2_.length b)
               replace h7 := h7.two hne.symm (.slice C u1_.length a) (.slice D u2_.length b)
               replace h8 := h8.set2 (.slice C u1_.length a) (.slice D u2_.length b)
               have kk := put2 hHeld gh8 (.slice C u1_.length a) (.slice D u2_.length b)
               go_simp
               generalize (V5.setCell ⟨y, 0, none⟩ (.slice C u1_.length a)).setCell ⟨y, 1, none⟩ (.slice D u2_.length b) = V6 at *
               clear c0 c1 f0 f1 lt
               refine hK.out _ _ (kk) (fun h2 => ?_)
               clear hK K hHeld
               have hHeld := h2
               clear h2
               try simp only [Act.put, List.setIfInBounds_toArray, List.set_cons_zero, List.set_cons_succ]
               refine tk 15 (v := ?_) (hy := Or.inl ⟨by rfl, ?_⟩) (h := ?_)
               rotate_left
               ·intro w hSw
                go_simp
                try with_reducible rfl
               simp only [Act.put, List.setIfInBounds_toArray, List.set_cons_zero, List.set_cons_succ]
               refine wpAnyH_done (by kernel_rfl) ?_ _
               refine NoPanic.normal ?_
               exact hQ1.out A3 c3 B3 d3 A c B d C a D b z y _ ⟨h7, hz, hHeld⟩
             ·
              have h8 := AtB.new V1 #[.slice none 0 0, .slice none 0 0] 29
              have kk := (Kept.refl V1).alloc (.cells #[.slice none 0 0, .slice none 0 0] 29)
              have hlo := h7.lt
              replace h7 := h7.kept kk
              go_simp
              obtain ⟨y, hz_⟩ : ∃ z, z = V1.heap.size := ⟨_, rfl⟩
              have gh8 : W16.heap.size ≤ y := by rw [hz_]; exact hHeld.size_le
              have hne : z ≠ y := by omega
              clear hlo
              rw [← hz_] at h8 ⊢
              clear hz_
              generalize V1.alloc (.cells #[.slice none 0 0, .slice none 0 0] 29) = V2 at *
              refine hK.out _ _ (hHeld.trans kk) (fun h2 => ?_)
              clear hK K hHeld
              have hHeld := h2
              clear h2
              try simp only [Act.put, List.setIfInBounds_toArray, List.set_cons_zero, List.set_cons_succ]
              refine wpAnyH_ready (rs := [4]) (by kernel_rfl) (by simp) ?_
              refine rc (h := fun K hK => ?_) (hs := AllReadyH.nil)
              go_simp
              go_at_call 15
              refine (HJ4.out V2 (KP.trans hHeld)).mono ?_
              rintro e V3 ⟨A3, c3, B3, d3, rfl, hj1, hj2, kk⟩
              replace h7 := h7.kept kk
              replace h8 := h8.kept kk
              have hj : R2 WP _ _ A3 c3 B3 d3 V3 := ⟨hj1, hj2⟩
              clear hj1 hj2
              refine hK.out _ _ (hHeld.trans kk) (fun h2 => ?_)
              clear hK K hHeld
              have hHeld := h2
              clear h2
              try simp only [Act.put, List.setIfInBounds_toArray, List.set_cons_zero, List.set_cons_succ]
              refine wpAnyH_ready (rs := [6]) (by kernel_rfl) (by simp) ?_
              refine rc (h := fun K hK => ?_) (hs := AllReadyH.nil)
              go_simp
              go_at_call 13
              refine (HT4.out V3 (KP.trans hHeld) A3 c3 B3 d3 (CellsAt.of_own hj.b.1) (CellsAt.of_own hj.v.1)).mono ?_
              rintro e V4 ⟨A, c, B, d, C, a, D, b, rfl, hz1, hz2, _, _, kk⟩
              replace h7 := h7.kept kk
              replace h8 := h8.kept kk
              have hz : R2 WP ub uv A c B d V4 := ⟨hz1, hz2⟩
              clear hz1 hz2 hj
              refine hK.out _ _ (hHeld.trans kk) (fun h2 => ?_)
              clear hK K hHeld
              have hHeld := h2
              clear h2
              try simp only [Act.put, List.setIfInBounds_toArray, List.set_cons_zero, List.set_cons_succ]
              refine tk 7 (v := ?_) (hy := Or.inl ⟨by rfl, ?_⟩) (h := ?_)
              rotate_left
              ·intro w hSw
               go_simp
               try with_reducible rfl
              simp only [Act.put, List.setIfInBounds_toArray, List.set_cons_zero, List.set_cons_succ]
              refine tk 8 (v := ?_) (hy := Or.inl ⟨by rfl, ?_⟩) (h := ?_)
              rotate_left
              ·intro w hSw
               go_simp
               try with_reducible rfl
              simp only [Act.put, List.setIfInBounds_toArray, List.set_cons_zero, List.set_cons_succ]
              refine tk 9 (v := ?_) (hy := Or.inl ⟨by rfl, ?_⟩) (h := ?_)
              rotate_left
              ·intro w hSw
               go_simp
               try with_reducible rfl
              simp only [Act.put, List.setIfInBounds_toArray, List.set_cons_zero, List.set_cons_succ]
              refine tk 10 (v := ?_) (hy := Or.inl ⟨by rfl, ?_⟩) (h := ?_)
              rotate_left
              ·intro w hSw
               go_simp
               try with_reducible rfl
              simp only [Act.put, List.setIfInBounds_toArray, List.set_cons_zero, List.set_cons_succ]
              refine wpAnyH_ready (rs := [13]) (by kernel_rfl) (by simp) ?_
              refine rc (h := fun K hK => ?_) (hs := AllReadyH.nil)
              obtain ⟨c0, c1, f0, f1, lt⟩ := box0 h7
              replace hz := hz.put h7 (Nat.le_trans HW0 gh7) (.slice A ub.length c) (.slice B uv.length d)
              replace h8 := h8.two hne (.slice A ub.length c) (.slice B uv.length d)
              replace h7 := h7.set2 (.slice A ub.length c) (.slice B uv.length d)
              have kk := put2 hHeld gh7 (.slice A ub.length c) (.slice B uv.length d)
              go_simp
              generalize (V4.setCell ⟨z, 0, none⟩ (.slice A ub.length c)).setCell ⟨z, 1, none⟩ (.slice B uv.length d) = V5 at *
              clear c0 c1 f0 f1 lt
              refine hK.out _ _ (kk) (fun h2 => ?_)
              clear hK K hHeld
              have hHeld := h2
              clear h2
              try simp only [Act.put, List.setIfInBounds_toArray, List.set_cons_zero, List.set_cons_succ]
              refine wpAnyH_ready (rs := [14]) (by kernel_rfl) (by simp) ?_
              refine rc (h := fun K hK => ?_) (hs := AllReadyH.nil)
              obtain ⟨c0, c1, f0, f1, lt⟩ := box0 h8
              replace hz := hz.put h8 (Nat.le_trans HW0 gh8) (.slice C u1_.length a) (.slice D u2_.length b)
              replace h7 := h7.two hne.symm (.slice C u1_.length a) (.slice D u2_.length b)
              replace h8 := h8.set2 (.slice C u1_.length a) (.slice D u2_.length b)
              have kk := put2 hHeld gh8 (.slice C u1_.length a) (.slice D u2_.length b)
              go_simp
              generalize (V5.setCell ⟨y, 0, none⟩ (.slice C u1_.length a)).setCell ⟨y, 1, none⟩ (.slice D u2_.length b) = V6 at *
              clear c0 c1 f0 f1 lt
              refine hK.out _ _ (kk) (fun h2 => ?_)
              clear hK K hHeld
              have hHeld := h2
              clear h2
              try simp only [Act.put, List.setIfInBounds_toArray, List.set_cons_zero, List.set_cons_succ]
              refine tk 15 (v := ?_) (hy := Or.inl ⟨by rfl, ?_⟩) (h := ?_)
              rotate_left
              ·intro w hSw
               go_simp
               try with_reducible rfl
              simp only [Act.put, List.setIfInBounds_toArray, List.set_cons_zero, List.set_cons_succ]
              refine wpAnyH_done (by kernel_rfl) ?_ _
              refine NoPanic.normal ?_
              exact hQ1.out A3 c3 B3 d3 A c B d C a D b z y _ ⟨h7, hz, hHeld⟩
            ·
             have h8 := AtB.new V0 #[.slice none 0 0, .slice none 0 0] 29
             have kk := (Kept.refl V0).alloc (.cells #[.slice none 0 0, .slice none 0 0] 29)
             go_simp
             obtain ⟨y, hz_⟩ : ∃ z, z = V0.heap.size := ⟨_, rfl⟩
             have gh8 : W16.heap.size ≤ y := by rw [hz_]; exact hHeld.size_le
             rw [← hz_] at h8 ⊢
             clear hz_
             generalize V0.alloc (.cells #[.slice none 0 0, .slice none 0 0] 29) = V1 at *
             refine hK.out _ _ (hHeld.trans kk) (fun h2 => ?_)
             clear hK K hHeld
             have hHeld := h2
             clear h2
             try simp only [Act.put, List.setIfInBounds_toArray, List.set_cons_zero, List.set_cons_succ]
             refine wpAnyH_ready (rs := [4, 11]) (by kernel_rfl) (by simp) ?_
             refine rc (h := fun K hK => ?_) (hs := rc (h := fun K hK => ?_) (hs := AllReadyH.nil))
             ·
              go_simp
              go_at_call 15
              refine (HJ4.out V1 (KP.trans hHeld)).mono ?_
              rintro e V2 ⟨A3, c3, B3, d3, rfl, hj1, hj2, kk⟩
              replace h8 := h8.kept kk
              have hj : R2 WP _ _ A3 c3 B3 d3 V2 := ⟨hj1, hj2⟩
              clear hj1 hj2
              refine hK.out _ _ (hHeld.trans kk) (fun h2 => ?_)
              clear hK K hHeld
              have hHeld := h2
              clear h2
              try simp only [Act.put, List.setIfInBounds_toArray, List.set_cons_zero, List.set_cons_succ]
              refine wpAnyH_ready (rs := [6, 11]) (by kernel_rfl) (by simp) ?_
              refine rc (h := fun K hK => ?_) (hs := rc (h := fun K hK => ?_) (hs := AllReadyH.nil))
              ·
               go_simp
               go_at_call 13
               refine (HT4.out V2 (KP.trans hHeld) A3 c3 B3 d3 (CellsAt.of_own hj.b.1) (CellsAt.of_own hj.v.1)).mono ?_
               rintro e V3 ⟨A, c, B, d, C, a, D, b, rfl, hz1, hz2, _, _, kk⟩
               replace h8 := h8.kept kk
               have hz : R2 WP ub uv A c B d V3 := ⟨hz1, hz2⟩
               clear hz1 hz2 hj
               refine hK.out _ _ (hHeld.trans kk) (fun h2 => ?_)
               clear hK K hHeld
               have hHeld := h2
               clear h2
               try simp only [Act.put, List.setIfInBounds_toArray, List.set_cons_zero, List.set_cons_succ]
               refine tk 7 (v := ?_) (hy := Or.inl ⟨by rfl, ?_⟩) (h := ?_)
               rotate_left
               ·intro w hSw
                go_simp
                try with_reducible rfl
               simp only [Act.put, List.setIfInBounds_toArray, List.set_cons_zero, List.set_cons_succ]
               refine tk 8 (v := ?_) (hy := Or.inl ⟨by rfl, ?_⟩) (h := ?_)
               rotate_left
               ·intro w hSw
                go_simp
                try with_reducible rfl
               simp only [Act.put, List.setIfInBounds_toArray, List.set_cons_zero, List.set_cons_succ]
               refine tk 9 (v := ?_) (hy := Or.inl ⟨by rfl, ?_⟩) (h := ?_)
               rotate_left
               ·intro w hSw
                go_simp
                try with_reducible rfl
               simp only [Act.put, List.setIfInBounds_toArray, List.set_cons_zero, List.set_cons_succ]
               refine tk 10 (v := ?_) (hy := Or.inl ⟨by rfl, ?_⟩) (h := ?_)
               rotate_left
               ·intro w hSw
                go_simp
                try with_reducible rfl
               simp only [Act.put, List.setIfInBounds_toArray, List.set_cons_zero, List.set_cons_succ]
               refine wpAnyH_ready (rs := [11]) (by kernel_rfl) (by simp) ?_
               refine rc (h := fun K hK => ?_) (hs := AllReadyH.nil)
               have h7 := AtB.new V3 #[.slice none 0 0, .slice none 0 0] 29
               have kk := (Kept.refl V3).alloc (.cells #[.slice none 0 0, .slice none 0 0] 29)
               have hlo := h8.lt
               replace hz := hz.kept kk
               replace h8 := h8.kept kk
               go_simp
               obtain ⟨z, hz_⟩ : ∃ z, z = V3.heap.size := ⟨_, rfl⟩
               have gh7 : W16.heap.size ≤ z := by rw [hz_]; exact hHeld.size_le
               have hne : z ≠ y := by omega
               clear hlo
               rw [← hz_] at h7 ⊢
               clear hz_
               generalize V3.alloc (.cells #[.slice none 0 0, .slice none 0 0] 29) = V4 at *
               refine hK.out _ _ (hHeld.trans kk) (fun h2 => ?_)
               clear hK K hHeld
               have hHeld := h2
               clear h2
               try simp only [Act.put, List.setIfInBounds_toArray, List.set_cons_zero, List.set_cons_succ]
               refine wpAnyH_ready (rs := [13]) (by kernel_rfl) (by simp) ?_
               refine rc (h := fun K hK => ?_) (hs := AllReadyH.nil)
               obtain ⟨c0, c1, f0, f1, lt⟩ := box0 h7
               replace hz := hz.put h7 (Nat.le_trans HW0 gh7) (.slice A ub.length c) (.slice B uv.length d)
               replace h8 := h8.two hne (.slice A ub.length c) (.slice B uv.length d)
               replace h7 := h7.set2 (.slice A ub.length c) (.slice B uv.length d)
               have kk := put2 hHeld gh7 (.slice A ub.length c) (.slice B uv.length d)
               go_simp
               generalize (V4.setCell ⟨z, 0, none⟩ (.slice A ub.length c)).setCell ⟨z, 1, none⟩ (.slice B uv.length d) = V5 at *
               clear c0 c1 f0 f1 lt
               refine hK.out _ _ (kk) (fun h2 => ?_)
               clear hK K hHeld
               have hHeld := h2
               clear h2
               try simp only [Act.put, List.setIfInBounds_toArray, List.set_cons_zero, List.set_cons_succ]
               refine wpAnyH_ready (rs := [14]) (by kernel_rfl) (by simp) ?_
               refine rc (h := fun K hK => ?_) (hs := AllReadyH.nil)
               obtain ⟨c0, c1, f0, f1, lt⟩ := box0 h8
               replace hz := hz.put h8 (Nat.le_trans HW0 gh8) (.slice C u1_.length a) (.slice D u2_.length b)
               replace h7 := h7.two hne.symm (.slice C u1_.length a) (.slice D u2_.length b)
               replace h8 := h8.set2 (.slice C u1_.length a) (.slice D u2_.length b)
               have kk := put2 hHeld gh8 (.slice C u1_.length a) (.slice D u2_.length b)
               go_simp
               generalize (V5.setCell ⟨y, 0, none⟩ (.slice C u1_.length a)).setCell ⟨y, 1, none⟩ (.slice D u2_.length b) = V6 at *
               clear c0 c1 f0 f1 lt
               refine hK.out _ _ (kk) (fun h2 => ?_)
               clear hK K hHeld
               have hHeld := h2
               clear h2
               try simp only [Act.put, List.setIfInBounds_toArray, List.set_cons_zero, List.set_cons_succ]
               refine tk 15 (v := ?_) (hy := Or.inl ⟨by rfl, ?_⟩) (h := ?_)
               rotate_left
               ·intro w hSw
                go_simp
                try with_reducible rfl
               simp only [Act.put, List.setIfInBounds_toArray, List.set_cons_zero, List.set_cons_succ]
               refine wpAnyH_done (by kernel_rfl) ?_ _
               refine NoPanic.normal ?_
               exact hQ1.out A3 c3 B3 d3 A c B d C a D b z y _ ⟨h7, hz, hHeld⟩
              ·
               have h7 := AtB.new V2 #[.slice none 0 0, .slice none 0 0] 29
               have kk := (Kept.refl V2).alloc (.cells #[.slice none 0 0, .slice none 0 0] 29)
               have hlo := h8.lt
               replace hj := hj.kept kk
               replace h8 := h8.kept kk
               go_simp
               obtain ⟨z, hz_⟩ : ∃ z, z = V2.heap.size := ⟨_, rfl⟩
               have gh7 : W16.heap.size ≤ z := by rw [hz_]; exact hHeld.size_le
               have hne : z ≠ y := by omega
               clear hlo
               rw [← hz_] at h7 ⊢
               clear hz_
               generalize V2.alloc (.cells #[.slice none 0 0, .slice none 0 0] 29) = V3 at *
               refine hK.out _ _ (hHeld.trans kk) (fun h2 => ?_)
               clear hK K hHeld
               have hHeld := h2
               clear h2
               try simp only [Act.put, List.setIfInBounds_toArray, List.set_cons_zero, List.set_cons_succ]
               refine wpAnyH_ready (rs := [6]) (by kernel_rfl) (by simp) ?_
               refine rc (h := fun K hK => ?_) (hs := AllReadyH.nil)
               go_simp
               go_at_call 13
               refine (HT4.out V3 (KP.trans hHeld) A3 c3 B3 d3 (CellsAt.of_own hj.b.1) (CellsAt.of_own hj.v.1)).mono ?_
               rintro e V4 ⟨A, c, B, d, C, a, D, b, rfl, hz1, hz2, _, _, kk⟩
               replace h7 := h7.kept kk
               replace h8 := h8.kept kk
               have hz : R2 WP ub uv A c B d V4 := ⟨hz1, hz2⟩
               clear hz1 hz2 hj
               refine hK.out _ _ (hHeld.trans kk) (fun h2 => ?_)
               clear hK K hHeld
               have hHeld := h2
               clear h2
               try simp only [Act.put, List.setIfInBounds_toArray, List.set_cons_zero, List.set_cons_succ]
               refine tk 7 (v := ?_) (hy := Or.inl ⟨by rfl, ?_⟩) (h := ?_)
               rotate_left
               ·intro w hSw
                go_simp
                try with_reducible rfl
               simp only [Act.put, List.setIfInBounds_toArray, List.set_cons_zero, List.set_cons_succ]
               refine tk 8 (v := ?_) (hy := Or.inl ⟨by rfl, ?_⟩) (h := ?_)
               rotate_left
               ·intro w hSw
                go_simp
                try with_reducible rfl
               simp only [Act.put, List.setIfInBounds_toArray, List.set_cons_zero, List.set_cons_succ]
               refine tk 9 (v := ?_) (hy := Or.inl ⟨by rfl, ?_⟩) (h := ?_)
               rotate_left
               ·intro w hSw
                go_simp
                try with_reducible rfl
               simp only [Act.put, List.setIfInBounds_toArray, List.set_cons_zero, List.set_cons_succ]
               refine tk 10 (v := ?_) (hy := Or.inl ⟨by rfl, ?_⟩) (h := ?_)
               rotate_left
               ·intro w hSw
                go_simp
                try with_reducible rfl
               simp only [Act.put, List.setIfInBounds_toArray, List.set_cons_zero, List.set_cons_succ]
               refine wpAnyH_ready (rs := [13]) (by kernel_rfl) (by simp) ?_
               refine rc (h := fun K hK => ?_) (hs := AllReadyH.nil)
               obtain ⟨c0, c1, f0, f1, lt⟩ := box0 h7
               replace hz := hz.put h7 (Nat.le_trans HW0 gh7) (.slice A ub.length c) (.slice B uv.length d)
               replace h8 := h8.two hne (.slice A ub.length c) (.slice B uv.length d)
               replace h7 := h7.set2 (.slice A ub.length c) (.slice B uv.length d)
               have kk := put2 hHeld gh7 (.slice A ub.length c) (.slice B uv.length d)
               go_simp
               generalize (V4.setCell ⟨z, 0, none⟩ (.slice A ub.length c)).setCell ⟨z, 1, none⟩ (.slice B uv.length d) = V5 at *
               clear c0 c1 f0 f1 lt
               refine hK.out _ _ (kk) (fun h2 => ?_)
               clear hK K hHeld
               have hHeld := h2
               clear h2
               try simp only [Act.put, List.setIfInBounds_toArray, List.set_cons_zero, List.set_cons_succ]
               refine wpAnyH_ready (rs := [14]) (by kernel_rfl) (by simp) ?_
               refine rc (h := fun K hK => ?_) (hs := AllReadyH.nil)
               obtain ⟨c0, c1, f0, f1, lt⟩ := box0 h8
               replace hz := hz.put h8 (Nat.le_trans HW0 gh8) (.slice C u1_.length a) (.slice D u2_.length b)
               replace h7 := h7.two hne.symm (.slice C u1_.length a) (.slice D u2_.length b)
               replace h8 := h8.set2 (.slice C u1_.length a) (.slice D u2_.length b)
               have kk := put2 hHeld gh8 (.slice C u1_.length a) (.slice D u2_.length b)
               go_simp
               generalize (V5.setCell ⟨y, 0, none⟩ (.slice C u1_.length a)).setCell ⟨y, 1, none⟩ (.slice D u2_.length b) = V6 at *
               clear c0 c1 f0 f1 lt
               refine hK.out _ _ (kk) (fun h2 => ?_)
               clear hK K hHeld
               have hHeld := h2
               clear h2
               try simp only [Act.put, List.setIfInBounds_toArray, List.set_cons_zero, List.set_cons_succ]
               refine tk 15 (v := ?_) (hy := Or.inl ⟨by rfl, ?_⟩) (h := ?_)
               rotate_left
               ·intro w hSw
                go_simp
                try with_reducible rfl
               simp only [Act.put, List.setIfInBounds_toArray, List.set_cons_zero, List.set_cons_succ]
               refine wpAnyH_done (by kernel_rfl) ?_ _
               refine NoPanic.normal ?_
               exact hQ1.out A3 c3 B3 d3 A c B d C a D b z y _ ⟨h7, hz, hHeld⟩
             ·
              have h7 := AtB.new V1 #[.slice none 0 0, .slice none 0 0] 29
              have kk := (Kept.refl V1).alloc (.cells #[.slice none 0 0, .slice none 0 0] 29)
              have hlo := h8.lt
              replace h8 := h8.kept kk
              go_simp
              obtain ⟨z, hz_⟩ : ∃ z, z = V1.heap.size := ⟨_, rfl⟩
              have gh7 : W16.heap.size ≤ z := by rw [hz_]; exact hHeld.size_le
              have hne : z ≠ y := by omega
              clear hlo
              rw [← hz_] at h7 ⊢
              clear hz_
              generalize V1.alloc (.cells #[.slice none 0 0, .slice none 0 0] 29) = V2 at *
              refine hK.out _ _ (hHeld.trans kk) (fun h2 => ?_)
              clear hK K hHeld
              have hHeld := h2
              clear h2
              try simp only [Act.put, List.setIfInBounds_toArray, List.set_cons_zero, List.set_cons_succ]
              refine wpAnyH_ready (rs := [4]) (by kernel_rfl) (by simp) ?_
              refine rc (h := fun K hK => ?_) (hs := AllReadyH.nil)
              go_simp
              go_at_call 15
              refine (HJ4.out V2 (KP.trans hHeld)).mono ?_
              rintro e V3 ⟨A3, c3, B3, d3, rfl, hj1, hj2, kk⟩
              replace h7 := h7.kept kk
              replace h8 := h8.kept kk
              have hj : R2 WP _ _ A3 c3 B3 d3 V3 := ⟨hj1, hj2⟩
              clear hj1 hj2
              refine hK.out _ _ (hHeld.trans kk) (fun h2 => ?_)
              clear hK K hHeld
              have hHeld := h2
              clear h2
              try simp only [Act.put, List.setIfInBounds_toArray, List.set_cons_zero, List.set_cons_succ]
              refine wpAnyH_ready (rs := [6]) (by kernel_rfl) (by simp) ?_
              refine rc (h := fun K hK => ?_) (hs := AllReadyH.nil)
              go_simp
              go_at_call 13
              refine (HT4.out V3 (KP.trans hHeld) A3 c3 B3 d3 (CellsAt.of_own hj.b.1) (CellsAt.of_own hj.v.1)).mono ?_
              rintro e V4 ⟨A, c, B, d, C, a, D, b, rfl, hz1, hz2, _, _, kk⟩
              replace h7 := h7.kept kk
              replace h8 := h8.kept kk
              have hz : R2 WP ub uv A c B d V4 := ⟨hz1, hz2⟩
              clear hz1 hz2 hj
              refine hK.out _ _ (hHeld.trans kk) (fun h2 => ?_)
              clear hK K hHeld
              have hHeld := h2
              clear h2
              try simp only [Act.put, List.setIfInBounds_toArray, List.set_cons_zero, List.set_cons_succ]
              refine tk 7 (v := ?_) (hy := Or.inl ⟨by rfl, ?_⟩) (h := ?_)
              rotate_left
              ·intro w hSw
               go_simp
               try with_reducible rfl
              simp only [Act.put, List.setIfInBounds_toArray, List.set_cons_zero, List.set_cons_succ]
              refine tk 8 (v := ?_) (hy := Or.inl ⟨by rfl, ?_⟩) (h := ?_)
              rotate_left
              ·intro w hSw
               go_simp
               try with_reducible rfl
              simp only [Act.put, List.setIfInBounds_toArray, List.set_cons_zero, List.set_cons_succ]
              refine tk 9 (v := ?_) (hy := Or.inl ⟨by rfl, ?_⟩) (h := ?_)
              rotate_left
              ·intro w hSw
               go_simp
               try with_reducible rfl
              simp only [Act.put, List.setIfInBounds_toArray, List.set_cons_zero, List.set_cons_succ]
              refine tk 10 (v := ?_) (hy := Or.inl ⟨by rfl, ?_⟩) (h := ?_)
              rotate_left
              ·intro w hSw
               go_simp
               try with_reducible rfl
              simp only [Act.put, List.setIfInBounds_toArray, List.set_cons_zero, List.set_cons_succ]
              refine wpAnyH_ready (rs := [13]) (by kernel_rfl) (by simp) ?_
              refine rc (h := fun K hK => ?_) (hs := AllReadyH.nil)
              obtain ⟨c0, c1, f0, f1, lt⟩ := box0 h7
              replace hz := hz.put h7 (Nat.le_trans HW0 gh7) (.slice A ub.length c) (.slice B uv.length d)
              replace h8 := h8.two hne (.slice A ub.length c) (.slice B uv.length d)
              replace h7 := h7.set2 (.slice A ub.length c) (.slice B uv.length d)
              have kk := put2 hHeld gh7 (.slice A ub.length c) (.slice B uv.length d)
              go_simp
              generalize (V4.setCell ⟨z, 0, none⟩ (.slice A ub.length c)).setCell ⟨z, 1, none⟩ (.slice B uv.length d) = V5 at *
              clear c0 c1 f0 f1 lt
              refine hK.out _ _ (kk) (fun h2 => ?_)
              clear hK K hHeld
              have hHeld := h2
              clear h2
              try simp only [Act.put, List.setIfInBounds_toArray, List.set_cons_zero, List.set_cons_succ]
              refine wpAnyH_ready (rs := [14]) (by kernel_rfl) (by simp) ?_
              refine rc (h := fun K hK => ?_) (hs := AllReadyH.nil)
              obtain ⟨c0, c1, f0, f1, lt⟩ := box0 h8
              replace hz := hz.put h8 (Nat.le_trans HW0 gh8) (.slice C u1_.length a) (.slice D u2_.length b)
              replace h7 := h7.two hne.symm (.slice C u1_.length a) (.slice D u2_.length b)
              replace h8 := h8.set2 (.slice C u1_.length a) (.slice D u2_.length b)
              have kk := put2 hHeld gh8 (.slice C u1_.length a) (.slice D u2_.length b)
              go_simp
              generalize (V5.setCell ⟨y, 0, none⟩ (.slice C u1_.length a)).setCell ⟨y, 1, none⟩ (.slice D u2_.length b) = V6 at *
              clear c0 c1 f0 f1 lt
              refine hK.out _ _ (kk) (fun h2 => ?_)
              clear hK K hHeld
              have hHeld := h2
              clear h2
              try simp only [Act.put, List.setIfInBounds_toArray, List.set_cons_zero, List.set_cons_succ]
              refine tk 15 (v := ?_) (hy := Or.inl ⟨by rfl, ?_⟩) (h := ?_)
              rotate_left
              ·intro w hSw
               go_simp
               try with_reducible rfl
              simp only [Act.put, List.setIfInBounds_toArray, List.set_cons_zero, List.set_cons_succ]
              refine wpAnyH_done (by kernel_rfl) ?_ _
              refine NoPanic.normal ?_
              exact hQ1.out A3 c3 B3 d3 A c B d C a D b z y _ ⟨h7, hz, hHeld⟩
           intro A3 c3 B3 d3 A20 c20 B20 d20 C a D b z30 zy wT hpost
           obtain ⟨h27, ⟨hz1, hz2⟩, k⟩ := hpost
           have H30 := Lib.hid h27
           have H30b := Lib.hid hz1
           have H30v := Lib.hid hz2
           clear h27 hz1 hz2 b00 b01 b02 b03 b04 b10 b11 bz0 bz1 p0 p1 pl q0 q1 ql
           replace HX := Lib.hid (HX.out.kept k)
           replace HXv := Lib.hid (HXv.out.kept k)
           replace H19 := Lib.hid (H19.out.kept k)
           replace H22 := Lib.hid (H22.out.kept k)
           replace H23 := Lib.hid (H23.out.kept k)
           replace H27 := Lib.hid (H27.out.kept k)
           replace H27b := Lib.hid (H27b.out.kept k)
           replace H27v := Lib.hid (H27v.out.kept k)
           have KB17 := Lib.hid (KB16.out.trans k)
           clear k
           generalize wT = W17 at *
           try dsimp only
           have p0 : W17.cell? ⟨z19, 0, none⟩ = some (.slice A1 xb.length c1) := H19.out.cell
           have p1 : W17.cell? ⟨z19, 1, none⟩ = some (.slice B1 xv.length d1) := H19.out.cell
           have pl := H19.out.lt
           have q0 : W17.cell? ⟨z27, 0, none⟩ = some (.slice A19 zb.length c19) := H27.out.cell
           have q1 : W17.cell? ⟨z27, 1, none⟩ = some (.slice B19 zv.length d19) := H27.out.cell
           have ql := H27.out.lt
           go_wp2_with fail
           clear p0 p1 pl q0 q1 ql
           refine (refAllV_any A1 c1 xb B1 d1 xv A19 c19 zb B19 d19 zv W17 (by omega) (by omega) (by omega) (by omega) (CellsAt.of_own HX.out.1) (CellsAt.of_own HXv.out.1) (CellsAt.of_own H27b.out.1) (CellsAt.of_own H27v.out.1)).mono ?_
           rintro e W18 ⟨rfl, k⟩
           replace HX := Lib.hid (HX.out.kept k)
           replace HXv := Lib.hid (HXv.out.kept k)
           replace H19 := Lib.hid (H19.out.kept k)
           replace H27 := Lib.hid (H27.out.kept k)
           replace H27b := Lib.hid (H27b.out.kept k)
           replace H27v := Lib.hid (H27v.out.kept k)
           replace H30 := Lib.hid (H30.out.kept k)
           replace H30b := Lib.hid (H30b.out.kept k)
           replace H30v := Lib.hid (H30v.out.kept k)
           have KB18 := Lib.hid (KB17.out.trans k)
           clear k
           rw [HAz.out]
           have p0 : W18.cell? ⟨z19, 0, none⟩ = some (.slice A1 xb.length c1) := H19.out.cell
           have p1 : W18.cell? ⟨z19, 1, none⟩ = some (.slice B1 xv.length d1) := H19.out.cell
           have pl := H19.out.lt
           have q0 : W18.cell? ⟨z30, 0, none⟩ = some (.slice A20 ub.length c20) := H30.out.cell
           have q1 : W18.cell? ⟨z30, 1, none⟩ = some (.slice B20 uv.length d20) := H30.out.cell
           have ql := H30.out.lt
           go_wp2_with fail
           clear p0 p1 pl q0 q1 ql
           refine (refAllV_any A1 c1 xb B1 d1 xv A20 c20 ub B20 d20 uv W18 (by omega) (by omega) (by omega) (by omega) (CellsAt.of_own HX.out.1) (CellsAt.of_own HXv.out.1) (CellsAt.of_own H30b.out.1) (CellsAt.of_own H30v.out.1)).mono ?_
           rintro e W19 ⟨rfl, k⟩
           replace HX := Lib.hid (HX.out.kept k)
           replace HXv := Lib.hid (HXv.out.kept k)
           replace H19 := Lib.hid (H19.out.kept k)
           replace H27 := Lib.hid (H27.out.kept k)
           replace H27b := Lib.hid (H27b.out.kept k)
           replace H27v := Lib.hid (H27v.out.kept k)
           replace H30 := Lib.hid (H30.out.kept k)
           replace H30b := Lib.hid (H30b.out.kept k)
           replace H30v := Lib.hid (H30v.out.kept k)
           have KB19 := Lib.hid (KB18.out.trans k)
           clear k
           rw [HAu.out]
           go_wp2_with fail
           go_ret
           exact ⟨by first | rfl | (simp; done), K0.out.trans KB19.out⟩

/-! ### The walk: the call returns true, and of what was there nothing has changed. -/
set_option maxRecDepth 100000 in
set_option maxHeartbeats 12800000 in
theorem walk (w : World) (kA : Option Addr) (kc : Nat) (k : Cf) (khm : k.ws.length ≤ maxLen) (khs : k.seed < 18446744073709551616) (khl : CellsAt w w.heap.size kA (intCells k.ws)) (lA : Option Addr) (lc : Nat) (l : List Bk) (vA : Option Addr) (vc : Nat) (v : List Vt) (lhm : l.length ≤ maxLen) (lhc : l.length ≤ lc) (lhw : WfL l) (lh6 : Wf64L l) (lhl : CellsAt w w.heap.size lA (blockCells l)) (vhm : v.length ≤ maxLen) (vhc : v.length ≤ vc) (vhw : WfVs v) (vhl : CellsAt w w.heap.size vA (votesCells v)) (mA : Option Addr) (mc : Nat) (m : List Bk) (uA : Option Addr) (uc : Nat) (u : List Vt) (mhm : m.length ≤ maxLen) (mhc : m.length ≤ mc) (mhw : WfL m) (mh6 : Wf64L m) (mhl : CellsAt w w.heap.size mA (blockCells m)) (uhm : u.length ≤ maxLen) (uhc : u.length ≤ uc) (uhw : WfVs u) (uhl : CellsAt w w.heap.size uA (votesCells u)) (slot : Int) (hslot1 : -9223372036854775808 ≤ slot) (hslot2 : slot ≤ 9223372036854775807) (p : Int) (hp1 : -9223372036854775808 ≤ p) (hp2 : p ≤ 9223372036854775807) (q : Int) (hq1 : -9223372036854775808 ≤ q) (hq2 : q ≤ 9223372036854775807) :
 Calls Try.prog 4 #[.agg #[.slice kA k.ws.length kc, .int .u64 k.seed, .int .i64 k.ep, .int .i64 k.nu, .int .i64 k.de], .agg #[.slice lA l.length lc, .slice vA v.length vc], .agg #[.slice mA m.length mc, .slice uA u.length uc], .int .i64 slot, .int .i64 p, .int .i64 q] w fun e w' => e = .returned (.bool true) ∧ Kept w w' := by
 exact walk_of w kA kc k khm khs khl lA lc l vA vc v lhm lhc lhw lh6 lhl vhm vhc vhw vhl mA mc m uA uc u mhm mhc mhw mh6 mhl uhm uhc uhw uhl slot hslot1 hslot2 p hp1 hp2 q hq1 hq2 nameB rfl fun b hb w => name_any b hb w

/-! ### The row's step -/
set_option maxRecDepth 100000 in
theorem lifted (os : Os) (started : os.Started) (H : Type) (enc : TypeId × Value → H) :
 ReturnsInHanded {} Try.checked os 4 .any (Rows.viewOrderSpec.pre6 enc Try.prog Try.f4 Rows.viewOrderRow.domain false) (Rows.viewOrderSpec.post enc Try.prog Try.f4 false true false false) := by
 refine returnsInHanded_of_change (C := Try.checked) own started (by kernel_rfl) Try.func4
  (ChangeSpec.witness6 (enc := enc) (C := Try.checked) false ⟨#[], #[.agg #[.slice none 0 0, .int .u64 0, .int .i64 0, .int .i64 0, .int .i64 0], .agg #[.slice none 0 0, .slice none 0 0], .agg #[.slice none 0 0, .slice none 0 0], .int .i64 0, .int .i64 0, .int .i64 0], []⟩ 8 (by kernel_rfl) (by kernel_rfl) (by kernel_rfl) (by kernel_rfl)) ?_
 intro W base args ds gs before hval0 hW hcnd _
 have hval : ∀ (j : Nat) t v, Try.f4.params[j]? = some t → args[j]? = some v → Value.okWide Try.prog W .any base t v := hval0
 have hW' := hW
 obtain ⟨p, q, hA0, hV, rfl, hfz, hnd⟩ := hW
 have hA : DataW.TrodAll enc Try.prog W 0 (fun _ => true) true Try.f4.params.toList args.toList ds p := hA0
 rw [Try.params4] at hA hval
 obtain ⟨v0, vs0, d0, ds0, p0, q0, hargs, rfl, rfl, h0, r0⟩ := trodAll_cons hA
 obtain ⟨v1, vs1, d1, ds1, p1, q1, rfl, rfl, rfl, h1, r1⟩ := trodAll_cons r0
 obtain ⟨v2, vs2, d2, ds2, p2, q2, rfl, rfl, rfl, h2, r2⟩ := trodAll_cons r1
 obtain ⟨v3, vs3, d3, ds3, p3, q3, rfl, rfl, rfl, h3, r3⟩ := trodAll_cons r2
 obtain ⟨v4, vs4, d4, ds4, p4, q4, rfl, rfl, rfl, h4, r4⟩ := trodAll_cons r3
 obtain ⟨v5, vs5, d5, ds5, p5, q5, rfl, rfl, rfl, h5, r5⟩ := trodAll_cons r4
 obtain ⟨rfl, rfl, rfl⟩ := trodAll_nil r5
 obtain rfl : args = #[v0, v1, v2, v3, v4, v5] := by cases args; simp_all
 obtain ⟨rfl, rfl⟩ := trodVars_none hV
 obtain ⟨kA, kc, k, rfl, khm, khs, khl⟩ := open_conf (hval 0 _ v0 rfl rfl) h0
 obtain ⟨lA, lc, l, vA, vc, v, rfl, lhm, lhc, ⟨lhw, lh6⟩, lhl, vhm, vhc, vhw, vhl⟩ := open_view64 (hval 1 _ v1 rfl rfl) h1
 obtain ⟨mA, mc, m, uA, uc, u, rfl, mhm, mhc, ⟨mhw, mh6⟩, mhl, uhm, uhc, uhw, uhl⟩ := open_view64 (hval 2 _ v2 rfl rfl) h2
 obtain ⟨slot, rfl, hslot1, hslot2⟩ := open_num (hval 3 _ v3 rfl rfl) h3
 obtain ⟨p, rfl, hp1, hp2⟩ := open_num (hval 4 _ v4 rfl rfl) h4
 obtain ⟨q, rfl, hq1, hq2⟩ := open_num (hval 5 _ v5 rfl rfl) h5
 clear hA0 hval0
 refine (walk W kA kc k khm khs khl lA lc l vA vc v lhm lhc lhw lh6 lhl vhm vhc vhw vhl mA mc m uA uc u mhm mhc mhw mh6 mhl uhm uhc uhw uhl slot hslot1 hslot2 p hp1 hp2 q hq1 hq2).mono fun e W' ⟨he, hb⟩ => ?_
 subst he
 exact ⟨_, rfl, law_post rfl (by kernel_rfl) rfl hW' rfl hb⟩

theorem over : Rows.viewOrderRow.holds Try.pinned (OpenSpec.ofChange Rows.viewOrderSpec) :=
 OpenClaim.holds_of_wide 4 Try.f4 rfl rfl rfl rfl rfl rfl rfl ⟨rfl, rfl, rfl, rfl, rfl⟩ rfl rfl rfl rfl rfl (by kernel_rfl) Try.func4 (by kernel_rfl)
  (of_decide_eq_true (by kernel_rfl)) (by unfold Func.isWrapper; first | (rw [if_pos (by decide +kernel)]; kernel_rfl) | (rw [if_neg (by decide +kernel)]; exact ⟨rfl, rfl⟩))
  (fun os started H enc _ => lifted os started H enc)

/-- The statement. -/
theorem proved : Rows.ViewOrderSaid :=
 over
#print axioms proved

end Go.Proofs.Ytacdiicnfoejoaa.viewOrder
