/-
  Law LmdBounds of layer 13: a boost is never more than what all weigh; on no block more is than that, and the boost; on what is under no less, whatever conf, blocks, votes, slot, boost and blocks.
-/
import Derived.Test.YteamjjkmcomabaaLmdAwake
import Derived.Test.YteamjjkmcomabaaGhostAwake
import Derived.Test.YteamjjkmcomabaaDutyG
import Derived.Test.YteamjjkmcomabaaTreeG
import Derived.Test.YteamjjkmcomabaaVoteG
import Derived.Test.YteamjjkmcomabaaMixG
import Derived.Test.YteamjjkmcomabaaGround
import Derived.Test.YteamjjkmcomabaaIdBox
namespace Go.Proofs.Yteamjjkmcomabaa.lmdBounds
set_option maxRecDepth 100000
set_option linter.unusedVariables false
set_option linter.unusedSimpArgs false
open Go.ChangeShapes Go.WideShapes Go.ChangeAt Go.RowKit
set_option linter.unusedVariables false

/-! ### The walk: the call returns true, and of what was there nothing has changed. -/
attribute [local go_sem high] eqIdN eqIdZ in
set_option maxRecDepth 100000 in
set_option maxHeartbeats 6400000 in
theorem walk (w : World) (kA : Option Addr) (kc : Nat) (k : Cf) (khm : k.ws.length ≤ maxLen) (khs : k.seed < 18446744073709551616) (khl : CellsAt w w.heap.size kA (intCells k.ws)) (lA : Option Addr) (lc : Nat) (l : List Bk) (lhm : l.length ≤ maxLen) (lhc : l.length ≤ lc) (lhw : WfL l) (lhl : CellsAt w w.heap.size lA (blockCells l)) (vA : Option Addr) (vc : Nat) (v : List Vt) (vhm : v.length ≤ maxLen) (vhc : v.length ≤ vc) (vhw : WfVs v) (vhl : CellsAt w w.heap.size vA (votesCells v)) (upto : Int) (hupto1 : -9223372036854775808 ≤ upto) (hupto2 : upto ≤ 9223372036854775807) (bo : Nat × Nat) (hbo1 : bo.1 < 18446744073709551616) (hbo2 : bo.2 < 18446744073709551616) (pct : Int) (hpct1 : -9223372036854775808 ≤ pct) (hpct2 : pct ≤ 9223372036854775807) (low : Nat × Nat) (hlow1 : low.1 < 18446744073709551616) (hlow2 : low.2 < 18446744073709551616) (x : Nat × Nat) (hx1 : x.1 < 18446744073709551616) (hx2 : x.2 < 18446744073709551616) :
    Calls Try.prog 6 #[.agg #[.slice kA k.ws.length kc, .int .u64 k.seed, .int .i64 k.ep, .int .i64 k.nu, .int .i64 k.de], .slice lA l.length lc, .slice vA v.length vc, .int .i64 upto, .agg #[.int .u64 bo.1, .int .u64 bo.2], .int .i64 pct, .agg #[.int .u64 low.1, .int .u64 low.2], .agg #[.int .u64 x.1, .int .u64 x.2]] w fun e w' => e = .returned (.bool true) ∧ Kept w w' := by
  cases hf : few9C k l v with
  | false =>
    go_enter Try.func6, Try.ntmps6
    go_wp2_with fail
    have K0 := Lib.hid (((((Kept.refl w).alloc (.cells #[.slice kA k.ws.length kc, .int .u64 k.seed, .int .i64 k.ep, .int .i64 k.nu, .int .i64 k.de] 25)).alloc (.cells #[.int .u64 bo.1, .int .u64 bo.2] 29)).alloc (.cells #[.int .u64 low.1, .int .u64 low.2] 29)).alloc (.cells #[.int .u64 x.1, .int .u64 x.2] 29))
    have HA := Lib.hid (khl.kept K0.out)
    clear khl
    have HL := Lib.hid (lhl.kept K0.out)
    clear lhl
    have HV := Lib.hid (vhl.kept K0.out)
    clear vhl
    have HB0 := Lib.hid ((((HasCells.new w #[.slice kA k.ws.length kc, .int .u64 k.seed, .int .i64 k.ep, .int .i64 k.nu, .int .i64 k.de] 25 (w.heap.size) (by simp)).alloc (.cells #[.int .u64 bo.1, .int .u64 bo.2] 29)).alloc (.cells #[.int .u64 low.1, .int .u64 low.2] 29)).alloc (.cells #[.int .u64 x.1, .int .u64 x.2] 29))
    have HB1 := Lib.hid (((HasCells.new (w.alloc (.cells #[.slice kA k.ws.length kc, .int .u64 k.seed, .int .i64 k.ep, .int .i64 k.nu, .int .i64 k.de] 25)) #[.int .u64 bo.1, .int .u64 bo.2] 29 (w.heap.size + 1) (by simp)).alloc (.cells #[.int .u64 low.1, .int .u64 low.2] 29)).alloc (.cells #[.int .u64 x.1, .int .u64 x.2] 29))
    have HB2 := Lib.hid ((HasCells.new ((w.alloc (.cells #[.slice kA k.ws.length kc, .int .u64 k.seed, .int .i64 k.ep, .int .i64 k.nu, .int .i64 k.de] 25)).alloc (.cells #[.int .u64 bo.1, .int .u64 bo.2] 29)) #[.int .u64 low.1, .int .u64 low.2] 29 (w.heap.size + 1 + 1) (by simp)).alloc (.cells #[.int .u64 x.1, .int .u64 x.2] 29))
    have HB3 := Lib.hid (HasCells.new (((w.alloc (.cells #[.slice kA k.ws.length kc, .int .u64 k.seed, .int .i64 k.ep, .int .i64 k.nu, .int .i64 k.de] 25)).alloc (.cells #[.int .u64 bo.1, .int .u64 bo.2] 29)).alloc (.cells #[.int .u64 low.1, .int .u64 low.2] 29)) #[.int .u64 x.1, .int .u64 x.2] 29 (w.heap.size + 1 + 1 + 1) (by simp))
    generalize ((((w.alloc (.cells #[.slice kA k.ws.length kc, .int .u64 k.seed, .int .i64 k.ep, .int .i64 k.nu, .int .i64 k.de] 25)).alloc (.cells #[.int .u64 bo.1, .int .u64 bo.2] 29)).alloc (.cells #[.int .u64 low.1, .int .u64 low.2] 29)).alloc (.cells #[.int .u64 x.1, .int .u64 x.2] 29)) = W0 at *
    generalize w.heap.size + 1 + 1 + 1 = z3 at *
    generalize w.heap.size + 1 + 1 = z2 at *
    generalize w.heap.size + 1 = z1 at *
    generalize w.heap.size = z0 at *
    have KB0 := Lib.hid (Kept.refl W0)
    refine (lmdAwake W0).mono ?_
    rintro e W1 ⟨rfl, k⟩
    have KB1 := Lib.hid (KB0.out.trans k)
    clear k
    obtain ⟨b00, b01, b02, b03, b04⟩ := (HB0.out.kept KB1.out).five
    have bz0 := (HB0.out.kept KB1.out).1
    obtain ⟨b10, b11⟩ := (HB1.out.kept KB1.out).two
    have bz1 := (HB1.out.kept KB1.out).1
    obtain ⟨b20, b21⟩ := (HB2.out.kept KB1.out).two
    have bz2 := (HB2.out.kept KB1.out).1
    obtain ⟨b30, b31⟩ := (HB3.out.kept KB1.out).two
    have bz3 := (HB3.out.kept KB1.out).1
    go_wp2_with fail
    clear b00 b01 b02 b03 b04 bz0 b10 b11 bz1 b20 b21 bz2 b30 b31 bz3
    refine (few9_any kA kc k lA lc l vA vc v W1).mono ?_
    rintro e W2 ⟨rfl, k⟩
    have KB2 := Lib.hid (KB1.out.trans k)
    clear k
    rw [hf]
    obtain ⟨b00, b01, b02, b03, b04⟩ := (HB0.out.kept KB2.out).five
    have bz0 := (HB0.out.kept KB2.out).1
    obtain ⟨b10, b11⟩ := (HB1.out.kept KB2.out).two
    have bz1 := (HB1.out.kept KB2.out).1
    obtain ⟨b20, b21⟩ := (HB2.out.kept KB2.out).two
    have bz2 := (HB2.out.kept KB2.out).1
    obtain ⟨b30, b31⟩ := (HB3.out.kept KB2.out).two
    have bz3 := (HB3.out.kept KB2.out).1
    go_wp2_with fail
    clear b00 b01 b02 b03 b04 bz0 b10 b11 bz1 b20 b21 bz2 b30 b31 bz3
    go_ret
    exact ⟨by first | rfl | (simp; done), K0.out.trans KB2.out⟩
  | true =>
    obtain ⟨hk40, hl20, hv30⟩ := few9C_yes hf
    have HF := Lib.hid hf
    clear hf
    have hwbo : WfI bo := ⟨hbo1, hbo2⟩
    have hwx : WfI x := ⟨hx1, hx2⟩
    have hwlow : WfI low := ⟨hlow1, hlow2⟩
    go_enter Try.func6, Try.ntmps6
    go_wp2_with fail
    have K0 := Lib.hid (((((Kept.refl w).alloc (.cells #[.slice kA k.ws.length kc, .int .u64 k.seed, .int .i64 k.ep, .int .i64 k.nu, .int .i64 k.de] 25)).alloc (.cells #[.int .u64 bo.1, .int .u64 bo.2] 29)).alloc (.cells #[.int .u64 low.1, .int .u64 low.2] 29)).alloc (.cells #[.int .u64 x.1, .int .u64 x.2] 29))
    have HA := Lib.hid (khl.kept K0.out)
    clear khl
    have HL := Lib.hid (lhl.kept K0.out)
    clear lhl
    have HV := Lib.hid (vhl.kept K0.out)
    clear vhl
    have HB0 := Lib.hid ((((HasCells.new w #[.slice kA k.ws.length kc, .int .u64 k.seed, .int .i64 k.ep, .int .i64 k.nu, .int .i64 k.de] 25 (w.heap.size) (by simp)).alloc (.cells #[.int .u64 bo.1, .int .u64 bo.2] 29)).alloc (.cells #[.int .u64 low.1, .int .u64 low.2] 29)).alloc (.cells #[.int .u64 x.1, .int .u64 x.2] 29))
    have HB1 := Lib.hid (((HasCells.new (w.alloc (.cells #[.slice kA k.ws.length kc, .int .u64 k.seed, .int .i64 k.ep, .int .i64 k.nu, .int .i64 k.de] 25)) #[.int .u64 bo.1, .int .u64 bo.2] 29 (w.heap.size + 1) (by simp)).alloc (.cells #[.int .u64 low.1, .int .u64 low.2] 29)).alloc (.cells #[.int .u64 x.1, .int .u64 x.2] 29))
    have HB2 := Lib.hid ((HasCells.new ((w.alloc (.cells #[.slice kA k.ws.length kc, .int .u64 k.seed, .int .i64 k.ep, .int .i64 k.nu, .int .i64 k.de] 25)).alloc (.cells #[.int .u64 bo.1, .int .u64 bo.2] 29)) #[.int .u64 low.1, .int .u64 low.2] 29 (w.heap.size + 1 + 1) (by simp)).alloc (.cells #[.int .u64 x.1, .int .u64 x.2] 29))
    have HB3 := Lib.hid (HasCells.new (((w.alloc (.cells #[.slice kA k.ws.length kc, .int .u64 k.seed, .int .i64 k.ep, .int .i64 k.nu, .int .i64 k.de] 25)).alloc (.cells #[.int .u64 bo.1, .int .u64 bo.2] 29)).alloc (.cells #[.int .u64 low.1, .int .u64 low.2] 29)) #[.int .u64 x.1, .int .u64 x.2] 29 (w.heap.size + 1 + 1 + 1) (by simp))
    generalize ((((w.alloc (.cells #[.slice kA k.ws.length kc, .int .u64 k.seed, .int .i64 k.ep, .int .i64 k.nu, .int .i64 k.de] 25)).alloc (.cells #[.int .u64 bo.1, .int .u64 bo.2] 29)).alloc (.cells #[.int .u64 low.1, .int .u64 low.2] 29)).alloc (.cells #[.int .u64 x.1, .int .u64 x.2] 29)) = W0 at *
    generalize w.heap.size + 1 + 1 + 1 = z3 at *
    generalize w.heap.size + 1 + 1 = z2 at *
    generalize w.heap.size + 1 = z1 at *
    generalize w.heap.size = z0 at *
    have KB0 := Lib.hid (Kept.refl W0)
    refine (lmdAwake W0).mono ?_
    rintro e W1 ⟨rfl, k⟩
    have KB1 := Lib.hid (KB0.out.trans k)
    clear k
    obtain ⟨b00, b01, b02, b03, b04⟩ := (HB0.out.kept KB1.out).five
    have bz0 := (HB0.out.kept KB1.out).1
    obtain ⟨b10, b11⟩ := (HB1.out.kept KB1.out).two
    have bz1 := (HB1.out.kept KB1.out).1
    obtain ⟨b20, b21⟩ := (HB2.out.kept KB1.out).two
    have bz2 := (HB2.out.kept KB1.out).1
    obtain ⟨b30, b31⟩ := (HB3.out.kept KB1.out).two
    have bz3 := (HB3.out.kept KB1.out).1
    go_wp2_with fail
    clear b00 b01 b02 b03 b04 bz0 b10 b11 bz1 b20 b21 bz2 b30 b31 bz3
    refine (few9_any kA kc k lA lc l vA vc v W1).mono ?_
    rintro e W2 ⟨rfl, k⟩
    have KB2 := Lib.hid (KB1.out.trans k)
    clear k
    rw [HF.out]
    obtain ⟨b00, b01, b02, b03, b04⟩ := (HB0.out.kept KB2.out).five
    have bz0 := (HB0.out.kept KB2.out).1
    obtain ⟨b10, b11⟩ := (HB1.out.kept KB2.out).two
    have bz1 := (HB1.out.kept KB2.out).1
    obtain ⟨b20, b21⟩ := (HB2.out.kept KB2.out).two
    have bz2 := (HB2.out.kept KB2.out).1
    obtain ⟨b30, b31⟩ := (HB3.out.kept KB2.out).two
    have bz3 := (HB3.out.kept KB2.out).1
    go_wp2_with fail
    clear b00 b01 b02 b03 b04 bz0 b10 b11 bz1 b20 b21 bz2 b30 b31 bz3
    refine (lmdBoost_any kA kc k pct W2 (by omega) (HA.out.kept KB2.out)).mono ?_
    rintro e W3 ⟨rfl, k⟩
    have KB3 := Lib.hid (KB2.out.trans k)
    clear k
    obtain ⟨b00, b01, b02, b03, b04⟩ := (HB0.out.kept KB3.out).five
    have bz0 := (HB0.out.kept KB3.out).1
    obtain ⟨b10, b11⟩ := (HB1.out.kept KB3.out).two
    have bz1 := (HB1.out.kept KB3.out).1
    obtain ⟨b20, b21⟩ := (HB2.out.kept KB3.out).two
    have bz2 := (HB2.out.kept KB3.out).1
    obtain ⟨b30, b31⟩ := (HB3.out.kept KB3.out).two
    have bz3 := (HB3.out.kept KB3.out).1
    go_wp2_with fail
    clear b00 b01 b02 b03 b04 bz0 b10 b11 bz1 b20 b21 bz2 b30 b31 bz3
    refine (lmdOn_any kA kc k lA lc l vA vc v upto bo pct x W3 (by omega) (by omega) (by omega) lhw vhw hwbo hwx (HA.out.kept KB3.out) (HL.out.kept KB3.out) (HV.out.kept KB3.out)).mono ?_
    rintro e W4 ⟨R, hR, rfl, k⟩
    have KB4 := Lib.hid (KB3.out.trans k)
    clear k
    have HR := Lib.hid hR
    have n1 := onB_bounds k l R bo pct x
    have n2 := boost_bounds k pct
    have n3 := total_bounds k
    have HBe := Lib.hid (fun (u : underC l low x = true) => onB_below (k := k) R bo pct u)
    have HTo := Lib.hid (fun w' (kk : Kept W0 w') => total_any kA kc k w' (HA.out.kept kk))
    have hw : IntKind.i64.wrap (totalC k + boostC k pct) = totalC k + boostC k pct := by rw [IntKind.wrap_i64]; omega
    have d1 : decide (boostC k pct < 0) = false := decide_eq_false (by omega)
    have d2 : decide (totalC k < boostC k pct) = false := decide_eq_false (by omega)
    have d3 : decide (onB k l R bo pct x < 0) = false := decide_eq_false (by omega)
    have d4 : decide (totalC k + boostC k pct < onB k l R bo pct x) = false := decide_eq_false (by omega)
    clear hR
    obtain ⟨b00, b01, b02, b03, b04⟩ := (HB0.out.kept KB4.out).five
    have bz0 := (HB0.out.kept KB4.out).1
    obtain ⟨b10, b11⟩ := (HB1.out.kept KB4.out).two
    have bz1 := (HB1.out.kept KB4.out).1
    obtain ⟨b20, b21⟩ := (HB2.out.kept KB4.out).two
    have bz2 := (HB2.out.kept KB4.out).1
    obtain ⟨b30, b31⟩ := (HB3.out.kept KB4.out).two
    have bz3 := (HB3.out.kept KB4.out).1
    go_wp2_with fail
    clear b00 b01 b02 b03 b04 bz0 b10 b11 bz1 b20 b21 bz2 b30 b31 bz3
    refine (HTo.out W4 KB4.out).mono ?_
    rintro e W5 ⟨rfl, k⟩
    have KB5 := Lib.hid (KB4.out.trans k)
    clear k
    obtain ⟨b00, b01, b02, b03, b04⟩ := (HB0.out.kept KB5.out).five
    have bz0 := (HB0.out.kept KB5.out).1
    obtain ⟨b10, b11⟩ := (HB1.out.kept KB5.out).two
    have bz1 := (HB1.out.kept KB5.out).1
    obtain ⟨b20, b21⟩ := (HB2.out.kept KB5.out).two
    have bz2 := (HB2.out.kept KB5.out).1
    obtain ⟨b30, b31⟩ := (HB3.out.kept KB5.out).two
    have bz3 := (HB3.out.kept KB5.out).1
    go_wp2_with fail
    clear b00 b01 b02 b03 b04 bz0 b10 b11 bz1 b20 b21 bz2 b30 b31 bz3
    refine (HTo.out W5 KB5.out).mono ?_
    rintro e W6 ⟨rfl, k⟩
    have KB6 := Lib.hid (KB5.out.trans k)
    clear k
    obtain ⟨b00, b01, b02, b03, b04⟩ := (HB0.out.kept KB6.out).five
    have bz0 := (HB0.out.kept KB6.out).1
    obtain ⟨b10, b11⟩ := (HB1.out.kept KB6.out).two
    have bz1 := (HB1.out.kept KB6.out).1
    obtain ⟨b20, b21⟩ := (HB2.out.kept KB6.out).two
    have bz2 := (HB2.out.kept KB6.out).1
    obtain ⟨b30, b31⟩ := (HB3.out.kept KB6.out).two
    have bz3 := (HB3.out.kept KB6.out).1
    go_wp2_with fail
    clear b00 b01 b02 b03 b04 bz0 b10 b11 bz1 b20 b21 bz2 b30 b31 bz3
    refine (under_any lA lc l (by omega) lhw low x hwx W6 (HL.out.kept KB6.out)).mono ?_
    rintro e W7 ⟨rfl, k⟩
    have KB7 := Lib.hid (KB6.out.trans k)
    clear k
    cases hu : underC l low x with
    | false =>
      obtain ⟨b00, b01, b02, b03, b04⟩ := (HB0.out.kept KB7.out).five
      have bz0 := (HB0.out.kept KB7.out).1
      obtain ⟨b10, b11⟩ := (HB1.out.kept KB7.out).two
      have bz1 := (HB1.out.kept KB7.out).1
      obtain ⟨b20, b21⟩ := (HB2.out.kept KB7.out).two
      have bz2 := (HB2.out.kept KB7.out).1
      obtain ⟨b30, b31⟩ := (HB3.out.kept KB7.out).two
      have bz3 := (HB3.out.kept KB7.out).1
      go_wp2_with fail
      clear b00 b01 b02 b03 b04 bz0 b10 b11 bz1 b20 b21 bz2 b30 b31 bz3
      go_ret
      exact ⟨by first | rfl | (simp; done), K0.out.trans KB7.out⟩
    | true =>
      have hb := HBe.out hu
      obtain ⟨b00, b01, b02, b03, b04⟩ := (HB0.out.kept KB7.out).five
      have bz0 := (HB0.out.kept KB7.out).1
      obtain ⟨b10, b11⟩ := (HB1.out.kept KB7.out).two
      have bz1 := (HB1.out.kept KB7.out).1
      obtain ⟨b20, b21⟩ := (HB2.out.kept KB7.out).two
      have bz2 := (HB2.out.kept KB7.out).1
      obtain ⟨b30, b31⟩ := (HB3.out.kept KB7.out).two
      have bz3 := (HB3.out.kept KB7.out).1
      go_wp2_with fail
      clear b00 b01 b02 b03 b04 bz0 b10 b11 bz1 b20 b21 bz2 b30 b31 bz3
      refine (lmdOn_any kA kc k lA lc l vA vc v upto bo pct low W7 (by omega) (by omega) (by omega) lhw vhw hwbo hwlow (HA.out.kept KB7.out) (HL.out.kept KB7.out) (HV.out.kept KB7.out)).mono ?_
      rintro e W8 ⟨R2, hR2, rfl, k⟩
      have KB8 := Lib.hid (KB7.out.trans k)
      clear k
      have eR := HR.out.unique hR2
      subst eR
      clear hR2
      have hgb : decide (onB k l R bo pct x ≤ onB k l R bo pct low) = true := decide_eq_true hb
      obtain ⟨b00, b01, b02, b03, b04⟩ := (HB0.out.kept KB8.out).five
      have bz0 := (HB0.out.kept KB8.out).1
      obtain ⟨b10, b11⟩ := (HB1.out.kept KB8.out).two
      have bz1 := (HB1.out.kept KB8.out).1
      obtain ⟨b20, b21⟩ := (HB2.out.kept KB8.out).two
      have bz2 := (HB2.out.kept KB8.out).1
      obtain ⟨b30, b31⟩ := (HB3.out.kept KB8.out).two
      have bz3 := (HB3.out.kept KB8.out).1
      go_wp2_with fail
      clear b00 b01 b02 b03 b04 bz0 b10 b11 bz1 b20 b21 bz2 b30 b31 bz3
      go_ret
      exact ⟨by first | rfl | (simp; done), K0.out.trans KB8.out⟩

/-! ### The row's step -/
set_option maxRecDepth 100000 in
theorem lifted (os : Os) (started : os.Started) (H : Type) (enc : TypeId × Value → H) :
    ReturnsInHanded {} Try.checked os 6 .any (Rows.lmdBoundsSpec.pre6 enc Try.prog Try.f6 Rows.lmdBoundsRow.domain false) (Rows.lmdBoundsSpec.post enc Try.prog Try.f6 false true false false) := by
  refine returnsInHanded_of_change (C := Try.checked) own started (by kernel_rfl) Try.func6
    (ChangeSpec.witness6 (enc := enc) (C := Try.checked) false ⟨#[], #[.agg #[.slice none 0 0, .int .u64 0, .int .i64 0, .int .i64 0, .int .i64 0], .slice none 0 0, .slice none 0 0, .int .i64 0, .agg #[.int .u64 0, .int .u64 0], .int .i64 0, .agg #[.int .u64 0, .int .u64 0], .agg #[.int .u64 0, .int .u64 0]], []⟩ 8 (by kernel_rfl) (by kernel_rfl) (by kernel_rfl) (by kernel_rfl)) ?_
  intro W base args ds gs before hval0 hW hcnd _
  have hval : ∀ (j : Nat) t v, Try.f6.params[j]? = some t → args[j]? = some v → Value.okWide Try.prog W .any base t v := hval0
  have hW' := hW
  obtain ⟨p, q, hA0, hV, rfl, hfz, hnd⟩ := hW
  have hA : DataW.TrodAll enc Try.prog W 0 (fun _ => true) true Try.f6.params.toList args.toList ds p := hA0
  rw [Try.params6] at hA hval
  obtain ⟨v0, vs0, d0, ds0, p0, q0, hargs, rfl, rfl, h0, r0⟩ := trodAll_cons hA
  obtain ⟨v1, vs1, d1, ds1, p1, q1, rfl, rfl, rfl, h1, r1⟩ := trodAll_cons r0
  obtain ⟨v2, vs2, d2, ds2, p2, q2, rfl, rfl, rfl, h2, r2⟩ := trodAll_cons r1
  obtain ⟨v3, vs3, d3, ds3, p3, q3, rfl, rfl, rfl, h3, r3⟩ := trodAll_cons r2
  obtain ⟨v4, vs4, d4, ds4, p4, q4, rfl, rfl, rfl, h4, r4⟩ := trodAll_cons r3
  obtain ⟨v5, vs5, d5, ds5, p5, q5, rfl, rfl, rfl, h5, r5⟩ := trodAll_cons r4
  obtain ⟨v6, vs6, d6, ds6, p6, q6, rfl, rfl, rfl, h6, r6⟩ := trodAll_cons r5
  obtain ⟨v7, vs7, d7, ds7, p7, q7, rfl, rfl, rfl, h7, r7⟩ := trodAll_cons r6
  obtain ⟨rfl, rfl, rfl⟩ := trodAll_nil r7
  obtain rfl : args = #[v0, v1, v2, v3, v4, v5, v6, v7] := by cases args; simp_all
  obtain ⟨rfl, rfl⟩ := trodVars_none hV
  obtain ⟨kA, kc, k, rfl, khm, khs, khl⟩ := open_conf (hval 0 _ v0 rfl rfl) h0
  obtain ⟨lA, lc, l, rfl, lhm, lhc, lhw, lhl⟩ := open_blocks (hval 1 _ v1 rfl rfl) h1
  obtain ⟨vA, vc, v, rfl, vhm, vhc, vhw, vhl⟩ := open_votes (hval 2 _ v2 rfl rfl) h2
  obtain ⟨upto, rfl, hupto1, hupto2⟩ := open_num (hval 3 _ v3 rfl rfl) h3
  obtain ⟨bo, rfl, hbo1, hbo2⟩ := open_id (hval 4 _ v4 rfl rfl) h4
  obtain ⟨pct, rfl, hpct1, hpct2⟩ := open_num (hval 5 _ v5 rfl rfl) h5
  obtain ⟨low, rfl, hlow1, hlow2⟩ := open_id (hval 6 _ v6 rfl rfl) h6
  obtain ⟨x, rfl, hx1, hx2⟩ := open_id (hval 7 _ v7 rfl rfl) h7
  clear hA0 hval0
  refine (walk W kA kc k khm khs khl lA lc l lhm lhc lhw lhl vA vc v vhm vhc vhw vhl upto hupto1 hupto2 bo hbo1 hbo2 pct hpct1 hpct2 low hlow1 hlow2 x hx1 hx2).mono fun e W' ⟨he, hb⟩ => ?_
  subst he
  exact ⟨_, rfl, law_post rfl (by kernel_rfl) rfl hW' rfl hb⟩

theorem over : Rows.lmdBoundsRow.holds Try.pinned (OpenSpec.ofChange Rows.lmdBoundsSpec) :=
  OpenClaim.holds_of_wide 6 Try.f6 rfl rfl rfl rfl rfl rfl rfl ⟨rfl, rfl, rfl, rfl, rfl⟩ rfl rfl rfl rfl rfl (by kernel_rfl) Try.func6 (by kernel_rfl)
    (of_decide_eq_true (by kernel_rfl)) (by unfold Func.isWrapper; first | (rw [if_pos (by decide +kernel)]; kernel_rfl) | (rw [if_neg (by decide +kernel)]; exact ⟨rfl, rfl⟩))
    (fun os started H enc _ => lifted os started H enc)

/-- The statement. -/
theorem proved : Rows.LmdBoundsSaid :=
  over
#print axioms proved

end Go.Proofs.Yteamjjkmcomabaa.lmdBounds
