/-
  Law QuickBeta of layer 15: what is sure by a greater beta is by a lesser one; by one of a half, or more, nothing is, whatever conf, view, slot, block, and by how much less.
-/
import Derived.Test.YtpojiijgahcidaaGreatQuickAwake
import Derived.Test.YtpojiijgahcidaaGreatHeadG
import Derived.Test.YtpojiijgahcidaaGreatDutyG
import Derived.Test.YtpojiijgahcidaaGreatViewOpen
import Derived.Test.YtpojiijgahcidaaGreatMixG
import Derived.Test.YtpojiijgahcidaaGreatGround
import Derived.Test.YtpojiijgahcidaaGreatTreeG
import Derived.Test.YtpojiijgahcidaaGreatWeighG
import Derived.Test.YtpojiijgahcidaaGreatVoteG
namespace Go.Proofs.YtpojiijgahcidaaGreat.quickBeta
set_option maxRecDepth 100000
set_option linter.unusedVariables false
set_option linter.unusedSimpArgs false
open Go.ChangeShapes Go.WideShapes Go.ChangeAt Go.RowKit
set_option linter.unusedVariables false

/-! ### The walk: the call returns true, and of what was there nothing has changed. -/
attribute [local go_sem high] eqIdN eqIdZ eqZZ in
set_option maxRecDepth 100000 in
set_option maxHeartbeats 12800000 in
theorem walk (w : World) (kA : Option Addr) (kc : Nat) (k : Cf) (khm : k.ws.length ≤ maxLen) (khs : k.seed < 18446744073709551616) (khl : CellsAt w w.heap.size kA (intCells k.ws)) (lA : Option Addr) (lc : Nat) (l : List Bk) (vA : Option Addr) (vc : Nat) (v : List Vt) (lhm : l.length ≤ maxLen) (lhc : l.length ≤ lc) (lhw : WfL l) (lhl : CellsAt w w.heap.size lA (blockCells l)) (vhm : v.length ≤ maxLen) (vhc : v.length ≤ vc) (vhw : WfVs v) (vhl : CellsAt w w.heap.size vA (votesCells v)) (slot : Int) (hslot1 : -9223372036854775808 ≤ slot) (hslot2 : slot ≤ 9223372036854775807) (x : Nat × Nat) (hx1 : x.1 < 18446744073709551616) (hx2 : x.2 < 18446744073709551616) (le : Int) (hle1 : -9223372036854775808 ≤ le) (hle2 : le ≤ 9223372036854775807) :
    Calls Tryz.prog 7 #[.agg #[.slice kA k.ws.length kc, .int .u64 k.seed, .int .i64 k.ep, .int .i64 k.nu, .int .i64 k.de], .agg #[.slice lA l.length lc, .slice vA v.length vc], .int .i64 slot, .agg #[.int .u64 x.1, .int .u64 x.2], .int .i64 le] w fun e w' => e = .returned (.bool true) ∧ Kept w w' := by
  cases hf : few9C k l v with
  | false =>
    go_enter Tryz.func7, Tryz.ntmps7
    go_wp2_with fail
    have K0 := Lib.hid ((((Kept.refl w).alloc (.cells #[.slice kA k.ws.length kc, .int .u64 k.seed, .int .i64 k.ep, .int .i64 k.nu, .int .i64 k.de] 25)).alloc (.cells #[.slice lA l.length lc, .slice vA v.length vc] 29)).alloc (.cells #[.int .u64 x.1, .int .u64 x.2] 31))
    have HA := Lib.hid (khl.kept K0.out)
    clear khl
    have HL := Lib.hid (lhl.kept K0.out)
    clear lhl
    have HV := Lib.hid (vhl.kept K0.out)
    clear vhl
    have HB0 := Lib.hid (((HasCells.new w #[.slice kA k.ws.length kc, .int .u64 k.seed, .int .i64 k.ep, .int .i64 k.nu, .int .i64 k.de] 25 (w.heap.size) (by simp)).alloc (.cells #[.slice lA l.length lc, .slice vA v.length vc] 29)).alloc (.cells #[.int .u64 x.1, .int .u64 x.2] 31))
    have HB1 := Lib.hid ((HasCells.new (w.alloc (.cells #[.slice kA k.ws.length kc, .int .u64 k.seed, .int .i64 k.ep, .int .i64 k.nu, .int .i64 k.de] 25)) #[.slice lA l.length lc, .slice vA v.length vc] 29 (w.heap.size + 1) (by simp)).alloc (.cells #[.int .u64 x.1, .int .u64 x.2] 31))
    have HB2 := Lib.hid (HasCells.new ((w.alloc (.cells #[.slice kA k.ws.length kc, .int .u64 k.seed, .int .i64 k.ep, .int .i64 k.nu, .int .i64 k.de] 25)).alloc (.cells #[.slice lA l.length lc, .slice vA v.length vc] 29)) #[.int .u64 x.1, .int .u64 x.2] 31 (w.heap.size + 1 + 1) (by simp))
    generalize (((w.alloc (.cells #[.slice kA k.ws.length kc, .int .u64 k.seed, .int .i64 k.ep, .int .i64 k.nu, .int .i64 k.de] 25)).alloc (.cells #[.slice lA l.length lc, .slice vA v.length vc] 29)).alloc (.cells #[.int .u64 x.1, .int .u64 x.2] 31)) = W0 at *
    generalize w.heap.size + 1 + 1 = z2 at *
    generalize w.heap.size + 1 = z1 at *
    generalize w.heap.size = z0 at *
    have KB0 := Lib.hid (Kept.refl W0)
    refine (quickAwake W0).mono ?_
    rintro e W1 ⟨rfl, k⟩
    have KB1 := Lib.hid (KB0.out.trans k)
    clear k
    obtain ⟨b00, b01, b02, b03, b04⟩ := (HB0.out.kept KB1.out).five
    have bz0 := (HB0.out.kept KB1.out).1
    obtain ⟨b10, b11⟩ := (HB1.out.kept KB1.out).two
    have bz1 := (HB1.out.kept KB1.out).1
    obtain ⟨b20, b21⟩ := (HB2.out.kept KB1.out).two
    have bz2 := (HB2.out.kept KB1.out).1
    go_wp2_with fail
    clear b00 b01 b02 b03 b04 bz0 b10 b11 bz1 b20 b21 bz2
    refine (few9_any kA kc k lA lc l vA vc v W1).mono ?_
    rintro e W2 ⟨rfl, k⟩
    have KB2 := Lib.hid (KB1.out.trans k)
    clear k
    rw [hf]
    obtain ⟨b00, b01, b02, b03, b04⟩ := (HB0.out.kept KB2.out).five
    have bz0 := (HB0.out.kept KB2.out).1
    obtain ⟨b10, b11⟩ := (HB1.out.kept KB2.out).two
    have bz1 := (HB1.out.kept KB2.out).1
    obtain ⟨b20, b21⟩ := (HB2.out.kept KB2.out).two
    have bz2 := (HB2.out.kept KB2.out).1
    go_wp2_with fail
    clear b00 b01 b02 b03 b04 bz0 b10 b11 bz1 b20 b21 bz2
    generalize hnd : wrap64 (k.nu - le) = nd at *
    have HNd := Lib.hid hnd
    clear hnd
    have H13 := Lib.hid (AtB.new W2 #[.slice kA k.ws.length kc, .int .u64 k.seed, .int .i64 k.ep, .int .i64 nd, .int .i64 k.de] 25)
    have kk := (Kept.refl W2).alloc (.cells #[.slice kA k.ws.length kc, .int .u64 k.seed, .int .i64 k.ep, .int .i64 nd, .int .i64 k.de] 25)
    have KB3 := Lib.hid (KB2.out.trans kk)
    clear kk
    generalize W2.alloc (.cells #[.slice kA k.ws.length kc, .int .u64 k.seed, .int .i64 k.ep, .int .i64 nd, .int .i64 k.de] 25) = W3 at *
    generalize W2.heap.size = z13 at *
    go_ret
    exact ⟨by first | rfl | (simp; done), K0.out.trans KB3.out⟩
  | true =>
    obtain ⟨hk40, hl20, hv30⟩ := few9C_yes hf
    have HF := Lib.hid hf
    clear hf
    have hwx : WfI x := ⟨hx1, hx2⟩
    go_enter Tryz.func7, Tryz.ntmps7
    go_wp2_with fail
    have K0 := Lib.hid ((((Kept.refl w).alloc (.cells #[.slice kA k.ws.length kc, .int .u64 k.seed, .int .i64 k.ep, .int .i64 k.nu, .int .i64 k.de] 25)).alloc (.cells #[.slice lA l.length lc, .slice vA v.length vc] 29)).alloc (.cells #[.int .u64 x.1, .int .u64 x.2] 31))
    have HA := Lib.hid (khl.kept K0.out)
    clear khl
    have HL := Lib.hid (lhl.kept K0.out)
    clear lhl
    have HV := Lib.hid (vhl.kept K0.out)
    clear vhl
    have HB0 := Lib.hid (((HasCells.new w #[.slice kA k.ws.length kc, .int .u64 k.seed, .int .i64 k.ep, .int .i64 k.nu, .int .i64 k.de] 25 (w.heap.size) (by simp)).alloc (.cells #[.slice lA l.length lc, .slice vA v.length vc] 29)).alloc (.cells #[.int .u64 x.1, .int .u64 x.2] 31))
    have HB1 := Lib.hid ((HasCells.new (w.alloc (.cells #[.slice kA k.ws.length kc, .int .u64 k.seed, .int .i64 k.ep, .int .i64 k.nu, .int .i64 k.de] 25)) #[.slice lA l.length lc, .slice vA v.length vc] 29 (w.heap.size + 1) (by simp)).alloc (.cells #[.int .u64 x.1, .int .u64 x.2] 31))
    have HB2 := Lib.hid (HasCells.new ((w.alloc (.cells #[.slice kA k.ws.length kc, .int .u64 k.seed, .int .i64 k.ep, .int .i64 k.nu, .int .i64 k.de] 25)).alloc (.cells #[.slice lA l.length lc, .slice vA v.length vc] 29)) #[.int .u64 x.1, .int .u64 x.2] 31 (w.heap.size + 1 + 1) (by simp))
    generalize (((w.alloc (.cells #[.slice kA k.ws.length kc, .int .u64 k.seed, .int .i64 k.ep, .int .i64 k.nu, .int .i64 k.de] 25)).alloc (.cells #[.slice lA l.length lc, .slice vA v.length vc] 29)).alloc (.cells #[.int .u64 x.1, .int .u64 x.2] 31)) = W0 at *
    generalize w.heap.size + 1 + 1 = z2 at *
    generalize w.heap.size + 1 = z1 at *
    generalize w.heap.size = z0 at *
    have KB0 := Lib.hid (Kept.refl W0)
    refine (quickAwake W0).mono ?_
    rintro e W1 ⟨rfl, k⟩
    have KB1 := Lib.hid (KB0.out.trans k)
    clear k
    obtain ⟨b00, b01, b02, b03, b04⟩ := (HB0.out.kept KB1.out).five
    have bz0 := (HB0.out.kept KB1.out).1
    obtain ⟨b10, b11⟩ := (HB1.out.kept KB1.out).two
    have bz1 := (HB1.out.kept KB1.out).1
    obtain ⟨b20, b21⟩ := (HB2.out.kept KB1.out).two
    have bz2 := (HB2.out.kept KB1.out).1
    go_wp2_with fail
    clear b00 b01 b02 b03 b04 bz0 b10 b11 bz1 b20 b21 bz2
    refine (few9_any kA kc k lA lc l vA vc v W1).mono ?_
    rintro e W2 ⟨rfl, k⟩
    have KB2 := Lib.hid (KB1.out.trans k)
    clear k
    rw [HF.out]
    obtain ⟨b00, b01, b02, b03, b04⟩ := (HB0.out.kept KB2.out).five
    have bz0 := (HB0.out.kept KB2.out).1
    obtain ⟨b10, b11⟩ := (HB1.out.kept KB2.out).two
    have bz1 := (HB1.out.kept KB2.out).1
    obtain ⟨b20, b21⟩ := (HB2.out.kept KB2.out).two
    have bz2 := (HB2.out.kept KB2.out).1
    go_wp2_with fail
    clear b00 b01 b02 b03 b04 bz0 b10 b11 bz1 b20 b21 bz2
    generalize hnd : wrap64 (k.nu - le) = nd at *
    have HNd := Lib.hid hnd
    clear hnd
    have H13 := Lib.hid (AtB.new W2 #[.slice kA k.ws.length kc, .int .u64 k.seed, .int .i64 k.ep, .int .i64 nd, .int .i64 k.de] 25)
    have kk := (Kept.refl W2).alloc (.cells #[.slice kA k.ws.length kc, .int .u64 k.seed, .int .i64 k.ep, .int .i64 nd, .int .i64 k.de] 25)
    have KB3 := Lib.hid (KB2.out.trans kk)
    clear kk
    generalize W2.alloc (.cells #[.slice kA k.ws.length kc, .int .u64 k.seed, .int .i64 k.ep, .int .i64 nd, .int .i64 k.de] 25) = W3 at *
    generalize W2.heap.size = z13 at *
    refine (mayD_any kA kc k W3 (HA.out.kept KB3.out)).mono ?_
    rintro e W4 ⟨rfl, k⟩
    replace H13 := Lib.hid (H13.out.kept k)
    have KB4 := Lib.hid (KB3.out.trans k)
    clear k
    cases hm : mayC k with
    | false =>

      have e0 : W4.cell? ⟨z13, 0, none⟩ = some (.slice kA k.ws.length kc) := H13.out.cell
      have e1 : W4.cell? ⟨z13, 1, none⟩ = some (.int .u64 k.seed) := H13.out.cell
      have e2 : W4.cell? ⟨z13, 2, none⟩ = some (.int .i64 k.ep) := H13.out.cell
      have e3 : W4.cell? ⟨z13, 3, none⟩ = some (.int .i64 nd) := H13.out.cell
      have e4 : W4.cell? ⟨z13, 4, none⟩ = some (.int .i64 k.de) := H13.out.cell
      have l13 := H13.out.lt
      obtain ⟨b00, b01, b02, b03, b04⟩ := (HB0.out.kept KB4.out).five
      have bz0 := (HB0.out.kept KB4.out).1
      obtain ⟨b10, b11⟩ := (HB1.out.kept KB4.out).two
      have bz1 := (HB1.out.kept KB4.out).1
      obtain ⟨b20, b21⟩ := (HB2.out.kept KB4.out).two
      have bz2 := (HB2.out.kept KB4.out).1
      go_wp2_with fail
      clear b00 b01 b02 b03 b04 bz0 b10 b11 bz1 b20 b21 bz2
      clear e0 e1 e2 e3 e4 l13
      go_ret
      exact ⟨by first | rfl | (simp; done), K0.out.trans KB4.out⟩
    | true =>
      by_cases h1 : le < 0
      · have g1 : decide (le < 0) = true := decide_eq_true h1
        have e0 : W4.cell? ⟨z13, 0, none⟩ = some (.slice kA k.ws.length kc) := H13.out.cell
        have e1 : W4.cell? ⟨z13, 1, none⟩ = some (.int .u64 k.seed) := H13.out.cell
        have e2 : W4.cell? ⟨z13, 2, none⟩ = some (.int .i64 k.ep) := H13.out.cell
        have e3 : W4.cell? ⟨z13, 3, none⟩ = some (.int .i64 nd) := H13.out.cell
        have e4 : W4.cell? ⟨z13, 4, none⟩ = some (.int .i64 k.de) := H13.out.cell
        have l13 := H13.out.lt
        obtain ⟨b00, b01, b02, b03, b04⟩ := (HB0.out.kept KB4.out).five
        have bz0 := (HB0.out.kept KB4.out).1
        obtain ⟨b10, b11⟩ := (HB1.out.kept KB4.out).two
        have bz1 := (HB1.out.kept KB4.out).1
        obtain ⟨b20, b21⟩ := (HB2.out.kept KB4.out).two
        have bz2 := (HB2.out.kept KB4.out).1
        go_wp2_with fail
        clear b00 b01 b02 b03 b04 bz0 b10 b11 bz1 b20 b21 bz2
        clear e0 e1 e2 e3 e4 l13
        go_ret
        exact ⟨by first | rfl | (simp; done), K0.out.trans KB4.out⟩
      · by_cases h2 : nd < 0
        · have g1 : decide (le < 0) = false := decide_eq_false h1
          have g2 : decide (nd < 0) = true := decide_eq_true h2
          have e0 : W4.cell? ⟨z13, 0, none⟩ = some (.slice kA k.ws.length kc) := H13.out.cell
          have e1 : W4.cell? ⟨z13, 1, none⟩ = some (.int .u64 k.seed) := H13.out.cell
          have e2 : W4.cell? ⟨z13, 2, none⟩ = some (.int .i64 k.ep) := H13.out.cell
          have e3 : W4.cell? ⟨z13, 3, none⟩ = some (.int .i64 nd) := H13.out.cell
          have e4 : W4.cell? ⟨z13, 4, none⟩ = some (.int .i64 k.de) := H13.out.cell
          have l13 := H13.out.lt
          obtain ⟨b00, b01, b02, b03, b04⟩ := (HB0.out.kept KB4.out).five
          have bz0 := (HB0.out.kept KB4.out).1
          obtain ⟨b10, b11⟩ := (HB1.out.kept KB4.out).two
          have bz1 := (HB1.out.kept KB4.out).1
          obtain ⟨b20, b21⟩ := (HB2.out.kept KB4.out).two
          have bz2 := (HB2.out.kept KB4.out).1
          go_wp2_with fail
          clear b00 b01 b02 b03 b04 bz0 b10 b11 bz1 b20 b21 bz2
          clear e0 e1 e2 e3 e4 l13
          go_ret
          exact ⟨by first | rfl | (simp; done), K0.out.trans KB4.out⟩
        · have g1 : decide (le < 0) = false := decide_eq_false h1
          have g2 : decide (nd < 0) = false := decide_eq_false h2
          obtain ⟨hnu, hde⟩ := quick_nums hm
          have hmm := mayC_yes hm
          have hnn : nd = k.nu - le := by rw [← HNd.out]; exact IntWalk.wrap64_in _ (by omega)
          have HM := Lib.hid hm
          have HM2 := Lib.hid (may_beta (n := nd) hm (by omega) (by omega))
          have hnu2 : -1099511627776 ≤ ({ k with nu := nd } : Cf).nu ∧ ({ k with nu := nd } : Cf).nu ≤ 1099511627776 := by
            show -1099511627776 ≤ nd ∧ nd ≤ 1099511627776
            omega
          have HB := Lib.hid (show 0 ≤ nd ∧ nd ≤ k.nu by omega)
          clear hmm hnn HNd hm
          have e0 : W4.cell? ⟨z13, 0, none⟩ = some (.slice kA k.ws.length kc) := H13.out.cell
          have e1 : W4.cell? ⟨z13, 1, none⟩ = some (.int .u64 k.seed) := H13.out.cell
          have e2 : W4.cell? ⟨z13, 2, none⟩ = some (.int .i64 k.ep) := H13.out.cell
          have e3 : W4.cell? ⟨z13, 3, none⟩ = some (.int .i64 nd) := H13.out.cell
          have e4 : W4.cell? ⟨z13, 4, none⟩ = some (.int .i64 k.de) := H13.out.cell
          have l13 := H13.out.lt
          obtain ⟨b00, b01, b02, b03, b04⟩ := (HB0.out.kept KB4.out).five
          have bz0 := (HB0.out.kept KB4.out).1
          obtain ⟨b10, b11⟩ := (HB1.out.kept KB4.out).two
          have bz1 := (HB1.out.kept KB4.out).1
          obtain ⟨b20, b21⟩ := (HB2.out.kept KB4.out).two
          have bz2 := (HB2.out.kept KB4.out).1
          go_wp2_with fail
          clear b00 b01 b02 b03 b04 bz0 b10 b11 bz1 b20 b21 bz2
          clear e0 e1 e2 e3 e4 l13
          clear g1 g2 h1 h2
          refine (quickSure_any kA kc k lA lc l vA vc v slot x W4 (by omega) khs (by omega) (by omega) lhw vhw hwx hnu hde (HA.out.kept KB4.out) (HL.out.kept KB4.out) (HV.out.kept KB4.out)).mono ?_
          rintro e W5 ⟨R, hR, rfl, k⟩
          replace H13 := Lib.hid (H13.out.kept k)
          have KB5 := Lib.hid (KB4.out.trans k)
          clear k
          have HR := Lib.hid hR
          clear hR
          have HS := Lib.hid (fun R2 (h : Golds { k with nu := nd } slot v R2) => (show R2 = R from (golds_beta HM.out HM2.out h).unique HR.out))
          have HH := Lib.hid (fun (h : sureC k l slot R x = true) => (sure_half HM.out HR.out h).2)
          have HBs := Lib.hid (fun (h : sureC k l slot R x = true) (h2 : Golds { k with nu := nd } slot v R) => sure_beta HM.out HB.out.1 HB.out.2 h2 h)
          cases hs : sureC k l slot R x with
          | false =>
            clear HS HH HBs
            have e0 : W5.cell? ⟨z13, 0, none⟩ = some (.slice kA k.ws.length kc) := H13.out.cell
            have e1 : W5.cell? ⟨z13, 1, none⟩ = some (.int .u64 k.seed) := H13.out.cell
            have e2 : W5.cell? ⟨z13, 2, none⟩ = some (.int .i64 k.ep) := H13.out.cell
            have e3 : W5.cell? ⟨z13, 3, none⟩ = some (.int .i64 nd) := H13.out.cell
            have e4 : W5.cell? ⟨z13, 4, none⟩ = some (.int .i64 k.de) := H13.out.cell
            have l13 := H13.out.lt
            obtain ⟨b00, b01, b02, b03, b04⟩ := (HB0.out.kept KB5.out).five
            have bz0 := (HB0.out.kept KB5.out).1
            obtain ⟨b10, b11⟩ := (HB1.out.kept KB5.out).two
            have bz1 := (HB1.out.kept KB5.out).1
            obtain ⟨b20, b21⟩ := (HB2.out.kept KB5.out).two
            have bz2 := (HB2.out.kept KB5.out).1
            go_wp2_with fail
            clear b00 b01 b02 b03 b04 bz0 b10 b11 bz1 b20 b21 bz2
            clear e0 e1 e2 e3 e4 l13
            go_ret
            exact ⟨by first | rfl | (simp; done), K0.out.trans KB5.out⟩
          | true =>
            have hh2 := HH.out hs
            have hw2 : wrap64 (2 * k.nu) = 2 * k.nu := IntWalk.wrap64_in _ (by omega)
            have hw3 : IntKind.i64.wrap (2 * k.nu) = 2 * k.nu := by rw [IntKind.wrap_i64]; omega
            have hlt : decide (2 * k.nu < k.de) = true := decide_eq_true hh2
            have e0 : W5.cell? ⟨z13, 0, none⟩ = some (.slice kA k.ws.length kc) := H13.out.cell
            have e1 : W5.cell? ⟨z13, 1, none⟩ = some (.int .u64 k.seed) := H13.out.cell
            have e2 : W5.cell? ⟨z13, 2, none⟩ = some (.int .i64 k.ep) := H13.out.cell
            have e3 : W5.cell? ⟨z13, 3, none⟩ = some (.int .i64 nd) := H13.out.cell
            have e4 : W5.cell? ⟨z13, 4, none⟩ = some (.int .i64 k.de) := H13.out.cell
            have l13 := H13.out.lt
            obtain ⟨b00, b01, b02, b03, b04⟩ := (HB0.out.kept KB5.out).five
            have bz0 := (HB0.out.kept KB5.out).1
            obtain ⟨b10, b11⟩ := (HB1.out.kept KB5.out).two
            have bz1 := (HB1.out.kept KB5.out).1
            obtain ⟨b20, b21⟩ := (HB2.out.kept KB5.out).two
            have bz2 := (HB2.out.kept KB5.out).1
            go_wp2_with fail
            clear b00 b01 b02 b03 b04 bz0 b10 b11 bz1 b20 b21 bz2
            clear e0 e1 e2 e3 e4 l13
            refine (show Calls Tryz.prog 17 #[.agg #[.slice kA k.ws.length kc, .int .u64 k.seed, .int .i64 k.ep, .int .i64 nd, .int .i64 k.de], .agg #[.slice lA l.length lc, .slice vA v.length vc], .int .i64 slot, .agg #[.int .u64 x.1, .int .u64 x.2]] W5 _ from quickSure_any kA kc { k with nu := nd } lA lc l vA vc v slot x W5 (show k.ws.length ≤ 1000 by omega) khs (by omega) (by omega) lhw vhw hwx hnu2 hde (HA.out.kept KB5.out) (HL.out.kept KB5.out) (HV.out.kept KB5.out)).mono ?_
            rintro e V1 ⟨R2, hR2, rfl, k⟩
            obtain rfl := HS.out R2 hR2
            rw [HBs.out hs hR2]
            replace H13 := Lib.hid (H13.out.kept k)
            have KB6 := Lib.hid (KB5.out.trans k)
            clear k
            have e0 : V1.cell? ⟨z13, 0, none⟩ = some (.slice kA k.ws.length kc) := H13.out.cell
            have e1 : V1.cell? ⟨z13, 1, none⟩ = some (.int .u64 k.seed) := H13.out.cell
            have e2 : V1.cell? ⟨z13, 2, none⟩ = some (.int .i64 k.ep) := H13.out.cell
            have e3 : V1.cell? ⟨z13, 3, none⟩ = some (.int .i64 nd) := H13.out.cell
            have e4 : V1.cell? ⟨z13, 4, none⟩ = some (.int .i64 k.de) := H13.out.cell
            have l13 := H13.out.lt
            obtain ⟨b00, b01, b02, b03, b04⟩ := (HB0.out.kept KB6.out).five
            have bz0 := (HB0.out.kept KB6.out).1
            obtain ⟨b10, b11⟩ := (HB1.out.kept KB6.out).two
            have bz1 := (HB1.out.kept KB6.out).1
            obtain ⟨b20, b21⟩ := (HB2.out.kept KB6.out).two
            have bz2 := (HB2.out.kept KB6.out).1
            go_wp2_with fail
            clear b00 b01 b02 b03 b04 bz0 b10 b11 bz1 b20 b21 bz2
            clear e0 e1 e2 e3 e4 l13
            go_ret
            exact ⟨by first | rfl | (simp; done), K0.out.trans KB6.out⟩

/-! ### The row's step -/
set_option maxRecDepth 100000 in
theorem lifted (os : Os) (started : os.Started) (H : Type) (enc : TypeId × Value → H) :
    ReturnsInHanded {} Tryz.checked os 7 .any (Rows.quickBetaSpec.pre6 enc Tryz.prog Tryz.f7 Rows.quickBetaRow.domain false) (Rows.quickBetaSpec.post enc Tryz.prog Tryz.f7 false true false false) := by
  refine returnsInHanded_of_change (C := Tryz.checked) own started (by kernel_rfl) Tryz.func7
    (ChangeSpec.witness6 (enc := enc) (C := Tryz.checked) false ⟨#[], #[.agg #[.slice none 0 0, .int .u64 0, .int .i64 0, .int .i64 0, .int .i64 0], .agg #[.slice none 0 0, .slice none 0 0], .int .i64 0, .agg #[.int .u64 0, .int .u64 0], .int .i64 0], []⟩ 8 (by kernel_rfl) (by kernel_rfl) (by kernel_rfl) (by kernel_rfl)) ?_
  intro W base args ds gs before hval0 hW hcnd _
  have hval : ∀ (j : Nat) t v, Tryz.f7.params[j]? = some t → args[j]? = some v → Value.okWide Tryz.prog W .any base t v := hval0
  have hW' := hW
  obtain ⟨p, q, hA0, hV, rfl, hfz, hnd⟩ := hW
  have hA : DataW.TrodAll enc Tryz.prog W 0 (fun _ => true) true Tryz.f7.params.toList args.toList ds p := hA0
  rw [Tryz.params7] at hA hval
  obtain ⟨v0, vs0, d0, ds0, p0, q0, hargs, rfl, rfl, h0, r0⟩ := trodAll_cons hA
  obtain ⟨v1, vs1, d1, ds1, p1, q1, rfl, rfl, rfl, h1, r1⟩ := trodAll_cons r0
  obtain ⟨v2, vs2, d2, ds2, p2, q2, rfl, rfl, rfl, h2, r2⟩ := trodAll_cons r1
  obtain ⟨v3, vs3, d3, ds3, p3, q3, rfl, rfl, rfl, h3, r3⟩ := trodAll_cons r2
  obtain ⟨v4, vs4, d4, ds4, p4, q4, rfl, rfl, rfl, h4, r4⟩ := trodAll_cons r3
  obtain ⟨rfl, rfl, rfl⟩ := trodAll_nil r4
  obtain rfl : args = #[v0, v1, v2, v3, v4] := by cases args; simp_all
  obtain ⟨rfl, rfl⟩ := trodVars_none hV
  obtain ⟨kA, kc, k, rfl, khm, khs, khl⟩ := open_conf (hval 0 _ v0 rfl rfl) h0
  obtain ⟨lA, lc, l, vA, vc, v, rfl, lhm, lhc, lhw, lhl, vhm, vhc, vhw, vhl⟩ := open_view (hval 1 _ v1 rfl rfl) h1
  obtain ⟨slot, rfl, hslot1, hslot2⟩ := open_num (hval 2 _ v2 rfl rfl) h2
  obtain ⟨x, rfl, hx1, hx2⟩ := open_id (hval 3 _ v3 rfl rfl) h3
  obtain ⟨le, rfl, hle1, hle2⟩ := open_num (hval 4 _ v4 rfl rfl) h4
  clear hA0 hval0
  refine (walk W kA kc k khm khs khl lA lc l vA vc v lhm lhc lhw lhl vhm vhc vhw vhl slot hslot1 hslot2 x hx1 hx2 le hle1 hle2).mono fun e W' ⟨he, hb⟩ => ?_
  subst he
  exact ⟨_, rfl, law_post rfl (by kernel_rfl) rfl hW' rfl hb⟩

theorem over : Rows.quickBetaRow.holds Tryz.pinned (OpenSpec.ofChange Rows.quickBetaSpec) :=
  OpenClaim.holds_of_wide 7 Tryz.f7 rfl rfl rfl rfl rfl rfl rfl ⟨rfl, rfl, rfl, rfl, rfl⟩ rfl rfl rfl rfl rfl (by kernel_rfl) Tryz.func7 (by kernel_rfl)
    (of_decide_eq_true (by kernel_rfl)) (by unfold Func.isWrapper; first | (rw [if_pos (by decide +kernel)]; kernel_rfl) | (rw [if_neg (by decide +kernel)]; exact ⟨rfl, rfl⟩))
    (fun os started H enc _ => lifted os started H enc)

/-- The statement. -/
theorem proved : Rows.QuickBetaSaid :=
  over
#print axioms proved

end Go.Proofs.YtpojiijgahcidaaGreat.quickBeta
