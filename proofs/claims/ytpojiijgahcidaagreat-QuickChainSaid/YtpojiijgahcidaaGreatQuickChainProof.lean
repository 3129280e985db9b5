/-
  Law QuickChain of layer 15: what is under a block that is sure is sure; of two that are sure one is under the other one; a block that is sure is under the slot's head, whatever conf, view, slot and blocks.
-/
import Derived.Test.YtpojiijgahcidaaGreatQuickAwake
import Derived.Test.YtpojiijgahcidaaGreatHeadG
import Derived.Test.YtpojiijgahcidaaGreatDutyG
import Derived.Test.YtpojiijgahcidaaGreatViewOpen
import Derived.Test.YtpojiijgahcidaaGreatMixG
import Derived.Test.YtpojiijgahcidaaGreatGround
import Derived.Test.YtpojiijgahcidaaGreatTreeG
import Derived.Test.YtpojiijgahcidaaGreatWeighG
namespace Go.Proofs.YtpojiijgahcidaaGreat.quickChain
set_option maxRecDepth 100000
set_option linter.unusedVariables false
set_option linter.unusedSimpArgs false
open Go.ChangeShapes Go.WideShapes Go.ChangeAt Go.RowKit
set_option linter.unusedVariables false

/-! ### The walk: the call returns true, and of what was there nothing has changed. -/
attribute [local go_sem high] eqIdN eqIdZ eqZZ in
set_option maxRecDepth 100000 in
set_option maxHeartbeats 12800000 in
theorem walk (w : World) (kA : Option Addr) (kc : Nat) (k : Cf) (khm : k.ws.length ≤ maxLen) (khs : k.seed < 18446744073709551616) (khl : CellsAt w w.heap.size kA (intCells k.ws)) (lA : Option Addr) (lc : Nat) (l : List Bk) (vA : Option Addr) (vc : Nat) (v : List Vt) (lhm : l.length ≤ maxLen) (lhc : l.length ≤ lc) (lhw : WfL l) (lhl : CellsAt w w.heap.size lA (blockCells l)) (vhm : v.length ≤ maxLen) (vhc : v.length ≤ vc) (vhw : WfVs v) (vhl : CellsAt w w.heap.size vA (votesCells v)) (slot : Int) (hslot1 : -9223372036854775808 ≤ slot) (hslot2 : slot ≤ 9223372036854775807) (x : Nat × Nat) (hx1 : x.1 < 18446744073709551616) (hx2 : x.2 < 18446744073709551616) (y : Nat × Nat) (hy1 : y.1 < 18446744073709551616) (hy2 : y.2 < 18446744073709551616) :
    Calls Tryz.prog 4 #[.agg #[.slice kA k.ws.length kc, .int .u64 k.seed, .int .i64 k.ep, .int .i64 k.nu, .int .i64 k.de], .agg #[.slice lA l.length lc, .slice vA v.length vc], .int .i64 slot, .agg #[.int .u64 x.1, .int .u64 x.2], .agg #[.int .u64 y.1, .int .u64 y.2]] w fun e w' => e = .returned (.bool true) ∧ Kept w w' := by
  cases hf : few9C k l v with
  | false =>
    go_enter Tryz.func4, Tryz.ntmps4
    go_wp2_with fail
    have K0 := Lib.hid (((((Kept.refl w).alloc (.cells #[.slice kA k.ws.length kc, .int .u64 k.seed, .int .i64 k.ep, .int .i64 k.nu, .int .i64 k.de] 25)).alloc (.cells #[.slice lA l.length lc, .slice vA v.length vc] 29)).alloc (.cells #[.int .u64 x.1, .int .u64 x.2] 31)).alloc (.cells #[.int .u64 y.1, .int .u64 y.2] 31))
    have HA := Lib.hid (khl.kept K0.out)
    clear khl
    have HL := Lib.hid (lhl.kept K0.out)
    clear lhl
    have HV := Lib.hid (vhl.kept K0.out)
    clear vhl
    have HB0 := Lib.hid ((((HasCells.new w #[.slice kA k.ws.length kc, .int .u64 k.seed, .int .i64 k.ep, .int .i64 k.nu, .int .i64 k.de] 25 (w.heap.size) (by simp)).alloc (.cells #[.slice lA l.length lc, .slice vA v.length vc] 29)).alloc (.cells #[.int .u64 x.1, .int .u64 x.2] 31)).alloc (.cells #[.int .u64 y.1, .int .u64 y.2] 31))
    have HB1 := Lib.hid (((HasCells.new (w.alloc (.cells #[.slice kA k.ws.length kc, .int .u64 k.seed, .int .i64 k.ep, .int .i64 k.nu, .int .i64 k.de] 25)) #[.slice lA l.length lc, .slice vA v.length vc] 29 (w.heap.size + 1) (by simp)).alloc (.cells #[.int .u64 x.1, .int .u64 x.2] 31)).alloc (.cells #[.int .u64 y.1, .int .u64 y.2] 31))
    have HB2 := Lib.hid ((HasCells.new ((w.alloc (.cells #[.slice kA k.ws.length kc, .int .u64 k.seed, .int .i64 k.ep, .int .i64 k.nu, .int .i64 k.de] 25)).alloc (.cells #[.slice lA l.length lc, .slice vA v.length vc] 29)) #[.int .u64 x.1, .int .u64 x.2] 31 (w.heap.size + 1 + 1) (by simp)).alloc (.cells #[.int .u64 y.1, .int .u64 y.2] 31))
    have HB3 := Lib.hid (HasCells.new (((w.alloc (.cells #[.slice kA k.ws.length kc, .int .u64 k.seed, .int .i64 k.ep, .int .i64 k.nu, .int .i64 k.de] 25)).alloc (.cells #[.slice lA l.length lc, .slice vA v.length vc] 29)).alloc (.cells #[.int .u64 x.1, .int .u64 x.2] 31)) #[.int .u64 y.1, .int .u64 y.2] 31 (w.heap.size + 1 + 1 + 1) (by simp))
    generalize ((((w.alloc (.cells #[.slice kA k.ws.length kc, .int .u64 k.seed, .int .i64 k.ep, .int .i64 k.nu, .int .i64 k.de] 25)).alloc (.cells #[.slice lA l.length lc, .slice vA v.length vc] 29)).alloc (.cells #[.int .u64 x.1, .int .u64 x.2] 31)).alloc (.cells #[.int .u64 y.1, .int .u64 y.2] 31)) = W0 at *
    generalize w.heap.size + 1 + 1 + 1 = z3 at *
    generalize w.heap.size + 1 + 1 = z2 at *
    generalize w.heap.size + 1 = z1 at *
    generalize w.heap.size = z0 at *
    have KB0 := Lib.hid (Kept.refl W0)
    refine (quickAwake W0).mono ?_
    rintro e W1 ⟨rfl, k⟩
    have KB1 := Lib.hid (KB0.out.trans k)
    clear k
    obtain ⟨b00, b01, b02, b03, b04⟩ := (HB0.out.kept KB1.out).five
    have bz0 := (HB0.out.kept KB1.out).1
    obtain ⟨b10, b11⟩ := (HB1.out.kept KB1.out).two
    have bz1 := (HB1.out.kept KB1.out).1
    obtain ⟨b20, b21⟩ := (HB2.out.kept KB1.out).two
    have bz2 := (HB2.out.kept KB1.out).1
    obtain ⟨b30, b31⟩ := (HB3.out.kept KB1.out).two
    have bz3 := (HB3.out.kept KB1.out).1
    go_wp2_with fail
    clear b00 b01 b02 b03 b04 bz0 b10 b11 bz1 b20 b21 bz2 b30 b31 bz3
    refine (few9_any kA kc k lA lc l vA vc v W1).mono ?_
    rintro e W2 ⟨rfl, k⟩
    have KB2 := Lib.hid (KB1.out.trans k)
    clear k
    rw [hf]
    obtain ⟨b00, b01, b02, b03, b04⟩ := (HB0.out.kept KB2.out).five
    have bz0 := (HB0.out.kept KB2.out).1
    obtain ⟨b10, b11⟩ := (HB1.out.kept KB2.out).two
    have bz1 := (HB1.out.kept KB2.out).1
    obtain ⟨b20, b21⟩ := (HB2.out.kept KB2.out).two
    have bz2 := (HB2.out.kept KB2.out).1
    obtain ⟨b30, b31⟩ := (HB3.out.kept KB2.out).two
    have bz3 := (HB3.out.kept KB2.out).1
    go_wp2_with fail
    clear b00 b01 b02 b03 b04 bz0 b10 b11 bz1 b20 b21 bz2 b30 b31 bz3
    go_ret
    exact ⟨by first | rfl | (simp; done), K0.out.trans KB2.out⟩
  | true =>
    obtain ⟨hk40, hl20, hv30⟩ := few9C_yes hf
    have HF := Lib.hid hf
    clear hf
    have hwx : WfI x := ⟨hx1, hx2⟩
    have hwy : WfI y := ⟨hy1, hy2⟩
    go_enter Tryz.func4, Tryz.ntmps4
    go_wp2_with fail
    have K0 := Lib.hid (((((Kept.refl w).alloc (.cells #[.slice kA k.ws.length kc, .int .u64 k.seed, .int .i64 k.ep, .int .i64 k.nu, .int .i64 k.de] 25)).alloc (.cells #[.slice lA l.length lc, .slice vA v.length vc] 29)).alloc (.cells #[.int .u64 x.1, .int .u64 x.2] 31)).alloc (.cells #[.int .u64 y.1, .int .u64 y.2] 31))
    have HA := Lib.hid (khl.kept K0.out)
    clear khl
    have HL := Lib.hid (lhl.kept K0.out)
    clear lhl
    have HV := Lib.hid (vhl.kept K0.out)
    clear vhl
    have HB0 := Lib.hid ((((HasCells.new w #[.slice kA k.ws.length kc, .int .u64 k.seed, .int .i64 k.ep, .int .i64 k.nu, .int .i64 k.de] 25 (w.heap.size) (by simp)).alloc (.cells #[.slice lA l.length lc, .slice vA v.length vc] 29)).alloc (.cells #[.int .u64 x.1, .int .u64 x.2] 31)).alloc (.cells #[.int .u64 y.1, .int .u64 y.2] 31))
    have HB1 := Lib.hid (((HasCells.new (w.alloc (.cells #[.slice kA k.ws.length kc, .int .u64 k.seed, .int .i64 k.ep, .int .i64 k.nu, .int .i64 k.de] 25)) #[.slice lA l.length lc, .slice vA v.length vc] 29 (w.heap.size + 1) (by simp)).alloc (.cells #[.int .u64 x.1, .int .u64 x.2] 31)).alloc (.cells #[.int .u64 y.1, .int .u64 y.2] 31))
    have HB2 := Lib.hid ((HasCells.new ((w.alloc (.cells #[.slice kA k.ws.length kc, .int .u64 k.seed, .int .i64 k.ep, .int .i64 k.nu, .int .i64 k.de] 25)).alloc (.cells #[.slice lA l.length lc, .slice vA v.length vc] 29)) #[.int .u64 x.1, .int .u64 x.2] 31 (w.heap.size + 1 + 1) (by simp)).alloc (.cells #[.int .u64 y.1, .int .u64 y.2] 31))
    have HB3 := Lib.hid (HasCells.new (((w.alloc (.cells #[.slice kA k.ws.length kc, .int .u64 k.seed, .int .i64 k.ep, .int .i64 k.nu, .int .i64 k.de] 25)).alloc (.cells #[.slice lA l.length lc, .slice vA v.length vc] 29)).alloc (.cells #[.int .u64 x.1, .int .u64 x.2] 31)) #[.int .u64 y.1, .int .u64 y.2] 31 (w.heap.size + 1 + 1 + 1) (by simp))
    generalize ((((w.alloc (.cells #[.slice kA k.ws.length kc, .int .u64 k.seed, .int .i64 k.ep, .int .i64 k.nu, .int .i64 k.de] 25)).alloc (.cells #[.slice lA l.length lc, .slice vA v.length vc] 29)).alloc (.cells #[.int .u64 x.1, .int .u64 x.2] 31)).alloc (.cells #[.int .u64 y.1, .int .u64 y.2] 31)) = W0 at *
    generalize w.heap.size + 1 + 1 + 1 = z3 at *
    generalize w.heap.size + 1 + 1 = z2 at *
    generalize w.heap.size + 1 = z1 at *
    generalize w.heap.size = z0 at *
    have KB0 := Lib.hid (Kept.refl W0)
    refine (quickAwake W0).mono ?_
    rintro e W1 ⟨rfl, k⟩
    have KB1 := Lib.hid (KB0.out.trans k)
    clear k
    obtain ⟨b00, b01, b02, b03, b04⟩ := (HB0.out.kept KB1.out).five
    have bz0 := (HB0.out.kept KB1.out).1
    obtain ⟨b10, b11⟩ := (HB1.out.kept KB1.out).two
    have bz1 := (HB1.out.kept KB1.out).1
    obtain ⟨b20, b21⟩ := (HB2.out.kept KB1.out).two
    have bz2 := (HB2.out.kept KB1.out).1
    obtain ⟨b30, b31⟩ := (HB3.out.kept KB1.out).two
    have bz3 := (HB3.out.kept KB1.out).1
    go_wp2_with fail
    clear b00 b01 b02 b03 b04 bz0 b10 b11 bz1 b20 b21 bz2 b30 b31 bz3
    refine (few9_any kA kc k lA lc l vA vc v W1).mono ?_
    rintro e W2 ⟨rfl, k⟩
    have KB2 := Lib.hid (KB1.out.trans k)
    clear k
    rw [HF.out]
    obtain ⟨b00, b01, b02, b03, b04⟩ := (HB0.out.kept KB2.out).five
    have bz0 := (HB0.out.kept KB2.out).1
    obtain ⟨b10, b11⟩ := (HB1.out.kept KB2.out).two
    have bz1 := (HB1.out.kept KB2.out).1
    obtain ⟨b20, b21⟩ := (HB2.out.kept KB2.out).two
    have bz2 := (HB2.out.kept KB2.out).1
    obtain ⟨b30, b31⟩ := (HB3.out.kept KB2.out).two
    have bz3 := (HB3.out.kept KB2.out).1
    go_wp2_with fail
    clear b00 b01 b02 b03 b04 bz0 b10 b11 bz1 b20 b21 bz2 b30 b31 bz3
    refine (mayD_any kA kc k W2 (HA.out.kept KB2.out)).mono ?_
    rintro e W3 ⟨rfl, k⟩
    have KB3 := Lib.hid (KB2.out.trans k)
    clear k
    cases hm : mayC k with
    | false =>
      obtain ⟨b00, b01, b02, b03, b04⟩ := (HB0.out.kept KB3.out).five
      have bz0 := (HB0.out.kept KB3.out).1
      obtain ⟨b10, b11⟩ := (HB1.out.kept KB3.out).two
      have bz1 := (HB1.out.kept KB3.out).1
      obtain ⟨b20, b21⟩ := (HB2.out.kept KB3.out).two
      have bz2 := (HB2.out.kept KB3.out).1
      obtain ⟨b30, b31⟩ := (HB3.out.kept KB3.out).two
      have bz3 := (HB3.out.kept KB3.out).1
      go_wp2_with fail
      clear b00 b01 b02 b03 b04 bz0 b10 b11 bz1 b20 b21 bz2 b30 b31 bz3
      go_ret
      exact ⟨by first | rfl | (simp; done), K0.out.trans KB3.out⟩
    | true =>
      obtain ⟨hnu, hde⟩ := quick_nums hm
      have HM := Lib.hid hm
      obtain ⟨b00, b01, b02, b03, b04⟩ := (HB0.out.kept KB3.out).five
      have bz0 := (HB0.out.kept KB3.out).1
      obtain ⟨b10, b11⟩ := (HB1.out.kept KB3.out).two
      have bz1 := (HB1.out.kept KB3.out).1
      obtain ⟨b20, b21⟩ := (HB2.out.kept KB3.out).two
      have bz2 := (HB2.out.kept KB3.out).1
      obtain ⟨b30, b31⟩ := (HB3.out.kept KB3.out).two
      have bz3 := (HB3.out.kept KB3.out).1
      go_wp2_with fail
      clear b00 b01 b02 b03 b04 bz0 b10 b11 bz1 b20 b21 bz2 b30 b31 bz3
      refine (quickSure_any kA kc k lA lc l vA vc v slot x W3 (by omega) khs (by omega) (by omega) lhw vhw hwx hnu hde (HA.out.kept KB3.out) (HL.out.kept KB3.out) (HV.out.kept KB3.out)).mono ?_
      rintro e W4 ⟨R, hR, rfl, k⟩
      have KB4 := Lib.hid (KB3.out.trans k)
      clear k
      have HR := Lib.hid hR
      clear hR
      cases hs : sureC k l slot R x with
      | false =>
        obtain ⟨b00, b01, b02, b03, b04⟩ := (HB0.out.kept KB4.out).five
        have bz0 := (HB0.out.kept KB4.out).1
        obtain ⟨b10, b11⟩ := (HB1.out.kept KB4.out).two
        have bz1 := (HB1.out.kept KB4.out).1
        obtain ⟨b20, b21⟩ := (HB2.out.kept KB4.out).two
        have bz2 := (HB2.out.kept KB4.out).1
        obtain ⟨b30, b31⟩ := (HB3.out.kept KB4.out).two
        have bz3 := (HB3.out.kept KB4.out).1
        go_wp2_with fail
        clear b00 b01 b02 b03 b04 bz0 b10 b11 bz1 b20 b21 bz2 b30 b31 bz3
        go_ret
        exact ⟨by first | rfl | (simp; done), K0.out.trans KB4.out⟩
      | true =>
        have HHd := Lib.hid (sure_head HM.out HR.out hs)
        have HUn := Lib.hid (fun (h : underC l y x = true) => sure_under HM.out HR.out hs h)
        have HBo := Lib.hid (fun (h : sureC k l slot R y = true) => sure_both HM.out HR.out hs h)
        obtain ⟨sb, hsb⟩ : ∃ sb, sb = sureC k l slot R y := ⟨_, rfl⟩
        rw [← hsb] at HUn HBo
        have HSb := Lib.hid hsb
        clear hsb hs
        obtain ⟨b00, b01, b02, b03, b04⟩ := (HB0.out.kept KB4.out).five
        have bz0 := (HB0.out.kept KB4.out).1
        obtain ⟨b10, b11⟩ := (HB1.out.kept KB4.out).two
        have bz1 := (HB1.out.kept KB4.out).1
        obtain ⟨b20, b21⟩ := (HB2.out.kept KB4.out).two
        have bz2 := (HB2.out.kept KB4.out).1
        obtain ⟨b30, b31⟩ := (HB3.out.kept KB4.out).two
        have bz3 := (HB3.out.kept KB4.out).1
        go_wp2_with fail
        cases hu : underC l y x with
        | true =>

          refine wp_region_noPanic ?_
          refine wp_region_held_drew (S := (fun w' => w'.cell? ⟨z0, 0, none⟩ = some (.slice kA k.ws.length kc) ∧ w'.cell? ⟨z0, 1, none⟩ = some (.int .u64 k.seed) ∧ w'.cell? ⟨z0, 2, none⟩ = some (.int .i64 k.ep) ∧ w'.cell? ⟨z0, 3, none⟩ = some (.int .i64 k.nu) ∧ w'.cell? ⟨z0, 4, none⟩ = some (.int .i64 k.de) ∧ w'.cell? ⟨z1, 0, none⟩ = some (.slice lA l.length lc) ∧ w'.cell? ⟨z1, 1, none⟩ = some (.slice vA v.length vc) ∧ w'.cell? ⟨z2, 0, none⟩ = some (.int .u64 x.1) ∧ w'.cell? ⟨z2, 1, none⟩ = some (.int .u64 x.2) ∧ w'.cell? ⟨z3, 0, none⟩ = some (.int .u64 y.1) ∧ w'.cell? ⟨z3, 1, none⟩ = some (.int .u64 y.2) ∧ Kept W4 w')) (by kernel_rfl) ?_ (fun hHeld => ?_)
          · exact ⟨b00, b01, b02, b03, b04, b10, b11, b20, b21, b30, b31, (Kept.refl _).drew⟩
          refine wpAnyH_take (i := 0) (v := ?_) (by simp only [List.getElem?_toArray, List.getElem?_cons_succ, List.getElem?_cons_zero]; rfl) (by kernel_rfl) (by kernel_rfl) (by kernel_rfl) (fun _ _ _ h => h) (Or.inl ⟨by rfl, ?_⟩) (by assumption) ?_
          rotate_left
          · intro w hSw
            (try dsimp only at hSw)
            go_simp
            (try with_reducible rfl)
          simp only [Act.put, List.setIfInBounds_toArray, List.set_cons_zero, List.set_cons_succ]
          refine wpAnyH_take (i := 1) (v := ?_) (by simp only [List.getElem?_toArray, List.getElem?_cons_succ, List.getElem?_cons_zero]; rfl) (by kernel_rfl) (by kernel_rfl) (by kernel_rfl) (fun _ _ _ h => h) (Or.inl ⟨by rfl, ?_⟩) (by assumption) ?_
          rotate_left
          · intro w hSw
            (try dsimp only at hSw)
            go_simp
            (try with_reducible rfl)
          simp only [Act.put, List.setIfInBounds_toArray, List.set_cons_zero, List.set_cons_succ]
          refine wpAnyH_take (i := 2) (v := ?_) (by simp only [List.getElem?_toArray, List.getElem?_cons_succ, List.getElem?_cons_zero]; rfl) (by kernel_rfl) (by kernel_rfl) (by kernel_rfl) (fun _ _ _ h => h) (Or.inl ⟨by rfl, ?_⟩) (by assumption) ?_
          rotate_left
          · intro w hSw
            (try dsimp only at hSw)
            go_simp
            (try with_reducible rfl)
          simp only [Act.put, List.setIfInBounds_toArray, List.set_cons_zero, List.set_cons_succ]
          refine wpAnyH_take (i := 3) (v := ?_) (by simp only [List.getElem?_toArray, List.getElem?_cons_succ, List.getElem?_cons_zero]; rfl) (by kernel_rfl) (by kernel_rfl) (by kernel_rfl) (fun _ _ _ h => h) (Or.inl ⟨by rfl, ?_⟩) (by assumption) ?_
          rotate_left
          · intro w hSw
            (try dsimp only at hSw)
            go_simp
            (try with_reducible rfl)
          simp only [Act.put, List.setIfInBounds_toArray, List.set_cons_zero, List.set_cons_succ]
          refine wpAnyH_ready (rs := [4]) (by kernel_rfl) (by simp) ?_
          refine AllReadyH.cons (by simp only [List.getElem?_toArray, List.getElem?_cons_succ, List.getElem?_cons_zero]; rfl) (fun K hK => ?_) AllReadyH.nil
          go_simp
          go_at_call 19; with_reducible refine (under_any lA lc l (by omega) lhw y x hwx _ (HL.out.kept (KB4.out.trans hHeld.2.2.2.2.2.2.2.2.2.2.2))).mono ?_
          rintro e w' ⟨rfl, kk⟩
          rw [hu]
          try go_wp2_with fail
          refine hK.out _ _ ?_ (fun hHeld2 => ?_)
          · exact keepP11 bz0 bz0 bz0 bz0 bz0 bz1 bz1 bz2 bz2 bz3 bz3 hHeld kk
          clear hK K hHeld
          have hHeld := hHeld2
          clear hHeld2
          try simp only [Act.put, List.setIfInBounds_toArray, List.set_cons_zero, List.set_cons_succ]
          refine wpAnyH_take (i := 5) (v := ?_) (by simp only [List.getElem?_toArray, List.getElem?_cons_succ, List.getElem?_cons_zero]; rfl) (by kernel_rfl) (by kernel_rfl) (by kernel_rfl) (fun _ _ _ h => h) (Or.inl ⟨by rfl, ?_⟩) (by assumption) ?_
          rotate_left
          · intro w hSw
            (try dsimp only at hSw)
            go_simp
            (try with_reducible rfl)
          simp only [Act.put, List.setIfInBounds_toArray, List.set_cons_zero, List.set_cons_succ]
          refine wpAnyH_take (i := 6) (v := ?_) (by simp only [List.getElem?_toArray, List.getElem?_cons_succ, List.getElem?_cons_zero]; rfl) (by kernel_rfl) (by kernel_rfl) (by kernel_rfl) (fun _ _ _ h => h) (Or.inl ⟨by rfl, ?_⟩) (by assumption) ?_
          rotate_left
          · intro w hSw
            (try dsimp only at hSw)
            go_simp
            (try with_reducible rfl)
          simp only [Act.put, List.setIfInBounds_toArray, List.set_cons_zero, List.set_cons_succ]
          refine wpAnyH_take (i := 7) (v := ?_) (by simp only [List.getElem?_toArray, List.getElem?_cons_succ, List.getElem?_cons_zero]; rfl) (by kernel_rfl) (by kernel_rfl) (by kernel_rfl) (fun _ _ _ h => h) (Or.inl ⟨by rfl, ?_⟩) (by assumption) ?_
          rotate_left
          · intro w hSw
            (try dsimp only at hSw)
            go_simp
            (try with_reducible rfl)
          simp only [Act.put, List.setIfInBounds_toArray, List.set_cons_zero, List.set_cons_succ]
          refine wpAnyH_take (i := 8) (v := ?_) (by simp only [List.getElem?_toArray, List.getElem?_cons_succ, List.getElem?_cons_zero]; rfl) (by kernel_rfl) (by kernel_rfl) (by kernel_rfl) (fun _ _ _ h => h) (Or.inl ⟨by rfl, ?_⟩) (by assumption) ?_
          rotate_left
          · intro w hSw
            (try dsimp only at hSw)
            go_simp
            (try with_reducible rfl)
          simp only [Act.put, List.setIfInBounds_toArray, List.set_cons_zero, List.set_cons_succ]
          refine wpAnyH_take (i := 9) (v := ?_) (by simp only [List.getElem?_toArray, List.getElem?_cons_succ, List.getElem?_cons_zero]; rfl) (by kernel_rfl) (by kernel_rfl) (by kernel_rfl) (fun _ _ _ h => h) (Or.inl ⟨by rfl, ?_⟩) (by assumption) ?_
          rotate_left
          · intro w hSw
            (try dsimp only at hSw)
            go_simp
            (try with_reducible rfl)
          simp only [Act.put, List.setIfInBounds_toArray, List.set_cons_zero, List.set_cons_succ]
          refine wpAnyH_ready (rs := [10]) (by kernel_rfl) (by simp) ?_
          refine AllReadyH.cons (by simp only [List.getElem?_toArray, List.getElem?_cons_succ, List.getElem?_cons_zero]; rfl) (fun K hK => ?_) AllReadyH.nil
          go_simp
          go_at_call 17; with_reducible refine (quickSure_any kA kc k lA lc l vA vc v slot y _ (by omega) khs (by omega) (by omega) lhw vhw hwy hnu hde (HA.out.kept (KB4.out.trans hHeld.2.2.2.2.2.2.2.2.2.2.2)) (HL.out.kept (KB4.out.trans hHeld.2.2.2.2.2.2.2.2.2.2.2)) (HV.out.kept (KB4.out.trans hHeld.2.2.2.2.2.2.2.2.2.2.2))).mono ?_
          rintro e w' ⟨R2, hR2, rfl, kk⟩
          have eR := HR.out.unique hR2
          subst eR
          clear hR2
          rw [← HSb.out, HUn.out hu]
          try go_wp2_with fail
          refine hK.out _ _ ?_ (fun hHeld2 => ?_)
          · exact keepP11 bz0 bz0 bz0 bz0 bz0 bz1 bz1 bz2 bz2 bz3 bz3 hHeld kk
          clear hK K hHeld
          have hHeld := hHeld2
          clear hHeld2
          try simp only [Act.put, List.setIfInBounds_toArray, List.set_cons_zero, List.set_cons_succ]
          refine wpAnyH_take (i := 11) (v := ?_) (by simp only [List.getElem?_toArray, List.getElem?_cons_succ, List.getElem?_cons_zero]; rfl) (by kernel_rfl) (by kernel_rfl) (by kernel_rfl) (fun _ _ _ h => h) (Or.inl ⟨by rfl, ?_⟩) (by assumption) ?_
          rotate_left
          · intro w hSw
            (try dsimp only at hSw)
            go_simp
            (try with_reducible rfl)
          simp only [Act.put, List.setIfInBounds_toArray, List.set_cons_zero, List.set_cons_succ]
          refine wpAnyH_take (i := 12) (v := ?_) (by simp only [List.getElem?_toArray, List.getElem?_cons_succ, List.getElem?_cons_zero]; rfl) (by kernel_rfl) (by kernel_rfl) (by kernel_rfl) (fun _ _ _ h => h) (Or.inl ⟨by rfl, ?_⟩) (by assumption) ?_
          rotate_left
          · intro w hSw
            (try dsimp only at hSw)
            go_simp
            (try with_reducible rfl)
          simp only [Act.put, List.setIfInBounds_toArray, List.set_cons_zero, List.set_cons_succ]
          refine wpAnyH_take (i := 13) (v := ?_) (by simp only [List.getElem?_toArray, List.getElem?_cons_succ, List.getElem?_cons_zero]; rfl) (by kernel_rfl) (by kernel_rfl) (by kernel_rfl) (fun _ _ _ h => h) (Or.inl ⟨by rfl, ?_⟩) (by assumption) ?_
          rotate_left
          · intro w hSw
            (try dsimp only at hSw)
            go_simp
            (try with_reducible rfl)
          simp only [Act.put, List.setIfInBounds_toArray, List.set_cons_zero, List.set_cons_succ]
          refine wpAnyH_take (i := 14) (v := ?_) (by simp only [List.getElem?_toArray, List.getElem?_cons_succ, List.getElem?_cons_zero]; rfl) (by kernel_rfl) (by kernel_rfl) (by kernel_rfl) (fun _ _ _ h => h) (Or.inl ⟨by rfl, ?_⟩) (by assumption) ?_
          rotate_left
          · intro w hSw
            (try dsimp only at hSw)
            go_simp
            (try with_reducible rfl)
          simp only [Act.put, List.setIfInBounds_toArray, List.set_cons_zero, List.set_cons_succ]
          refine wpAnyH_take (i := 15) (v := ?_) (by simp only [List.getElem?_toArray, List.getElem?_cons_succ, List.getElem?_cons_zero]; rfl) (by kernel_rfl) (by kernel_rfl) (by kernel_rfl) (fun _ _ _ h => h) (Or.inl ⟨by rfl, ?_⟩) (by assumption) ?_
          rotate_left
          · intro w hSw
            (try dsimp only at hSw)
            go_simp
            (try with_reducible rfl)
          simp only [Act.put, List.setIfInBounds_toArray, List.set_cons_zero, List.set_cons_succ]
          refine wpAnyH_take (i := 16) (v := ?_) (by simp only [List.getElem?_toArray, List.getElem?_cons_succ, List.getElem?_cons_zero]; rfl) (by kernel_rfl) (by kernel_rfl) (by kernel_rfl) (fun _ _ _ h => h) (Or.inl ⟨by rfl, ?_⟩) (by assumption) ?_
          rotate_left
          · intro w hSw
            (try dsimp only at hSw)
            go_simp
            (try with_reducible rfl)
          simp only [Act.put, List.setIfInBounds_toArray, List.set_cons_zero, List.set_cons_succ]
          refine wpAnyH_take (i := 17) (v := ?_) (by simp only [List.getElem?_toArray, List.getElem?_cons_succ, List.getElem?_cons_zero]; rfl) (by kernel_rfl) (by kernel_rfl) (by kernel_rfl) (fun _ _ _ h => h) (Or.inl ⟨by rfl, ?_⟩) (by assumption) ?_
          rotate_left
          · intro w hSw
            (try dsimp only at hSw)
            go_simp
            (try with_reducible rfl)
          simp only [Act.put, List.setIfInBounds_toArray, List.set_cons_zero, List.set_cons_succ]
          refine wpAnyH_take (i := 18) (v := ?_) (by simp only [List.getElem?_toArray, List.getElem?_cons_succ, List.getElem?_cons_zero]; rfl) (by kernel_rfl) (by kernel_rfl) (by kernel_rfl) (fun _ _ _ h => h) (Or.inl ⟨by rfl, ?_⟩) (by assumption) ?_
          rotate_left
          · intro w hSw
            (try dsimp only at hSw)
            go_simp
            (try with_reducible rfl)
          simp only [Act.put, List.setIfInBounds_toArray, List.set_cons_zero, List.set_cons_succ]
          refine wpAnyH_take (i := 19) (v := ?_) (by simp only [List.getElem?_toArray, List.getElem?_cons_succ, List.getElem?_cons_zero]; rfl) (by kernel_rfl) (by kernel_rfl) (by kernel_rfl) (fun _ _ _ h => h) (Or.inl ⟨by rfl, ?_⟩) (by assumption) ?_
          rotate_left
          · intro w hSw
            (try dsimp only at hSw)
            go_simp
            (try with_reducible rfl)
          simp only [Act.put, List.setIfInBounds_toArray, List.set_cons_zero, List.set_cons_succ]
          refine wpAnyH_ready (rs := [20]) (by kernel_rfl) (by simp) ?_
          refine AllReadyH.cons (by simp only [List.getElem?_toArray, List.getElem?_cons_succ, List.getElem?_cons_zero]; rfl) (fun K hK => ?_) AllReadyH.nil
          go_simp
          go_at_call 20; with_reducible refine (goldHead_any kA kc k lA lc l vA vc v slot _ (by omega) khs (by omega) (by omega) lhw vhw (HA.out.kept (KB4.out.trans hHeld.2.2.2.2.2.2.2.2.2.2.2)) (HL.out.kept (KB4.out.trans hHeld.2.2.2.2.2.2.2.2.2.2.2)) (HV.out.kept (KB4.out.trans hHeld.2.2.2.2.2.2.2.2.2.2.2))).mono ?_
          rintro e w' ⟨R3, hR3, rfl, kk⟩
          have eR := HR.out.unique hR3
          subst eR
          clear hR3
          try go_wp2_with fail
          refine hK.out _ _ ?_ (fun hHeld2 => ?_)
          · exact keepP11 bz0 bz0 bz0 bz0 bz0 bz1 bz1 bz2 bz2 bz3 bz3 hHeld kk
          clear hK K hHeld
          have hHeld := hHeld2
          clear hHeld2
          try simp only [Act.put, List.setIfInBounds_toArray, List.set_cons_zero, List.set_cons_succ]
          refine wpAnyH_ready (rs := [21]) (by kernel_rfl) (by simp) ?_
          refine AllReadyH.cons (by simp only [List.getElem?_toArray, List.getElem?_cons_succ, List.getElem?_cons_zero]; rfl) (fun K hK => ?_) AllReadyH.nil
          go_simp
          go_at_call 19; with_reducible refine (under_any lA lc l (by omega) lhw x (headC k l R) (headC_wf k l R) _ (HL.out.kept (KB4.out.trans hHeld.2.2.2.2.2.2.2.2.2.2.2))).mono ?_
          rintro e w' ⟨rfl, kk⟩
          rw [HHd.out]
          try go_wp2_with fail
          refine hK.out _ _ ?_ (fun hHeld2 => ?_)
          · exact keepP11 bz0 bz0 bz0 bz0 bz0 bz1 bz1 bz2 bz2 bz3 bz3 hHeld kk
          clear hK K hHeld
          have hHeld := hHeld2
          clear hHeld2
          try simp only [Act.put, List.setIfInBounds_toArray, List.set_cons_zero, List.set_cons_succ]
          refine wpAnyH_take (i := 22) (v := ?_) (by simp only [List.getElem?_toArray, List.getElem?_cons_succ, List.getElem?_cons_zero]; rfl) (by kernel_rfl) (by kernel_rfl) (by kernel_rfl) (fun _ _ _ h => h) (Or.inl ⟨by rfl, ?_⟩) (by assumption) ?_
          rotate_left
          · intro w hSw
            (try dsimp only at hSw)
            go_simp
            (try with_reducible rfl)
          simp only [Act.put, List.setIfInBounds_toArray, List.set_cons_zero, List.set_cons_succ]
          refine wpAnyH_take (i := 23) (v := ?_) (by simp only [List.getElem?_toArray, List.getElem?_cons_succ, List.getElem?_cons_zero]; rfl) (by kernel_rfl) (by kernel_rfl) (by kernel_rfl) (fun _ _ _ h => h) (Or.inl ⟨by rfl, ?_⟩) (by assumption) ?_
          rotate_left
          · intro w hSw
            (try dsimp only at hSw)
            go_simp
            (try with_reducible rfl)
          simp only [Act.put, List.setIfInBounds_toArray, List.set_cons_zero, List.set_cons_succ]
          refine wpAnyH_done (by kernel_rfl) ?_ _
          refine NoPanic.normal ?_
          have k := hHeld.2.2.2.2.2.2.2.2.2.2.2
          clear hHeld
          clear b00 b01 b02 b03 b04 bz0 b10 b11 bz1 b20 b21 bz2 b30 b31 bz3
          have KB5 := Lib.hid (KB4.out.trans k)
          clear k
          generalize w' = W5 at *
          obtain ⟨b00, b01, b02, b03, b04⟩ := (HB0.out.kept KB5.out).five
          have bz0 := (HB0.out.kept KB5.out).1
          obtain ⟨b10, b11⟩ := (HB1.out.kept KB5.out).two
          have bz1 := (HB1.out.kept KB5.out).1
          obtain ⟨b20, b21⟩ := (HB2.out.kept KB5.out).two
          have bz2 := (HB2.out.kept KB5.out).1
          obtain ⟨b30, b31⟩ := (HB3.out.kept KB5.out).two
          have bz3 := (HB3.out.kept KB5.out).1
          go_wp2_with fail
          clear b00 b01 b02 b03 b04 bz0 b10 b11 bz1 b20 b21 bz2 b30 b31 bz3
          refine (quickSure_any kA kc k lA lc l vA vc v slot y W5 (by omega) khs (by omega) (by omega) lhw vhw hwy hnu hde (HA.out.kept KB5.out) (HL.out.kept KB5.out) (HV.out.kept KB5.out)).mono ?_
          rintro e W6 ⟨R2, hR2, rfl, k⟩
          have KB6 := Lib.hid (KB5.out.trans k)
          clear k
          have eR := HR.out.unique hR2
          subst eR
          clear hR2
          rw [← HSb.out]
          cases sb with
          | false =>
            obtain ⟨b00, b01, b02, b03, b04⟩ := (HB0.out.kept KB6.out).five
            have bz0 := (HB0.out.kept KB6.out).1
            obtain ⟨b10, b11⟩ := (HB1.out.kept KB6.out).two
            have bz1 := (HB1.out.kept KB6.out).1
            obtain ⟨b20, b21⟩ := (HB2.out.kept KB6.out).two
            have bz2 := (HB2.out.kept KB6.out).1
            obtain ⟨b30, b31⟩ := (HB3.out.kept KB6.out).two
            have bz3 := (HB3.out.kept KB6.out).1
            go_wp2_with fail
            clear b00 b01 b02 b03 b04 bz0 b10 b11 bz1 b20 b21 bz2 b30 b31 bz3
            go_ret
            exact ⟨by first | rfl | (simp; done), K0.out.trans KB6.out⟩
          | true =>
            obtain ⟨b00, b01, b02, b03, b04⟩ := (HB0.out.kept KB6.out).five
            have bz0 := (HB0.out.kept KB6.out).1
            obtain ⟨b10, b11⟩ := (HB1.out.kept KB6.out).two
            have bz1 := (HB1.out.kept KB6.out).1
            obtain ⟨b20, b21⟩ := (HB2.out.kept KB6.out).two
            have bz2 := (HB2.out.kept KB6.out).1
            obtain ⟨b30, b31⟩ := (HB3.out.kept KB6.out).two
            have bz3 := (HB3.out.kept KB6.out).1
            go_wp2_with fail
            clear b00 b01 b02 b03 b04 bz0 b10 b11 bz1 b20 b21 bz2 b30 b31 bz3
            refine (under_any lA lc l (by omega) lhw x y hwy W6 (HL.out.kept KB6.out)).mono ?_
            rintro e W7 ⟨rfl, k⟩
            have KB7 := Lib.hid (KB6.out.trans k)
            clear k
            cases hu2 : underC l x y with
            | true =>
              obtain ⟨b00, b01, b02, b03, b04⟩ := (HB0.out.kept KB7.out).five
              have bz0 := (HB0.out.kept KB7.out).1
              obtain ⟨b10, b11⟩ := (HB1.out.kept KB7.out).two
              have bz1 := (HB1.out.kept KB7.out).1
              obtain ⟨b20, b21⟩ := (HB2.out.kept KB7.out).two
              have bz2 := (HB2.out.kept KB7.out).1
              obtain ⟨b30, b31⟩ := (HB3.out.kept KB7.out).two
              have bz3 := (HB3.out.kept KB7.out).1
              go_wp2_with fail
              clear b00 b01 b02 b03 b04 bz0 b10 b11 bz1 b20 b21 bz2 b30 b31 bz3
              go_ret
              exact ⟨by first | rfl | (simp; done), K0.out.trans KB7.out⟩
            | false =>
              have hu3 : underC l y x = true := (HBo.out (by first | rfl | trivial)).resolve_left (by rw [hu2]; simp)
              obtain ⟨b00, b01, b02, b03, b04⟩ := (HB0.out.kept KB7.out).five
              have bz0 := (HB0.out.kept KB7.out).1
              obtain ⟨b10, b11⟩ := (HB1.out.kept KB7.out).two
              have bz1 := (HB1.out.kept KB7.out).1
              obtain ⟨b20, b21⟩ := (HB2.out.kept KB7.out).two
              have bz2 := (HB2.out.kept KB7.out).1
              obtain ⟨b30, b31⟩ := (HB3.out.kept KB7.out).two
              have bz3 := (HB3.out.kept KB7.out).1
              go_wp2_with fail
              clear b00 b01 b02 b03 b04 bz0 b10 b11 bz1 b20 b21 bz2 b30 b31 bz3
              refine (under_any lA lc l (by omega) lhw y x hwx W7 (HL.out.kept KB7.out)).mono ?_
              rintro e W8 ⟨rfl, k⟩
              have KB8 := Lib.hid (KB7.out.trans k)
              clear k
              rw [hu3]
              obtain ⟨b00, b01, b02, b03, b04⟩ := (HB0.out.kept KB8.out).five
              have bz0 := (HB0.out.kept KB8.out).1
              obtain ⟨b10, b11⟩ := (HB1.out.kept KB8.out).two
              have bz1 := (HB1.out.kept KB8.out).1
              obtain ⟨b20, b21⟩ := (HB2.out.kept KB8.out).two
              have bz2 := (HB2.out.kept KB8.out).1
              obtain ⟨b30, b31⟩ := (HB3.out.kept KB8.out).two
              have bz3 := (HB3.out.kept KB8.out).1
              go_wp2_with fail
              clear b00 b01 b02 b03 b04 bz0 b10 b11 bz1 b20 b21 bz2 b30 b31 bz3
              go_ret
              exact ⟨by first | rfl | (simp; done), K0.out.trans KB8.out⟩
        | false =>

          refine wp_region_noPanic ?_
          refine wp_region_held_drew (S := (fun w' => w'.cell? ⟨z0, 0, none⟩ = some (.slice kA k.ws.length kc) ∧ w'.cell? ⟨z0, 1, none⟩ = some (.int .u64 k.seed) ∧ w'.cell? ⟨z0, 2, none⟩ = some (.int .i64 k.ep) ∧ w'.cell? ⟨z0, 3, none⟩ = some (.int .i64 k.nu) ∧ w'.cell? ⟨z0, 4, none⟩ = some (.int .i64 k.de) ∧ w'.cell? ⟨z1, 0, none⟩ = some (.slice lA l.length lc) ∧ w'.cell? ⟨z1, 1, none⟩ = some (.slice vA v.length vc) ∧ w'.cell? ⟨z2, 0, none⟩ = some (.int .u64 x.1) ∧ w'.cell? ⟨z2, 1, none⟩ = some (.int .u64 x.2) ∧ w'.cell? ⟨z3, 0, none⟩ = some (.int .u64 y.1) ∧ w'.cell? ⟨z3, 1, none⟩ = some (.int .u64 y.2) ∧ Kept W4 w')) (by kernel_rfl) ?_ (fun hHeld => ?_)
          · exact ⟨b00, b01, b02, b03, b04, b10, b11, b20, b21, b30, b31, (Kept.refl _).drew⟩
          refine wpAnyH_take (i := 0) (v := ?_) (by simp only [List.getElem?_toArray, List.getElem?_cons_succ, List.getElem?_cons_zero]; rfl) (by kernel_rfl) (by kernel_rfl) (by kernel_rfl) (fun _ _ _ h => h) (Or.inl ⟨by rfl, ?_⟩) (by assumption) ?_
          rotate_left
          · intro w hSw
            (try dsimp only at hSw)
            go_simp
            (try with_reducible rfl)
          simp only [Act.put, List.setIfInBounds_toArray, List.set_cons_zero, List.set_cons_succ]
          refine wpAnyH_take (i := 1) (v := ?_) (by simp only [List.getElem?_toArray, List.getElem?_cons_succ, List.getElem?_cons_zero]; rfl) (by kernel_rfl) (by kernel_rfl) (by kernel_rfl) (fun _ _ _ h => h) (Or.inl ⟨by rfl, ?_⟩) (by assumption) ?_
          rotate_left
          · intro w hSw
            (try dsimp only at hSw)
            go_simp
            (try with_reducible rfl)
          simp only [Act.put, List.setIfInBounds_toArray, List.set_cons_zero, List.set_cons_succ]
          refine wpAnyH_take (i := 2) (v := ?_) (by simp only [List.getElem?_toArray, List.getElem?_cons_succ, List.getElem?_cons_zero]; rfl) (by kernel_rfl) (by kernel_rfl) (by kernel_rfl) (fun _ _ _ h => h) (Or.inl ⟨by rfl, ?_⟩) (by assumption) ?_
          rotate_left
          · intro w hSw
            (try dsimp only at hSw)
            go_simp
            (try with_reducible rfl)
          simp only [Act.put, List.setIfInBounds_toArray, List.set_cons_zero, List.set_cons_succ]
          refine wpAnyH_take (i := 3) (v := ?_) (by simp only [List.getElem?_toArray, List.getElem?_cons_succ, List.getElem?_cons_zero]; rfl) (by kernel_rfl) (by kernel_rfl) (by kernel_rfl) (fun _ _ _ h => h) (Or.inl ⟨by rfl, ?_⟩) (by assumption) ?_
          rotate_left
          · intro w hSw
            (try dsimp only at hSw)
            go_simp
            (try with_reducible rfl)
          simp only [Act.put, List.setIfInBounds_toArray, List.set_cons_zero, List.set_cons_succ]
          refine wpAnyH_ready (rs := [4]) (by kernel_rfl) (by simp) ?_
          refine AllReadyH.cons (by simp only [List.getElem?_toArray, List.getElem?_cons_succ, List.getElem?_cons_zero]; rfl) (fun K hK => ?_) AllReadyH.nil
          go_simp
          go_at_call 19; with_reducible refine (under_any lA lc l (by omega) lhw y x hwx _ (HL.out.kept (KB4.out.trans hHeld.2.2.2.2.2.2.2.2.2.2.2))).mono ?_
          rintro e w' ⟨rfl, kk⟩
          rw [hu]
          try go_wp2_with fail
          refine hK.out _ _ ?_ (fun hHeld2 => ?_)
          · exact keepP11 bz0 bz0 bz0 bz0 bz0 bz1 bz1 bz2 bz2 bz3 bz3 hHeld kk
          clear hK K hHeld
          have hHeld := hHeld2
          clear hHeld2
          try simp only [Act.put, List.setIfInBounds_toArray, List.set_cons_zero, List.set_cons_succ]
          refine wpAnyH_take (i := 5) (v := ?_) (by simp only [List.getElem?_toArray, List.getElem?_cons_succ, List.getElem?_cons_zero]; rfl) (by kernel_rfl) (by kernel_rfl) (by kernel_rfl) (fun _ _ _ h => h) (Or.inl ⟨by rfl, ?_⟩) (by assumption) ?_
          rotate_left
          · intro w hSw
            (try dsimp only at hSw)
            go_simp
            (try with_reducible rfl)
          simp only [Act.put, List.setIfInBounds_toArray, List.set_cons_zero, List.set_cons_succ]
          refine wpAnyH_take (i := 6) (v := undef) (by simp only [List.getElem?_toArray, List.getElem?_cons_succ, List.getElem?_cons_zero]; rfl) (by kernel_rfl) (by kernel_rfl) (by kernel_rfl) (fun _ _ _ h => h) (Or.inr ⟨by rfl, rfl⟩) (by assumption) ?_
          simp only [Act.put, List.setIfInBounds_toArray, List.set_cons_zero, List.set_cons_succ]
          refine wpAnyH_take (i := 7) (v := undef) (by simp only [List.getElem?_toArray, List.getElem?_cons_succ, List.getElem?_cons_zero]; rfl) (by kernel_rfl) (by kernel_rfl) (by kernel_rfl) (fun _ _ _ h => h) (Or.inr ⟨by rfl, rfl⟩) (by assumption) ?_
          simp only [Act.put, List.setIfInBounds_toArray, List.set_cons_zero, List.set_cons_succ]
          refine wpAnyH_take (i := 8) (v := undef) (by simp only [List.getElem?_toArray, List.getElem?_cons_succ, List.getElem?_cons_zero]; rfl) (by kernel_rfl) (by kernel_rfl) (by kernel_rfl) (fun _ _ _ h => h) (Or.inr ⟨by rfl, rfl⟩) (by assumption) ?_
          simp only [Act.put, List.setIfInBounds_toArray, List.set_cons_zero, List.set_cons_succ]
          refine wpAnyH_take (i := 9) (v := undef) (by simp only [List.getElem?_toArray, List.getElem?_cons_succ, List.getElem?_cons_zero]; rfl) (by kernel_rfl) (by kernel_rfl) (by kernel_rfl) (fun _ _ _ h => h) (Or.inr ⟨by rfl, rfl⟩) (by assumption) ?_
          simp only [Act.put, List.setIfInBounds_toArray, List.set_cons_zero, List.set_cons_succ]
          refine wpAnyH_take (i := 10) (v := undef) (by simp only [List.getElem?_toArray, List.getElem?_cons_succ, List.getElem?_cons_zero]; rfl) (by kernel_rfl) (by kernel_rfl) (by kernel_rfl) (fun _ _ _ h => h) (Or.inr ⟨by rfl, rfl⟩) (by assumption) ?_
          simp only [Act.put, List.setIfInBounds_toArray, List.set_cons_zero, List.set_cons_succ]
          refine wpAnyH_take (i := 11) (v := undef) (by simp only [List.getElem?_toArray, List.getElem?_cons_succ, List.getElem?_cons_zero]; rfl) (by kernel_rfl) (by kernel_rfl) (by kernel_rfl) (fun _ _ _ h => h) (Or.inr ⟨by rfl, rfl⟩) (by assumption) ?_
          simp only [Act.put, List.setIfInBounds_toArray, List.set_cons_zero, List.set_cons_succ]
          refine wpAnyH_take (i := 12) (v := ?_) (by simp only [List.getElem?_toArray, List.getElem?_cons_succ, List.getElem?_cons_zero]; rfl) (by kernel_rfl) (by kernel_rfl) (by kernel_rfl) (fun _ _ _ h => h) (Or.inl ⟨by rfl, ?_⟩) (by assumption) ?_
          rotate_left
          · intro w hSw
            (try dsimp only at hSw)
            go_simp
            (try with_reducible rfl)
          simp only [Act.put, List.setIfInBounds_toArray, List.set_cons_zero, List.set_cons_succ]
          refine wpAnyH_take (i := 13) (v := ?_) (by simp only [List.getElem?_toArray, List.getElem?_cons_succ, List.getElem?_cons_zero]; rfl) (by kernel_rfl) (by kernel_rfl) (by kernel_rfl) (fun _ _ _ h => h) (Or.inl ⟨by rfl, ?_⟩) (by assumption) ?_
          rotate_left
          · intro w hSw
            (try dsimp only at hSw)
            go_simp
            (try with_reducible rfl)
          simp only [Act.put, List.setIfInBounds_toArray, List.set_cons_zero, List.set_cons_succ]
          refine wpAnyH_take (i := 14) (v := ?_) (by simp only [List.getElem?_toArray, List.getElem?_cons_succ, List.getElem?_cons_zero]; rfl) (by kernel_rfl) (by kernel_rfl) (by kernel_rfl) (fun _ _ _ h => h) (Or.inl ⟨by rfl, ?_⟩) (by assumption) ?_
          rotate_left
          · intro w hSw
            (try dsimp only at hSw)
            go_simp
            (try with_reducible rfl)
          simp only [Act.put, List.setIfInBounds_toArray, List.set_cons_zero, List.set_cons_succ]
          refine wpAnyH_take (i := 15) (v := ?_) (by simp only [List.getElem?_toArray, List.getElem?_cons_succ, List.getElem?_cons_zero]; rfl) (by kernel_rfl) (by kernel_rfl) (by kernel_rfl) (fun _ _ _ h => h) (Or.inl ⟨by rfl, ?_⟩) (by assumption) ?_
          rotate_left
          · intro w hSw
            (try dsimp only at hSw)
            go_simp
            (try with_reducible rfl)
          simp only [Act.put, List.setIfInBounds_toArray, List.set_cons_zero, List.set_cons_succ]
          refine wpAnyH_take (i := 16) (v := ?_) (by simp only [List.getElem?_toArray, List.getElem?_cons_succ, List.getElem?_cons_zero]; rfl) (by kernel_rfl) (by kernel_rfl) (by kernel_rfl) (fun _ _ _ h => h) (Or.inl ⟨by rfl, ?_⟩) (by assumption) ?_
          rotate_left
          · intro w hSw
            (try dsimp only at hSw)
            go_simp
            (try with_reducible rfl)
          simp only [Act.put, List.setIfInBounds_toArray, List.set_cons_zero, List.set_cons_succ]
          refine wpAnyH_take (i := 17) (v := ?_) (by simp only [List.getElem?_toArray, List.getElem?_cons_succ, List.getElem?_cons_zero]; rfl) (by kernel_rfl) (by kernel_rfl) (by kernel_rfl) (fun _ _ _ h => h) (Or.inl ⟨by rfl, ?_⟩) (by assumption) ?_
          rotate_left
          · intro w hSw
            (try dsimp only at hSw)
            go_simp
            (try with_reducible rfl)
          simp only [Act.put, List.setIfInBounds_toArray, List.set_cons_zero, List.set_cons_succ]
          refine wpAnyH_take (i := 18) (v := ?_) (by simp only [List.getElem?_toArray, List.getElem?_cons_succ, List.getElem?_cons_zero]; rfl) (by kernel_rfl) (by kernel_rfl) (by kernel_rfl) (fun _ _ _ h => h) (Or.inl ⟨by rfl, ?_⟩) (by assumption) ?_
          rotate_left
          · intro w hSw
            (try dsimp only at hSw)
            go_simp
            (try with_reducible rfl)
          simp only [Act.put, List.setIfInBounds_toArray, List.set_cons_zero, List.set_cons_succ]
          refine wpAnyH_take (i := 19) (v := ?_) (by simp only [List.getElem?_toArray, List.getElem?_cons_succ, List.getElem?_cons_zero]; rfl) (by kernel_rfl) (by kernel_rfl) (by kernel_rfl) (fun _ _ _ h => h) (Or.inl ⟨by rfl, ?_⟩) (by assumption) ?_
          rotate_left
          · intro w hSw
            (try dsimp only at hSw)
            go_simp
            (try with_reducible rfl)
          simp only [Act.put, List.setIfInBounds_toArray, List.set_cons_zero, List.set_cons_succ]
          refine wpAnyH_ready (rs := [20]) (by kernel_rfl) (by simp) ?_
          refine AllReadyH.cons (by simp only [List.getElem?_toArray, List.getElem?_cons_succ, List.getElem?_cons_zero]; rfl) (fun K hK => ?_) AllReadyH.nil
          go_simp
          go_at_call 20; with_reducible refine (goldHead_any kA kc k lA lc l vA vc v slot _ (by omega) khs (by omega) (by omega) lhw vhw (HA.out.kept (KB4.out.trans hHeld.2.2.2.2.2.2.2.2.2.2.2)) (HL.out.kept (KB4.out.trans hHeld.2.2.2.2.2.2.2.2.2.2.2)) (HV.out.kept (KB4.out.trans hHeld.2.2.2.2.2.2.2.2.2.2.2))).mono ?_
          rintro e w' ⟨R3, hR3, rfl, kk⟩
          have eR := HR.out.unique hR3
          subst eR
          clear hR3
          try go_wp2_with fail
          refine hK.out _ _ ?_ (fun hHeld2 => ?_)
          · exact keepP11 bz0 bz0 bz0 bz0 bz0 bz1 bz1 bz2 bz2 bz3 bz3 hHeld kk
          clear hK K hHeld
          have hHeld := hHeld2
          clear hHeld2
          try simp only [Act.put, List.setIfInBounds_toArray, List.set_cons_zero, List.set_cons_succ]
          refine wpAnyH_ready (rs := [21]) (by kernel_rfl) (by simp) ?_
          refine AllReadyH.cons (by simp only [List.getElem?_toArray, List.getElem?_cons_succ, List.getElem?_cons_zero]; rfl) (fun K hK => ?_) AllReadyH.nil
          go_simp
          go_at_call 19; with_reducible refine (under_any lA lc l (by omega) lhw x (headC k l R) (headC_wf k l R) _ (HL.out.kept (KB4.out.trans hHeld.2.2.2.2.2.2.2.2.2.2.2))).mono ?_
          rintro e w' ⟨rfl, kk⟩
          rw [HHd.out]
          try go_wp2_with fail
          refine hK.out _ _ ?_ (fun hHeld2 => ?_)
          · exact keepP11 bz0 bz0 bz0 bz0 bz0 bz1 bz1 bz2 bz2 bz3 bz3 hHeld kk
          clear hK K hHeld
          have hHeld := hHeld2
          clear hHeld2
          try simp only [Act.put, List.setIfInBounds_toArray, List.set_cons_zero, List.set_cons_succ]
          refine wpAnyH_take (i := 22) (v := ?_) (by simp only [List.getElem?_toArray, List.getElem?_cons_succ, List.getElem?_cons_zero]; rfl) (by kernel_rfl) (by kernel_rfl) (by kernel_rfl) (fun _ _ _ h => h) (Or.inl ⟨by rfl, ?_⟩) (by assumption) ?_
          rotate_left
          · intro w hSw
            (try dsimp only at hSw)
            go_simp
            (try with_reducible rfl)
          simp only [Act.put, List.setIfInBounds_toArray, List.set_cons_zero, List.set_cons_succ]
          refine wpAnyH_take (i := 23) (v := ?_) (by simp only [List.getElem?_toArray, List.getElem?_cons_succ, List.getElem?_cons_zero]; rfl) (by kernel_rfl) (by kernel_rfl) (by kernel_rfl) (fun _ _ _ h => h) (Or.inl ⟨by rfl, ?_⟩) (by assumption) ?_
          rotate_left
          · intro w hSw
            (try dsimp only at hSw)
            go_simp
            (try with_reducible rfl)
          simp only [Act.put, List.setIfInBounds_toArray, List.set_cons_zero, List.set_cons_succ]
          refine wpAnyH_done (by kernel_rfl) ?_ _
          refine NoPanic.normal ?_
          have k := hHeld.2.2.2.2.2.2.2.2.2.2.2
          clear hHeld
          clear b00 b01 b02 b03 b04 bz0 b10 b11 bz1 b20 b21 bz2 b30 b31 bz3
          have KB5 := Lib.hid (KB4.out.trans k)
          clear k
          generalize w' = W5 at *
          obtain ⟨b00, b01, b02, b03, b04⟩ := (HB0.out.kept KB5.out).five
          have bz0 := (HB0.out.kept KB5.out).1
          obtain ⟨b10, b11⟩ := (HB1.out.kept KB5.out).two
          have bz1 := (HB1.out.kept KB5.out).1
          obtain ⟨b20, b21⟩ := (HB2.out.kept KB5.out).two
          have bz2 := (HB2.out.kept KB5.out).1
          obtain ⟨b30, b31⟩ := (HB3.out.kept KB5.out).two
          have bz3 := (HB3.out.kept KB5.out).1
          go_wp2_with fail
          clear b00 b01 b02 b03 b04 bz0 b10 b11 bz1 b20 b21 bz2 b30 b31 bz3
          refine (quickSure_any kA kc k lA lc l vA vc v slot y W5 (by omega) khs (by omega) (by omega) lhw vhw hwy hnu hde (HA.out.kept KB5.out) (HL.out.kept KB5.out) (HV.out.kept KB5.out)).mono ?_
          rintro e W6 ⟨R2, hR2, rfl, k⟩
          have KB6 := Lib.hid (KB5.out.trans k)
          clear k
          have eR := HR.out.unique hR2
          subst eR
          clear hR2
          rw [← HSb.out]
          cases sb with
          | false =>
            obtain ⟨b00, b01, b02, b03, b04⟩ := (HB0.out.kept KB6.out).five
            have bz0 := (HB0.out.kept KB6.out).1
            obtain ⟨b10, b11⟩ := (HB1.out.kept KB6.out).two
            have bz1 := (HB1.out.kept KB6.out).1
            obtain ⟨b20, b21⟩ := (HB2.out.kept KB6.out).two
            have bz2 := (HB2.out.kept KB6.out).1
            obtain ⟨b30, b31⟩ := (HB3.out.kept KB6.out).two
            have bz3 := (HB3.out.kept KB6.out).1
            go_wp2_with fail
            clear b00 b01 b02 b03 b04 bz0 b10 b11 bz1 b20 b21 bz2 b30 b31 bz3
            go_ret
            exact ⟨by first | rfl | (simp; done), K0.out.trans KB6.out⟩
          | true =>
            obtain ⟨b00, b01, b02, b03, b04⟩ := (HB0.out.kept KB6.out).five
            have bz0 := (HB0.out.kept KB6.out).1
            obtain ⟨b10, b11⟩ := (HB1.out.kept KB6.out).two
            have bz1 := (HB1.out.kept KB6.out).1
            obtain ⟨b20, b21⟩ := (HB2.out.kept KB6.out).two
            have bz2 := (HB2.out.kept KB6.out).1
            obtain ⟨b30, b31⟩ := (HB3.out.kept KB6.out).two
            have bz3 := (HB3.out.kept KB6.out).1
            go_wp2_with fail
            clear b00 b01 b02 b03 b04 bz0 b10 b11 bz1 b20 b21 bz2 b30 b31 bz3
            refine (under_any lA lc l (by omega) lhw x y hwy W6 (HL.out.kept KB6.out)).mono ?_
            rintro e W7 ⟨rfl, k⟩
            have KB7 := Lib.hid (KB6.out.trans k)
            clear k
            cases hu2 : underC l x y with
            | true =>
              obtain ⟨b00, b01, b02, b03, b04⟩ := (HB0.out.kept KB7.out).five
              have bz0 := (HB0.out.kept KB7.out).1
              obtain ⟨b10, b11⟩ := (HB1.out.kept KB7.out).two
              have bz1 := (HB1.out.kept KB7.out).1
              obtain ⟨b20, b21⟩ := (HB2.out.kept KB7.out).two
              have bz2 := (HB2.out.kept KB7.out).1
              obtain ⟨b30, b31⟩ := (HB3.out.kept KB7.out).two
              have bz3 := (HB3.out.kept KB7.out).1
              go_wp2_with fail
              clear b00 b01 b02 b03 b04 bz0 b10 b11 bz1 b20 b21 bz2 b30 b31 bz3
              go_ret
              exact ⟨by first | rfl | (simp; done), K0.out.trans KB7.out⟩
            | false =>
              have hu3 : underC l y x = true := (HBo.out (by first | rfl | trivial)).resolve_left (by rw [hu2]; simp)
              obtain ⟨b00, b01, b02, b03, b04⟩ := (HB0.out.kept KB7.out).five
              have bz0 := (HB0.out.kept KB7.out).1
              obtain ⟨b10, b11⟩ := (HB1.out.kept KB7.out).two
              have bz1 := (HB1.out.kept KB7.out).1
              obtain ⟨b20, b21⟩ := (HB2.out.kept KB7.out).two
              have bz2 := (HB2.out.kept KB7.out).1
              obtain ⟨b30, b31⟩ := (HB3.out.kept KB7.out).two
              have bz3 := (HB3.out.kept KB7.out).1
              go_wp2_with fail
              clear b00 b01 b02 b03 b04 bz0 b10 b11 bz1 b20 b21 bz2 b30 b31 bz3
              refine (under_any lA lc l (by omega) lhw y x hwx W7 (HL.out.kept KB7.out)).mono ?_
              rintro e W8 ⟨rfl, k⟩
              have KB8 := Lib.hid (KB7.out.trans k)
              clear k
              rw [hu3]
              obtain ⟨b00, b01, b02, b03, b04⟩ := (HB0.out.kept KB8.out).five
              have bz0 := (HB0.out.kept KB8.out).1
              obtain ⟨b10, b11⟩ := (HB1.out.kept KB8.out).two
              have bz1 := (HB1.out.kept KB8.out).1
              obtain ⟨b20, b21⟩ := (HB2.out.kept KB8.out).two
              have bz2 := (HB2.out.kept KB8.out).1
              obtain ⟨b30, b31⟩ := (HB3.out.kept KB8.out).two
              have bz3 := (HB3.out.kept KB8.out).1
              go_wp2_with fail
              clear b00 b01 b02 b03 b04 bz0 b10 b11 bz1 b20 b21 bz2 b30 b31 bz3
              go_ret
              exact ⟨by first | rfl | (simp; done), K0.out.trans KB8.out⟩

/-! ### The row's step -/
set_option maxRecDepth 100000 in
theorem lifted (os : Os) (started : os.Started) (H : Type) (enc : TypeId × Value → H) :
    ReturnsInHanded {} Tryz.checked os 4 .any (Rows.quickChainSpec.pre6 enc Tryz.prog Tryz.f4 Rows.quickChainRow.domain false) (Rows.quickChainSpec.post enc Tryz.prog Tryz.f4 false true false false) := by
  refine returnsInHanded_of_change (C := Tryz.checked) own started (by kernel_rfl) Tryz.func4
    (ChangeSpec.witness6 (enc := enc) (C := Tryz.checked) false ⟨#[], #[.agg #[.slice none 0 0, .int .u64 0, .int .i64 0, .int .i64 0, .int .i64 0], .agg #[.slice none 0 0, .slice none 0 0], .int .i64 0, .agg #[.int .u64 0, .int .u64 0], .agg #[.int .u64 0, .int .u64 0]], []⟩ 8 (by kernel_rfl) (by kernel_rfl) (by kernel_rfl) (by kernel_rfl)) ?_
  intro W base args ds gs before hval0 hW hcnd _
  have hval : ∀ (j : Nat) t v, Tryz.f4.params[j]? = some t → args[j]? = some v → Value.okWide Tryz.prog W .any base t v := hval0
  have hW' := hW
  obtain ⟨p, q, hA0, hV, rfl, hfz, hnd⟩ := hW
  have hA : DataW.TrodAll enc Tryz.prog W 0 (fun _ => true) true Tryz.f4.params.toList args.toList ds p := hA0
  rw [Tryz.params4] at hA hval
  obtain ⟨v0, vs0, d0, ds0, p0, q0, hargs, rfl, rfl, h0, r0⟩ := trodAll_cons hA
  obtain ⟨v1, vs1, d1, ds1, p1, q1, rfl, rfl, rfl, h1, r1⟩ := trodAll_cons r0
  obtain ⟨v2, vs2, d2, ds2, p2, q2, rfl, rfl, rfl, h2, r2⟩ := trodAll_cons r1
  obtain ⟨v3, vs3, d3, ds3, p3, q3, rfl, rfl, rfl, h3, r3⟩ := trodAll_cons r2
  obtain ⟨v4, vs4, d4, ds4, p4, q4, rfl, rfl, rfl, h4, r4⟩ := trodAll_cons r3
  obtain ⟨rfl, rfl, rfl⟩ := trodAll_nil r4
  obtain rfl : args = #[v0, v1, v2, v3, v4] := by cases args; simp_all
  obtain ⟨rfl, rfl⟩ := trodVars_none hV
  obtain ⟨kA, kc, k, rfl, khm, khs, khl⟩ := open_conf (hval 0 _ v0 rfl rfl) h0
  obtain ⟨lA, lc, l, vA, vc, v, rfl, lhm, lhc, lhw, lhl, vhm, vhc, vhw, vhl⟩ := open_view (hval 1 _ v1 rfl rfl) h1
  obtain ⟨slot, rfl, hslot1, hslot2⟩ := open_num (hval 2 _ v2 rfl rfl) h2
  obtain ⟨x, rfl, hx1, hx2⟩ := open_id (hval 3 _ v3 rfl rfl) h3
  obtain ⟨y, rfl, hy1, hy2⟩ := open_id (hval 4 _ v4 rfl rfl) h4
  clear hA0 hval0
  refine (walk W kA kc k khm khs khl lA lc l vA vc v lhm lhc lhw lhl vhm vhc vhw vhl slot hslot1 hslot2 x hx1 hx2 y hy1 hy2).mono fun e W' ⟨he, hb⟩ => ?_
  subst he
  exact ⟨_, rfl, law_post rfl (by kernel_rfl) rfl hW' rfl hb⟩

theorem over : Rows.quickChainRow.holds Tryz.pinned (OpenSpec.ofChange Rows.quickChainSpec) :=
  OpenClaim.holds_of_wide 4 Tryz.f4 rfl rfl rfl rfl rfl rfl rfl ⟨rfl, rfl, rfl, rfl, rfl⟩ rfl rfl rfl rfl rfl (by kernel_rfl) Tryz.func4 (by kernel_rfl)
    (of_decide_eq_true (by kernel_rfl)) (by unfold Func.isWrapper; first | (rw [if_pos (by decide +kernel)]; kernel_rfl) | (rw [if_neg (by decide +kernel)]; exact ⟨rfl, rfl⟩))
    (fun os started H enc _ => lifted os started H enc)

/-- The statement. -/
theorem proved : Rows.QuickChainSaid :=
  over
#print axioms proved

end Go.Proofs.YtpojiijgahcidaaGreat.quickChain
