/-
  Law QuickTop of layer 15: the top of a chain is on it, is sure, and no later one of it is; where there is none, none is, whatever conf, view, slot and block.
-/
import Derived.Test.YtpojiijgahcidaaGreatQuickAwake
import Derived.Test.YtpojiijgahcidaaGreatHeadG
import Derived.Test.YtpojiijgahcidaaGreatDutyG
import Derived.Test.YtpojiijgahcidaaGreatViewOpen
import Derived.Test.YtpojiijgahcidaaGreatMixG
import Derived.Test.YtpojiijgahcidaaGreatGround
import Derived.Test.YtpojiijgahcidaaGreatTreeG
import Derived.Test.YtpojiijgahcidaaGreatWeighG
import Derived.Test.YtpojiijgahcidaaGreatVoteG
namespace Go.Proofs.YtpojiijgahcidaaGreat.quickTop
set_option maxRecDepth 100000
set_option linter.unusedVariables false
set_option linter.unusedSimpArgs false
open Go.ChangeShapes Go.WideShapes Go.ChangeAt Go.RowKit
set_option linter.unusedVariables false

/-! ### The walk: the call returns true, and of what was there nothing has changed. -/
attribute [local go_sem high] eqIdN eqIdZ eqZZ in
set_option maxRecDepth 100000 in
set_option maxHeartbeats 12800000 in
theorem walk (w : World) (kA : Option Addr) (kc : Nat) (k : Cf) (khm : k.ws.length ≤ maxLen) (khs : k.seed < 18446744073709551616) (khl : CellsAt w w.heap.size kA (intCells k.ws)) (lA : Option Addr) (lc : Nat) (l : List Bk) (vA : Option Addr) (vc : Nat) (v : List Vt) (lhm : l.length ≤ maxLen) (lhc : l.length ≤ lc) (lhw : WfL l) (lhl : CellsAt w w.heap.size lA (blockCells l)) (vhm : v.length ≤ maxLen) (vhc : v.length ≤ vc) (vhw : WfVs v) (vhl : CellsAt w w.heap.size vA (votesCells v)) (slot : Int) (hslot1 : -9223372036854775808 ≤ slot) (hslot2 : slot ≤ 9223372036854775807) (x : Nat × Nat) (hx1 : x.1 < 18446744073709551616) (hx2 : x.2 < 18446744073709551616) :
    Calls Tryz.prog 6 #[.agg #[.slice kA k.ws.length kc, .int .u64 k.seed, .int .i64 k.ep, .int .i64 k.nu, .int .i64 k.de], .agg #[.slice lA l.length lc, .slice vA v.length vc], .int .i64 slot, .agg #[.int .u64 x.1, .int .u64 x.2]] w fun e w' => e = .returned (.bool true) ∧ Kept w w' := by
  cases hf : few9C k l v with
  | false =>
    go_enter Tryz.func6, Tryz.ntmps6
    go_wp2_with fail
    have K0 := Lib.hid ((((Kept.refl w).alloc (.cells #[.slice kA k.ws.length kc, .int .u64 k.seed, .int .i64 k.ep, .int .i64 k.nu, .int .i64 k.de] 25)).alloc (.cells #[.slice lA l.length lc, .slice vA v.length vc] 29)).alloc (.cells #[.int .u64 x.1, .int .u64 x.2] 31))
    have HA := Lib.hid (khl.kept K0.out)
    clear khl
    have HL := Lib.hid (lhl.kept K0.out)
    clear lhl
    have HV := Lib.hid (vhl.kept K0.out)
    clear vhl
    have HB0 := Lib.hid (((HasCells.new w #[.slice kA k.ws.length kc, .int .u64 k.seed, .int .i64 k.ep, .int .i64 k.nu, .int .i64 k.de] 25 (w.heap.size) (by simp)).alloc (.cells #[.slice lA l.length lc, .slice vA v.length vc] 29)).alloc (.cells #[.int .u64 x.1, .int .u64 x.2] 31))
    have HB1 := Lib.hid ((HasCells.new (w.alloc (.cells #[.slice kA k.ws.length kc, .int .u64 k.seed, .int .i64 k.ep, .int .i64 k.nu, .int .i64 k.de] 25)) #[.slice lA l.length lc, .slice vA v.length vc] 29 (w.heap.size + 1) (by simp)).alloc (.cells #[.int .u64 x.1, .int .u64 x.2] 31))
    have HB2 := Lib.hid (HasCells.new ((w.alloc (.cells #[.slice kA k.ws.length kc, .int .u64 k.seed, .int .i64 k.ep, .int .i64 k.nu, .int .i64 k.de] 25)).alloc (.cells #[.slice lA l.length lc, .slice vA v.length vc] 29)) #[.int .u64 x.1, .int .u64 x.2] 31 (w.heap.size + 1 + 1) (by simp))
    generalize (((w.alloc (.cells #[.slice kA k.ws.length kc, .int .u64 k.seed, .int .i64 k.ep, .int .i64 k.nu, .int .i64 k.de] 25)).alloc (.cells #[.slice lA l.length lc, .slice vA v.length vc] 29)).alloc (.cells #[.int .u64 x.1, .int .u64 x.2] 31)) = W0 at *
    generalize w.heap.size + 1 + 1 = z2 at *
    generalize w.heap.size + 1 = z1 at *
    generalize w.heap.size = z0 at *
    have KB0 := Lib.hid (Kept.refl W0)
    refine (quickAwake W0).mono ?_
    rintro e W1 ⟨rfl, k⟩
    have KB1 := Lib.hid (KB0.out.trans k)
    clear k
    obtain ⟨b00, b01, b02, b03, b04⟩ := (HB0.out.kept KB1.out).five
    have bz0 := (HB0.out.kept KB1.out).1
    obtain ⟨b10, b11⟩ := (HB1.out.kept KB1.out).two
    have bz1 := (HB1.out.kept KB1.out).1
    obtain ⟨b20, b21⟩ := (HB2.out.kept KB1.out).two
    have bz2 := (HB2.out.kept KB1.out).1
    go_wp2_with fail
    clear b00 b01 b02 b03 b04 bz0 b10 b11 bz1 b20 b21 bz2
    refine (few9_any kA kc k lA lc l vA vc v W1).mono ?_
    rintro e W2 ⟨rfl, k⟩
    have KB2 := Lib.hid (KB1.out.trans k)
    clear k
    rw [hf]
    obtain ⟨b00, b01, b02, b03, b04⟩ := (HB0.out.kept KB2.out).five
    have bz0 := (HB0.out.kept KB2.out).1
    obtain ⟨b10, b11⟩ := (HB1.out.kept KB2.out).two
    have bz1 := (HB1.out.kept KB2.out).1
    obtain ⟨b20, b21⟩ := (HB2.out.kept KB2.out).two
    have bz2 := (HB2.out.kept KB2.out).1
    go_wp2_with fail
    clear b00 b01 b02 b03 b04 bz0 b10 b11 bz1 b20 b21 bz2
    go_ret
    exact ⟨by first | rfl | (simp; done), K0.out.trans KB2.out⟩
  | true =>
    obtain ⟨hk40, hl20, hv30⟩ := few9C_yes hf
    have HF := Lib.hid hf
    clear hf
    have hwx : WfI x := ⟨hx1, hx2⟩
    go_enter Tryz.func6, Tryz.ntmps6
    go_wp2_with fail
    have K0 := Lib.hid ((((Kept.refl w).alloc (.cells #[.slice kA k.ws.length kc, .int .u64 k.seed, .int .i64 k.ep, .int .i64 k.nu, .int .i64 k.de] 25)).alloc (.cells #[.slice lA l.length lc, .slice vA v.length vc] 29)).alloc (.cells #[.int .u64 x.1, .int .u64 x.2] 31))
    have HA := Lib.hid (khl.kept K0.out)
    clear khl
    have HL := Lib.hid (lhl.kept K0.out)
    clear lhl
    have HV := Lib.hid (vhl.kept K0.out)
    clear vhl
    have HB0 := Lib.hid (((HasCells.new w #[.slice kA k.ws.length kc, .int .u64 k.seed, .int .i64 k.ep, .int .i64 k.nu, .int .i64 k.de] 25 (w.heap.size) (by simp)).alloc (.cells #[.slice lA l.length lc, .slice vA v.length vc] 29)).alloc (.cells #[.int .u64 x.1, .int .u64 x.2] 31))
    have HB1 := Lib.hid ((HasCells.new (w.alloc (.cells #[.slice kA k.ws.length kc, .int .u64 k.seed, .int .i64 k.ep, .int .i64 k.nu, .int .i64 k.de] 25)) #[.slice lA l.length lc, .slice vA v.length vc] 29 (w.heap.size + 1) (by simp)).alloc (.cells #[.int .u64 x.1, .int .u64 x.2] 31))
    have HB2 := Lib.hid (HasCells.new ((w.alloc (.cells #[.slice kA k.ws.length kc, .int .u64 k.seed, .int .i64 k.ep, .int .i64 k.nu, .int .i64 k.de] 25)).alloc (.cells #[.slice lA l.length lc, .slice vA v.length vc] 29)) #[.int .u64 x.1, .int .u64 x.2] 31 (w.heap.size + 1 + 1) (by simp))
    generalize (((w.alloc (.cells #[.slice kA k.ws.length kc, .int .u64 k.seed, .int .i64 k.ep, .int .i64 k.nu, .int .i64 k.de] 25)).alloc (.cells #[.slice lA l.length lc, .slice vA v.length vc] 29)).alloc (.cells #[.int .u64 x.1, .int .u64 x.2] 31)) = W0 at *
    generalize w.heap.size + 1 + 1 = z2 at *
    generalize w.heap.size + 1 = z1 at *
    generalize w.heap.size = z0 at *
    have KB0 := Lib.hid (Kept.refl W0)
    refine (quickAwake W0).mono ?_
    rintro e W1 ⟨rfl, k⟩
    have KB1 := Lib.hid (KB0.out.trans k)
    clear k
    obtain ⟨b00, b01, b02, b03, b04⟩ := (HB0.out.kept KB1.out).five
    have bz0 := (HB0.out.kept KB1.out).1
    obtain ⟨b10, b11⟩ := (HB1.out.kept KB1.out).two
    have bz1 := (HB1.out.kept KB1.out).1
    obtain ⟨b20, b21⟩ := (HB2.out.kept KB1.out).two
    have bz2 := (HB2.out.kept KB1.out).1
    go_wp2_with fail
    clear b00 b01 b02 b03 b04 bz0 b10 b11 bz1 b20 b21 bz2
    refine (few9_any kA kc k lA lc l vA vc v W1).mono ?_
    rintro e W2 ⟨rfl, k⟩
    have KB2 := Lib.hid (KB1.out.trans k)
    clear k
    rw [HF.out]
    obtain ⟨b00, b01, b02, b03, b04⟩ := (HB0.out.kept KB2.out).five
    have bz0 := (HB0.out.kept KB2.out).1
    obtain ⟨b10, b11⟩ := (HB1.out.kept KB2.out).two
    have bz1 := (HB1.out.kept KB2.out).1
    obtain ⟨b20, b21⟩ := (HB2.out.kept KB2.out).two
    have bz2 := (HB2.out.kept KB2.out).1
    go_wp2_with fail
    clear b00 b01 b02 b03 b04 bz0 b10 b11 bz1 b20 b21 bz2
    refine (mayD_any kA kc k W2 (HA.out.kept KB2.out)).mono ?_
    rintro e W3 ⟨rfl, k⟩
    have KB3 := Lib.hid (KB2.out.trans k)
    clear k
    cases hm : mayC k with
    | false =>
      obtain ⟨b00, b01, b02, b03, b04⟩ := (HB0.out.kept KB3.out).five
      have bz0 := (HB0.out.kept KB3.out).1
      obtain ⟨b10, b11⟩ := (HB1.out.kept KB3.out).two
      have bz1 := (HB1.out.kept KB3.out).1
      obtain ⟨b20, b21⟩ := (HB2.out.kept KB3.out).two
      have bz2 := (HB2.out.kept KB3.out).1
      go_wp2_with fail
      clear b00 b01 b02 b03 b04 bz0 b10 b11 bz1 b20 b21 bz2
      go_ret
      exact ⟨by first | rfl | (simp; done), K0.out.trans KB3.out⟩
    | true =>
      obtain ⟨hnu, hde⟩ := quick_nums hm
      have HM := Lib.hid hm
      obtain ⟨b00, b01, b02, b03, b04⟩ := (HB0.out.kept KB3.out).five
      have bz0 := (HB0.out.kept KB3.out).1
      obtain ⟨b10, b11⟩ := (HB1.out.kept KB3.out).two
      have bz1 := (HB1.out.kept KB3.out).1
      obtain ⟨b20, b21⟩ := (HB2.out.kept KB3.out).two
      have bz2 := (HB2.out.kept KB3.out).1
      go_wp2_with fail
      clear b00 b01 b02 b03 b04 bz0 b10 b11 bz1 b20 b21 bz2
      refine (quickTop_any kA kc k lA lc l vA vc v slot x W3 (by omega) khs (by omega) (by omega) lhw vhw hwx hnu hde (HA.out.kept KB3.out) (HL.out.kept KB3.out) (HV.out.kept KB3.out)).mono ?_
      rintro e W4 ⟨R, hR, rfl, k⟩
      have KB4 := Lib.hid (KB3.out.trans k)
      clear k
      have HR := Lib.hid hR
      clear hR
      have HSo := Lib.hid (fun p (h : topC k l slot R x = some p) => top_some (p := sureC k l slot R) (c := chainC l x) h)
      have HNo := Lib.hid (fun (h : topC k l slot R x = none) => top_no (p := sureC k l slot R) (c := chainC l x) h)
      have HCl := Lib.hid (chainC_length l x)
      cases ht : topC k l slot R x with
      | none =>
        have HBf := Lib.hid (HNo.out ht)
        have HCw := Lib.hid (chain_wfC lhw x hwx)
        clear HSo HNo
        have k := (Kept.refl W4).alloc (.cells #[.int .u64 zid.1, .int .u64 zid.2] 31)
        obtain ⟨b00, b01, b02, b03, b04⟩ := (HB0.out.kept KB4.out).five
        have bz0 := (HB0.out.kept KB4.out).1
        obtain ⟨b10, b11⟩ := (HB1.out.kept KB4.out).two
        have bz1 := (HB1.out.kept KB4.out).1
        obtain ⟨b20, b21⟩ := (HB2.out.kept KB4.out).two
        have bz2 := (HB2.out.kept KB4.out).1
        go_wp2_with fail
        clear b00 b01 b02 b03 b04 bz0 b10 b11 bz1 b20 b21 bz2
        have H11 := Lib.hid (AtB.new W4 #[.int .u64 zid.1, .int .u64 zid.2] 31)
        have KB5 := Lib.hid (KB4.out.trans k)
        clear k
        generalize W4.alloc (.cells #[.int .u64 zid.1, .int .u64 zid.2] 31) = W5 at *
        generalize W4.heap.size = z11 at *
        refine (chain_any lA lc l (by omega) lhw x hwx W5 (HL.out.kept KB5.out)).mono ?_
        rintro e W6 ⟨A1, c1, rfl, hC1, _, k⟩
        replace H11 := Lib.hid (H11.out.kept k)
        have KB6 := Lib.hid (KB5.out.trans k)
        clear k
        replace HA := Lib.hid (HA.out.kept KB6.out)
        replace HL := Lib.hid (HL.out.kept KB6.out)
        replace HV := Lib.hid (HV.out.kept KB6.out)
        replace HB0 := Lib.hid (HB0.out.kept KB6.out)
        replace HB1 := Lib.hid (HB1.out.kept KB6.out)
        replace HB2 := Lib.hid (HB2.out.kept KB6.out)
        replace K0 := Lib.hid (K0.out.trans KB6.out)
        have KB7 := Lib.hid (Kept.refl W6)
        have HCh := Lib.hid hC1
        clear hC1
        generalize chainC l x = c at *
        go_wp2_with fail
        go_loopw [14] (fun i w' => ∃ j : Nat, i = .int .i64 (j : Nat) ∧ j ≤ c.length ∧ True ∧ Kept W6 w') (fun i _ => c.length - (intOf i).toNat)
        case atStart => exact ⟨0, rfl, by omega, trivial, Kept.refl _⟩
        case round =>
          obtain ⟨j, rfl, hj, hj0, hKr⟩ := hrel
          have HKr := Lib.hid hKr
          clear hKr
          have KB8 := Lib.hid (KB7.out.trans HKr.out)
          have HI := Lib.hid (H11.out.kept HKr.out)
          have i0 : wr.cell? ⟨z11, 0, none⟩ = some (.int .u64 zid.1) := HI.out.cell
          have i1 : wr.cell? ⟨z11, 1, none⟩ = some (.int .u64 zid.2) := HI.out.cell
          have li := HI.out.lt
          have hj1 : IntKind.i64.wrap ((j : Int) + 1) = (j : Int) + 1 := by have := HCl.out; rw [IntKind.wrap_i64]; omega
          by_cases hlt : j + 1 < c.length
          · have hlb : decide ((j : Int) + 1 < (c.length : Int)) = true := decide_eq_true (by omega)
            have hjl : j < c.length := by omega
            obtain ⟨zq, oq, rfl, hbq, x0, x1⟩ := id_at (HCh.out.kept KB8.out) hjl
            have HBe := Lib.hid (show sureC k l slot R (c[j]'hjl) = false from HBf.out j hlt)
            have hwj : WfI c[j] := HCw.out _ (List.getElem_mem hjl)
            generalize c[j] = yj at *
            obtain ⟨b00, b01, b02, b03, b04⟩ := (HB0.out.kept KB8.out).five
            have bz0 := (HB0.out.kept KB8.out).1
            obtain ⟨b10, b11⟩ := (HB1.out.kept KB8.out).two
            have bz1 := (HB1.out.kept KB8.out).1
            go_wp2_with fail
            refine wp_region_noPanic ?_
            refine wp_region_held_drew (S := (fun w' => Kept wr w')) (by kernel_rfl) ?_ (fun hHeld => ?_)
            · exact (Kept.refl _).drew
            refine wpAnyH_take (i := 0) (v := ?_) (by simp only [List.getElem?_toArray, List.getElem?_cons_succ, List.getElem?_cons_zero]; rfl) (by kernel_rfl) (by kernel_rfl) (by kernel_rfl) (fun _ _ _ h => h) (Or.inl ⟨by rfl, ?_⟩) (by assumption) ?_
            rotate_left
            · intro w hSw
              (try dsimp only at hSw)
              go_simp
              (try with_reducible rfl)
            simp only [Act.put, List.setIfInBounds_toArray, List.set_cons_zero, List.set_cons_succ]
            refine wpAnyH_take (i := 1) (v := ?_) (by simp only [List.getElem?_toArray, List.getElem?_cons_succ, List.getElem?_cons_zero]; rfl) (by kernel_rfl) (by kernel_rfl) (by kernel_rfl) (fun _ _ _ h => h) (Or.inl ⟨by rfl, ?_⟩) (by assumption) ?_
            rotate_left
            · intro w hSw
              (try dsimp only at hSw)
              go_simp
              (try with_reducible rfl)
            simp only [Act.put, List.setIfInBounds_toArray, List.set_cons_zero, List.set_cons_succ]
            refine wpAnyH_take (i := 2) (v := undef) (by simp only [List.getElem?_toArray, List.getElem?_cons_succ, List.getElem?_cons_zero]; rfl) (by kernel_rfl) (by kernel_rfl) (by kernel_rfl) (fun _ _ _ h => h) (Or.inr ⟨by rfl, rfl⟩) (by assumption) ?_
            simp only [Act.put, List.setIfInBounds_toArray, List.set_cons_zero, List.set_cons_succ]
            refine wpAnyH_take (i := 3) (v := undef) (by simp only [List.getElem?_toArray, List.getElem?_cons_succ, List.getElem?_cons_zero]; rfl) (by kernel_rfl) (by kernel_rfl) (by kernel_rfl) (fun _ _ _ h => h) (Or.inr ⟨by rfl, rfl⟩) (by assumption) ?_
            simp only [Act.put, List.setIfInBounds_toArray, List.set_cons_zero, List.set_cons_succ]
            refine wpAnyH_take (i := 4) (v := undef) (by simp only [List.getElem?_toArray, List.getElem?_cons_succ, List.getElem?_cons_zero]; rfl) (by kernel_rfl) (by kernel_rfl) (by kernel_rfl) (fun _ _ _ h => h) (Or.inr ⟨by rfl, rfl⟩) (by assumption) ?_
            simp only [Act.put, List.setIfInBounds_toArray, List.set_cons_zero, List.set_cons_succ]
            refine wpAnyH_take (i := 5) (v := undef) (by simp only [List.getElem?_toArray, List.getElem?_cons_succ, List.getElem?_cons_zero]; rfl) (by kernel_rfl) (by kernel_rfl) (by kernel_rfl) (fun _ _ _ h => h) (Or.inr ⟨by rfl, rfl⟩) (by assumption) ?_
            simp only [Act.put, List.setIfInBounds_toArray, List.set_cons_zero, List.set_cons_succ]
            refine wpAnyH_take (i := 6) (v := undef) (by simp only [List.getElem?_toArray, List.getElem?_cons_succ, List.getElem?_cons_zero]; rfl) (by kernel_rfl) (by kernel_rfl) (by kernel_rfl) (fun _ _ _ h => h) (Or.inr ⟨by rfl, rfl⟩) (by assumption) ?_
            simp only [Act.put, List.setIfInBounds_toArray, List.set_cons_zero, List.set_cons_succ]
            refine wpAnyH_take (i := 7) (v := undef) (by simp only [List.getElem?_toArray, List.getElem?_cons_succ, List.getElem?_cons_zero]; rfl) (by kernel_rfl) (by kernel_rfl) (by kernel_rfl) (fun _ _ _ h => h) (Or.inr ⟨by rfl, rfl⟩) (by assumption) ?_
            simp only [Act.put, List.setIfInBounds_toArray, List.set_cons_zero, List.set_cons_succ]
            refine wpAnyH_take (i := 8) (v := ?_) (by simp only [List.getElem?_toArray, List.getElem?_cons_succ, List.getElem?_cons_zero]; rfl) (by kernel_rfl) (by kernel_rfl) (by kernel_rfl) (fun _ _ _ h => h) (Or.inl ⟨by rfl, ?_⟩) (by assumption) ?_
            rotate_left
            · intro w hSw
              (try dsimp only at hSw)
              go_simp
              (try with_reducible rfl)
            simp only [Act.put, List.setIfInBounds_toArray, List.set_cons_zero, List.set_cons_succ]
            refine wpAnyH_done (by kernel_rfl) ?_ _
            refine NoPanic.normal ?_
            have k := hHeld
            clear hHeld
            clear b00 b01 b02 b03 b04 bz0 b10 b11 bz1
            have KB9 := Lib.hid (KB8.out.trans k)
            clear k
            have x0 := ((Kept.refl wr).drew.cell (p := ⟨zq, oq + j * 2, none⟩) hbq |>.trans x0)
            have x1 := ((Kept.refl wr).drew.cell (p := ⟨zq, oq + j * 2 + 1, none⟩) hbq |>.trans x1)
            have hbq := Nat.lt_of_lt_of_le hbq (Kept.refl wr).drew.size_le
            generalize wr.drew = W9 at *
            go_wp2_with fail
            obtain ⟨b00, b01, b02, b03, b04⟩ := (HB0.out.kept KB9.out).five
            have bz0 := (HB0.out.kept KB9.out).1
            obtain ⟨b10, b11⟩ := (HB1.out.kept KB9.out).two
            have bz1 := (HB1.out.kept KB9.out).1
            refine wp_region_noPanic ?_
            refine wp_region_held_drew (S := (fun w' => w'.cell? ⟨z0, 0, none⟩ = some (.slice kA k.ws.length kc) ∧ w'.cell? ⟨z0, 1, none⟩ = some (.int .u64 k.seed) ∧ w'.cell? ⟨z0, 2, none⟩ = some (.int .i64 k.ep) ∧ w'.cell? ⟨z0, 3, none⟩ = some (.int .i64 k.nu) ∧ w'.cell? ⟨z0, 4, none⟩ = some (.int .i64 k.de) ∧ w'.cell? ⟨z1, 0, none⟩ = some (.slice lA l.length lc) ∧ w'.cell? ⟨z1, 1, none⟩ = some (.slice vA v.length vc) ∧ w'.cell? ⟨zq, oq + j * 2, none⟩ = some (.int .u64 yj.1) ∧ w'.cell? ⟨zq, oq + j * 2 + 1, none⟩ = some (.int .u64 yj.2) ∧ Kept W9 w')) (by kernel_rfl) ?_ (fun hHeld => ?_)
            · exact ⟨b00, b01, b02, b03, b04, b10, b11, x0, x1, (Kept.refl _).drew⟩
            refine wpAnyH_take (i := 0) (v := ?_) (by simp only [List.getElem?_toArray, List.getElem?_cons_succ, List.getElem?_cons_zero]; rfl) (by kernel_rfl) (by kernel_rfl) (by kernel_rfl) (fun _ _ _ h => h) (Or.inl ⟨by rfl, ?_⟩) (by assumption) ?_
            rotate_left
            · intro w hSw
              (try dsimp only at hSw)
              go_simp
              (try with_reducible rfl)
            simp only [Act.put, List.setIfInBounds_toArray, List.set_cons_zero, List.set_cons_succ]
            refine wpAnyH_take (i := 1) (v := ?_) (by simp only [List.getElem?_toArray, List.getElem?_cons_succ, List.getElem?_cons_zero]; rfl) (by kernel_rfl) (by kernel_rfl) (by kernel_rfl) (fun _ _ _ h => h) (Or.inl ⟨by rfl, ?_⟩) (by assumption) ?_
            rotate_left
            · intro w hSw
              (try dsimp only at hSw)
              go_simp
              (try with_reducible rfl)
            simp only [Act.put, List.setIfInBounds_toArray, List.set_cons_zero, List.set_cons_succ]
            refine wpAnyH_take (i := 2) (v := ?_) (by simp only [List.getElem?_toArray, List.getElem?_cons_succ, List.getElem?_cons_zero]; rfl) (by kernel_rfl) (by kernel_rfl) (by kernel_rfl) (fun _ _ _ h => h) (Or.inl ⟨by rfl, ?_⟩) (by assumption) ?_
            rotate_left
            · intro w hSw
              (try dsimp only at hSw)
              go_simp
              (try with_reducible rfl)
            simp only [Act.put, List.setIfInBounds_toArray, List.set_cons_zero, List.set_cons_succ]
            refine wpAnyH_take (i := 3) (v := ?_) (by simp only [List.getElem?_toArray, List.getElem?_cons_succ, List.getElem?_cons_zero]; rfl) (by kernel_rfl) (by kernel_rfl) (by kernel_rfl) (fun _ _ _ h => h) (Or.inl ⟨by rfl, ?_⟩) (by assumption) ?_
            rotate_left
            · intro w hSw
              (try dsimp only at hSw)
              go_simp
              (try with_reducible rfl)
            simp only [Act.put, List.setIfInBounds_toArray, List.set_cons_zero, List.set_cons_succ]
            refine wpAnyH_take (i := 4) (v := ?_) (by simp only [List.getElem?_toArray, List.getElem?_cons_succ, List.getElem?_cons_zero]; rfl) (by kernel_rfl) (by kernel_rfl) (by kernel_rfl) (fun _ _ _ h => h) (Or.inl ⟨by rfl, ?_⟩) (by assumption) ?_
            rotate_left
            · intro w hSw
              (try dsimp only at hSw)
              go_simp
              (try with_reducible rfl)
            simp only [Act.put, List.setIfInBounds_toArray, List.set_cons_zero, List.set_cons_succ]
            refine wpAnyH_take (i := 5) (v := ?_) (by simp only [List.getElem?_toArray, List.getElem?_cons_succ, List.getElem?_cons_zero]; rfl) (by kernel_rfl) (by kernel_rfl) (by kernel_rfl) (fun _ _ _ h => h) (Or.inl ⟨by rfl, ?_⟩) (by assumption) ?_
            rotate_left
            · intro w hSw
              (try dsimp only at hSw)
              go_simp
              (try with_reducible rfl)
            simp only [Act.put, List.setIfInBounds_toArray, List.set_cons_zero, List.set_cons_succ]
            refine wpAnyH_take (i := 6) (v := ?_) (by simp only [List.getElem?_toArray, List.getElem?_cons_succ, List.getElem?_cons_zero]; rfl) (by kernel_rfl) (by kernel_rfl) (by kernel_rfl) (fun _ _ _ h => h) (Or.inl ⟨by rfl, ?_⟩) (by assumption) ?_
            rotate_left
            · intro w hSw
              (try dsimp only at hSw)
              go_simp
              (try with_reducible rfl)
            simp only [Act.put, List.setIfInBounds_toArray, List.set_cons_zero, List.set_cons_succ]
            refine wpAnyH_ready (rs := [7]) (by kernel_rfl) (by simp) ?_
            refine AllReadyH.cons (by simp only [List.getElem?_toArray, List.getElem?_cons_succ, List.getElem?_cons_zero]; rfl) (fun K hK => ?_) AllReadyH.nil
            go_simp
            go_at_call 17; with_reducible refine (quickSure_any kA kc k lA lc l vA vc v slot yj _ (by omega) khs (by omega) (by omega) lhw vhw hwj hnu hde (HA.out.kept (KB9.out.trans hHeld.2.2.2.2.2.2.2.2.2)) (HL.out.kept (KB9.out.trans hHeld.2.2.2.2.2.2.2.2.2)) (HV.out.kept (KB9.out.trans hHeld.2.2.2.2.2.2.2.2.2))).mono ?_
            rintro e w' ⟨R2, hR2, rfl, kk⟩
            have eR := HR.out.unique hR2
            subst eR
            clear hR2
            rw [HBe.out]
            try go_wp2_with fail
            refine hK.out _ _ ?_ (fun hHeld2 => ?_)
            · exact keepP9 bz0 bz0 bz0 bz0 bz0 bz1 bz1 hbq hbq hHeld kk
            clear hK K hHeld
            have hHeld := hHeld2
            clear hHeld2
            try simp only [Act.put, List.setIfInBounds_toArray, List.set_cons_zero, List.set_cons_succ]
            refine wpAnyH_done (by kernel_rfl) ?_ _
            refine NoPanic.normal ?_
            have k := hHeld.2.2.2.2.2.2.2.2.2
            clear hHeld
            clear b00 b01 b02 b03 b04 bz0 b10 b11 bz1
            have KB10 := Lib.hid (KB9.out.trans k)
            clear k
            generalize w' = W10 at *
            go_wp2_with fail
            go_roundw
            case rel => exact ⟨j + 1, by go_num, by omega, trivial, KB10.out⟩
            case measure => simp [intOf]; omega
          · have hlb : decide ((j : Int) + 1 < (c.length : Int)) = false := decide_eq_false (by omega)
            have hzz : isZ zid = true := decide_eq_true rfl
            obtain ⟨b00, b01, b02, b03, b04⟩ := (HB0.out.kept KB8.out).five
            have bz0 := (HB0.out.kept KB8.out).1
            obtain ⟨b10, b11⟩ := (HB1.out.kept KB8.out).two
            have bz1 := (HB1.out.kept KB8.out).1
            go_wp2_with fail
            clear b00 b01 b02 b03 b04 bz0 b10 b11 bz1
            go_ret
            exact ⟨by first | rfl | (simp; done), K0.out.trans KB8.out⟩
      | some p =>
        obtain ⟨j0, hj0, hj1, hcp, hsp, hbf⟩ := HSo.out p ht
        have HJ0 := Lib.hid hj1
        have HCj := Lib.hid hcp
        have HSp := Lib.hid hsp
        have HBf := Lib.hid hbf
        have HCw := Lib.hid (chain_wfC lhw x hwx)
        have hwp : WfI p := by rw [← hcp]; exact HCw.out _ (List.getElem_mem hj0)
        have hj0c := hj0
        clear hj1 hcp hsp hbf HSo HNo
        have k := (Kept.refl W4).alloc (.cells #[.int .u64 p.1, .int .u64 p.2] 31)
        obtain ⟨b00, b01, b02, b03, b04⟩ := (HB0.out.kept KB4.out).five
        have bz0 := (HB0.out.kept KB4.out).1
        obtain ⟨b10, b11⟩ := (HB1.out.kept KB4.out).two
        have bz1 := (HB1.out.kept KB4.out).1
        obtain ⟨b20, b21⟩ := (HB2.out.kept KB4.out).two
        have bz2 := (HB2.out.kept KB4.out).1
        go_wp2_with fail
        clear b00 b01 b02 b03 b04 bz0 b10 b11 bz1 b20 b21 bz2
        have H11 := Lib.hid (AtB.new W4 #[.int .u64 p.1, .int .u64 p.2] 31)
        have KB5 := Lib.hid (KB4.out.trans k)
        clear k
        generalize W4.alloc (.cells #[.int .u64 p.1, .int .u64 p.2] 31) = W5 at *
        generalize W4.heap.size = z11 at *
        refine (chain_any lA lc l (by omega) lhw x hwx W5 (HL.out.kept KB5.out)).mono ?_
        rintro e W6 ⟨A1, c1, rfl, hC1, _, k⟩
        replace H11 := Lib.hid (H11.out.kept k)
        have KB6 := Lib.hid (KB5.out.trans k)
        clear k
        replace HA := Lib.hid (HA.out.kept KB6.out)
        replace HL := Lib.hid (HL.out.kept KB6.out)
        replace HV := Lib.hid (HV.out.kept KB6.out)
        replace HB0 := Lib.hid (HB0.out.kept KB6.out)
        replace HB1 := Lib.hid (HB1.out.kept KB6.out)
        replace HB2 := Lib.hid (HB2.out.kept KB6.out)
        replace K0 := Lib.hid (K0.out.trans KB6.out)
        have KB7 := Lib.hid (Kept.refl W6)
        have HCh := Lib.hid hC1
        clear hC1
        generalize chainC l x = c at *
        go_wp2_with fail
        go_loopw [14] (fun i w' => ∃ j : Nat, i = .int .i64 (j : Nat) ∧ j ≤ c.length ∧ j ≤ j0 ∧ Kept W6 w') (fun i _ => c.length - (intOf i).toNat)
        case atStart => exact ⟨0, rfl, by omega, Nat.zero_le _, Kept.refl _⟩
        case round =>
          obtain ⟨j, rfl, hj, hj0, hKr⟩ := hrel
          have HKr := Lib.hid hKr
          clear hKr
          have KB8 := Lib.hid (KB7.out.trans HKr.out)
          have HI := Lib.hid (H11.out.kept HKr.out)
          have i0 : wr.cell? ⟨z11, 0, none⟩ = some (.int .u64 p.1) := HI.out.cell
          have i1 : wr.cell? ⟨z11, 1, none⟩ = some (.int .u64 p.2) := HI.out.cell
          have li := HI.out.lt
          have hj1 : IntKind.i64.wrap ((j : Int) + 1) = (j : Int) + 1 := by have := HCl.out; rw [IntKind.wrap_i64]; omega
          by_cases hlt : j + 1 < c.length
          · have hlb : decide ((j : Int) + 1 < (c.length : Int)) = true := decide_eq_true (by omega)
            have hjl : j < c.length := by omega
            obtain ⟨zq, oq, rfl, hbq, x0, x1⟩ := id_at (HCh.out.kept KB8.out) hjl
            have HBe := Lib.hid (fun (h : j < j0) => (show sureC k l slot R (c[j]'hjl) = false from HBf.out j h))
            have HEq := Lib.hid (fun (h : j = j0) => (show c[j]'hjl = p by subst h; exact HCj.out))
            have hwj : WfI c[j] := HCw.out _ (List.getElem_mem hjl)
            generalize c[j] = yj at *
            obtain ⟨b00, b01, b02, b03, b04⟩ := (HB0.out.kept KB8.out).five
            have bz0 := (HB0.out.kept KB8.out).1
            obtain ⟨b10, b11⟩ := (HB1.out.kept KB8.out).two
            have bz1 := (HB1.out.kept KB8.out).1
            go_wp2_with fail
            clear b00 b01 b02 b03 b04 bz0 b10 b11 bz1
            cases hsm : sameI yj p with
            | true =>

              refine wp_region_noPanic ?_
              refine wp_region_held_drew (S := (fun w' => w'.cell? ⟨z11, 0, none⟩ = some (.int .u64 p.1) ∧ w'.cell? ⟨z11, 1, none⟩ = some (.int .u64 p.2) ∧ w'.cell? ⟨zq, oq + j * 2, none⟩ = some (.int .u64 yj.1) ∧ w'.cell? ⟨zq, oq + j * 2 + 1, none⟩ = some (.int .u64 yj.2) ∧ Kept wr w')) (by kernel_rfl) ?_ (fun hHeld => ?_)
              · exact ⟨i0, i1, x0, x1, (Kept.refl _).drew⟩
              refine wpAnyH_take (i := 0) (v := ?_) (by simp only [List.getElem?_toArray, List.getElem?_cons_succ, List.getElem?_cons_zero]; rfl) (by kernel_rfl) (by kernel_rfl) (by kernel_rfl) (fun _ _ _ h => h) (Or.inl ⟨by rfl, ?_⟩) (by assumption) ?_
              rotate_left
              · intro w hSw
                (try dsimp only at hSw)
                go_simp
                (try with_reducible rfl)
              simp only [Act.put, List.setIfInBounds_toArray, List.set_cons_zero, List.set_cons_succ]
              refine wpAnyH_take (i := 1) (v := ?_) (by simp only [List.getElem?_toArray, List.getElem?_cons_succ, List.getElem?_cons_zero]; rfl) (by kernel_rfl) (by kernel_rfl) (by kernel_rfl) (fun _ _ _ h => h) (Or.inl ⟨by rfl, ?_⟩) (by assumption) ?_
              rotate_left
              · intro w hSw
                (try dsimp only at hSw)
                go_simp
                (try with_reducible rfl)
              simp only [Act.put, List.setIfInBounds_toArray, List.set_cons_zero, List.set_cons_succ]
              refine wpAnyH_take (i := 2) (v := ?_) (by simp only [List.getElem?_toArray, List.getElem?_cons_succ, List.getElem?_cons_zero]; rfl) (by kernel_rfl) (by kernel_rfl) (by kernel_rfl) (fun _ _ _ h => h) (Or.inl ⟨by rfl, ?_⟩) (by assumption) ?_
              rotate_left
              · intro w hSw
                (try dsimp only at hSw)
                go_simp
                (try with_reducible rfl)
              simp only [Act.put, List.setIfInBounds_toArray, List.set_cons_zero, List.set_cons_succ]
              refine wpAnyH_take (i := 3) (v := ?_) (by simp only [List.getElem?_toArray, List.getElem?_cons_succ, List.getElem?_cons_zero]; rfl) (by kernel_rfl) (by kernel_rfl) (by kernel_rfl) (fun _ _ _ h => h) (Or.inl ⟨by rfl, ?_⟩) (by assumption) ?_
              rotate_left
              · intro w hSw
                (try dsimp only at hSw)
                go_simp
                (try with_reducible rfl)
              simp only [Act.put, List.setIfInBounds_toArray, List.set_cons_zero, List.set_cons_succ]
              refine wpAnyH_take (i := 4) (v := ?_) (by simp only [List.getElem?_toArray, List.getElem?_cons_succ, List.getElem?_cons_zero]; rfl) (by kernel_rfl) (by kernel_rfl) (by kernel_rfl) (fun _ _ _ h => h) (Or.inl ⟨by rfl, ?_⟩) (by assumption) ?_
              rotate_left
              · intro w hSw
                (try dsimp only at hSw)
                go_simp
                (try with_reducible rfl)
              simp only [Act.put, List.setIfInBounds_toArray, List.set_cons_zero, List.set_cons_succ]
              refine wpAnyH_take (i := 5) (v := ?_) (by simp only [List.getElem?_toArray, List.getElem?_cons_succ, List.getElem?_cons_zero]; rfl) (by kernel_rfl) (by kernel_rfl) (by kernel_rfl) (fun _ _ _ h => h) (Or.inl ⟨by rfl, ?_⟩) (by assumption) ?_
              rotate_left
              · intro w hSw
                (try dsimp only at hSw)
                go_simp
                (try with_reducible rfl)
              simp only [Act.put, List.setIfInBounds_toArray, List.set_cons_zero, List.set_cons_succ]
              refine wpAnyH_take (i := 6) (v := ?_) (by simp only [List.getElem?_toArray, List.getElem?_cons_succ, List.getElem?_cons_zero]; rfl) (by kernel_rfl) (by kernel_rfl) (by kernel_rfl) (fun _ _ _ h => h) (Or.inl ⟨by rfl, ?_⟩) (by assumption) ?_
              rotate_left
              · intro w hSw
                (try dsimp only at hSw)
                go_simp
                (try with_reducible rfl)
              simp only [Act.put, List.setIfInBounds_toArray, List.set_cons_zero, List.set_cons_succ]
              refine wpAnyH_take (i := 7) (v := ?_) (by simp only [List.getElem?_toArray, List.getElem?_cons_succ, List.getElem?_cons_zero]; rfl) (by kernel_rfl) (by kernel_rfl) (by kernel_rfl) (fun _ _ _ h => h) (Or.inl ⟨by rfl, ?_⟩) (by assumption) ?_
              rotate_left
              · intro w hSw
                (try dsimp only at hSw)
                go_simp
                (try with_reducible rfl)
              simp only [Act.put, List.setIfInBounds_toArray, List.set_cons_zero, List.set_cons_succ]
              try simp only [hsm]
              refine wpAnyH_take (i := 8) (v := ?_) (by simp only [List.getElem?_toArray, List.getElem?_cons_succ, List.getElem?_cons_zero]; rfl) (by kernel_rfl) (by kernel_rfl) (by kernel_rfl) (fun _ _ _ h => h) (Or.inl ⟨by rfl, ?_⟩) (by assumption) ?_
              rotate_left
              · intro w hSw
                (try dsimp only at hSw)
                go_simp
                (try with_reducible rfl)
              simp only [Act.put, List.setIfInBounds_toArray, List.set_cons_zero, List.set_cons_succ]
              refine wpAnyH_done (by kernel_rfl) ?_ _
              refine NoPanic.normal ?_
              have k := hHeld.2.2.2.2
              clear hHeld
              have x0 := (k.cell (p := ⟨zq, oq + j * 2, none⟩) hbq).trans x0
              have x1 := (k.cell (p := ⟨zq, oq + j * 2 + 1, none⟩) hbq).trans x1
              have hbq := Nat.lt_of_lt_of_le hbq k.size_le
              have i0 := (k.cell (p := ⟨z11, 0, none⟩) li).trans i0
              have i1 := (k.cell (p := ⟨z11, 1, none⟩) li).trans i1
              have li := Nat.lt_of_lt_of_le li k.size_le
              have KB9 := Lib.hid (KB8.out.trans k)
              clear k
              generalize wr.drew = W9 at *
              obtain ⟨b00, b01, b02, b03, b04⟩ := (HB0.out.kept KB9.out).five
              have bz0 := (HB0.out.kept KB9.out).1
              obtain ⟨b10, b11⟩ := (HB1.out.kept KB9.out).two
              have bz1 := (HB1.out.kept KB9.out).1
              go_wp2_with fail
              clear b00 b01 b02 b03 b04 bz0 b10 b11 bz1
              refine (quickSure_any kA kc k lA lc l vA vc v slot p W9 (by omega) khs (by omega) (by omega) lhw vhw hwp hnu hde (HA.out.kept KB9.out) (HL.out.kept KB9.out) (HV.out.kept KB9.out)).mono ?_
              rintro e W10 ⟨R2, hR2, rfl, k⟩
              have KB10 := Lib.hid (KB9.out.trans k)
              clear k
              have eR := HR.out.unique hR2
              subst eR
              clear hR2
              rw [HSp.out]
              obtain ⟨b00, b01, b02, b03, b04⟩ := (HB0.out.kept KB10.out).five
              have bz0 := (HB0.out.kept KB10.out).1
              obtain ⟨b10, b11⟩ := (HB1.out.kept KB10.out).two
              have bz1 := (HB1.out.kept KB10.out).1
              obtain ⟨b20, b21⟩ := (HB2.out.kept KB10.out).two
              have bz2 := (HB2.out.kept KB10.out).1
              go_wp2_with fail
              clear b00 b01 b02 b03 b04 bz0 b10 b11 bz1 b20 b21 bz2
              go_ret
              exact ⟨by first | rfl | (simp; done), K0.out.trans KB10.out⟩
            | false =>
              have hne : j ≠ j0 := fun e => by
                rw [sameI_yes (HEq.out e)] at hsm
                cases hsm
              have hBe := Lib.hid (HBe.out (by omega))
              refine wp_region_noPanic ?_
              refine wp_region_held_drew (S := (fun w' => w'.cell? ⟨z11, 0, none⟩ = some (.int .u64 p.1) ∧ w'.cell? ⟨z11, 1, none⟩ = some (.int .u64 p.2) ∧ w'.cell? ⟨zq, oq + j * 2, none⟩ = some (.int .u64 yj.1) ∧ w'.cell? ⟨zq, oq + j * 2 + 1, none⟩ = some (.int .u64 yj.2) ∧ Kept wr w')) (by kernel_rfl) ?_ (fun hHeld => ?_)
              · exact ⟨i0, i1, x0, x1, (Kept.refl _).drew⟩
              refine wpAnyH_take (i := 0) (v := ?_) (by simp only [List.getElem?_toArray, List.getElem?_cons_succ, List.getElem?_cons_zero]; rfl) (by kernel_rfl) (by kernel_rfl) (by kernel_rfl) (fun _ _ _ h => h) (Or.inl ⟨by rfl, ?_⟩) (by assumption) ?_
              rotate_left
              · intro w hSw
                (try dsimp only at hSw)
                go_simp
                (try with_reducible rfl)
              simp only [Act.put, List.setIfInBounds_toArray, List.set_cons_zero, List.set_cons_succ]
              refine wpAnyH_take (i := 1) (v := ?_) (by simp only [List.getElem?_toArray, List.getElem?_cons_succ, List.getElem?_cons_zero]; rfl) (by kernel_rfl) (by kernel_rfl) (by kernel_rfl) (fun _ _ _ h => h) (Or.inl ⟨by rfl, ?_⟩) (by assumption) ?_
              rotate_left
              · intro w hSw
                (try dsimp only at hSw)
                go_simp
                (try with_reducible rfl)
              simp only [Act.put, List.setIfInBounds_toArray, List.set_cons_zero, List.set_cons_succ]
              refine wpAnyH_take (i := 2) (v := ?_) (by simp only [List.getElem?_toArray, List.getElem?_cons_succ, List.getElem?_cons_zero]; rfl) (by kernel_rfl) (by kernel_rfl) (by kernel_rfl) (fun _ _ _ h => h) (Or.inl ⟨by rfl, ?_⟩) (by assumption) ?_
              rotate_left
              · intro w hSw
                (try dsimp only at hSw)
                go_simp
                (try with_reducible rfl)
              simp only [Act.put, List.setIfInBounds_toArray, List.set_cons_zero, List.set_cons_succ]
              refine wpAnyH_take (i := 3) (v := ?_) (by simp only [List.getElem?_toArray, List.getElem?_cons_succ, List.getElem?_cons_zero]; rfl) (by kernel_rfl) (by kernel_rfl) (by kernel_rfl) (fun _ _ _ h => h) (Or.inl ⟨by rfl, ?_⟩) (by assumption) ?_
              rotate_left
              · intro w hSw
                (try dsimp only at hSw)
                go_simp
                (try with_reducible rfl)
              simp only [Act.put, List.setIfInBounds_toArray, List.set_cons_zero, List.set_cons_succ]
              refine wpAnyH_take (i := 4) (v := ?_) (by simp only [List.getElem?_toArray, List.getElem?_cons_succ, List.getElem?_cons_zero]; rfl) (by kernel_rfl) (by kernel_rfl) (by kernel_rfl) (fun _ _ _ h => h) (Or.inl ⟨by rfl, ?_⟩) (by assumption) ?_
              rotate_left
              · intro w hSw
                (try dsimp only at hSw)
                go_simp
                (try with_reducible rfl)
              simp only [Act.put, List.setIfInBounds_toArray, List.set_cons_zero, List.set_cons_succ]
              refine wpAnyH_take (i := 5) (v := ?_) (by simp only [List.getElem?_toArray, List.getElem?_cons_succ, List.getElem?_cons_zero]; rfl) (by kernel_rfl) (by kernel_rfl) (by kernel_rfl) (fun _ _ _ h => h) (Or.inl ⟨by rfl, ?_⟩) (by assumption) ?_
              rotate_left
              · intro w hSw
                (try dsimp only at hSw)
                go_simp
                (try with_reducible rfl)
              simp only [Act.put, List.setIfInBounds_toArray, List.set_cons_zero, List.set_cons_succ]
              refine wpAnyH_take (i := 6) (v := ?_) (by simp only [List.getElem?_toArray, List.getElem?_cons_succ, List.getElem?_cons_zero]; rfl) (by kernel_rfl) (by kernel_rfl) (by kernel_rfl) (fun _ _ _ h => h) (Or.inl ⟨by rfl, ?_⟩) (by assumption) ?_
              rotate_left
              · intro w hSw
                (try dsimp only at hSw)
                go_simp
                (try with_reducible rfl)
              simp only [Act.put, List.setIfInBounds_toArray, List.set_cons_zero, List.set_cons_succ]
              refine wpAnyH_take (i := 7) (v := ?_) (by simp only [List.getElem?_toArray, List.getElem?_cons_succ, List.getElem?_cons_zero]; rfl) (by kernel_rfl) (by kernel_rfl) (by kernel_rfl) (fun _ _ _ h => h) (Or.inl ⟨by rfl, ?_⟩) (by assumption) ?_
              rotate_left
              · intro w hSw
                (try dsimp only at hSw)
                go_simp
                (try with_reducible rfl)
              simp only [Act.put, List.setIfInBounds_toArray, List.set_cons_zero, List.set_cons_succ]
              try simp only [hsm]
              refine wpAnyH_take (i := 8) (v := ?_) (by simp only [List.getElem?_toArray, List.getElem?_cons_succ, List.getElem?_cons_zero]; rfl) (by kernel_rfl) (by kernel_rfl) (by kernel_rfl) (fun _ _ _ h => h) (Or.inl ⟨by rfl, ?_⟩) (by assumption) ?_
              rotate_left
              · intro w hSw
                (try dsimp only at hSw)
                go_simp
                (try with_reducible rfl)
              simp only [Act.put, List.setIfInBounds_toArray, List.set_cons_zero, List.set_cons_succ]
              refine wpAnyH_done (by kernel_rfl) ?_ _
              refine NoPanic.normal ?_
              have k := hHeld.2.2.2.2
              clear hHeld
              have x0 := (k.cell (p := ⟨zq, oq + j * 2, none⟩) hbq).trans x0
              have x1 := (k.cell (p := ⟨zq, oq + j * 2 + 1, none⟩) hbq).trans x1
              have hbq := Nat.lt_of_lt_of_le hbq k.size_le
              have i0 := (k.cell (p := ⟨z11, 0, none⟩) li).trans i0
              have i1 := (k.cell (p := ⟨z11, 1, none⟩) li).trans i1
              have li := Nat.lt_of_lt_of_le li k.size_le
              have KB9 := Lib.hid (KB8.out.trans k)
              clear k
              generalize wr.drew = W9 at *
              go_wp2_with fail
              obtain ⟨b00, b01, b02, b03, b04⟩ := (HB0.out.kept KB9.out).five
              have bz0 := (HB0.out.kept KB9.out).1
              obtain ⟨b10, b11⟩ := (HB1.out.kept KB9.out).two
              have bz1 := (HB1.out.kept KB9.out).1
              refine wp_region_noPanic ?_
              refine wp_region_held_drew (S := (fun w' => w'.cell? ⟨z0, 0, none⟩ = some (.slice kA k.ws.length kc) ∧ w'.cell? ⟨z0, 1, none⟩ = some (.int .u64 k.seed) ∧ w'.cell? ⟨z0, 2, none⟩ = some (.int .i64 k.ep) ∧ w'.cell? ⟨z0, 3, none⟩ = some (.int .i64 k.nu) ∧ w'.cell? ⟨z0, 4, none⟩ = some (.int .i64 k.de) ∧ w'.cell? ⟨z1, 0, none⟩ = some (.slice lA l.length lc) ∧ w'.cell? ⟨z1, 1, none⟩ = some (.slice vA v.length vc) ∧ w'.cell? ⟨zq, oq + j * 2, none⟩ = some (.int .u64 yj.1) ∧ w'.cell? ⟨zq, oq + j * 2 + 1, none⟩ = some (.int .u64 yj.2) ∧ Kept W9 w')) (by kernel_rfl) ?_ (fun hHeld => ?_)
              · exact ⟨b00, b01, b02, b03, b04, b10, b11, x0, x1, (Kept.refl _).drew⟩
              refine wpAnyH_take (i := 0) (v := ?_) (by simp only [List.getElem?_toArray, List.getElem?_cons_succ, List.getElem?_cons_zero]; rfl) (by kernel_rfl) (by kernel_rfl) (by kernel_rfl) (fun _ _ _ h => h) (Or.inl ⟨by rfl, ?_⟩) (by assumption) ?_
              rotate_left
              · intro w hSw
                (try dsimp only at hSw)
                go_simp
                (try with_reducible rfl)
              simp only [Act.put, List.setIfInBounds_toArray, List.set_cons_zero, List.set_cons_succ]
              refine wpAnyH_take (i := 1) (v := ?_) (by simp only [List.getElem?_toArray, List.getElem?_cons_succ, List.getElem?_cons_zero]; rfl) (by kernel_rfl) (by kernel_rfl) (by kernel_rfl) (fun _ _ _ h => h) (Or.inl ⟨by rfl, ?_⟩) (by assumption) ?_
              rotate_left
              · intro w hSw
                (try dsimp only at hSw)
                go_simp
                (try with_reducible rfl)
              simp only [Act.put, List.setIfInBounds_toArray, List.set_cons_zero, List.set_cons_succ]
              refine wpAnyH_take (i := 2) (v := ?_) (by simp only [List.getElem?_toArray, List.getElem?_cons_succ, List.getElem?_cons_zero]; rfl) (by kernel_rfl) (by kernel_rfl) (by kernel_rfl) (fun _ _ _ h => h) (Or.inl ⟨by rfl, ?_⟩) (by assumption) ?_
              rotate_left
              · intro w hSw
                (try dsimp only at hSw)
                go_simp
                (try with_reducible rfl)
              simp only [Act.put, List.setIfInBounds_toArray, List.set_cons_zero, List.set_cons_succ]
              refine wpAnyH_take (i := 3) (v := ?_) (by simp only [List.getElem?_toArray, List.getElem?_cons_succ, List.getElem?_cons_zero]; rfl) (by kernel_rfl) (by kernel_rfl) (by kernel_rfl) (fun _ _ _ h => h) (Or.inl ⟨by rfl, ?_⟩) (by assumption) ?_
              rotate_left
              · intro w hSw
                (try dsimp only at hSw)
                go_simp
                (try with_reducible rfl)
              simp only [Act.put, List.setIfInBounds_toArray, List.set_cons_zero, List.set_cons_succ]
              refine wpAnyH_take (i := 4) (v := ?_) (by simp only [List.getElem?_toArray, List.getElem?_cons_succ, List.getElem?_cons_zero]; rfl) (by kernel_rfl) (by kernel_rfl) (by kernel_rfl) (fun _ _ _ h => h) (Or.inl ⟨by rfl, ?_⟩) (by assumption) ?_
              rotate_left
              · intro w hSw
                (try dsimp only at hSw)
                go_simp
                (try with_reducible rfl)
              simp only [Act.put, List.setIfInBounds_toArray, List.set_cons_zero, List.set_cons_succ]
              refine wpAnyH_take (i := 5) (v := ?_) (by simp only [List.getElem?_toArray, List.getElem?_cons_succ, List.getElem?_cons_zero]; rfl) (by kernel_rfl) (by kernel_rfl) (by kernel_rfl) (fun _ _ _ h => h) (Or.inl ⟨by rfl, ?_⟩) (by assumption) ?_
              rotate_left
              · intro w hSw
                (try dsimp only at hSw)
                go_simp
                (try with_reducible rfl)
              simp only [Act.put, List.setIfInBounds_toArray, List.set_cons_zero, List.set_cons_succ]
              refine wpAnyH_take (i := 6) (v := ?_) (by simp only [List.getElem?_toArray, List.getElem?_cons_succ, List.getElem?_cons_zero]; rfl) (by kernel_rfl) (by kernel_rfl) (by kernel_rfl) (fun _ _ _ h => h) (Or.inl ⟨by rfl, ?_⟩) (by assumption) ?_
              rotate_left
              · intro w hSw
                (try dsimp only at hSw)
                go_simp
                (try with_reducible rfl)
              simp only [Act.put, List.setIfInBounds_toArray, List.set_cons_zero, List.set_cons_succ]
              refine wpAnyH_ready (rs := [7]) (by kernel_rfl) (by simp) ?_
              refine AllReadyH.cons (by simp only [List.getElem?_toArray, List.getElem?_cons_succ, List.getElem?_cons_zero]; rfl) (fun K hK => ?_) AllReadyH.nil
              go_simp
              go_at_call 17; with_reducible refine (quickSure_any kA kc k lA lc l vA vc v slot yj _ (by omega) khs (by omega) (by omega) lhw vhw hwj hnu hde (HA.out.kept (KB9.out.trans hHeld.2.2.2.2.2.2.2.2.2)) (HL.out.kept (KB9.out.trans hHeld.2.2.2.2.2.2.2.2.2)) (HV.out.kept (KB9.out.trans hHeld.2.2.2.2.2.2.2.2.2))).mono ?_
              rintro e w' ⟨R2, hR2, rfl, kk⟩
              have eR := HR.out.unique hR2
              subst eR
              clear hR2
              rw [hBe.out]
              try go_wp2_with fail
              refine hK.out _ _ ?_ (fun hHeld2 => ?_)
              · exact keepP9 bz0 bz0 bz0 bz0 bz0 bz1 bz1 hbq hbq hHeld kk
              clear hK K hHeld
              have hHeld := hHeld2
              clear hHeld2
              try simp only [Act.put, List.setIfInBounds_toArray, List.set_cons_zero, List.set_cons_succ]
              refine wpAnyH_done (by kernel_rfl) ?_ _
              refine NoPanic.normal ?_
              have k := hHeld.2.2.2.2.2.2.2.2.2
              clear hHeld
              clear b00 b01 b02 b03 b04 bz0 b10 b11 bz1
              have KB10 := Lib.hid (KB9.out.trans k)
              clear k
              generalize w' = W10 at *
              go_wp2_with fail
              go_roundw
              case rel => exact ⟨j + 1, by go_num, by omega, by omega, KB10.out⟩
              case measure => simp [intOf]; omega
          · exfalso
            have := HJ0.out
            omega

/-! ### The row's step -/
set_option maxRecDepth 100000 in
theorem lifted (os : Os) (started : os.Started) (H : Type) (enc : TypeId × Value → H) :
    ReturnsInHanded {} Tryz.checked os 6 .any (Rows.quickTopSpec.pre6 enc Tryz.prog Tryz.f6 Rows.quickTopRow.domain false) (Rows.quickTopSpec.post enc Tryz.prog Tryz.f6 false true false false) := by
  refine returnsInHanded_of_change (C := Tryz.checked) own started (by kernel_rfl) Tryz.func6
    (ChangeSpec.witness6 (enc := enc) (C := Tryz.checked) false ⟨#[], #[.agg #[.slice none 0 0, .int .u64 0, .int .i64 0, .int .i64 0, .int .i64 0], .agg #[.slice none 0 0, .slice none 0 0], .int .i64 0, .agg #[.int .u64 0, .int .u64 0]], []⟩ 8 (by kernel_rfl) (by kernel_rfl) (by kernel_rfl) (by kernel_rfl)) ?_
  intro W base args ds gs before hval0 hW hcnd _
  have hval : ∀ (j : Nat) t v, Tryz.f6.params[j]? = some t → args[j]? = some v → Value.okWide Tryz.prog W .any base t v := hval0
  have hW' := hW
  obtain ⟨p, q, hA0, hV, rfl, hfz, hnd⟩ := hW
  have hA : DataW.TrodAll enc Tryz.prog W 0 (fun _ => true) true Tryz.f6.params.toList args.toList ds p := hA0
  rw [Tryz.params6] at hA hval
  obtain ⟨v0, vs0, d0, ds0, p0, q0, hargs, rfl, rfl, h0, r0⟩ := trodAll_cons hA
  obtain ⟨v1, vs1, d1, ds1, p1, q1, rfl, rfl, rfl, h1, r1⟩ := trodAll_cons r0
  obtain ⟨v2, vs2, d2, ds2, p2, q2, rfl, rfl, rfl, h2, r2⟩ := trodAll_cons r1
  obtain ⟨v3, vs3, d3, ds3, p3, q3, rfl, rfl, rfl, h3, r3⟩ := trodAll_cons r2
  obtain ⟨rfl, rfl, rfl⟩ := trodAll_nil r3
  obtain rfl : args = #[v0, v1, v2, v3] := by cases args; simp_all
  obtain ⟨rfl, rfl⟩ := trodVars_none hV
  obtain ⟨kA, kc, k, rfl, khm, khs, khl⟩ := open_conf (hval 0 _ v0 rfl rfl) h0
  obtain ⟨lA, lc, l, vA, vc, v, rfl, lhm, lhc, lhw, lhl, vhm, vhc, vhw, vhl⟩ := open_view (hval 1 _ v1 rfl rfl) h1
  obtain ⟨slot, rfl, hslot1, hslot2⟩ := open_num (hval 2 _ v2 rfl rfl) h2
  obtain ⟨x, rfl, hx1, hx2⟩ := open_id (hval 3 _ v3 rfl rfl) h3
  clear hA0 hval0
  refine (walk W kA kc k khm khs khl lA lc l vA vc v lhm lhc lhw lhl vhm vhc vhw vhl slot hslot1 hslot2 x hx1 hx2).mono fun e W' ⟨he, hb⟩ => ?_
  subst he
  exact ⟨_, rfl, law_post rfl (by kernel_rfl) rfl hW' rfl hb⟩

theorem over : Rows.quickTopRow.holds Tryz.pinned (OpenSpec.ofChange Rows.quickTopSpec) :=
  OpenClaim.holds_of_wide 6 Tryz.f6 rfl rfl rfl rfl rfl rfl rfl ⟨rfl, rfl, rfl, rfl, rfl⟩ rfl rfl rfl rfl rfl (by kernel_rfl) Tryz.func6 (by kernel_rfl)
    (of_decide_eq_true (by kernel_rfl)) (by unfold Func.isWrapper; first | (rw [if_pos (by decide +kernel)]; kernel_rfl) | (rw [if_neg (by decide +kernel)]; exact ⟨rfl, rfl⟩))
    (fun os started H enc _ => lifted os started H enc)

/-- The statement. -/
theorem proved : Rows.QuickTopSaid :=
  over
#print axioms proved

end Go.Proofs.YtpojiijgahcidaaGreat.quickTop
