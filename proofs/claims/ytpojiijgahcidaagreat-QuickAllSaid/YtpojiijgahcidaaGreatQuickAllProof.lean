/-
  Law QuickAll of layer 15: where all of a committee that weighs something vote for one block it is sure, if beta is less than a half, whatever conf, blocks, slot and block.
-/
import Derived.Test.YtpojiijgahcidaaGreatQuickAwake
import Derived.Test.YtpojiijgahcidaaGreatHeadG
import Derived.Test.YtpojiijgahcidaaGreatDutyG
import Derived.Test.YtpojiijgahcidaaGreatViewOpen
import Derived.Test.YtpojiijgahcidaaGreatMixG
import Derived.Test.YtpojiijgahcidaaGreatGround
import Derived.Test.YtpojiijgahcidaaGreatTreeG
import Derived.Test.YtpojiijgahcidaaGreatWeighG
import Derived.Test.YtpojiijgahcidaaGreatPlainG
import Derived.Test.YtpojiijgahcidaaGreatVoteG
import Derived.Test.YtpojiijgahcidaaGreatVoteRefG
namespace Go.Proofs.YtpojiijgahcidaaGreat.quickAll
set_option maxRecDepth 100000
set_option linter.unusedVariables false
set_option linter.unusedSimpArgs false
open Go.ChangeShapes Go.WideShapes Go.ChangeAt Go.RowKit
set_option linter.unusedVariables false

/-! ### The walk: the call returns true, and of what was there nothing has changed. -/
attribute [local go_sem high] eqIdN eqIdZ eqZZ in
set_option maxRecDepth 100000 in
set_option maxHeartbeats 12800000 in
theorem walk (w : World) (kA : Option Addr) (kc : Nat) (k : Cf) (khm : k.ws.length ≤ maxLen) (khs : k.seed < 18446744073709551616) (khl : CellsAt w w.heap.size kA (intCells k.ws)) (lA : Option Addr) (lc : Nat) (l : List Bk) (lhm : l.length ≤ maxLen) (lhc : l.length ≤ lc) (lhw : WfL l) (lhl : CellsAt w w.heap.size lA (blockCells l)) (slot : Int) (hslot1 : -9223372036854775808 ≤ slot) (hslot2 : slot ≤ 9223372036854775807) (x : Nat × Nat) (hx1 : x.1 < 18446744073709551616) (hx2 : x.2 < 18446744073709551616) :
    Calls Tryz.prog 8 #[.agg #[.slice kA k.ws.length kc, .int .u64 k.seed, .int .i64 k.ep, .int .i64 k.nu, .int .i64 k.de], .slice lA l.length lc, .int .i64 slot, .agg #[.int .u64 x.1, .int .u64 x.2]] w fun e w' => e = .returned (.bool true) ∧ Kept w w' := by
  cases hf : few9C k l [] with
  | false =>
    go_enter Tryz.func8, Tryz.ntmps8
    go_wp2_with fail
    have K0 := Lib.hid (((Kept.refl w).alloc (.cells #[.slice kA k.ws.length kc, .int .u64 k.seed, .int .i64 k.ep, .int .i64 k.nu, .int .i64 k.de] 25)).alloc (.cells #[.int .u64 x.1, .int .u64 x.2] 31))
    have HA := Lib.hid (khl.kept K0.out)
    clear khl
    have HL := Lib.hid (lhl.kept K0.out)
    clear lhl
    have HB0 := Lib.hid ((HasCells.new w #[.slice kA k.ws.length kc, .int .u64 k.seed, .int .i64 k.ep, .int .i64 k.nu, .int .i64 k.de] 25 (w.heap.size) (by simp)).alloc (.cells #[.int .u64 x.1, .int .u64 x.2] 31))
    have HB1 := Lib.hid (HasCells.new (w.alloc (.cells #[.slice kA k.ws.length kc, .int .u64 k.seed, .int .i64 k.ep, .int .i64 k.nu, .int .i64 k.de] 25)) #[.int .u64 x.1, .int .u64 x.2] 31 (w.heap.size + 1) (by simp))
    generalize ((w.alloc (.cells #[.slice kA k.ws.length kc, .int .u64 k.seed, .int .i64 k.ep, .int .i64 k.nu, .int .i64 k.de] 25)).alloc (.cells #[.int .u64 x.1, .int .u64 x.2] 31)) = W0 at *
    generalize w.heap.size + 1 = z1 at *
    generalize w.heap.size = z0 at *
    have KB0 := Lib.hid (Kept.refl W0)
    refine (quickAwake W0).mono ?_
    rintro e W1 ⟨rfl, k⟩
    have KB1 := Lib.hid (KB0.out.trans k)
    clear k
    obtain ⟨b00, b01, b02, b03, b04⟩ := (HB0.out.kept KB1.out).five
    have bz0 := (HB0.out.kept KB1.out).1
    obtain ⟨b10, b11⟩ := (HB1.out.kept KB1.out).two
    have bz1 := (HB1.out.kept KB1.out).1
    go_wp2_with fail
    clear b00 b01 b02 b03 b04 bz0 b10 b11 bz1
    refine ((show Calls Tryz.prog 11 #[.agg #[.slice kA k.ws.length kc, .int .u64 k.seed, .int .i64 k.ep, .int .i64 k.nu, .int .i64 k.de], .slice lA l.length lc, .slice none 0 0] W1 _ from few9_any kA kc k lA lc l none 0 [] W1)).mono ?_
    rintro e W2 ⟨rfl, k⟩
    have KB2 := Lib.hid (KB1.out.trans k)
    clear k
    rw [hf]
    obtain ⟨b00, b01, b02, b03, b04⟩ := (HB0.out.kept KB2.out).five
    have bz0 := (HB0.out.kept KB2.out).1
    obtain ⟨b10, b11⟩ := (HB1.out.kept KB2.out).two
    have bz1 := (HB1.out.kept KB2.out).1
    go_wp2_with fail
    clear b00 b01 b02 b03 b04 bz0 b10 b11 bz1
    go_ret
    exact ⟨by first | rfl | (simp; done), K0.out.trans KB2.out⟩
  | true =>
    obtain ⟨hk40, hl20, hv30⟩ := few9C_yes hf
    have HF := Lib.hid hf
    clear hf
    have hwx : WfI x := ⟨hx1, hx2⟩
    go_enter Tryz.func8, Tryz.ntmps8
    go_wp2_with fail
    have K0 := Lib.hid (((Kept.refl w).alloc (.cells #[.slice kA k.ws.length kc, .int .u64 k.seed, .int .i64 k.ep, .int .i64 k.nu, .int .i64 k.de] 25)).alloc (.cells #[.int .u64 x.1, .int .u64 x.2] 31))
    have HA := Lib.hid (khl.kept K0.out)
    clear khl
    have HL := Lib.hid (lhl.kept K0.out)
    clear lhl
    have HB0 := Lib.hid ((HasCells.new w #[.slice kA k.ws.length kc, .int .u64 k.seed, .int .i64 k.ep, .int .i64 k.nu, .int .i64 k.de] 25 (w.heap.size) (by simp)).alloc (.cells #[.int .u64 x.1, .int .u64 x.2] 31))
    have HB1 := Lib.hid (HasCells.new (w.alloc (.cells #[.slice kA k.ws.length kc, .int .u64 k.seed, .int .i64 k.ep, .int .i64 k.nu, .int .i64 k.de] 25)) #[.int .u64 x.1, .int .u64 x.2] 31 (w.heap.size + 1) (by simp))
    generalize ((w.alloc (.cells #[.slice kA k.ws.length kc, .int .u64 k.seed, .int .i64 k.ep, .int .i64 k.nu, .int .i64 k.de] 25)).alloc (.cells #[.int .u64 x.1, .int .u64 x.2] 31)) = W0 at *
    generalize w.heap.size + 1 = z1 at *
    generalize w.heap.size = z0 at *
    have KB0 := Lib.hid (Kept.refl W0)
    refine (quickAwake W0).mono ?_
    rintro e W1 ⟨rfl, k⟩
    have KB1 := Lib.hid (KB0.out.trans k)
    clear k
    obtain ⟨b00, b01, b02, b03, b04⟩ := (HB0.out.kept KB1.out).five
    have bz0 := (HB0.out.kept KB1.out).1
    obtain ⟨b10, b11⟩ := (HB1.out.kept KB1.out).two
    have bz1 := (HB1.out.kept KB1.out).1
    go_wp2_with fail
    clear b00 b01 b02 b03 b04 bz0 b10 b11 bz1
    refine ((show Calls Tryz.prog 11 #[.agg #[.slice kA k.ws.length kc, .int .u64 k.seed, .int .i64 k.ep, .int .i64 k.nu, .int .i64 k.de], .slice lA l.length lc, .slice none 0 0] W1 _ from few9_any kA kc k lA lc l none 0 [] W1)).mono ?_
    rintro e W2 ⟨rfl, k⟩
    have KB2 := Lib.hid (KB1.out.trans k)
    clear k
    rw [HF.out]
    obtain ⟨b00, b01, b02, b03, b04⟩ := (HB0.out.kept KB2.out).five
    have bz0 := (HB0.out.kept KB2.out).1
    obtain ⟨b10, b11⟩ := (HB1.out.kept KB2.out).two
    have bz1 := (HB1.out.kept KB2.out).1
    go_wp2_with fail
    clear b00 b01 b02 b03 b04 bz0 b10 b11 bz1
    refine (mayD_any kA kc k W2 (HA.out.kept KB2.out)).mono ?_
    rintro e W3 ⟨rfl, k⟩
    have KB3 := Lib.hid (KB2.out.trans k)
    clear k
    cases hm : mayC k with
    | false =>
      obtain ⟨b00, b01, b02, b03, b04⟩ := (HB0.out.kept KB3.out).five
      have bz0 := (HB0.out.kept KB3.out).1
      obtain ⟨b10, b11⟩ := (HB1.out.kept KB3.out).two
      have bz1 := (HB1.out.kept KB3.out).1
      go_wp2_with fail
      clear b00 b01 b02 b03 b04 bz0 b10 b11 bz1
      go_ret
      exact ⟨by first | rfl | (simp; done), K0.out.trans KB3.out⟩
    | true =>
      obtain ⟨hnu, hde⟩ := quick_nums hm
      have HM := Lib.hid hm
      obtain ⟨b00, b01, b02, b03, b04⟩ := (HB0.out.kept KB3.out).five
      have bz0 := (HB0.out.kept KB3.out).1
      obtain ⟨b10, b11⟩ := (HB1.out.kept KB3.out).two
      have bz1 := (HB1.out.kept KB3.out).1
      go_wp2_with fail
      clear b00 b01 b02 b03 b04 bz0 b10 b11 bz1
      refine (chain_any lA lc l (by omega) lhw x hwx W3 (HL.out.kept KB3.out)).mono ?_
      rintro e W4 ⟨A0, c0_, rfl, _, _, k⟩
      have KB4 := Lib.hid (KB3.out.trans k)
      clear k
      by_cases hcx : (chainC l x).length = 0
      · have hcb : (((chainC l x).length : Int) == 0) = true := by rw [beq_iff_eq]; omega
        obtain ⟨b00, b01, b02, b03, b04⟩ := (HB0.out.kept KB4.out).five
        have bz0 := (HB0.out.kept KB4.out).1
        obtain ⟨b10, b11⟩ := (HB1.out.kept KB4.out).two
        have bz1 := (HB1.out.kept KB4.out).1
        go_wp2_with fail
        clear b00 b01 b02 b03 b04 bz0 b10 b11 bz1
        go_ret
        exact ⟨by first | rfl | (simp; done), K0.out.trans KB4.out⟩
      · have hcb : (((chainC l x).length : Int) == 0) = false := by rw [beq_eq_false_iff_ne]; omega
        have HCx := Lib.hid hcx
        obtain ⟨b00, b01, b02, b03, b04⟩ := (HB0.out.kept KB4.out).five
        have bz0 := (HB0.out.kept KB4.out).1
        obtain ⟨b10, b11⟩ := (HB1.out.kept KB4.out).two
        have bz1 := (HB1.out.kept KB4.out).1
        go_wp2_with fail
        clear b00 b01 b02 b03 b04 bz0 b10 b11 bz1
        clear hcb
        refine (comm_any kA kc k slot W4 (HA.out.kept KB4.out) khs).mono ?_
        rintro e W5 ⟨A1, c1, rfl, hC1, k⟩
        have KB5 := Lib.hid (KB4.out.trans k)
        clear k
        replace HA := Lib.hid (HA.out.kept KB5.out)
        replace HL := Lib.hid (HL.out.kept KB5.out)
        replace HB0 := Lib.hid (HB0.out.kept KB5.out)
        replace HB1 := Lib.hid (HB1.out.kept KB5.out)
        replace K0 := Lib.hid (K0.out.trans KB5.out)
        have KB6 := Lib.hid (Kept.refl W5)
        have HCm := Lib.hid hC1
        clear hC1
        have HLc := Lib.hid (show (commC k slot).length ≤ k.ws.length by
          unfold commC
          split
          · exact commTo_length _ _
          · simp)
        obtain ⟨cm, hcm⟩ : ∃ cm, cm = commC k slot := ⟨_, rfl⟩
        rw [← hcm] at HCm HLc ⊢
        have HCe := Lib.hid hcm
        clear hcm
        go_wp2_with fail
        go_loopw [12, 13] (fun u i w' => ∃ (j : Nat) (B : Option Addr) (d : Nat), j ≤ cm.length ∧ i = .int .i64 (j : Nat) ∧ u = .slice B (commV slot x (cm.take j)).length d ∧ Vts W5 (commV slot x (cm.take j)) (.slice B (commV slot x (cm.take j)).length d) w') (fun _ i _ => cm.length - (intOf i).toNat)
        case atStart => exact ⟨0, none, 0, by omega, rfl, rfl, Vts.nil _⟩
        case round =>
          obtain ⟨j, B, d, hj, rfl, rfl, hI⟩ := hrel
          have HI := Lib.hid hI
          clear hI
          have KB7 := Lib.hid (KB6.out.trans HI.out.2)
          by_cases hlt : j < cm.length
          · obtain ⟨zq, oq, rfl, hbq, x0⟩ := num_at HCm.out hlt
            have HN := Lib.hid (commV_hit (slot := slot) (x := x) hlt)
            have HNl := Lib.hid (show (commV slot x (cm.take j)).length ≤ 1000 by
              rw [commV_len, List.length_take]
              have := HLc.out
              omega)
            generalize cm[j] = f at *
            generalize commV slot x (cm.take j) = O at *
            obtain ⟨b10, b11⟩ := HB1.out.two
            have bz1 := HB1.out.1
            have d0 := (HI.out.2.cell (p := ⟨z1, 0, none⟩) bz1).trans b10
            have d1 := (HI.out.2.cell (p := ⟨z1, 1, none⟩) bz1).trans b11
            have d2 := (HI.out.2.cell (p := ⟨zq, oq + j, none⟩) hbq).trans x0
            have hl1 : z1 < wr.heap.size := Nat.lt_of_lt_of_le bz1 HI.out.2.size_le
            have hlq : zq < wr.heap.size := Nat.lt_of_lt_of_le hbq HI.out.2.size_le
            go_wp2_with fail
            refine wp_region_noPanic ?_
            refine wp_region_held_drew (S := (fun w' => w'.cell? ⟨z1, 0, none⟩ = some (.int .u64 x.1) ∧ w'.cell? ⟨z1, 1, none⟩ = some (.int .u64 x.2) ∧ w'.cell? ⟨zq, oq + j, none⟩ = some (.int .i64 f) ∧ Kept W5 w')) (by kernel_rfl) ?_ (fun hHeld => ?_)
            · exact ⟨d0, d1, d2, HI.out.2.drew⟩
            refine wpAnyH_take (i := 0) (v := ?_) (by simp only [List.getElem?_toArray, List.getElem?_cons_succ, List.getElem?_cons_zero]; rfl) (by kernel_rfl) (by kernel_rfl) (by kernel_rfl) (fun _ _ _ h => h) (Or.inl ⟨by rfl, ?_⟩) (by assumption) ?_
            rotate_left
            · intro w hSw
              (try dsimp only at hSw)
              go_simp
              (try with_reducible rfl)
            simp only [Act.put, List.setIfInBounds_toArray, List.set_cons_zero, List.set_cons_succ]
            refine wpAnyH_take (i := 1) (v := ?_) (by simp only [List.getElem?_toArray, List.getElem?_cons_succ, List.getElem?_cons_zero]; rfl) (by kernel_rfl) (by kernel_rfl) (by kernel_rfl) (fun _ _ _ h => h) (Or.inl ⟨by rfl, ?_⟩) (by assumption) ?_
            rotate_left
            · intro w hSw
              (try dsimp only at hSw)
              go_simp
              (try with_reducible rfl)
            simp only [Act.put, List.setIfInBounds_toArray, List.set_cons_zero, List.set_cons_succ]
            refine wpAnyH_take (i := 2) (v := ?_) (by simp only [List.getElem?_toArray, List.getElem?_cons_succ, List.getElem?_cons_zero]; rfl) (by kernel_rfl) (by kernel_rfl) (by kernel_rfl) (fun _ _ _ h => h) (Or.inl ⟨by rfl, ?_⟩) (by assumption) ?_
            rotate_left
            · intro w hSw
              (try dsimp only at hSw)
              go_simp
              (try with_reducible rfl)
            simp only [Act.put, List.setIfInBounds_toArray, List.set_cons_zero, List.set_cons_succ]
            refine wpAnyH_take (i := 3) (v := ?_) (by simp only [List.getElem?_toArray, List.getElem?_cons_succ, List.getElem?_cons_zero]; rfl) (by kernel_rfl) (by kernel_rfl) (by kernel_rfl) (fun _ _ _ h => h) (Or.inl ⟨by rfl, ?_⟩) (by assumption) ?_
            rotate_left
            · intro w hSw
              (try dsimp only at hSw)
              go_simp
              (try with_reducible rfl)
            simp only [Act.put, List.setIfInBounds_toArray, List.set_cons_zero, List.set_cons_succ]
            refine wpAnyH_take (i := 4) (v := ?_) (by simp only [List.getElem?_toArray, List.getElem?_cons_succ, List.getElem?_cons_zero]; rfl) (by kernel_rfl) (by kernel_rfl) (by kernel_rfl) (fun _ _ _ h => h) (Or.inl ⟨by rfl, ?_⟩) (by assumption) ?_
            rotate_left
            · intro w hSw
              (try dsimp only at hSw)
              go_simp
              (try with_reducible rfl)
            simp only [Act.put, List.setIfInBounds_toArray, List.set_cons_zero, List.set_cons_succ]
            refine wpAnyH_take (i := 5) (v := ?_) (by simp only [List.getElem?_toArray, List.getElem?_cons_succ, List.getElem?_cons_zero]; rfl) (by kernel_rfl) (by kernel_rfl) (by kernel_rfl) (fun _ _ _ h => h) (Or.inl ⟨by rfl, ?_⟩) (by assumption) ?_
            rotate_left
            · intro w hSw
              (try dsimp only at hSw)
              go_simp
              (try with_reducible rfl)
            simp only [Act.put, List.setIfInBounds_toArray, List.set_cons_zero, List.set_cons_succ]
            refine wpAnyH_take (i := 6) (v := ?_) (by simp only [List.getElem?_toArray, List.getElem?_cons_succ, List.getElem?_cons_zero]; rfl) (by kernel_rfl) (by kernel_rfl) (by kernel_rfl) (fun _ _ _ h => h) (Or.inl ⟨by rfl, ?_⟩) (by assumption) ?_
            rotate_left
            · intro w hSw
              (try dsimp only at hSw)
              go_simp
              (try with_reducible rfl)
            simp only [Act.put, List.setIfInBounds_toArray, List.set_cons_zero, List.set_cons_succ]
            refine wpAnyH_take (i := 7) (v := ?_) (by simp only [List.getElem?_toArray, List.getElem?_cons_succ, List.getElem?_cons_zero]; rfl) (by kernel_rfl) (by kernel_rfl) (by kernel_rfl) (fun _ _ _ h => h) (Or.inl ⟨by rfl, ?_⟩) (by assumption) ?_
            rotate_left
            · intro w hSw
              (try dsimp only at hSw)
              go_simp
              (try with_reducible rfl)
            simp only [Act.put, List.setIfInBounds_toArray, List.set_cons_zero, List.set_cons_succ]
            refine wpAnyH_ready (rs := [8]) (by kernel_rfl) (by simp) ?_
            refine AllReadyH.cons (by simp only [List.getElem?_toArray, List.getElem?_cons_succ, List.getElem?_cons_zero]; rfl) (fun K hK => ?_) (AllReadyH.nil)
            have hyb := AtB.new wr.drew #[.int .i64 f, .int .i64 slot, .int .u64 x.1, .int .u64 x.2] 47
            have kk := (Kept.refl wr.drew).alloc (.cells #[.int .i64 f, .int .i64 slot, .int .u64 x.1, .int .u64 x.2] 47)
            have hV := (HI.out.kept (Kept.refl wr).drew).kept kk
            have kT := hV.2
            go_simp
            refine hK.out _ _ ?_ (fun hHeld2 => ?_)
            · exact ⟨(kT.cell (p := ⟨z1, 0, none⟩) bz1).trans b10, (kT.cell (p := ⟨z1, 1, none⟩) bz1).trans b11, (kT.cell (p := ⟨zq, oq + j, none⟩) hbq).trans x0, kT⟩
            clear hK K hHeld
            have hHeld := hHeld2
            clear hHeld2
            try simp only [Act.put, List.setIfInBounds_toArray, List.set_cons_zero, List.set_cons_succ]
            refine wpAnyH_ready (rs := [9]) (by kernel_rfl) (by simp) ?_
            refine AllReadyH.cons (by simp only [List.getElem?_toArray, List.getElem?_cons_succ, List.getElem?_cons_zero]; rfl) (fun K hK => ?_) (AllReadyH.nil)
            refine step_vgrow _ (by rfl) (.tmp 51) (.tmp 59) (by rfl) W5 O _ (by rfl) hV _ (some ⟨_, 0, none⟩) 1 1 [⟨f, slot, x⟩] (by rfl) rfl (votes_one_at hyb.has) (by have := HNl.out; omega) ?_
            intro A2 c2 w2 hV2 gg
            rw [← HN.out] at hV2 ⊢
            have kT := hV2.2
            refine hK.out _ _ ?_ (fun hHeld2 => ?_)
            · exact ⟨(kT.cell (p := ⟨z1, 0, none⟩) bz1).trans b10, (kT.cell (p := ⟨z1, 1, none⟩) bz1).trans b11, (kT.cell (p := ⟨zq, oq + j, none⟩) hbq).trans x0, kT⟩
            clear hK K hHeld
            have hHeld := hHeld2
            clear hHeld2
            try simp only [Act.put, List.setIfInBounds_toArray, List.set_cons_zero, List.set_cons_succ]
            refine wpAnyH_take (i := 10) (v := ?_) (by simp only [List.getElem?_toArray, List.getElem?_cons_succ, List.getElem?_cons_zero]; rfl) (by kernel_rfl) (by kernel_rfl) (by kernel_rfl) (fun _ _ _ h => h) (Or.inl ⟨by rfl, ?_⟩) (by assumption) ?_
            rotate_left
            · intro w hSw
              (try dsimp only at hSw)
              go_simp
              (try with_reducible rfl)
            simp only [Act.put, List.setIfInBounds_toArray, List.set_cons_zero, List.set_cons_succ]
            refine wpAnyH_done (by kernel_rfl) ?_ _
            refine NoPanic.normal ?_
            clear hHeld
            have hcl := HLc.out
            go_wp2_with fail
            go_roundw
            case rel => exact ⟨j + 1, A2, c2, by omega, by go_num, rfl, hV2⟩
            case measure => simp [intOf]; omega
          · have hjl : j = cm.length := by omega
            subst hjl
            rw [List.take_length] at HI ⊢
            rw [HCe.out] at HI HCm HLc ⊢
            have hVc := CellsAt.of_own HI.out.1
            replace HA := Lib.hid (HA.out.kept KB7.out)
            replace HL := Lib.hid (HL.out.kept KB7.out)
            replace HCm := Lib.hid (HCm.out.kept KB7.out)
            replace HB0 := Lib.hid (HB0.out.kept KB7.out)
            replace HB1 := Lib.hid (HB1.out.kept KB7.out)
            replace K0 := Lib.hid (K0.out.trans KB7.out)
            have KB8 := Lib.hid (Kept.refl wr)
            have HVs := Lib.hid hVc
            clear hVc
            have hvl : (commV slot x (commC k slot)).length ≤ 1000 := by
              rw [commV_len]
              have := HLc.out
              omega
            have hvw := commV_wf (slot := slot) (x := x) hk40 ⟨hslot1, hslot2⟩ hwx
            have HGo := Lib.hid (commV_golds k slot x)
            have HOn := Lib.hid (commV_on (k := k) (l := l) slot (chain_self HCx.out).2.2)
            have HSu := Lib.hid (all_sure HM.out HCx.out (slot := slot))
            have HTy := Lib.hid (all_top_yes HM.out HCx.out (slot := slot))
            have HTn := Lib.hid (all_top_no HM.out HCx.out (slot := slot))
            have HTz := Lib.hid (all_top_zid HM.out HCx.out (slot := slot))
            have hwc := wc_bounds k slot
            obtain ⟨vs, hvs⟩ : ∃ vs, vs = commV slot x (commC k slot) := ⟨_, rfl⟩
            rw [← hvs] at HVs hvl hvw HGo HOn HSu HTy HTn HTz ⊢
            clear hvs HI
            obtain ⟨b00, b01, b02, b03, b04⟩ := (HB0.out.kept KB8.out).five
            have bz0 := (HB0.out.kept KB8.out).1
            obtain ⟨b10, b11⟩ := (HB1.out.kept KB8.out).two
            have bz1 := (HB1.out.kept KB8.out).1
            go_wp2_with fail
            clear b00 b01 b02 b03 b04 bz0 b10 b11 bz1
            refine (weight_any kA kc k _ (commC k slot) c1 wr (HA.out.kept KB8.out) (by have := HLc.out; omega) (HCm.out.kept KB8.out)).mono ?_
            rintro e W9 ⟨rfl, k⟩
            have KB9 := Lib.hid (KB8.out.trans k)
            clear k
            rw [show weightC k (commC k slot) = wcC k slot from rfl]
            have kv := (Kept.refl W9).alloc (.cells #[.slice lA l.length lc, .slice B vs.length d] 29)
            obtain ⟨b00, b01, b02, b03, b04⟩ := (HB0.out.kept KB9.out).five
            have bz0 := (HB0.out.kept KB9.out).1
            obtain ⟨b10, b11⟩ := (HB1.out.kept KB9.out).two
            have bz1 := (HB1.out.kept KB9.out).1
            go_wp2_with fail
            clear b00 b01 b02 b03 b04 bz0 b10 b11 bz1
            have H15 := Lib.hid (AtB.new W9 #[.slice lA l.length lc, .slice B vs.length d] 29)
            have KB10 := Lib.hid (KB9.out.trans kv)
            clear kv
            generalize W9.alloc (.cells #[.slice lA l.length lc, .slice B vs.length d] 29) = W10 at *
            generalize W9.heap.size = z15 at *
            by_cases hw1 : 0 < wcC k slot
            · by_cases hb1 : 2 * k.nu < k.de
              · cases hz : isZ x with
                | false =>
                  have hww : (wcC k slot == wcC k slot) = true := beq_self_eq_true _
                  have hm2 : wrap64 (2 * k.nu) = 2 * k.nu := IntWalk.wrap64_in _ (by omega)
                  have hm3 : IntKind.i64.wrap (2 * k.nu) = 2 * k.nu := by rw [IntKind.wrap_i64]; omega
                  have gw : decide (0 < wcC k slot) = true := decide_eq_true hw1
                  have gb : decide (2 * k.nu < k.de) = true := decide_eq_true hb1
                  have hxx : sameI x x = true := sameI_yes rfl
                  refine (quickTop_any kA kc k lA lc l B d vs slot x W10 (by omega) khs (by omega) (by omega) lhw hvw hwx hnu hde (HA.out.kept KB10.out) (HL.out.kept KB10.out) (HVs.out.kept KB10.out)).mono ?_
                  rintro e W11 ⟨R, hR, rfl, k⟩
                  replace H15 := Lib.hid (H15.out.kept k)
                  have KB11 := Lib.hid (KB10.out.trans k)
                  clear k
                  obtain rfl := HGo.out.unique hR
                  rw [HTy.out hw1 hb1 (isZ_ne hz)]
                  simp only [Option.getD_some, Option.isSome_some]
                  have u0 : W11.cell? ⟨z15, 0, none⟩ = some (.slice lA l.length lc) := H15.out.cell
                  have u1 : W11.cell? ⟨z15, 1, none⟩ = some (.slice B vs.length d) := H15.out.cell
                  have l15 := H15.out.lt
                  have k := (Kept.refl W11).alloc (.cells #[.int .u64 x.1, .int .u64 x.2] 31)
                  replace H15 := Lib.hid (H15.out.kept k)
                  have H16 := Lib.hid (AtB.new W11 #[.int .u64 x.1, .int .u64 x.2] 31)
                  obtain ⟨b00, b01, b02, b03, b04⟩ := (HB0.out.kept KB11.out).five
                  have bz0 := (HB0.out.kept KB11.out).1
                  obtain ⟨b10, b11⟩ := (HB1.out.kept KB11.out).two
                  have bz1 := (HB1.out.kept KB11.out).1
                  go_wp2_with fail
                  clear b00 b01 b02 b03 b04 bz0 b10 b11 bz1
                  clear u0 u1 l15
                  have KB12 := Lib.hid (KB11.out.trans k)
                  clear k
                  generalize W11.alloc (.cells #[.int .u64 x.1, .int .u64 x.2] 31) = W12 at *
                  generalize W11.heap.size = z16 at *
                  refine (quickFor_any kA kc k lA lc l B d vs slot x W12 (by omega) khs (by omega) (by omega) lhw hvw hwx (HA.out.kept KB12.out) (HL.out.kept KB12.out) (HVs.out.kept KB12.out)).mono ?_
                  rintro e W13 ⟨R, hR, rfl, k⟩
                  replace H15 := Lib.hid (H15.out.kept k)
                  replace H16 := Lib.hid (H16.out.kept k)
                  have KB13 := Lib.hid (KB12.out.trans k)
                  clear k
                  obtain rfl := HGo.out.unique hR
                  rw [HOn.out]
                  have u0 : W13.cell? ⟨z15, 0, none⟩ = some (.slice lA l.length lc) := H15.out.cell
                  have u1 : W13.cell? ⟨z15, 1, none⟩ = some (.slice B vs.length d) := H15.out.cell
                  have l15 := H15.out.lt
                  have s0 : W13.cell? ⟨z16, 0, none⟩ = some (.int .u64 x.1) := H16.out.cell
                  have s1 : W13.cell? ⟨z16, 1, none⟩ = some (.int .u64 x.2) := H16.out.cell
                  have l16 := H16.out.lt
                  obtain ⟨b00, b01, b02, b03, b04⟩ := (HB0.out.kept KB13.out).five
                  have bz0 := (HB0.out.kept KB13.out).1
                  obtain ⟨b10, b11⟩ := (HB1.out.kept KB13.out).two
                  have bz1 := (HB1.out.kept KB13.out).1
                  go_wp2_with fail
                  clear b00 b01 b02 b03 b04 bz0 b10 b11 bz1
                  clear u0 u1 l15 s0 s1 l16
                  refine (quickSure_any kA kc k lA lc l B d vs slot x W13 (by omega) khs (by omega) (by omega) lhw hvw hwx hnu hde (HA.out.kept KB13.out) (HL.out.kept KB13.out) (HVs.out.kept KB13.out)).mono ?_
                  rintro e W14 ⟨R, hR, rfl, k⟩
                  replace H15 := Lib.hid (H15.out.kept k)
                  replace H16 := Lib.hid (H16.out.kept k)
                  have KB14 := Lib.hid (KB13.out.trans k)
                  clear k
                  obtain rfl := HGo.out.unique hR
                  rw [HSu.out, decide_eq_true ⟨hw1, hb1⟩]
                  have u0 : W14.cell? ⟨z15, 0, none⟩ = some (.slice lA l.length lc) := H15.out.cell
                  have u1 : W14.cell? ⟨z15, 1, none⟩ = some (.slice B vs.length d) := H15.out.cell
                  have l15 := H15.out.lt
                  have s0 : W14.cell? ⟨z16, 0, none⟩ = some (.int .u64 x.1) := H16.out.cell
                  have s1 : W14.cell? ⟨z16, 1, none⟩ = some (.int .u64 x.2) := H16.out.cell
                  have l16 := H16.out.lt
                  obtain ⟨b00, b01, b02, b03, b04⟩ := (HB0.out.kept KB14.out).five
                  have bz0 := (HB0.out.kept KB14.out).1
                  obtain ⟨b10, b11⟩ := (HB1.out.kept KB14.out).two
                  have bz1 := (HB1.out.kept KB14.out).1
                  go_wp2_with fail
                  clear b00 b01 b02 b03 b04 bz0 b10 b11 bz1
                  clear u0 u1 l15 s0 s1 l16
                  go_ret
                  exact ⟨by first | rfl | (simp; done), K0.out.trans KB14.out⟩
                | true =>
                  have hww : (wcC k slot == wcC k slot) = true := beq_self_eq_true _
                  have hm2 : wrap64 (2 * k.nu) = 2 * k.nu := IntWalk.wrap64_in _ (by omega)
                  have hm3 : IntKind.i64.wrap (2 * k.nu) = 2 * k.nu := by rw [IntKind.wrap_i64]; omega
                  have gw : decide (0 < wcC k slot) = true := decide_eq_true hw1
                  have gb : decide (2 * k.nu < k.de) = true := decide_eq_true hb1
                  have hzx : sameI zid x = true := sameI_yes (isZ_eq hz).symm
                  refine (quickTop_any kA kc k lA lc l B d vs slot x W10 (by omega) khs (by omega) (by omega) lhw hvw hwx hnu hde (HA.out.kept KB10.out) (HL.out.kept KB10.out) (HVs.out.kept KB10.out)).mono ?_
                  rintro e W11 ⟨R, hR, rfl, k⟩
                  replace H15 := Lib.hid (H15.out.kept k)
                  have KB11 := Lib.hid (KB10.out.trans k)
                  clear k
                  obtain rfl := HGo.out.unique hR
                  rw [HTz.out (isZ_eq hz)]
                  simp only [Option.getD_none, Option.isSome_none]
                  have u0 : W11.cell? ⟨z15, 0, none⟩ = some (.slice lA l.length lc) := H15.out.cell
                  have u1 : W11.cell? ⟨z15, 1, none⟩ = some (.slice B vs.length d) := H15.out.cell
                  have l15 := H15.out.lt
                  have k := (Kept.refl W11).alloc (.cells #[.int .u64 zid.1, .int .u64 zid.2] 31)
                  replace H15 := Lib.hid (H15.out.kept k)
                  have H16 := Lib.hid (AtB.new W11 #[.int .u64 zid.1, .int .u64 zid.2] 31)
                  obtain ⟨b00, b01, b02, b03, b04⟩ := (HB0.out.kept KB11.out).five
                  have bz0 := (HB0.out.kept KB11.out).1
                  obtain ⟨b10, b11⟩ := (HB1.out.kept KB11.out).two
                  have bz1 := (HB1.out.kept KB11.out).1
                  go_wp2_with fail
                  clear b00 b01 b02 b03 b04 bz0 b10 b11 bz1
                  clear u0 u1 l15
                  have KB12 := Lib.hid (KB11.out.trans k)
                  clear k
                  generalize W11.alloc (.cells #[.int .u64 zid.1, .int .u64 zid.2] 31) = W12 at *
                  generalize W11.heap.size = z16 at *
                  refine (quickFor_any kA kc k lA lc l B d vs slot x W12 (by omega) khs (by omega) (by omega) lhw hvw hwx (HA.out.kept KB12.out) (HL.out.kept KB12.out) (HVs.out.kept KB12.out)).mono ?_
                  rintro e W13 ⟨R, hR, rfl, k⟩
                  replace H15 := Lib.hid (H15.out.kept k)
                  replace H16 := Lib.hid (H16.out.kept k)
                  have KB13 := Lib.hid (KB12.out.trans k)
                  clear k
                  obtain rfl := HGo.out.unique hR
                  rw [HOn.out]
                  have u0 : W13.cell? ⟨z15, 0, none⟩ = some (.slice lA l.length lc) := H15.out.cell
                  have u1 : W13.cell? ⟨z15, 1, none⟩ = some (.slice B vs.length d) := H15.out.cell
                  have l15 := H15.out.lt
                  have s0 : W13.cell? ⟨z16, 0, none⟩ = some (.int .u64 zid.1) := H16.out.cell
                  have s1 : W13.cell? ⟨z16, 1, none⟩ = some (.int .u64 zid.2) := H16.out.cell
                  have l16 := H16.out.lt
                  obtain ⟨b00, b01, b02, b03, b04⟩ := (HB0.out.kept KB13.out).five
                  have bz0 := (HB0.out.kept KB13.out).1
                  obtain ⟨b10, b11⟩ := (HB1.out.kept KB13.out).two
                  have bz1 := (HB1.out.kept KB13.out).1
                  go_wp2_with fail
                  clear b00 b01 b02 b03 b04 bz0 b10 b11 bz1
                  clear u0 u1 l15 s0 s1 l16
                  refine (quickSure_any kA kc k lA lc l B d vs slot x W13 (by omega) khs (by omega) (by omega) lhw hvw hwx hnu hde (HA.out.kept KB13.out) (HL.out.kept KB13.out) (HVs.out.kept KB13.out)).mono ?_
                  rintro e W14 ⟨R, hR, rfl, k⟩
                  replace H15 := Lib.hid (H15.out.kept k)
                  replace H16 := Lib.hid (H16.out.kept k)
                  have KB14 := Lib.hid (KB13.out.trans k)
                  clear k
                  obtain rfl := HGo.out.unique hR
                  rw [HSu.out, decide_eq_true ⟨hw1, hb1⟩]
                  have u0 : W14.cell? ⟨z15, 0, none⟩ = some (.slice lA l.length lc) := H15.out.cell
                  have u1 : W14.cell? ⟨z15, 1, none⟩ = some (.slice B vs.length d) := H15.out.cell
                  have l15 := H15.out.lt
                  have s0 : W14.cell? ⟨z16, 0, none⟩ = some (.int .u64 zid.1) := H16.out.cell
                  have s1 : W14.cell? ⟨z16, 1, none⟩ = some (.int .u64 zid.2) := H16.out.cell
                  have l16 := H16.out.lt
                  obtain ⟨b00, b01, b02, b03, b04⟩ := (HB0.out.kept KB14.out).five
                  have bz0 := (HB0.out.kept KB14.out).1
                  obtain ⟨b10, b11⟩ := (HB1.out.kept KB14.out).two
                  have bz1 := (HB1.out.kept KB14.out).1
                  go_wp2_with fail
                  clear b00 b01 b02 b03 b04 bz0 b10 b11 bz1
                  clear u0 u1 l15 s0 s1 l16
                  go_ret
                  exact ⟨by first | rfl | (simp; done), K0.out.trans KB14.out⟩
              · have hww : (wcC k slot == wcC k slot) = true := beq_self_eq_true _
                have hm2 : wrap64 (2 * k.nu) = 2 * k.nu := IntWalk.wrap64_in _ (by omega)
                have hm3 : IntKind.i64.wrap (2 * k.nu) = 2 * k.nu := by rw [IntKind.wrap_i64]; omega
                have gw : decide (0 < wcC k slot) = true := decide_eq_true hw1
                have gb : decide (2 * k.nu < k.de) = false := decide_eq_false hb1
                have hno : ¬ (0 < wcC k slot ∧ 2 * k.nu < k.de) := fun h => hb1 h.2
                refine (quickTop_any kA kc k lA lc l B d vs slot x W10 (by omega) khs (by omega) (by omega) lhw hvw hwx hnu hde (HA.out.kept KB10.out) (HL.out.kept KB10.out) (HVs.out.kept KB10.out)).mono ?_
                rintro e W11 ⟨R, hR, rfl, k⟩
                replace H15 := Lib.hid (H15.out.kept k)
                have KB11 := Lib.hid (KB10.out.trans k)
                clear k
                obtain rfl := HGo.out.unique hR
                rw [HTn.out hno]
                simp only [Option.getD_none, Option.isSome_none]
                have u0 : W11.cell? ⟨z15, 0, none⟩ = some (.slice lA l.length lc) := H15.out.cell
                have u1 : W11.cell? ⟨z15, 1, none⟩ = some (.slice B vs.length d) := H15.out.cell
                have l15 := H15.out.lt
                have k := (Kept.refl W11).alloc (.cells #[.int .u64 zid.1, .int .u64 zid.2] 31)
                replace H15 := Lib.hid (H15.out.kept k)
                have H16 := Lib.hid (AtB.new W11 #[.int .u64 zid.1, .int .u64 zid.2] 31)
                obtain ⟨b00, b01, b02, b03, b04⟩ := (HB0.out.kept KB11.out).five
                have bz0 := (HB0.out.kept KB11.out).1
                obtain ⟨b10, b11⟩ := (HB1.out.kept KB11.out).two
                have bz1 := (HB1.out.kept KB11.out).1
                go_wp2_with fail
                clear b00 b01 b02 b03 b04 bz0 b10 b11 bz1
                clear u0 u1 l15
                have KB12 := Lib.hid (KB11.out.trans k)
                clear k
                generalize W11.alloc (.cells #[.int .u64 zid.1, .int .u64 zid.2] 31) = W12 at *
                generalize W11.heap.size = z16 at *
                refine (quickFor_any kA kc k lA lc l B d vs slot x W12 (by omega) khs (by omega) (by omega) lhw hvw hwx (HA.out.kept KB12.out) (HL.out.kept KB12.out) (HVs.out.kept KB12.out)).mono ?_
                rintro e W13 ⟨R, hR, rfl, k⟩
                replace H15 := Lib.hid (H15.out.kept k)
                replace H16 := Lib.hid (H16.out.kept k)
                have KB13 := Lib.hid (KB12.out.trans k)
                clear k
                obtain rfl := HGo.out.unique hR
                rw [HOn.out]
                have u0 : W13.cell? ⟨z15, 0, none⟩ = some (.slice lA l.length lc) := H15.out.cell
                have u1 : W13.cell? ⟨z15, 1, none⟩ = some (.slice B vs.length d) := H15.out.cell
                have l15 := H15.out.lt
                have s0 : W13.cell? ⟨z16, 0, none⟩ = some (.int .u64 zid.1) := H16.out.cell
                have s1 : W13.cell? ⟨z16, 1, none⟩ = some (.int .u64 zid.2) := H16.out.cell
                have l16 := H16.out.lt
                obtain ⟨b00, b01, b02, b03, b04⟩ := (HB0.out.kept KB13.out).five
                have bz0 := (HB0.out.kept KB13.out).1
                obtain ⟨b10, b11⟩ := (HB1.out.kept KB13.out).two
                have bz1 := (HB1.out.kept KB13.out).1
                go_wp2_with fail
                clear b00 b01 b02 b03 b04 bz0 b10 b11 bz1
                clear u0 u1 l15 s0 s1 l16
                refine (quickSure_any kA kc k lA lc l B d vs slot x W13 (by omega) khs (by omega) (by omega) lhw hvw hwx hnu hde (HA.out.kept KB13.out) (HL.out.kept KB13.out) (HVs.out.kept KB13.out)).mono ?_
                rintro e W14 ⟨R, hR, rfl, k⟩
                replace H15 := Lib.hid (H15.out.kept k)
                replace H16 := Lib.hid (H16.out.kept k)
                have KB14 := Lib.hid (KB13.out.trans k)
                clear k
                obtain rfl := HGo.out.unique hR
                rw [HSu.out, decide_eq_false hno]
                have u0 : W14.cell? ⟨z15, 0, none⟩ = some (.slice lA l.length lc) := H15.out.cell
                have u1 : W14.cell? ⟨z15, 1, none⟩ = some (.slice B vs.length d) := H15.out.cell
                have l15 := H15.out.lt
                have s0 : W14.cell? ⟨z16, 0, none⟩ = some (.int .u64 zid.1) := H16.out.cell
                have s1 : W14.cell? ⟨z16, 1, none⟩ = some (.int .u64 zid.2) := H16.out.cell
                have l16 := H16.out.lt
                obtain ⟨b00, b01, b02, b03, b04⟩ := (HB0.out.kept KB14.out).five
                have bz0 := (HB0.out.kept KB14.out).1
                obtain ⟨b10, b11⟩ := (HB1.out.kept KB14.out).two
                have bz1 := (HB1.out.kept KB14.out).1
                go_wp2_with fail
                clear b00 b01 b02 b03 b04 bz0 b10 b11 bz1
                clear u0 u1 l15 s0 s1 l16
                go_ret
                exact ⟨by first | rfl | (simp; done), K0.out.trans KB14.out⟩
            · have hww : (wcC k slot == wcC k slot) = true := beq_self_eq_true _
              have hm2 : wrap64 (2 * k.nu) = 2 * k.nu := IntWalk.wrap64_in _ (by omega)
              have hm3 : IntKind.i64.wrap (2 * k.nu) = 2 * k.nu := by rw [IntKind.wrap_i64]; omega
              have gw : decide (0 < wcC k slot) = false := decide_eq_false hw1
              have hno : ¬ (0 < wcC k slot ∧ 2 * k.nu < k.de) := fun h => hw1 h.1
              refine (quickTop_any kA kc k lA lc l B d vs slot x W10 (by omega) khs (by omega) (by omega) lhw hvw hwx hnu hde (HA.out.kept KB10.out) (HL.out.kept KB10.out) (HVs.out.kept KB10.out)).mono ?_
              rintro e W11 ⟨R, hR, rfl, k⟩
              replace H15 := Lib.hid (H15.out.kept k)
              have KB11 := Lib.hid (KB10.out.trans k)
              clear k
              obtain rfl := HGo.out.unique hR
              rw [HTn.out hno]
              simp only [Option.getD_none, Option.isSome_none]
              have u0 : W11.cell? ⟨z15, 0, none⟩ = some (.slice lA l.length lc) := H15.out.cell
              have u1 : W11.cell? ⟨z15, 1, none⟩ = some (.slice B vs.length d) := H15.out.cell
              have l15 := H15.out.lt
              have k := (Kept.refl W11).alloc (.cells #[.int .u64 zid.1, .int .u64 zid.2] 31)
              replace H15 := Lib.hid (H15.out.kept k)
              have H16 := Lib.hid (AtB.new W11 #[.int .u64 zid.1, .int .u64 zid.2] 31)
              obtain ⟨b00, b01, b02, b03, b04⟩ := (HB0.out.kept KB11.out).five
              have bz0 := (HB0.out.kept KB11.out).1
              obtain ⟨b10, b11⟩ := (HB1.out.kept KB11.out).two
              have bz1 := (HB1.out.kept KB11.out).1
              go_wp2_with fail
              clear b00 b01 b02 b03 b04 bz0 b10 b11 bz1
              clear u0 u1 l15
              have KB12 := Lib.hid (KB11.out.trans k)
              clear k
              generalize W11.alloc (.cells #[.int .u64 zid.1, .int .u64 zid.2] 31) = W12 at *
              generalize W11.heap.size = z16 at *
              refine (quickFor_any kA kc k lA lc l B d vs slot x W12 (by omega) khs (by omega) (by omega) lhw hvw hwx (HA.out.kept KB12.out) (HL.out.kept KB12.out) (HVs.out.kept KB12.out)).mono ?_
              rintro e W13 ⟨R, hR, rfl, k⟩
              replace H15 := Lib.hid (H15.out.kept k)
              replace H16 := Lib.hid (H16.out.kept k)
              have KB13 := Lib.hid (KB12.out.trans k)
              clear k
              obtain rfl := HGo.out.unique hR
              rw [HOn.out]
              have u0 : W13.cell? ⟨z15, 0, none⟩ = some (.slice lA l.length lc) := H15.out.cell
              have u1 : W13.cell? ⟨z15, 1, none⟩ = some (.slice B vs.length d) := H15.out.cell
              have l15 := H15.out.lt
              have s0 : W13.cell? ⟨z16, 0, none⟩ = some (.int .u64 zid.1) := H16.out.cell
              have s1 : W13.cell? ⟨z16, 1, none⟩ = some (.int .u64 zid.2) := H16.out.cell
              have l16 := H16.out.lt
              obtain ⟨b00, b01, b02, b03, b04⟩ := (HB0.out.kept KB13.out).five
              have bz0 := (HB0.out.kept KB13.out).1
              obtain ⟨b10, b11⟩ := (HB1.out.kept KB13.out).two
              have bz1 := (HB1.out.kept KB13.out).1
              go_wp2_with fail
              clear b00 b01 b02 b03 b04 bz0 b10 b11 bz1
              clear u0 u1 l15 s0 s1 l16
              refine (quickSure_any kA kc k lA lc l B d vs slot x W13 (by omega) khs (by omega) (by omega) lhw hvw hwx hnu hde (HA.out.kept KB13.out) (HL.out.kept KB13.out) (HVs.out.kept KB13.out)).mono ?_
              rintro e W14 ⟨R, hR, rfl, k⟩
              replace H15 := Lib.hid (H15.out.kept k)
              replace H16 := Lib.hid (H16.out.kept k)
              have KB14 := Lib.hid (KB13.out.trans k)
              clear k
              obtain rfl := HGo.out.unique hR
              rw [HSu.out, decide_eq_false hno]
              have u0 : W14.cell? ⟨z15, 0, none⟩ = some (.slice lA l.length lc) := H15.out.cell
              have u1 : W14.cell? ⟨z15, 1, none⟩ = some (.slice B vs.length d) := H15.out.cell
              have l15 := H15.out.lt
              have s0 : W14.cell? ⟨z16, 0, none⟩ = some (.int .u64 zid.1) := H16.out.cell
              have s1 : W14.cell? ⟨z16, 1, none⟩ = some (.int .u64 zid.2) := H16.out.cell
              have l16 := H16.out.lt
              obtain ⟨b00, b01, b02, b03, b04⟩ := (HB0.out.kept KB14.out).five
              have bz0 := (HB0.out.kept KB14.out).1
              obtain ⟨b10, b11⟩ := (HB1.out.kept KB14.out).two
              have bz1 := (HB1.out.kept KB14.out).1
              go_wp2_with fail
              clear b00 b01 b02 b03 b04 bz0 b10 b11 bz1
              clear u0 u1 l15 s0 s1 l16
              go_ret
              exact ⟨by first | rfl | (simp; done), K0.out.trans KB14.out⟩

/-! ### The row's step -/
set_option maxRecDepth 100000 in
theorem lifted (os : Os) (started : os.Started) (H : Type) (enc : TypeId × Value → H) :
    ReturnsInHanded {} Tryz.checked os 8 .any (Rows.quickAllSpec.pre6 enc Tryz.prog Tryz.f8 Rows.quickAllRow.domain false) (Rows.quickAllSpec.post enc Tryz.prog Tryz.f8 false true false false) := by
  refine returnsInHanded_of_change (C := Tryz.checked) own started (by kernel_rfl) Tryz.func8
    (ChangeSpec.witness6 (enc := enc) (C := Tryz.checked) false ⟨#[], #[.agg #[.slice none 0 0, .int .u64 0, .int .i64 0, .int .i64 0, .int .i64 0], .slice none 0 0, .int .i64 0, .agg #[.int .u64 0, .int .u64 0]], []⟩ 8 (by kernel_rfl) (by kernel_rfl) (by kernel_rfl) (by kernel_rfl)) ?_
  intro W base args ds gs before hval0 hW hcnd _
  have hval : ∀ (j : Nat) t v, Tryz.f8.params[j]? = some t → args[j]? = some v → Value.okWide Tryz.prog W .any base t v := hval0
  have hW' := hW
  obtain ⟨p, q, hA0, hV, rfl, hfz, hnd⟩ := hW
  have hA : DataW.TrodAll enc Tryz.prog W 0 (fun _ => true) true Tryz.f8.params.toList args.toList ds p := hA0
  rw [Tryz.params8] at hA hval
  obtain ⟨v0, vs0, d0, ds0, p0, q0, hargs, rfl, rfl, h0, r0⟩ := trodAll_cons hA
  obtain ⟨v1, vs1, d1, ds1, p1, q1, rfl, rfl, rfl, h1, r1⟩ := trodAll_cons r0
  obtain ⟨v2, vs2, d2, ds2, p2, q2, rfl, rfl, rfl, h2, r2⟩ := trodAll_cons r1
  obtain ⟨v3, vs3, d3, ds3, p3, q3, rfl, rfl, rfl, h3, r3⟩ := trodAll_cons r2
  obtain ⟨rfl, rfl, rfl⟩ := trodAll_nil r3
  obtain rfl : args = #[v0, v1, v2, v3] := by cases args; simp_all
  obtain ⟨rfl, rfl⟩ := trodVars_none hV
  obtain ⟨kA, kc, k, rfl, khm, khs, khl⟩ := open_conf (hval 0 _ v0 rfl rfl) h0
  obtain ⟨lA, lc, l, rfl, lhm, lhc, lhw, lhl⟩ := open_blocks (hval 1 _ v1 rfl rfl) h1
  obtain ⟨slot, rfl, hslot1, hslot2⟩ := open_num (hval 2 _ v2 rfl rfl) h2
  obtain ⟨x, rfl, hx1, hx2⟩ := open_id (hval 3 _ v3 rfl rfl) h3
  clear hA0 hval0
  refine (walk W kA kc k khm khs khl lA lc l lhm lhc lhw lhl slot hslot1 hslot2 x hx1 hx2).mono fun e W' ⟨he, hb⟩ => ?_
  subst he
  exact ⟨_, rfl, law_post rfl (by kernel_rfl) rfl hW' rfl hb⟩

theorem over : Rows.quickAllRow.holds Tryz.pinned (OpenSpec.ofChange Rows.quickAllSpec) :=
  OpenClaim.holds_of_wide 8 Tryz.f8 rfl rfl rfl rfl rfl rfl rfl ⟨rfl, rfl, rfl, rfl, rfl⟩ rfl rfl rfl rfl rfl (by kernel_rfl) Tryz.func8 (by kernel_rfl)
    (of_decide_eq_true (by kernel_rfl)) (by unfold Func.isWrapper; first | (rw [if_pos (by decide +kernel)]; kernel_rfl) | (rw [if_neg (by decide +kernel)]; exact ⟨rfl, rfl⟩))
    (fun os started H enc _ => lifted os started H enc)

/-- The statement. -/
theorem proved : Rows.QuickAllSaid :=
  over
#print axioms proved

end Go.Proofs.YtpojiijgahcidaaGreat.quickAll
