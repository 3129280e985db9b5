/-
  Law GoldAll of layer 14: in epochs of one slot all votes of validators count as votes of the slot do; in no slot that is none does any, whatever conf, view and slot.
-/
import Derived.Test.YtlapcnfhnfkbmaaGreatGoldAwake
import Derived.Test.YtlapcnfhnfkbmaaGreatGhostAwake
import Derived.Test.YtlapcnfhnfkbmaaGreatDutyG
import Derived.Test.YtlapcnfhnfkbmaaGreatViewOpen
import Derived.Test.YtlapcnfhnfkbmaaGreatMixG
import Derived.Test.YtlapcnfhnfkbmaaGreatGround
import Derived.Test.YtlapcnfhnfkbmaaGreatTreeG
import Derived.Test.YtlapcnfhnfkbmaaGreatIdBox
import Derived.Test.YtlapcnfhnfkbmaaGreatVoteOfG
import Derived.Test.YtlapcnfhnfkbmaaGreatVoteSame
import Derived.Test.YtlapcnfhnfkbmaaGreatGhostHead
import Derived.Test.YtlapcnfhnfkbmaaGreatGoldOwn
namespace Go.Proofs.YtlapcnfhnfkbmaaGreat.goldAll
set_option maxRecDepth 100000
set_option linter.unusedVariables false
set_option linter.unusedSimpArgs false
open Go.ChangeShapes Go.WideShapes Go.ChangeAt Go.RowKit
set_option linter.unusedVariables false

/-! ### The walk: the call returns true, and of what was there nothing has changed. -/
attribute [local go_sem high] eqIdN eqIdZ in
set_option maxRecDepth 100000 in
set_option maxHeartbeats 6400000 in
theorem walk (w : World) (kA : Option Addr) (kc : Nat) (k : Cf) (khm : k.ws.length ≤ maxLen) (khs : k.seed < 18446744073709551616) (khl : CellsAt w w.heap.size kA (intCells k.ws)) (lA : Option Addr) (lc : Nat) (l : List Bk) (vA : Option Addr) (vc : Nat) (v : List Vt) (lhm : l.length ≤ maxLen) (lhc : l.length ≤ lc) (lhw : WfL l) (lhl : CellsAt w w.heap.size lA (blockCells l)) (vhm : v.length ≤ maxLen) (vhc : v.length ≤ vc) (vhw : WfVs v) (vhl : CellsAt w w.heap.size vA (votesCells v)) (slot : Int) (hslot1 : -9223372036854775808 ≤ slot) (hslot2 : slot ≤ 9223372036854775807) :
    Calls Tryz.prog 7 #[.agg #[.slice kA k.ws.length kc, .int .u64 k.seed, .int .i64 k.ep, .int .i64 k.nu, .int .i64 k.de], .agg #[.slice lA l.length lc, .slice vA v.length vc], .int .i64 slot] w fun e w' => e = .returned (.bool true) ∧ Kept w w' := by
  cases hf : few9C k l v with
  | false =>
    go_enter Tryz.func7, Tryz.ntmps7
    go_wp2_with fail
    have K0 := Lib.hid (((Kept.refl w).alloc (.cells #[.slice kA k.ws.length kc, .int .u64 k.seed, .int .i64 k.ep, .int .i64 k.nu, .int .i64 k.de] 25)).alloc (.cells #[.slice lA l.length lc, .slice vA v.length vc] 29))
    have HA := Lib.hid (khl.kept K0.out)
    clear khl
    have HL := Lib.hid (lhl.kept K0.out)
    clear lhl
    have HV := Lib.hid (vhl.kept K0.out)
    clear vhl
    have HB0 := Lib.hid ((HasCells.new w #[.slice kA k.ws.length kc, .int .u64 k.seed, .int .i64 k.ep, .int .i64 k.nu, .int .i64 k.de] 25 (w.heap.size) (by simp)).alloc (.cells #[.slice lA l.length lc, .slice vA v.length vc] 29))
    have HB1 := Lib.hid (HasCells.new (w.alloc (.cells #[.slice kA k.ws.length kc, .int .u64 k.seed, .int .i64 k.ep, .int .i64 k.nu, .int .i64 k.de] 25)) #[.slice lA l.length lc, .slice vA v.length vc] 29 (w.heap.size + 1) (by simp))
    generalize ((w.alloc (.cells #[.slice kA k.ws.length kc, .int .u64 k.seed, .int .i64 k.ep, .int .i64 k.nu, .int .i64 k.de] 25)).alloc (.cells #[.slice lA l.length lc, .slice vA v.length vc] 29)) = W0 at *
    generalize w.heap.size + 1 = z1 at *
    generalize w.heap.size = z0 at *
    have KB0 := Lib.hid (Kept.refl W0)
    refine (goldAwake W0).mono ?_
    rintro e W1 ⟨rfl, k⟩
    have KB1 := Lib.hid (KB0.out.trans k)
    clear k
    obtain ⟨b00, b01, b02, b03, b04⟩ := (HB0.out.kept KB1.out).five
    have bz0 := (HB0.out.kept KB1.out).1
    obtain ⟨b10, b11⟩ := (HB1.out.kept KB1.out).two
    have bz1 := (HB1.out.kept KB1.out).1
    go_wp2_with fail
    clear b00 b01 b02 b03 b04 bz0 b10 b11 bz1
    refine (few9_any kA kc k lA lc l vA vc v W1).mono ?_
    rintro e W2 ⟨rfl, k⟩
    have KB2 := Lib.hid (KB1.out.trans k)
    clear k
    rw [hf]
    obtain ⟨b00, b01, b02, b03, b04⟩ := (HB0.out.kept KB2.out).five
    have bz0 := (HB0.out.kept KB2.out).1
    obtain ⟨b10, b11⟩ := (HB1.out.kept KB2.out).two
    have bz1 := (HB1.out.kept KB2.out).1
    go_wp2_with fail
    clear b00 b01 b02 b03 b04 bz0 b10 b11 bz1
    go_ret
    exact ⟨by first | rfl | (simp; done), K0.out.trans KB2.out⟩
  | true =>
    obtain ⟨hk40, hl20, hv30⟩ := few9C_yes hf
    have HF := Lib.hid hf
    clear hf
    go_enter Tryz.func7, Tryz.ntmps7
    go_wp2_with fail
    have K0 := Lib.hid (((Kept.refl w).alloc (.cells #[.slice kA k.ws.length kc, .int .u64 k.seed, .int .i64 k.ep, .int .i64 k.nu, .int .i64 k.de] 25)).alloc (.cells #[.slice lA l.length lc, .slice vA v.length vc] 29))
    have HA := Lib.hid (khl.kept K0.out)
    clear khl
    have HL := Lib.hid (lhl.kept K0.out)
    clear lhl
    have HV := Lib.hid (vhl.kept K0.out)
    clear vhl
    have HB0 := Lib.hid ((HasCells.new w #[.slice kA k.ws.length kc, .int .u64 k.seed, .int .i64 k.ep, .int .i64 k.nu, .int .i64 k.de] 25 (w.heap.size) (by simp)).alloc (.cells #[.slice lA l.length lc, .slice vA v.length vc] 29))
    have HB1 := Lib.hid (HasCells.new (w.alloc (.cells #[.slice kA k.ws.length kc, .int .u64 k.seed, .int .i64 k.ep, .int .i64 k.nu, .int .i64 k.de] 25)) #[.slice lA l.length lc, .slice vA v.length vc] 29 (w.heap.size + 1) (by simp))
    generalize ((w.alloc (.cells #[.slice kA k.ws.length kc, .int .u64 k.seed, .int .i64 k.ep, .int .i64 k.nu, .int .i64 k.de] 25)).alloc (.cells #[.slice lA l.length lc, .slice vA v.length vc] 29)) = W0 at *
    generalize w.heap.size + 1 = z1 at *
    generalize w.heap.size = z0 at *
    have KB0 := Lib.hid (Kept.refl W0)
    refine (goldAwake W0).mono ?_
    rintro e W1 ⟨rfl, k⟩
    have KB1 := Lib.hid (KB0.out.trans k)
    clear k
    obtain ⟨b00, b01, b02, b03, b04⟩ := (HB0.out.kept KB1.out).five
    have bz0 := (HB0.out.kept KB1.out).1
    obtain ⟨b10, b11⟩ := (HB1.out.kept KB1.out).two
    have bz1 := (HB1.out.kept KB1.out).1
    go_wp2_with fail
    clear b00 b01 b02 b03 b04 bz0 b10 b11 bz1
    refine (few9_any kA kc k lA lc l vA vc v W1).mono ?_
    rintro e W2 ⟨rfl, k⟩
    have KB2 := Lib.hid (KB1.out.trans k)
    clear k
    rw [HF.out]
    obtain ⟨b00, b01, b02, b03, b04⟩ := (HB0.out.kept KB2.out).five
    have bz0 := (HB0.out.kept KB2.out).1
    obtain ⟨b10, b11⟩ := (HB1.out.kept KB2.out).two
    have bz1 := (HB1.out.kept KB2.out).1
    go_wp2_with fail
    clear b00 b01 b02 b03 b04 bz0 b10 b11 bz1
    refine (goldOf_any kA kc k vA vc v slot W2 (by omega) khs (by omega) vhw (HA.out.kept KB2.out) (HV.out.kept KB2.out)).mono ?_
    rintro e W3 ⟨R, A1, c1, hR, hRl, rfl, hC1, k⟩
    have KB3 := Lib.hid (KB2.out.trans k)
    clear k
    replace HA := Lib.hid (HA.out.kept KB3.out)
    replace HL := Lib.hid (HL.out.kept KB3.out)
    replace HV := Lib.hid (HV.out.kept KB3.out)
    replace HB0 := Lib.hid (HB0.out.kept KB3.out)
    replace HB1 := Lib.hid (HB1.out.kept KB3.out)
    replace K0 := Lib.hid (K0.out.trans KB3.out)
    have KB4 := Lib.hid (Kept.refl W3)
    have HRw := Lib.hid hC1
    clear hC1
    have HR := Lib.hid hR
    clear hR
    obtain ⟨b00, b01, b02, b03, b04⟩ := (HB0.out.kept KB4.out).five
    have bz0 := (HB0.out.kept KB4.out).1
    obtain ⟨b10, b11⟩ := (HB1.out.kept KB4.out).two
    have bz1 := (HB1.out.kept KB4.out).1
    go_wp2_with fail
    clear b00 b01 b02 b03 b04 bz0 b10 b11 bz1
    refine (mayD_any kA kc k W3 (HA.out.kept KB4.out)).mono ?_
    rintro e W5 ⟨rfl, k⟩
    have KB5 := Lib.hid (KB4.out.trans k)
    clear k
    cases hm : mayC k with
    | false =>

      have eR := golds_nil HR.out (fun who => inC_no (by unfold dutyC; rw [hm]; rfl))
      subst eR
      have HGh := Lib.hid (fun w' (kk : Kept W3 w') => (show Calls Tryz.prog 24 #[.agg #[.slice kA k.ws.length kc, .int .u64 k.seed, .int .i64 k.ep, .int .i64 k.nu, .int .i64 k.de], .slice lA l.length lc, .slice none 0 0] w' _ from head_any kA kc k lA lc l none 0 [] w' (by omega) (by simp) lhw (fun _ q => by cases q) (HA.out.kept kk) (HL.out.kept kk) CellsAt.nil))
      obtain ⟨b00, b01, b02, b03, b04⟩ := (HB0.out.kept KB5.out).five
      have bz0 := (HB0.out.kept KB5.out).1
      obtain ⟨b10, b11⟩ := (HB1.out.kept KB5.out).two
      have bz1 := (HB1.out.kept KB5.out).1
      go_wp2_with fail
      refine wp_region_noPanic ?_
      refine wp_region_held_drew (S := (fun w' => w'.cell? ⟨z0, 0, none⟩ = some (.slice kA k.ws.length kc) ∧ w'.cell? ⟨z0, 1, none⟩ = some (.int .u64 k.seed) ∧ w'.cell? ⟨z0, 2, none⟩ = some (.int .i64 k.ep) ∧ w'.cell? ⟨z0, 3, none⟩ = some (.int .i64 k.nu) ∧ w'.cell? ⟨z0, 4, none⟩ = some (.int .i64 k.de) ∧ w'.cell? ⟨z1, 0, none⟩ = some (.slice lA l.length lc) ∧ w'.cell? ⟨z1, 1, none⟩ = some (.slice vA v.length vc) ∧ Kept W5 w')) (by kernel_rfl) ?_ (fun hHeld => ?_)
      · exact ⟨b00, b01, b02, b03, b04, b10, b11, (Kept.refl _).drew⟩
      refine wpAnyH_take (i := 0) (v := ?_) (by simp only [List.getElem?_toArray, List.getElem?_cons_succ, List.getElem?_cons_zero]; rfl) (by kernel_rfl) (by kernel_rfl) (by kernel_rfl) (fun _ _ _ h => h) (Or.inl ⟨by rfl, ?_⟩) (by assumption) ?_
      rotate_left
      · intro w hSw
        (try dsimp only at hSw)
        go_simp
        (try with_reducible rfl)
      simp only [Act.put, List.setIfInBounds_toArray, List.set_cons_zero, List.set_cons_succ]
      refine wpAnyH_take (i := 1) (v := ?_) (by simp only [List.getElem?_toArray, List.getElem?_cons_succ, List.getElem?_cons_zero]; rfl) (by kernel_rfl) (by kernel_rfl) (by kernel_rfl) (fun _ _ _ h => h) (Or.inl ⟨by rfl, ?_⟩) (by assumption) ?_
      rotate_left
      · intro w hSw
        (try dsimp only at hSw)
        go_simp
        (try with_reducible rfl)
      simp only [Act.put, List.setIfInBounds_toArray, List.set_cons_zero, List.set_cons_succ]
      refine wpAnyH_take (i := 2) (v := ?_) (by simp only [List.getElem?_toArray, List.getElem?_cons_succ, List.getElem?_cons_zero]; rfl) (by kernel_rfl) (by kernel_rfl) (by kernel_rfl) (fun _ _ _ h => h) (Or.inl ⟨by rfl, ?_⟩) (by assumption) ?_
      rotate_left
      · intro w hSw
        (try dsimp only at hSw)
        go_simp
        (try with_reducible rfl)
      simp only [Act.put, List.setIfInBounds_toArray, List.set_cons_zero, List.set_cons_succ]
      refine wpAnyH_take (i := 3) (v := ?_) (by simp only [List.getElem?_toArray, List.getElem?_cons_succ, List.getElem?_cons_zero]; rfl) (by kernel_rfl) (by kernel_rfl) (by kernel_rfl) (fun _ _ _ h => h) (Or.inl ⟨by rfl, ?_⟩) (by assumption) ?_
      rotate_left
      · intro w hSw
        (try dsimp only at hSw)
        go_simp
        (try with_reducible rfl)
      simp only [Act.put, List.setIfInBounds_toArray, List.set_cons_zero, List.set_cons_succ]
      refine wpAnyH_take (i := 4) (v := ?_) (by simp only [List.getElem?_toArray, List.getElem?_cons_succ, List.getElem?_cons_zero]; rfl) (by kernel_rfl) (by kernel_rfl) (by kernel_rfl) (fun _ _ _ h => h) (Or.inl ⟨by rfl, ?_⟩) (by assumption) ?_
      rotate_left
      · intro w hSw
        (try dsimp only at hSw)
        go_simp
        (try with_reducible rfl)
      simp only [Act.put, List.setIfInBounds_toArray, List.set_cons_zero, List.set_cons_succ]
      refine wpAnyH_take (i := 5) (v := ?_) (by simp only [List.getElem?_toArray, List.getElem?_cons_succ, List.getElem?_cons_zero]; rfl) (by kernel_rfl) (by kernel_rfl) (by kernel_rfl) (fun _ _ _ h => h) (Or.inl ⟨by rfl, ?_⟩) (by assumption) ?_
      rotate_left
      · intro w hSw
        (try dsimp only at hSw)
        go_simp
        (try with_reducible rfl)
      simp only [Act.put, List.setIfInBounds_toArray, List.set_cons_zero, List.set_cons_succ]
      refine wpAnyH_take (i := 6) (v := ?_) (by simp only [List.getElem?_toArray, List.getElem?_cons_succ, List.getElem?_cons_zero]; rfl) (by kernel_rfl) (by kernel_rfl) (by kernel_rfl) (fun _ _ _ h => h) (Or.inl ⟨by rfl, ?_⟩) (by assumption) ?_
      rotate_left
      · intro w hSw
        (try dsimp only at hSw)
        go_simp
        (try with_reducible rfl)
      simp only [Act.put, List.setIfInBounds_toArray, List.set_cons_zero, List.set_cons_succ]
      refine wpAnyH_take (i := 8) (v := ?_) (by simp only [List.getElem?_toArray, List.getElem?_cons_succ, List.getElem?_cons_zero]; rfl) (by kernel_rfl) (by kernel_rfl) (by kernel_rfl) (fun _ _ _ h => h) (Or.inl ⟨by rfl, ?_⟩) (by assumption) ?_
      rotate_left
      · intro w hSw
        (try dsimp only at hSw)
        go_simp
        (try with_reducible rfl)
      simp only [Act.put, List.setIfInBounds_toArray, List.set_cons_zero, List.set_cons_succ]
      refine wpAnyH_take (i := 9) (v := ?_) (by simp only [List.getElem?_toArray, List.getElem?_cons_succ, List.getElem?_cons_zero]; rfl) (by kernel_rfl) (by kernel_rfl) (by kernel_rfl) (fun _ _ _ h => h) (Or.inl ⟨by rfl, ?_⟩) (by assumption) ?_
      rotate_left
      · intro w hSw
        (try dsimp only at hSw)
        go_simp
        (try with_reducible rfl)
      simp only [Act.put, List.setIfInBounds_toArray, List.set_cons_zero, List.set_cons_succ]
      refine wpAnyH_take (i := 10) (v := ?_) (by simp only [List.getElem?_toArray, List.getElem?_cons_succ, List.getElem?_cons_zero]; rfl) (by kernel_rfl) (by kernel_rfl) (by kernel_rfl) (fun _ _ _ h => h) (Or.inl ⟨by rfl, ?_⟩) (by assumption) ?_
      rotate_left
      · intro w hSw
        (try dsimp only at hSw)
        go_simp
        (try with_reducible rfl)
      simp only [Act.put, List.setIfInBounds_toArray, List.set_cons_zero, List.set_cons_succ]
      refine wpAnyH_ready (rs := [7]) (by kernel_rfl) (by simp) ?_
      refine AllReadyH.cons (by simp only [List.getElem?_toArray, List.getElem?_cons_succ, List.getElem?_cons_zero]; rfl) (fun K hK => ?_) AllReadyH.nil
      go_simp
      go_at_call 14; with_reducible refine (goldHead_any kA kc k lA lc l vA vc v slot _ (by omega) khs (by omega) (by omega) lhw vhw (HA.out.kept (KB5.out.trans (hHeld.2.2.2.2.2.2.2))) (HL.out.kept (KB5.out.trans (hHeld.2.2.2.2.2.2.2))) (HV.out.kept (KB5.out.trans (hHeld.2.2.2.2.2.2.2)))).mono ?_
      rintro e w' ⟨R3, hR3, rfl, kk⟩
      have eR := HR.out.unique hR3
      subst eR
      clear hR3
      obtain ⟨h, hh⟩ : ∃ h, h = headC k l [] := ⟨_, rfl⟩
      rw [← hh]
      have HEh := Lib.hid hh
      clear hh
      have hhh : sameI h h = true := sameI_yes rfl
      try go_wp2_with fail
      refine hK.out _ _ ?_ (fun hHeld2 => ?_)
      · exact keepP7 bz0 bz0 bz0 bz0 bz0 bz1 bz1 hHeld kk
      clear hK K hHeld
      have hHeld := hHeld2
      clear hHeld2
      try simp only [Act.put, List.setIfInBounds_toArray, List.set_cons_zero, List.set_cons_succ]
      refine wpAnyH_ready (rs := [11]) (by kernel_rfl) (by simp) ?_
      refine AllReadyH.cons (by simp only [List.getElem?_toArray, List.getElem?_cons_succ, List.getElem?_cons_zero]; rfl) (fun K hK => ?_) AllReadyH.nil
      go_simp
      go_at_call 24; with_reducible refine (HGh.out _ (KB5.out.trans (hHeld.2.2.2.2.2.2.2))).mono ?_
      rintro e w' ⟨rfl, kk⟩
      rw [← HEh.out]
      try go_wp2_with fail
      refine hK.out _ _ ?_ (fun hHeld2 => ?_)
      · exact keepP7 bz0 bz0 bz0 bz0 bz0 bz1 bz1 hHeld kk
      clear hK K hHeld
      have hHeld := hHeld2
      clear hHeld2
      try simp only [Act.put, List.setIfInBounds_toArray, List.set_cons_zero, List.set_cons_succ]
      refine wpAnyH_take (i := 12) (v := ?_) (by simp only [List.getElem?_toArray, List.getElem?_cons_succ, List.getElem?_cons_zero]; rfl) (by kernel_rfl) (by kernel_rfl) (by kernel_rfl) (fun _ _ _ h => h) (Or.inl ⟨by rfl, ?_⟩) (by assumption) ?_
      rotate_left
      · intro w hSw
        (try dsimp only at hSw)
        go_simp
        (try with_reducible rfl)
      simp only [Act.put, List.setIfInBounds_toArray, List.set_cons_zero, List.set_cons_succ]
      try simp only [hhh]
      refine wpAnyH_take (i := 13) (v := ?_) (by simp only [List.getElem?_toArray, List.getElem?_cons_succ, List.getElem?_cons_zero]; rfl) (by kernel_rfl) (by kernel_rfl) (by kernel_rfl) (fun _ _ _ h => h) (Or.inl ⟨by rfl, ?_⟩) (by assumption) ?_
      rotate_left
      · intro w hSw
        (try dsimp only at hSw)
        go_simp
        (try with_reducible rfl)
      simp only [Act.put, List.setIfInBounds_toArray, List.set_cons_zero, List.set_cons_succ]
      refine wpAnyH_take (i := 14) (v := ?_) (by simp only [List.getElem?_toArray, List.getElem?_cons_succ, List.getElem?_cons_zero]; rfl) (by kernel_rfl) (by kernel_rfl) (by kernel_rfl) (fun _ _ _ h => h) (Or.inl ⟨by rfl, ?_⟩) (by assumption) ?_
      rotate_left
      · intro w hSw
        (try dsimp only at hSw)
        go_simp
        (try with_reducible rfl)
      simp only [Act.put, List.setIfInBounds_toArray, List.set_cons_zero, List.set_cons_succ]
      refine wpAnyH_done (by kernel_rfl) ?_ _
      refine NoPanic.normal ?_
      have k := hHeld.2.2.2.2.2.2.2
      clear hHeld
      clear b00 b01 b02 b03 b04 bz0 b10 b11 bz1
      have KB6 := Lib.hid (KB5.out.trans k)
      clear k
      generalize w' = W6 at *
      go_wp2_with fail
      go_ret
      exact ⟨by first | rfl | (simp; done), K0.out.trans KB6.out⟩
    | true =>
      by_cases h1 : slot < 1
      · have g1 : decide (slot < 1) = true := decide_eq_true h1
        have eR := golds_nil HR.out (fun who => inC_no (duty_out (by omega)))
        subst eR
        have HGh := Lib.hid (fun w' (kk : Kept W3 w') => (show Calls Tryz.prog 24 #[.agg #[.slice kA k.ws.length kc, .int .u64 k.seed, .int .i64 k.ep, .int .i64 k.nu, .int .i64 k.de], .slice lA l.length lc, .slice none 0 0] w' _ from head_any kA kc k lA lc l none 0 [] w' (by omega) (by simp) lhw (fun _ q => by cases q) (HA.out.kept kk) (HL.out.kept kk) CellsAt.nil))
        obtain ⟨b00, b01, b02, b03, b04⟩ := (HB0.out.kept KB5.out).five
        have bz0 := (HB0.out.kept KB5.out).1
        obtain ⟨b10, b11⟩ := (HB1.out.kept KB5.out).two
        have bz1 := (HB1.out.kept KB5.out).1
        go_wp2_with fail
        refine wp_region_noPanic ?_
        refine wp_region_held_drew (S := (fun w' => w'.cell? ⟨z0, 0, none⟩ = some (.slice kA k.ws.length kc) ∧ w'.cell? ⟨z0, 1, none⟩ = some (.int .u64 k.seed) ∧ w'.cell? ⟨z0, 2, none⟩ = some (.int .i64 k.ep) ∧ w'.cell? ⟨z0, 3, none⟩ = some (.int .i64 k.nu) ∧ w'.cell? ⟨z0, 4, none⟩ = some (.int .i64 k.de) ∧ w'.cell? ⟨z1, 0, none⟩ = some (.slice lA l.length lc) ∧ w'.cell? ⟨z1, 1, none⟩ = some (.slice vA v.length vc) ∧ Kept W5 w')) (by kernel_rfl) ?_ (fun hHeld => ?_)
        · exact ⟨b00, b01, b02, b03, b04, b10, b11, (Kept.refl _).drew⟩
        refine wpAnyH_take (i := 0) (v := ?_) (by simp only [List.getElem?_toArray, List.getElem?_cons_succ, List.getElem?_cons_zero]; rfl) (by kernel_rfl) (by kernel_rfl) (by kernel_rfl) (fun _ _ _ h => h) (Or.inl ⟨by rfl, ?_⟩) (by assumption) ?_
        rotate_left
        · intro w hSw
          (try dsimp only at hSw)
          go_simp
          (try with_reducible rfl)
        simp only [Act.put, List.setIfInBounds_toArray, List.set_cons_zero, List.set_cons_succ]
        refine wpAnyH_take (i := 1) (v := ?_) (by simp only [List.getElem?_toArray, List.getElem?_cons_succ, List.getElem?_cons_zero]; rfl) (by kernel_rfl) (by kernel_rfl) (by kernel_rfl) (fun _ _ _ h => h) (Or.inl ⟨by rfl, ?_⟩) (by assumption) ?_
        rotate_left
        · intro w hSw
          (try dsimp only at hSw)
          go_simp
          (try with_reducible rfl)
        simp only [Act.put, List.setIfInBounds_toArray, List.set_cons_zero, List.set_cons_succ]
        refine wpAnyH_take (i := 2) (v := ?_) (by simp only [List.getElem?_toArray, List.getElem?_cons_succ, List.getElem?_cons_zero]; rfl) (by kernel_rfl) (by kernel_rfl) (by kernel_rfl) (fun _ _ _ h => h) (Or.inl ⟨by rfl, ?_⟩) (by assumption) ?_
        rotate_left
        · intro w hSw
          (try dsimp only at hSw)
          go_simp
          (try with_reducible rfl)
        simp only [Act.put, List.setIfInBounds_toArray, List.set_cons_zero, List.set_cons_succ]
        refine wpAnyH_take (i := 3) (v := ?_) (by simp only [List.getElem?_toArray, List.getElem?_cons_succ, List.getElem?_cons_zero]; rfl) (by kernel_rfl) (by kernel_rfl) (by kernel_rfl) (fun _ _ _ h => h) (Or.inl ⟨by rfl, ?_⟩) (by assumption) ?_
        rotate_left
        · intro w hSw
          (try dsimp only at hSw)
          go_simp
          (try with_reducible rfl)
        simp only [Act.put, List.setIfInBounds_toArray, List.set_cons_zero, List.set_cons_succ]
        refine wpAnyH_take (i := 4) (v := ?_) (by simp only [List.getElem?_toArray, List.getElem?_cons_succ, List.getElem?_cons_zero]; rfl) (by kernel_rfl) (by kernel_rfl) (by kernel_rfl) (fun _ _ _ h => h) (Or.inl ⟨by rfl, ?_⟩) (by assumption) ?_
        rotate_left
        · intro w hSw
          (try dsimp only at hSw)
          go_simp
          (try with_reducible rfl)
        simp only [Act.put, List.setIfInBounds_toArray, List.set_cons_zero, List.set_cons_succ]
        refine wpAnyH_take (i := 5) (v := ?_) (by simp only [List.getElem?_toArray, List.getElem?_cons_succ, List.getElem?_cons_zero]; rfl) (by kernel_rfl) (by kernel_rfl) (by kernel_rfl) (fun _ _ _ h => h) (Or.inl ⟨by rfl, ?_⟩) (by assumption) ?_
        rotate_left
        · intro w hSw
          (try dsimp only at hSw)
          go_simp
          (try with_reducible rfl)
        simp only [Act.put, List.setIfInBounds_toArray, List.set_cons_zero, List.set_cons_succ]
        refine wpAnyH_take (i := 6) (v := ?_) (by simp only [List.getElem?_toArray, List.getElem?_cons_succ, List.getElem?_cons_zero]; rfl) (by kernel_rfl) (by kernel_rfl) (by kernel_rfl) (fun _ _ _ h => h) (Or.inl ⟨by rfl, ?_⟩) (by assumption) ?_
        rotate_left
        · intro w hSw
          (try dsimp only at hSw)
          go_simp
          (try with_reducible rfl)
        simp only [Act.put, List.setIfInBounds_toArray, List.set_cons_zero, List.set_cons_succ]
        refine wpAnyH_take (i := 8) (v := ?_) (by simp only [List.getElem?_toArray, List.getElem?_cons_succ, List.getElem?_cons_zero]; rfl) (by kernel_rfl) (by kernel_rfl) (by kernel_rfl) (fun _ _ _ h => h) (Or.inl ⟨by rfl, ?_⟩) (by assumption) ?_
        rotate_left
        · intro w hSw
          (try dsimp only at hSw)
          go_simp
          (try with_reducible rfl)
        simp only [Act.put, List.setIfInBounds_toArray, List.set_cons_zero, List.set_cons_succ]
        refine wpAnyH_take (i := 9) (v := ?_) (by simp only [List.getElem?_toArray, List.getElem?_cons_succ, List.getElem?_cons_zero]; rfl) (by kernel_rfl) (by kernel_rfl) (by kernel_rfl) (fun _ _ _ h => h) (Or.inl ⟨by rfl, ?_⟩) (by assumption) ?_
        rotate_left
        · intro w hSw
          (try dsimp only at hSw)
          go_simp
          (try with_reducible rfl)
        simp only [Act.put, List.setIfInBounds_toArray, List.set_cons_zero, List.set_cons_succ]
        refine wpAnyH_take (i := 10) (v := ?_) (by simp only [List.getElem?_toArray, List.getElem?_cons_succ, List.getElem?_cons_zero]; rfl) (by kernel_rfl) (by kernel_rfl) (by kernel_rfl) (fun _ _ _ h => h) (Or.inl ⟨by rfl, ?_⟩) (by assumption) ?_
        rotate_left
        · intro w hSw
          (try dsimp only at hSw)
          go_simp
          (try with_reducible rfl)
        simp only [Act.put, List.setIfInBounds_toArray, List.set_cons_zero, List.set_cons_succ]
        refine wpAnyH_ready (rs := [7]) (by kernel_rfl) (by simp) ?_
        refine AllReadyH.cons (by simp only [List.getElem?_toArray, List.getElem?_cons_succ, List.getElem?_cons_zero]; rfl) (fun K hK => ?_) AllReadyH.nil
        go_simp
        go_at_call 14; with_reducible refine (goldHead_any kA kc k lA lc l vA vc v slot _ (by omega) khs (by omega) (by omega) lhw vhw (HA.out.kept (KB5.out.trans (hHeld.2.2.2.2.2.2.2))) (HL.out.kept (KB5.out.trans (hHeld.2.2.2.2.2.2.2))) (HV.out.kept (KB5.out.trans (hHeld.2.2.2.2.2.2.2)))).mono ?_
        rintro e w' ⟨R3, hR3, rfl, kk⟩
        have eR := HR.out.unique hR3
        subst eR
        clear hR3
        obtain ⟨h, hh⟩ : ∃ h, h = headC k l [] := ⟨_, rfl⟩
        rw [← hh]
        have HEh := Lib.hid hh
        clear hh
        have hhh : sameI h h = true := sameI_yes rfl
        try go_wp2_with fail
        refine hK.out _ _ ?_ (fun hHeld2 => ?_)
        · exact keepP7 bz0 bz0 bz0 bz0 bz0 bz1 bz1 hHeld kk
        clear hK K hHeld
        have hHeld := hHeld2
        clear hHeld2
        try simp only [Act.put, List.setIfInBounds_toArray, List.set_cons_zero, List.set_cons_succ]
        refine wpAnyH_ready (rs := [11]) (by kernel_rfl) (by simp) ?_
        refine AllReadyH.cons (by simp only [List.getElem?_toArray, List.getElem?_cons_succ, List.getElem?_cons_zero]; rfl) (fun K hK => ?_) AllReadyH.nil
        go_simp
        go_at_call 24; with_reducible refine (HGh.out _ (KB5.out.trans (hHeld.2.2.2.2.2.2.2))).mono ?_
        rintro e w' ⟨rfl, kk⟩
        rw [← HEh.out]
        try go_wp2_with fail
        refine hK.out _ _ ?_ (fun hHeld2 => ?_)
        · exact keepP7 bz0 bz0 bz0 bz0 bz0 bz1 bz1 hHeld kk
        clear hK K hHeld
        have hHeld := hHeld2
        clear hHeld2
        try simp only [Act.put, List.setIfInBounds_toArray, List.set_cons_zero, List.set_cons_succ]
        refine wpAnyH_take (i := 12) (v := ?_) (by simp only [List.getElem?_toArray, List.getElem?_cons_succ, List.getElem?_cons_zero]; rfl) (by kernel_rfl) (by kernel_rfl) (by kernel_rfl) (fun _ _ _ h => h) (Or.inl ⟨by rfl, ?_⟩) (by assumption) ?_
        rotate_left
        · intro w hSw
          (try dsimp only at hSw)
          go_simp
          (try with_reducible rfl)
        simp only [Act.put, List.setIfInBounds_toArray, List.set_cons_zero, List.set_cons_succ]
        try simp only [hhh]
        refine wpAnyH_take (i := 13) (v := ?_) (by simp only [List.getElem?_toArray, List.getElem?_cons_succ, List.getElem?_cons_zero]; rfl) (by kernel_rfl) (by kernel_rfl) (by kernel_rfl) (fun _ _ _ h => h) (Or.inl ⟨by rfl, ?_⟩) (by assumption) ?_
        rotate_left
        · intro w hSw
          (try dsimp only at hSw)
          go_simp
          (try with_reducible rfl)
        simp only [Act.put, List.setIfInBounds_toArray, List.set_cons_zero, List.set_cons_succ]
        refine wpAnyH_take (i := 14) (v := ?_) (by simp only [List.getElem?_toArray, List.getElem?_cons_succ, List.getElem?_cons_zero]; rfl) (by kernel_rfl) (by kernel_rfl) (by kernel_rfl) (fun _ _ _ h => h) (Or.inl ⟨by rfl, ?_⟩) (by assumption) ?_
        rotate_left
        · intro w hSw
          (try dsimp only at hSw)
          go_simp
          (try with_reducible rfl)
        simp only [Act.put, List.setIfInBounds_toArray, List.set_cons_zero, List.set_cons_succ]
        refine wpAnyH_done (by kernel_rfl) ?_ _
        refine NoPanic.normal ?_
        have k := hHeld.2.2.2.2.2.2.2
        clear hHeld
        clear b00 b01 b02 b03 b04 bz0 b10 b11 bz1
        have KB6 := Lib.hid (KB5.out.trans k)
        clear k
        generalize w' = W6 at *
        go_wp2_with fail
        go_ret
        exact ⟨by first | rfl | (simp; done), K0.out.trans KB6.out⟩
      · by_cases h2 : 1048576 < slot
        · have g1 : decide (slot < 1) = false := decide_eq_false h1
          have g2 : decide (1048576 < slot) = true := decide_eq_true h2
          have eR := golds_nil HR.out (fun who => inC_no (duty_out (by omega)))
          subst eR
          have HGh := Lib.hid (fun w' (kk : Kept W3 w') => (show Calls Tryz.prog 24 #[.agg #[.slice kA k.ws.length kc, .int .u64 k.seed, .int .i64 k.ep, .int .i64 k.nu, .int .i64 k.de], .slice lA l.length lc, .slice none 0 0] w' _ from head_any kA kc k lA lc l none 0 [] w' (by omega) (by simp) lhw (fun _ q => by cases q) (HA.out.kept kk) (HL.out.kept kk) CellsAt.nil))
          obtain ⟨b00, b01, b02, b03, b04⟩ := (HB0.out.kept KB5.out).five
          have bz0 := (HB0.out.kept KB5.out).1
          obtain ⟨b10, b11⟩ := (HB1.out.kept KB5.out).two
          have bz1 := (HB1.out.kept KB5.out).1
          go_wp2_with fail
          refine wp_region_noPanic ?_
          refine wp_region_held_drew (S := (fun w' => w'.cell? ⟨z0, 0, none⟩ = some (.slice kA k.ws.length kc) ∧ w'.cell? ⟨z0, 1, none⟩ = some (.int .u64 k.seed) ∧ w'.cell? ⟨z0, 2, none⟩ = some (.int .i64 k.ep) ∧ w'.cell? ⟨z0, 3, none⟩ = some (.int .i64 k.nu) ∧ w'.cell? ⟨z0, 4, none⟩ = some (.int .i64 k.de) ∧ w'.cell? ⟨z1, 0, none⟩ = some (.slice lA l.length lc) ∧ w'.cell? ⟨z1, 1, none⟩ = some (.slice vA v.length vc) ∧ Kept W5 w')) (by kernel_rfl) ?_ (fun hHeld => ?_)
          · exact ⟨b00, b01, b02, b03, b04, b10, b11, (Kept.refl _).drew⟩
          refine wpAnyH_take (i := 0) (v := ?_) (by simp only [List.getElem?_toArray, List.getElem?_cons_succ, List.getElem?_cons_zero]; rfl) (by kernel_rfl) (by kernel_rfl) (by kernel_rfl) (fun _ _ _ h => h) (Or.inl ⟨by rfl, ?_⟩) (by assumption) ?_
          rotate_left
          · intro w hSw
            (try dsimp only at hSw)
            go_simp
            (try with_reducible rfl)
          simp only [Act.put, List.setIfInBounds_toArray, List.set_cons_zero, List.set_cons_succ]
          refine wpAnyH_take (i := 1) (v := ?_) (by simp only [List.getElem?_toArray, List.getElem?_cons_succ, List.getElem?_cons_zero]; rfl) (by kernel_rfl) (by kernel_rfl) (by kernel_rfl) (fun _ _ _ h => h) (Or.inl ⟨by rfl, ?_⟩) (by assumption) ?_
          rotate_left
          · intro w hSw
            (try dsimp only at hSw)
            go_simp
            (try with_reducible rfl)
          simp only [Act.put, List.setIfInBounds_toArray, List.set_cons_zero, List.set_cons_succ]
          refine wpAnyH_take (i := 2) (v := ?_) (by simp only [List.getElem?_toArray, List.getElem?_cons_succ, List.getElem?_cons_zero]; rfl) (by kernel_rfl) (by kernel_rfl) (by kernel_rfl) (fun _ _ _ h => h) (Or.inl ⟨by rfl, ?_⟩) (by assumption) ?_
          rotate_left
          · intro w hSw
            (try dsimp only at hSw)
            go_simp
            (try with_reducible rfl)
          simp only [Act.put, List.setIfInBounds_toArray, List.set_cons_zero, List.set_cons_succ]
          refine wpAnyH_take (i := 3) (v := ?_) (by simp only [List.getElem?_toArray, List.getElem?_cons_succ, List.getElem?_cons_zero]; rfl) (by kernel_rfl) (by kernel_rfl) (by kernel_rfl) (fun _ _ _ h => h) (Or.inl ⟨by rfl, ?_⟩) (by assumption) ?_
          rotate_left
          · intro w hSw
            (try dsimp only at hSw)
            go_simp
            (try with_reducible rfl)
          simp only [Act.put, List.setIfInBounds_toArray, List.set_cons_zero, List.set_cons_succ]
          refine wpAnyH_take (i := 4) (v := ?_) (by simp only [List.getElem?_toArray, List.getElem?_cons_succ, List.getElem?_cons_zero]; rfl) (by kernel_rfl) (by kernel_rfl) (by kernel_rfl) (fun _ _ _ h => h) (Or.inl ⟨by rfl, ?_⟩) (by assumption) ?_
          rotate_left
          · intro w hSw
            (try dsimp only at hSw)
            go_simp
            (try with_reducible rfl)
          simp only [Act.put, List.setIfInBounds_toArray, List.set_cons_zero, List.set_cons_succ]
          refine wpAnyH_take (i := 5) (v := ?_) (by simp only [List.getElem?_toArray, List.getElem?_cons_succ, List.getElem?_cons_zero]; rfl) (by kernel_rfl) (by kernel_rfl) (by kernel_rfl) (fun _ _ _ h => h) (Or.inl ⟨by rfl, ?_⟩) (by assumption) ?_
          rotate_left
          · intro w hSw
            (try dsimp only at hSw)
            go_simp
            (try with_reducible rfl)
          simp only [Act.put, List.setIfInBounds_toArray, List.set_cons_zero, List.set_cons_succ]
          refine wpAnyH_take (i := 6) (v := ?_) (by simp only [List.getElem?_toArray, List.getElem?_cons_succ, List.getElem?_cons_zero]; rfl) (by kernel_rfl) (by kernel_rfl) (by kernel_rfl) (fun _ _ _ h => h) (Or.inl ⟨by rfl, ?_⟩) (by assumption) ?_
          rotate_left
          · intro w hSw
            (try dsimp only at hSw)
            go_simp
            (try with_reducible rfl)
          simp only [Act.put, List.setIfInBounds_toArray, List.set_cons_zero, List.set_cons_succ]
          refine wpAnyH_take (i := 8) (v := ?_) (by simp only [List.getElem?_toArray, List.getElem?_cons_succ, List.getElem?_cons_zero]; rfl) (by kernel_rfl) (by kernel_rfl) (by kernel_rfl) (fun _ _ _ h => h) (Or.inl ⟨by rfl, ?_⟩) (by assumption) ?_
          rotate_left
          · intro w hSw
            (try dsimp only at hSw)
            go_simp
            (try with_reducible rfl)
          simp only [Act.put, List.setIfInBounds_toArray, List.set_cons_zero, List.set_cons_succ]
          refine wpAnyH_take (i := 9) (v := ?_) (by simp only [List.getElem?_toArray, List.getElem?_cons_succ, List.getElem?_cons_zero]; rfl) (by kernel_rfl) (by kernel_rfl) (by kernel_rfl) (fun _ _ _ h => h) (Or.inl ⟨by rfl, ?_⟩) (by assumption) ?_
          rotate_left
          · intro w hSw
            (try dsimp only at hSw)
            go_simp
            (try with_reducible rfl)
          simp only [Act.put, List.setIfInBounds_toArray, List.set_cons_zero, List.set_cons_succ]
          refine wpAnyH_take (i := 10) (v := ?_) (by simp only [List.getElem?_toArray, List.getElem?_cons_succ, List.getElem?_cons_zero]; rfl) (by kernel_rfl) (by kernel_rfl) (by kernel_rfl) (fun _ _ _ h => h) (Or.inl ⟨by rfl, ?_⟩) (by assumption) ?_
          rotate_left
          · intro w hSw
            (try dsimp only at hSw)
            go_simp
            (try with_reducible rfl)
          simp only [Act.put, List.setIfInBounds_toArray, List.set_cons_zero, List.set_cons_succ]
          refine wpAnyH_ready (rs := [7]) (by kernel_rfl) (by simp) ?_
          refine AllReadyH.cons (by simp only [List.getElem?_toArray, List.getElem?_cons_succ, List.getElem?_cons_zero]; rfl) (fun K hK => ?_) AllReadyH.nil
          go_simp
          go_at_call 14; with_reducible refine (goldHead_any kA kc k lA lc l vA vc v slot _ (by omega) khs (by omega) (by omega) lhw vhw (HA.out.kept (KB5.out.trans (hHeld.2.2.2.2.2.2.2))) (HL.out.kept (KB5.out.trans (hHeld.2.2.2.2.2.2.2))) (HV.out.kept (KB5.out.trans (hHeld.2.2.2.2.2.2.2)))).mono ?_
          rintro e w' ⟨R3, hR3, rfl, kk⟩
          have eR := HR.out.unique hR3
          subst eR
          clear hR3
          obtain ⟨h, hh⟩ : ∃ h, h = headC k l [] := ⟨_, rfl⟩
          rw [← hh]
          have HEh := Lib.hid hh
          clear hh
          have hhh : sameI h h = true := sameI_yes rfl
          try go_wp2_with fail
          refine hK.out _ _ ?_ (fun hHeld2 => ?_)
          · exact keepP7 bz0 bz0 bz0 bz0 bz0 bz1 bz1 hHeld kk
          clear hK K hHeld
          have hHeld := hHeld2
          clear hHeld2
          try simp only [Act.put, List.setIfInBounds_toArray, List.set_cons_zero, List.set_cons_succ]
          refine wpAnyH_ready (rs := [11]) (by kernel_rfl) (by simp) ?_
          refine AllReadyH.cons (by simp only [List.getElem?_toArray, List.getElem?_cons_succ, List.getElem?_cons_zero]; rfl) (fun K hK => ?_) AllReadyH.nil
          go_simp
          go_at_call 24; with_reducible refine (HGh.out _ (KB5.out.trans (hHeld.2.2.2.2.2.2.2))).mono ?_
          rintro e w' ⟨rfl, kk⟩
          rw [← HEh.out]
          try go_wp2_with fail
          refine hK.out _ _ ?_ (fun hHeld2 => ?_)
          · exact keepP7 bz0 bz0 bz0 bz0 bz0 bz1 bz1 hHeld kk
          clear hK K hHeld
          have hHeld := hHeld2
          clear hHeld2
          try simp only [Act.put, List.setIfInBounds_toArray, List.set_cons_zero, List.set_cons_succ]
          refine wpAnyH_take (i := 12) (v := ?_) (by simp only [List.getElem?_toArray, List.getElem?_cons_succ, List.getElem?_cons_zero]; rfl) (by kernel_rfl) (by kernel_rfl) (by kernel_rfl) (fun _ _ _ h => h) (Or.inl ⟨by rfl, ?_⟩) (by assumption) ?_
          rotate_left
          · intro w hSw
            (try dsimp only at hSw)
            go_simp
            (try with_reducible rfl)
          simp only [Act.put, List.setIfInBounds_toArray, List.set_cons_zero, List.set_cons_succ]
          try simp only [hhh]
          refine wpAnyH_take (i := 13) (v := ?_) (by simp only [List.getElem?_toArray, List.getElem?_cons_succ, List.getElem?_cons_zero]; rfl) (by kernel_rfl) (by kernel_rfl) (by kernel_rfl) (fun _ _ _ h => h) (Or.inl ⟨by rfl, ?_⟩) (by assumption) ?_
          rotate_left
          · intro w hSw
            (try dsimp only at hSw)
            go_simp
            (try with_reducible rfl)
          simp only [Act.put, List.setIfInBounds_toArray, List.set_cons_zero, List.set_cons_succ]
          refine wpAnyH_take (i := 14) (v := ?_) (by simp only [List.getElem?_toArray, List.getElem?_cons_succ, List.getElem?_cons_zero]; rfl) (by kernel_rfl) (by kernel_rfl) (by kernel_rfl) (fun _ _ _ h => h) (Or.inl ⟨by rfl, ?_⟩) (by assumption) ?_
          rotate_left
          · intro w hSw
            (try dsimp only at hSw)
            go_simp
            (try with_reducible rfl)
          simp only [Act.put, List.setIfInBounds_toArray, List.set_cons_zero, List.set_cons_succ]
          refine wpAnyH_done (by kernel_rfl) ?_ _
          refine NoPanic.normal ?_
          have k := hHeld.2.2.2.2.2.2.2
          clear hHeld
          clear b00 b01 b02 b03 b04 bz0 b10 b11 bz1
          have KB6 := Lib.hid (KB5.out.trans k)
          clear k
          generalize w' = W6 at *
          go_wp2_with fail
          go_ret
          exact ⟨by first | rfl | (simp; done), K0.out.trans KB6.out⟩
        · have g1 : decide (slot < 1) = false := decide_eq_false h1
          have g2 : decide (1048576 < slot) = false := decide_eq_false h2
          obtain ⟨b00, b01, b02, b03, b04⟩ := (HB0.out.kept KB5.out).five
          have bz0 := (HB0.out.kept KB5.out).1
          obtain ⟨b10, b11⟩ := (HB1.out.kept KB5.out).two
          have bz1 := (HB1.out.kept KB5.out).1
          go_wp2_with fail
          clear b00 b01 b02 b03 b04 bz0 b10 b11 bz1
          refine (ofV_any vA vc v (by omega) vhw slot W5 (HV.out.kept KB5.out)).mono ?_
          rintro e W6 ⟨al, hAl, hAll, A2, c2, rfl, hC2, k⟩
          have KB6 := Lib.hid (KB5.out.trans k)
          clear k
          replace HA := Lib.hid (HA.out.kept KB6.out)
          replace HL := Lib.hid (HL.out.kept KB6.out)
          replace HV := Lib.hid (HV.out.kept KB6.out)
          replace HRw := Lib.hid (HRw.out.kept KB6.out)
          replace HB0 := Lib.hid (HB0.out.kept KB6.out)
          replace HB1 := Lib.hid (HB1.out.kept KB6.out)
          replace K0 := Lib.hid (K0.out.trans KB6.out)
          have KB7 := Lib.hid (Kept.refl W6)
          have HAw := Lib.hid hC2
          clear hC2
          have HCn := Lib.hid hAl
          clear hAl
          obtain ⟨b00, b01, b02, b03, b04⟩ := (HB0.out.kept KB7.out).five
          have bz0 := (HB0.out.kept KB7.out).1
          obtain ⟨b10, b11⟩ := (HB1.out.kept KB7.out).two
          have bz1 := (HB1.out.kept KB7.out).1
          go_wp2_with fail
          clear b00 b01 b02 b03 b04 bz0 b10 b11 bz1
          go_loopw [10, 12] (fun u i w' => ∃ (j : Nat) (B : Option Addr) (d : Nat), j ≤ al.length ∧ i = .int .i64 j ∧ u = .slice B (ownG k (al.take j)).length d ∧ Vts W6 (ownG k (al.take j)) (.slice B (ownG k (al.take j)).length d) w') (fun _ i _ => al.length - (intOf i).toNat)
          case atStart => exact ⟨0, none, 0, by omega, rfl, rfl, Vts.nil _⟩
          case round =>
            obtain ⟨j, B, d, hj, rfl, rfl, hI⟩ := hrel
            have HI := Lib.hid hI
            clear hI
            have KB8 := Lib.hid (KB7.out.trans HI.out.2)
            by_cases hlt : j < al.length
            · obtain ⟨z, o, rfl, hb, x0, x1, x2, x3⟩ := vote_at (HAw.out.kept KB8.out) hlt
              have HHit := Lib.hid (fun h => ownG_hit (k := k) hlt h)
              have HMis := Lib.hid (fun h => ownG_miss (k := k) hlt h)
              have HLe := Lib.hid (Nat.le_trans (ownG_le k (al.take j)) (List.length_take_le j al))
              generalize ownG k (al.take j) = O at *
              generalize al[j] = x at *
              by_cases p1 : 0 ≤ x.f
              · have p1b : decide (0 ≤ x.f) = true := decide_eq_true p1
                by_cases p2 : x.f < (k.ws.length : Int)
                · have p2b : decide (x.f < (k.ws.length : Int)) = true := decide_eq_true p2
                  obtain ⟨b00, b01, b02, b03, b04⟩ := (HB0.out.kept KB8.out).five
                  have bz0 := (HB0.out.kept KB8.out).1
                  go_wp2_with fail
                  go_quiet (fail)
                  have HN := Lib.hid (HHit.out ⟨by omega, by omega⟩)
                  have hol : O.length + 1 ≤ 10000000 := by have := HLe.out; omega
                  clear HHit HMis
                  go_wp2_with (refine wpList_vts _ rfl _ _ rfl W6 O _ (by rfl) ((HI.out.kept ((Kept.refl _).drewN _)).alloc _) _ _ 1 1 [x] (by rfl) (by rfl) (votes_one_at (HasCells.new _ _ _ _ rfl)) hol ?_; intro v3 w3 HR3 _)
                  clear b00 b01 b02 b03 b04 bz0
                  obtain ⟨A3, c3, rfl⟩ := HR3.slice
                  have HI3 := Lib.hid HR3
                  clear HR3
                  go_roundw
                  case rel => exact ⟨j + 1, A3, c3, by omega, by go_num, by first | (rw [HN.out]; done) | (rw [HN.out]; simp; done), by rw [HN.out]; exact HI3.out⟩
                  case measure => simp [intOf]; omega
                · have p2b : decide (x.f < (k.ws.length : Int)) = false := decide_eq_false p2
                  obtain ⟨b00, b01, b02, b03, b04⟩ := (HB0.out.kept KB8.out).five
                  have bz0 := (HB0.out.kept KB8.out).1
                  go_wp2_with fail
                  go_quiet (fail)
                  have HN := Lib.hid (HMis.out (by omega))
                  clear HHit HMis
                  go_wp2_with fail
                  clear b00 b01 b02 b03 b04 bz0
                  go_roundw
                  case rel => exact ⟨j + 1, B, d, by omega, by go_num, by rw [HN.out], by rw [HN.out]; exact HI.out.kept ((Kept.refl _).drewN _)⟩
                  case measure => simp [intOf]; omega
              · have p1b : decide (0 ≤ x.f) = false := decide_eq_false p1
                obtain ⟨b00, b01, b02, b03, b04⟩ := (HB0.out.kept KB8.out).five
                have bz0 := (HB0.out.kept KB8.out).1
                go_wp2_with fail
                go_quiet (fail)
                have HN := Lib.hid (HMis.out (by omega))
                clear HHit HMis
                go_wp2_with fail
                clear b00 b01 b02 b03 b04 bz0
                go_roundw
                case rel => exact ⟨j + 1, B, d, by omega, by go_num, by rw [HN.out], by rw [HN.out]; exact HI.out.kept ((Kept.refl _).drewN _)⟩
                case measure => simp [intOf]; omega
            · have hjl : j = al.length := by omega
              subst hjl
              rw [List.take_length] at HI ⊢
              have HOl := Lib.hid (ownG_le k al)
              have hO := CellsAt.of_own HI.out.1
              replace HA := Lib.hid (HA.out.kept KB8.out)
              replace HL := Lib.hid (HL.out.kept KB8.out)
              replace HV := Lib.hid (HV.out.kept KB8.out)
              replace HRw := Lib.hid (HRw.out.kept KB8.out)
              replace HAw := Lib.hid (HAw.out.kept KB8.out)
              replace HB0 := Lib.hid (HB0.out.kept KB8.out)
              replace HB1 := Lib.hid (HB1.out.kept KB8.out)
              replace K0 := Lib.hid (K0.out.trans KB8.out)
              have KB9 := Lib.hid (Kept.refl wr)
              have HOw := Lib.hid hO
              clear hO
              go_wp2_with fail
              by_cases hep : k.ep = 1
              · have hs : R = ownG k al := own_same (by omega) (by omega) hep hm HR.out HCn.out
                rw [← hs] at HOw ⊢
                clear hs HI HOl
                refine (votes_same A1 c1 B d R wr (by omega) (HRw.out.kept KB9.out) (HOw.out.kept KB9.out)).mono ?_
                rintro e W10 ⟨rfl, k⟩
                have KB10 := Lib.hid (KB9.out.trans k)
                clear k
                obtain ⟨b00, b01, b02, b03, b04⟩ := (HB0.out.kept KB10.out).five
                have bz0 := (HB0.out.kept KB10.out).1
                obtain ⟨b10, b11⟩ := (HB1.out.kept KB10.out).two
                have bz1 := (HB1.out.kept KB10.out).1
                go_wp2_with fail
                clear b00 b01 b02 b03 b04 bz0 b10 b11 bz1
                go_ret
                exact ⟨by first | rfl | (simp; done), K0.out.trans KB10.out⟩
              · have heb : (k.ep != 1) = true := by rw [bne_iff_ne]; exact hep
                refine (same_back A1 c1 B d R (ownG k al) wr (by omega) (by have := HOl.out; omega) (HRw.out.kept KB9.out) (HOw.out.kept KB9.out)).mono ?_
                rintro e W10 ⟨b, rfl, k⟩
                have KB10 := Lib.hid (KB9.out.trans k)
                clear k
                obtain ⟨b00, b01, b02, b03, b04⟩ := (HB0.out.kept KB10.out).five
                have bz0 := (HB0.out.kept KB10.out).1
                obtain ⟨b10, b11⟩ := (HB1.out.kept KB10.out).two
                have bz1 := (HB1.out.kept KB10.out).1
                go_wp2_with fail
                clear b00 b01 b02 b03 b04 bz0 b10 b11 bz1
                go_ret
                exact ⟨by first | rfl | (simp; done), K0.out.trans KB10.out⟩

/-! ### The row's step -/
set_option maxRecDepth 100000 in
theorem lifted (os : Os) (started : os.Started) (H : Type) (enc : TypeId × Value → H) :
    ReturnsInHanded {} Tryz.checked os 7 .any (Rows.goldAllSpec.pre6 enc Tryz.prog Tryz.f7 Rows.goldAllRow.domain false) (Rows.goldAllSpec.post enc Tryz.prog Tryz.f7 false true false false) := by
  refine returnsInHanded_of_change (C := Tryz.checked) own started (by kernel_rfl) Tryz.func7
    (ChangeSpec.witness6 (enc := enc) (C := Tryz.checked) false ⟨#[], #[.agg #[.slice none 0 0, .int .u64 0, .int .i64 0, .int .i64 0, .int .i64 0], .agg #[.slice none 0 0, .slice none 0 0], .int .i64 0], []⟩ 8 (by kernel_rfl) (by kernel_rfl) (by kernel_rfl) (by kernel_rfl)) ?_
  intro W base args ds gs before hval0 hW hcnd _
  have hval : ∀ (j : Nat) t v, Tryz.f7.params[j]? = some t → args[j]? = some v → Value.okWide Tryz.prog W .any base t v := hval0
  have hW' := hW
  obtain ⟨p, q, hA0, hV, rfl, hfz, hnd⟩ := hW
  have hA : DataW.TrodAll enc Tryz.prog W 0 (fun _ => true) true Tryz.f7.params.toList args.toList ds p := hA0
  rw [Tryz.params7] at hA hval
  obtain ⟨v0, vs0, d0, ds0, p0, q0, hargs, rfl, rfl, h0, r0⟩ := trodAll_cons hA
  obtain ⟨v1, vs1, d1, ds1, p1, q1, rfl, rfl, rfl, h1, r1⟩ := trodAll_cons r0
  obtain ⟨v2, vs2, d2, ds2, p2, q2, rfl, rfl, rfl, h2, r2⟩ := trodAll_cons r1
  obtain ⟨rfl, rfl, rfl⟩ := trodAll_nil r2
  obtain rfl : args = #[v0, v1, v2] := by cases args; simp_all
  obtain ⟨rfl, rfl⟩ := trodVars_none hV
  obtain ⟨kA, kc, k, rfl, khm, khs, khl⟩ := open_conf (hval 0 _ v0 rfl rfl) h0
  obtain ⟨lA, lc, l, vA, vc, v, rfl, lhm, lhc, lhw, lhl, vhm, vhc, vhw, vhl⟩ := open_view (hval 1 _ v1 rfl rfl) h1
  obtain ⟨slot, rfl, hslot1, hslot2⟩ := open_num (hval 2 _ v2 rfl rfl) h2
  clear hA0 hval0
  refine (walk W kA kc k khm khs khl lA lc l vA vc v lhm lhc lhw lhl vhm vhc vhw vhl slot hslot1 hslot2).mono fun e W' ⟨he, hb⟩ => ?_
  subst he
  exact ⟨_, rfl, law_post rfl (by kernel_rfl) rfl hW' rfl hb⟩

theorem over : Rows.goldAllRow.holds Tryz.pinned (OpenSpec.ofChange Rows.goldAllSpec) :=
  OpenClaim.holds_of_wide 7 Tryz.f7 rfl rfl rfl rfl rfl rfl rfl ⟨rfl, rfl, rfl, rfl, rfl⟩ rfl rfl rfl rfl rfl (by kernel_rfl) Tryz.func7 (by kernel_rfl)
    (of_decide_eq_true (by kernel_rfl)) (by unfold Func.isWrapper; first | (rw [if_pos (by decide +kernel)]; kernel_rfl) | (rw [if_neg (by decide +kernel)]; exact ⟨rfl, rfl⟩))
    (fun os started H enc _ => lifted os started H enc)

/-- The statement. -/
theorem proved : Rows.GoldAllSaid :=
  over
#print axioms proved

end Go.Proofs.YtlapcnfhnfkbmaaGreat.goldAll
