/-
  Law LmdNone of layer 13: without votes the boost alone tells the head: what it is for is under it, if it weighs anything, and is known, whatever conf, blocks and slot.
-/
import Derived.Test.YteamjjkmcomabaaLmdAwake
import Derived.Test.YteamjjkmcomabaaGhostAwake
import Derived.Test.YteamjjkmcomabaaDutyG
import Derived.Test.YteamjjkmcomabaaTreeG
import Derived.Test.YteamjjkmcomabaaVoteG
import Derived.Test.YteamjjkmcomabaaMixG
import Derived.Test.YteamjjkmcomabaaGround
import Derived.Test.YteamjjkmcomabaaIdBox
import Derived.Test.YteamjjkmcomabaaVoteOfG
import Derived.Test.YteamjjkmcomabaaGhostHead
namespace Go.Proofs.Yteamjjkmcomabaa.lmdNone
set_option maxRecDepth 100000
set_option linter.unusedVariables false
set_option linter.unusedSimpArgs false
open Go.ChangeShapes Go.WideShapes Go.ChangeAt Go.RowKit
set_option linter.unusedVariables false

theorem wfs_nil : WfVs [] := fun _ h => by cases h
theorem chain_there {l : List Bk} {x : Id2} (h : ¬ (chainC l x).length = 0) : mayB l = true ∧ standsB l x = true := by
  cases hm : mayB l with
  | false => rw [chainC_no (fun q => by rw [hm] at q; cases q)] at h; exact absurd rfl h
  | true =>
    cases hs : standsB l x with
    | false => rw [chainC_no (fun _ => hs)] at h; exact absurd rfl h
    | true => exact ⟨rfl, rfl⟩

/-! ### The walk: the call returns true, and of what was there nothing has changed. -/
attribute [local go_sem high] eqIdN eqIdZ in
set_option maxRecDepth 100000 in
set_option maxHeartbeats 6400000 in
theorem walk (w : World) (kA : Option Addr) (kc : Nat) (k : Cf) (khm : k.ws.length ≤ maxLen) (khs : k.seed < 18446744073709551616) (khl : CellsAt w w.heap.size kA (intCells k.ws)) (lA : Option Addr) (lc : Nat) (l : List Bk) (lhm : l.length ≤ maxLen) (lhc : l.length ≤ lc) (lhw : WfL l) (lhl : CellsAt w w.heap.size lA (blockCells l)) (upto : Int) (hupto1 : -9223372036854775808 ≤ upto) (hupto2 : upto ≤ 9223372036854775807) (bo : Nat × Nat) (hbo1 : bo.1 < 18446744073709551616) (hbo2 : bo.2 < 18446744073709551616) (pct : Int) (hpct1 : -9223372036854775808 ≤ pct) (hpct2 : pct ≤ 9223372036854775807) :
    Calls Try.prog 9 #[.agg #[.slice kA k.ws.length kc, .int .u64 k.seed, .int .i64 k.ep, .int .i64 k.nu, .int .i64 k.de], .slice lA l.length lc, .int .i64 upto, .agg #[.int .u64 bo.1, .int .u64 bo.2], .int .i64 pct] w fun e w' => e = .returned (.bool true) ∧ Kept w w' := by
  cases hf : few9C k l [] with
  | false =>
    go_enter Try.func9, Try.ntmps9
    go_wp2_with fail
    have K0 := Lib.hid (((Kept.refl w).alloc (.cells #[.slice kA k.ws.length kc, .int .u64 k.seed, .int .i64 k.ep, .int .i64 k.nu, .int .i64 k.de] 25)).alloc (.cells #[.int .u64 bo.1, .int .u64 bo.2] 29))
    have HA := Lib.hid (khl.kept K0.out)
    clear khl
    have HL := Lib.hid (lhl.kept K0.out)
    clear lhl
    have HB0 := Lib.hid ((HasCells.new w #[.slice kA k.ws.length kc, .int .u64 k.seed, .int .i64 k.ep, .int .i64 k.nu, .int .i64 k.de] 25 (w.heap.size) (by simp)).alloc (.cells #[.int .u64 bo.1, .int .u64 bo.2] 29))
    have HB1 := Lib.hid (HasCells.new (w.alloc (.cells #[.slice kA k.ws.length kc, .int .u64 k.seed, .int .i64 k.ep, .int .i64 k.nu, .int .i64 k.de] 25)) #[.int .u64 bo.1, .int .u64 bo.2] 29 (w.heap.size + 1) (by simp))
    generalize ((w.alloc (.cells #[.slice kA k.ws.length kc, .int .u64 k.seed, .int .i64 k.ep, .int .i64 k.nu, .int .i64 k.de] 25)).alloc (.cells #[.int .u64 bo.1, .int .u64 bo.2] 29)) = W0 at *
    generalize w.heap.size + 1 = z1 at *
    generalize w.heap.size = z0 at *
    have KB0 := Lib.hid (Kept.refl W0)
    refine (lmdAwake W0).mono ?_
    rintro e W1 ⟨rfl, k⟩
    have KB1 := Lib.hid (KB0.out.trans k)
    clear k
    obtain ⟨b00, b01, b02, b03, b04⟩ := (HB0.out.kept KB1.out).five
    have bz0 := (HB0.out.kept KB1.out).1
    obtain ⟨b10, b11⟩ := (HB1.out.kept KB1.out).two
    have bz1 := (HB1.out.kept KB1.out).1
    go_wp2_with fail
    clear b00 b01 b02 b03 b04 bz0 b10 b11 bz1
    refine (few9_any kA kc k lA lc l none 0 [] W1).mono ?_
    rintro e W2 ⟨rfl, k⟩
    have KB2 := Lib.hid (KB1.out.trans k)
    clear k
    rw [hf]
    obtain ⟨b00, b01, b02, b03, b04⟩ := (HB0.out.kept KB2.out).five
    have bz0 := (HB0.out.kept KB2.out).1
    obtain ⟨b10, b11⟩ := (HB1.out.kept KB2.out).two
    have bz1 := (HB1.out.kept KB2.out).1
    go_wp2_with fail
    clear b00 b01 b02 b03 b04 bz0 b10 b11 bz1
    go_ret
    exact ⟨by first | rfl | (simp; done), K0.out.trans KB2.out⟩
  | true =>
    obtain ⟨hk40, hl20, hv30⟩ := few9C_yes hf
    have HF := Lib.hid hf
    clear hf
    have hwbo : WfI bo := ⟨hbo1, hbo2⟩
    go_enter Try.func9, Try.ntmps9
    go_wp2_with fail
    have K0 := Lib.hid (((Kept.refl w).alloc (.cells #[.slice kA k.ws.length kc, .int .u64 k.seed, .int .i64 k.ep, .int .i64 k.nu, .int .i64 k.de] 25)).alloc (.cells #[.int .u64 bo.1, .int .u64 bo.2] 29))
    have HA := Lib.hid (khl.kept K0.out)
    clear khl
    have HL := Lib.hid (lhl.kept K0.out)
    clear lhl
    have HB0 := Lib.hid ((HasCells.new w #[.slice kA k.ws.length kc, .int .u64 k.seed, .int .i64 k.ep, .int .i64 k.nu, .int .i64 k.de] 25 (w.heap.size) (by simp)).alloc (.cells #[.int .u64 bo.1, .int .u64 bo.2] 29))
    have HB1 := Lib.hid (HasCells.new (w.alloc (.cells #[.slice kA k.ws.length kc, .int .u64 k.seed, .int .i64 k.ep, .int .i64 k.nu, .int .i64 k.de] 25)) #[.int .u64 bo.1, .int .u64 bo.2] 29 (w.heap.size + 1) (by simp))
    generalize ((w.alloc (.cells #[.slice kA k.ws.length kc, .int .u64 k.seed, .int .i64 k.ep, .int .i64 k.nu, .int .i64 k.de] 25)).alloc (.cells #[.int .u64 bo.1, .int .u64 bo.2] 29)) = W0 at *
    generalize w.heap.size + 1 = z1 at *
    generalize w.heap.size = z0 at *
    have KB0 := Lib.hid (Kept.refl W0)
    refine (lmdAwake W0).mono ?_
    rintro e W1 ⟨rfl, k⟩
    have KB1 := Lib.hid (KB0.out.trans k)
    clear k
    obtain ⟨b00, b01, b02, b03, b04⟩ := (HB0.out.kept KB1.out).five
    have bz0 := (HB0.out.kept KB1.out).1
    obtain ⟨b10, b11⟩ := (HB1.out.kept KB1.out).two
    have bz1 := (HB1.out.kept KB1.out).1
    go_wp2_with fail
    clear b00 b01 b02 b03 b04 bz0 b10 b11 bz1
    refine (few9_any kA kc k lA lc l none 0 [] W1).mono ?_
    rintro e W2 ⟨rfl, k⟩
    have KB2 := Lib.hid (KB1.out.trans k)
    clear k
    rw [HF.out]
    obtain ⟨b00, b01, b02, b03, b04⟩ := (HB0.out.kept KB2.out).five
    have bz0 := (HB0.out.kept KB2.out).1
    obtain ⟨b10, b11⟩ := (HB1.out.kept KB2.out).two
    have bz1 := (HB1.out.kept KB2.out).1
    go_wp2_with fail
    clear b00 b01 b02 b03 b04 bz0 b10 b11 bz1
    refine (lmdHead_any kA kc k lA lc l none 0 [] upto bo pct W2 (by omega) (by omega) (by simp) lhw (fun _ h => by cases h) hwbo (HA.out.kept KB2.out) (HL.out.kept KB2.out) CellsAt.nil).mono ?_
    rintro e W3 ⟨R, hR, rfl, k⟩
    have KB3 := Lib.hid (KB2.out.trans k)
    clear k
    have eR := hR.unique (cnts_nil (upQ upto))
    subst eR
    clear hR
    obtain ⟨h, hh⟩ : ∃ h, h = headG (onB k l [] bo pct) l := ⟨_, rfl⟩
    rw [← hh]
    have HEh := Lib.hid hh
    clear hh
    have HX1 := Lib.hid (AtI.new W3 h W3.heap.size rfl)
    have KX1 := Lib.hid (Kept.alloc (Kept.refl W3) (.cells #[.int .u64 h.1, .int .u64 h.2] 29))
    obtain ⟨b00, b01, b02, b03, b04⟩ := (HB0.out.kept KB3.out).five
    have bz0 := (HB0.out.kept KB3.out).1
    obtain ⟨b10, b11⟩ := (HB1.out.kept KB3.out).two
    have bz1 := (HB1.out.kept KB3.out).1
    go_wp2_with fail
    clear b00 b01 b02 b03 b04 bz0 b10 b11 bz1
    generalize W3.alloc (.cells #[.int .u64 h.1, .int .u64 h.2] 29) = V1 at *
    generalize W3.heap.size = y1 at *
    have KB4 := Lib.hid (KB3.out.trans KX1.out)
    refine (lmdBoost_any kA kc k pct V1 (by omega) (HA.out.kept KB4.out)).mono ?_
    rintro e W5 ⟨rfl, k⟩
    replace HX1 := Lib.hid (HX1.out.kept k)
    have KB5 := Lib.hid (KB4.out.trans k)
    clear k
    have n2 := boost_bounds k pct
    have hwh : WfI h := by rw [HEh.out]; exact headG_wf _ _
    have hhh : sameI h h = true := sameI_yes rfl
    have x10 := HX1.out.c0
    have x11 := HX1.out.c1
    have hy1 := HX1.out.lt
    by_cases hb : boostC k pct = 0
    · have hbb : (boostC k pct == 0) = true := by rw [beq_iff_eq]; exact hb
      have HEq := Lib.hid (show h = headC k l [] by rw [HEh.out, onB_zero k l [] bo hb]; rfl)
      clear hb n2
      obtain ⟨b00, b01, b02, b03, b04⟩ := (HB0.out.kept KB5.out).five
      have bz0 := (HB0.out.kept KB5.out).1
      obtain ⟨b10, b11⟩ := (HB1.out.kept KB5.out).two
      have bz1 := (HB1.out.kept KB5.out).1
      go_wp2_with fail
      have HLa := Lib.hid (fun w' => (show Calls Try.prog 19 #[.slice none 0 0, .int .i64 upto] w' (Counted [] (upQ upto) w') from last_any none 0 [] (by simp) wfs_nil upto w' CellsAt.nil))
      have HGh := Lib.hid (fun A1 c1 w' (kk : Kept W0 w') (hC : CellsAt w' w'.heap.size A1 (votesCells [])) => (show Calls Try.prog 18 #[.agg #[.slice kA k.ws.length kc, .int .u64 k.seed, .int .i64 k.ep, .int .i64 k.nu, .int .i64 k.de], .slice lA l.length lc, .slice A1 0 c1] w' _ from head_any kA kc k lA lc l A1 c1 [] w' (by omega) (by simp) lhw wfs_nil (HA.out.kept kk) (HL.out.kept kk) hC))
      refine wp_region_noPanic ?_
      refine wp_region_held_drew (S := (fun w' => w'.cell? ⟨z0, 0, none⟩ = some (.slice kA k.ws.length kc) ∧ w'.cell? ⟨z0, 1, none⟩ = some (.int .u64 k.seed) ∧ w'.cell? ⟨z0, 2, none⟩ = some (.int .i64 k.ep) ∧ w'.cell? ⟨z0, 3, none⟩ = some (.int .i64 k.nu) ∧ w'.cell? ⟨z0, 4, none⟩ = some (.int .i64 k.de) ∧ w'.cell? ⟨z1, 0, none⟩ = some (.int .u64 bo.1) ∧ w'.cell? ⟨z1, 1, none⟩ = some (.int .u64 bo.2) ∧ w'.cell? ⟨y1, 0, none⟩ = some (.int .u64 h.1) ∧ w'.cell? ⟨y1, 1, none⟩ = some (.int .u64 h.2) ∧ Kept W5 w')) (by kernel_rfl) ?_ (fun hHeld => ?_)
      · exact ⟨b00, b01, b02, b03, b04, b10, b11, x10, x11, (Kept.refl _).drew⟩
      refine wpAnyH_take (i := 0) (v := ?_) (by simp only [List.getElem?_toArray, List.getElem?_cons_succ, List.getElem?_cons_zero]; rfl) (by kernel_rfl) (by kernel_rfl) (by kernel_rfl) (fun _ _ _ h => h) (Or.inl ⟨by rfl, ?_⟩) (by assumption) ?_
      rotate_left
      · intro w hSw
        (try dsimp only at hSw)
        go_simp
        (try with_reducible rfl)
      simp only [Act.put, List.setIfInBounds_toArray, List.set_cons_zero, List.set_cons_succ]
      refine wpAnyH_take (i := 1) (v := ?_) (by simp only [List.getElem?_toArray, List.getElem?_cons_succ, List.getElem?_cons_zero]; rfl) (by kernel_rfl) (by kernel_rfl) (by kernel_rfl) (fun _ _ _ h => h) (Or.inl ⟨by rfl, ?_⟩) (by assumption) ?_
      rotate_left
      · intro w hSw
        (try dsimp only at hSw)
        go_simp
        (try with_reducible rfl)
      simp only [Act.put, List.setIfInBounds_toArray, List.set_cons_zero, List.set_cons_succ]
      refine wpAnyH_take (i := 2) (v := ?_) (by simp only [List.getElem?_toArray, List.getElem?_cons_succ, List.getElem?_cons_zero]; rfl) (by kernel_rfl) (by kernel_rfl) (by kernel_rfl) (fun _ _ _ h => h) (Or.inl ⟨by rfl, ?_⟩) (by assumption) ?_
      rotate_left
      · intro w hSw
        (try dsimp only at hSw)
        go_simp
        (try with_reducible rfl)
      simp only [Act.put, List.setIfInBounds_toArray, List.set_cons_zero, List.set_cons_succ]
      refine wpAnyH_take (i := 3) (v := ?_) (by simp only [List.getElem?_toArray, List.getElem?_cons_succ, List.getElem?_cons_zero]; rfl) (by kernel_rfl) (by kernel_rfl) (by kernel_rfl) (fun _ _ _ h => h) (Or.inl ⟨by rfl, ?_⟩) (by assumption) ?_
      rotate_left
      · intro w hSw
        (try dsimp only at hSw)
        go_simp
        (try with_reducible rfl)
      simp only [Act.put, List.setIfInBounds_toArray, List.set_cons_zero, List.set_cons_succ]
      refine wpAnyH_ready (rs := [4]) (by kernel_rfl) (by simp) ?_
      refine AllReadyH.cons (by simp only [List.getElem?_toArray, List.getElem?_cons_succ, List.getElem?_cons_zero]; rfl) (fun K hK => ?_) AllReadyH.nil
      go_simp
      go_at_call 19; with_reducible refine (HLa.out _).mono ?_
      rintro e w' ⟨R, hR, hRl, A1, c1, rfl, hC1, kk⟩
      have eR := hR.unique (cnts_nil (upQ upto))
      subst eR
      try go_wp2_with fail
      refine hK.out _ _ ?_ (fun hHeld2 => ?_)
      · exact keepP9 bz0 bz0 bz0 bz0 bz0 bz1 bz1 hy1 hy1 hHeld kk
      clear hK K hHeld
      have hHeld := hHeld2
      clear hHeld2
      try simp only [Act.put, List.setIfInBounds_toArray, List.set_cons_zero, List.set_cons_succ]
      refine wpAnyH_ready (rs := [5]) (by kernel_rfl) (by simp) ?_
      refine AllReadyH.cons (by simp only [List.getElem?_toArray, List.getElem?_cons_succ, List.getElem?_cons_zero]; rfl) (fun K hK => ?_) AllReadyH.nil
      go_simp
      go_at_call 18; with_reducible refine (HGh.out A1 c1 _ (KB5.out.trans (hHeld.2.2.2.2.2.2.2.2.2)) hC1).mono ?_
      rintro e w' ⟨rfl, kk⟩
      rw [← HEq.out]
      try go_wp2_with fail
      refine hK.out _ _ ?_ (fun hHeld2 => ?_)
      · exact keepP9 bz0 bz0 bz0 bz0 bz0 bz1 bz1 hy1 hy1 hHeld kk
      clear hK K hHeld
      have hHeld := hHeld2
      clear hHeld2
      try simp only [Act.put, List.setIfInBounds_toArray, List.set_cons_zero, List.set_cons_succ]
      refine wpAnyH_take (i := 6) (v := ?_) (by simp only [List.getElem?_toArray, List.getElem?_cons_succ, List.getElem?_cons_zero]; rfl) (by kernel_rfl) (by kernel_rfl) (by kernel_rfl) (fun _ _ _ h => h) (Or.inl ⟨by rfl, ?_⟩) (by assumption) ?_
      rotate_left
      · intro w hSw
        (try dsimp only at hSw)
        go_simp
        (try with_reducible rfl)
      simp only [Act.put, List.setIfInBounds_toArray, List.set_cons_zero, List.set_cons_succ]
      try simp only [hhh]
      refine wpAnyH_take (i := 7) (v := ?_) (by simp only [List.getElem?_toArray, List.getElem?_cons_succ, List.getElem?_cons_zero]; rfl) (by kernel_rfl) (by kernel_rfl) (by kernel_rfl) (fun _ _ _ h => h) (Or.inl ⟨by rfl, ?_⟩) (by assumption) ?_
      rotate_left
      · intro w hSw
        (try dsimp only at hSw)
        go_simp
        (try with_reducible rfl)
      simp only [Act.put, List.setIfInBounds_toArray, List.set_cons_zero, List.set_cons_succ]
      refine wpAnyH_done (by kernel_rfl) ?_ _
      refine NoPanic.normal ?_
      have k := hHeld.2.2.2.2.2.2.2.2.2
      clear hHeld
      clear b00 b01 b02 b03 b04 bz0 b10 b11 bz1
      have KB6 := Lib.hid (KB5.out.trans k)
      clear k
      generalize w' = W6 at *
      go_wp2_with fail
      go_ret
      exact ⟨by first | rfl | (simp; done), K0.out.trans KB6.out⟩
    · have hbb : (boostC k pct == 0) = false := by rw [beq_eq_false_iff_ne]; exact hb
      obtain ⟨b00, b01, b02, b03, b04⟩ := (HB0.out.kept KB5.out).five
      have bz0 := (HB0.out.kept KB5.out).1
      obtain ⟨b10, b11⟩ := (HB1.out.kept KB5.out).two
      have bz1 := (HB1.out.kept KB5.out).1
      go_wp2_with fail
      clear b00 b01 b02 b03 b04 bz0 b10 b11 bz1
      refine (chain_any lA lc l (by omega) lhw bo hwbo W5 (HL.out.kept KB5.out)).mono ?_
      rintro e W6 ⟨A2, c2, rfl, hC2, _, k⟩
      replace x10 := (k.cell (p := ⟨y1, 0, none⟩) hy1).trans x10
      replace x11 := (k.cell (p := ⟨y1, 1, none⟩) hy1).trans x11
      replace hy1 := Nat.lt_of_lt_of_le hy1 k.size_le
      have KB6 := Lib.hid (KB5.out.trans k)
      clear k
      by_cases hc : (chainC l bo).length = 0
      · have hcb : (((chainC l bo).length : Int) == 0) = true := by rw [beq_iff_eq]; omega
        obtain ⟨b00, b01, b02, b03, b04⟩ := (HB0.out.kept KB6.out).five
        have bz0 := (HB0.out.kept KB6.out).1
        obtain ⟨b10, b11⟩ := (HB1.out.kept KB6.out).two
        have bz1 := (HB1.out.kept KB6.out).1
        go_wp2_with fail
        clear b00 b01 b02 b03 b04 bz0 b10 b11 bz1
        go_ret
        exact ⟨by first | rfl | (simp; done), K0.out.trans KB6.out⟩
      · have hcb : (((chainC l bo).length : Int) == 0) = false := by rw [beq_eq_false_iff_ne]; omega
        have hms := chain_there hc
        have hu : underC l bo h = true := by rw [HEh.out]; exact none_head hms.1 hms.2 (by omega)
        obtain ⟨b00, b01, b02, b03, b04⟩ := (HB0.out.kept KB6.out).five
        have bz0 := (HB0.out.kept KB6.out).1
        obtain ⟨b10, b11⟩ := (HB1.out.kept KB6.out).two
        have bz1 := (HB1.out.kept KB6.out).1
        go_wp2_with fail
        clear b00 b01 b02 b03 b04 bz0 b10 b11 bz1
        refine (under_any lA lc l (by omega) lhw bo h hwh W6 (HL.out.kept KB6.out)).mono ?_
        rintro e W7 ⟨rfl, k⟩
        have KB7 := Lib.hid (KB6.out.trans k)
        clear k
        rw [hu]
        obtain ⟨b00, b01, b02, b03, b04⟩ := (HB0.out.kept KB7.out).five
        have bz0 := (HB0.out.kept KB7.out).1
        obtain ⟨b10, b11⟩ := (HB1.out.kept KB7.out).two
        have bz1 := (HB1.out.kept KB7.out).1
        go_wp2_with fail
        clear b00 b01 b02 b03 b04 bz0 b10 b11 bz1
        go_ret
        exact ⟨by first | rfl | (simp; done), K0.out.trans KB7.out⟩

/-! ### The row's step -/
set_option maxRecDepth 100000 in
theorem lifted (os : Os) (started : os.Started) (H : Type) (enc : TypeId × Value → H) :
    ReturnsInHanded {} Try.checked os 9 .any (Rows.lmdNoneSpec.pre6 enc Try.prog Try.f9 Rows.lmdNoneRow.domain false) (Rows.lmdNoneSpec.post enc Try.prog Try.f9 false true false false) := by
  refine returnsInHanded_of_change (C := Try.checked) own started (by kernel_rfl) Try.func9
    (ChangeSpec.witness6 (enc := enc) (C := Try.checked) false ⟨#[], #[.agg #[.slice none 0 0, .int .u64 0, .int .i64 0, .int .i64 0, .int .i64 0], .slice none 0 0, .int .i64 0, .agg #[.int .u64 0, .int .u64 0], .int .i64 0], []⟩ 8 (by kernel_rfl) (by kernel_rfl) (by kernel_rfl) (by kernel_rfl)) ?_
  intro W base args ds gs before hval0 hW hcnd _
  have hval : ∀ (j : Nat) t v, Try.f9.params[j]? = some t → args[j]? = some v → Value.okWide Try.prog W .any base t v := hval0
  have hW' := hW
  obtain ⟨p, q, hA0, hV, rfl, hfz, hnd⟩ := hW
  have hA : DataW.TrodAll enc Try.prog W 0 (fun _ => true) true Try.f9.params.toList args.toList ds p := hA0
  rw [Try.params9] at hA hval
  obtain ⟨v0, vs0, d0, ds0, p0, q0, hargs, rfl, rfl, h0, r0⟩ := trodAll_cons hA
  obtain ⟨v1, vs1, d1, ds1, p1, q1, rfl, rfl, rfl, h1, r1⟩ := trodAll_cons r0
  obtain ⟨v2, vs2, d2, ds2, p2, q2, rfl, rfl, rfl, h2, r2⟩ := trodAll_cons r1
  obtain ⟨v3, vs3, d3, ds3, p3, q3, rfl, rfl, rfl, h3, r3⟩ := trodAll_cons r2
  obtain ⟨v4, vs4, d4, ds4, p4, q4, rfl, rfl, rfl, h4, r4⟩ := trodAll_cons r3
  obtain ⟨rfl, rfl, rfl⟩ := trodAll_nil r4
  obtain rfl : args = #[v0, v1, v2, v3, v4] := by cases args; simp_all
  obtain ⟨rfl, rfl⟩ := trodVars_none hV
  obtain ⟨kA, kc, k, rfl, khm, khs, khl⟩ := open_conf (hval 0 _ v0 rfl rfl) h0
  obtain ⟨lA, lc, l, rfl, lhm, lhc, lhw, lhl⟩ := open_blocks (hval 1 _ v1 rfl rfl) h1
  obtain ⟨upto, rfl, hupto1, hupto2⟩ := open_num (hval 2 _ v2 rfl rfl) h2
  obtain ⟨bo, rfl, hbo1, hbo2⟩ := open_id (hval 3 _ v3 rfl rfl) h3
  obtain ⟨pct, rfl, hpct1, hpct2⟩ := open_num (hval 4 _ v4 rfl rfl) h4
  clear hA0 hval0
  refine (walk W kA kc k khm khs khl lA lc l lhm lhc lhw lhl upto hupto1 hupto2 bo hbo1 hbo2 pct hpct1 hpct2).mono fun e W' ⟨he, hb⟩ => ?_
  subst he
  exact ⟨_, rfl, law_post rfl (by kernel_rfl) rfl hW' rfl hb⟩

theorem over : Rows.lmdNoneRow.holds Try.pinned (OpenSpec.ofChange Rows.lmdNoneSpec) :=
  OpenClaim.holds_of_wide 9 Try.f9 rfl rfl rfl rfl rfl rfl rfl ⟨rfl, rfl, rfl, rfl, rfl⟩ rfl rfl rfl rfl rfl (by kernel_rfl) Try.func9 (by kernel_rfl)
    (of_decide_eq_true (by kernel_rfl)) (by unfold Func.isWrapper; first | (rw [if_pos (by decide +kernel)]; kernel_rfl) | (rw [if_neg (by decide +kernel)]; exact ⟨rfl, rfl⟩))
    (fun os started H enc _ => lifted os started H enc)

/-- The statement. -/
theorem proved : Rows.LmdNoneSaid :=
  over
#print axioms proved

end Go.Proofs.Yteamjjkmcomabaa.lmdNone
