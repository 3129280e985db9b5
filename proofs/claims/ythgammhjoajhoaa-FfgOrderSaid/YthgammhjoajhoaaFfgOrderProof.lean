/-
  Law FfgOrder of layer 11: the order of links does not matter, nor what is there twice, whatever conf, blocks, links and number.
-/
import Derived.Test.YthgammhjoajhoaaFfgAwake
import Derived.Test.YthgammhjoajhoaaFfgFinals
import Derived.Test.YthgammhjoajhoaaDutyG
import Derived.Test.YthgammhjoajhoaaTreeG
import Derived.Test.YthgammhjoajhoaaFfgOpen
import Derived.Test.YthgammhjoajhoaaGround
import Derived.Test.YthgammhjoajhoaaFfgLaws
namespace Go.Proofs.Ythgammhjoajhoaa.ffgOrder
set_option maxRecDepth 100000
set_option linter.unusedVariables false
set_option linter.unusedSimpArgs false
open Go.ChangeShapes Go.WideShapes Go.ChangeAt Go.RowKit
set_option linter.unusedVariables false

/-! ### The walk: the call returns true, and of what was there nothing has changed. -/
attribute [local go_sem high] eqK in
set_option maxRecDepth 100000 in
set_option maxHeartbeats 3200000 in
theorem walk (w : World) (kA : Option Addr) (kc : Nat) (k : Cf) (khm : k.ws.length ≤ maxLen) (khs : k.seed < 18446744073709551616) (khl : CellsAt w w.heap.size kA (intCells k.ws)) (lA : Option Addr) (lc : Nat) (l : List Bk) (lhm : l.length ≤ maxLen) (lhc : l.length ≤ lc) (lhw : WfL l) (lhl : CellsAt w w.heap.size lA (blockCells l)) (vA : Option Addr) (vc : Nat) (v : List Lk) (vhm : v.length ≤ maxLen) (vhc : v.length ≤ vc) (vhw : WfLks v) (vhl : CellsAt w w.heap.size vA (lksCells v)) (n : Int) (hn1 : -9223372036854775808 ≤ n) (hn2 : n ≤ 9223372036854775807) :
    Calls Try.prog 5 #[.agg #[.slice kA k.ws.length kc, .int .u64 k.seed, .int .i64 k.ep, .int .i64 k.nu, .int .i64 k.de], .slice lA l.length lc, .slice vA v.length vc, .int .i64 n] w fun e w' => e = .returned (.bool true) ∧ Kept w w' := by
  cases hf : few11C k l v with
  | false =>
    go_enter Try.func5, Try.ntmps5
    go_wp2_with fail
    have K0 := Lib.hid ((Kept.refl w).alloc (.cells #[.slice kA k.ws.length kc, .int .u64 k.seed, .int .i64 k.ep, .int .i64 k.nu, .int .i64 k.de] 25))
    have HA := Lib.hid (khl.kept K0.out)
    clear khl
    have HL := Lib.hid (lhl.kept K0.out)
    clear lhl
    have HV := Lib.hid (vhl.kept K0.out)
    clear vhl
    have HB0 := Lib.hid (HasCells.new w #[.slice kA k.ws.length kc, .int .u64 k.seed, .int .i64 k.ep, .int .i64 k.nu, .int .i64 k.de] 25 (w.heap.size) (by simp))
    generalize (w.alloc (.cells #[.slice kA k.ws.length kc, .int .u64 k.seed, .int .i64 k.ep, .int .i64 k.nu, .int .i64 k.de] 25)) = W0 at *
    generalize w.heap.size = z0 at *
    have KB0 := Lib.hid (Kept.refl W0)
    refine (ffgAwake W0).mono ?_
    rintro e W1 ⟨rfl, k⟩
    have KB1 := Lib.hid (KB0.out.trans k)
    clear k
    obtain ⟨b00, b01, b02, b03, b04⟩ := (HB0.out.kept KB1.out).five
    have bz0 := (HB0.out.kept KB1.out).1
    go_wp2_with fail
    clear b00 b01 b02 b03 b04 bz0
    refine (few11_any kA kc k lA lc l vA vc v W1).mono ?_
    rintro e W2 ⟨rfl, k⟩
    have KB2 := Lib.hid (KB1.out.trans k)
    clear k
    rw [hf]
    obtain ⟨b00, b01, b02, b03, b04⟩ := (HB0.out.kept KB2.out).five
    have bz0 := (HB0.out.kept KB2.out).1
    go_wp2_with fail
    clear b00 b01 b02 b03 b04 bz0
    go_ret
    exact ⟨by first | rfl | (simp; done), K0.out.trans KB2.out⟩
  | true =>
    obtain ⟨hk40, hl20, hv40⟩ := few11C_yes hf
    have HF := Lib.hid hf
    clear hf
    by_cases h20 : v.length ≤ 20
    · by_cases h0 : n < 0
      · go_enter Try.func5, Try.ntmps5
        go_wp2_with fail
        have K0 := Lib.hid ((Kept.refl w).alloc (.cells #[.slice kA k.ws.length kc, .int .u64 k.seed, .int .i64 k.ep, .int .i64 k.nu, .int .i64 k.de] 25))
        have HA := Lib.hid (khl.kept K0.out)
        clear khl
        have HL := Lib.hid (lhl.kept K0.out)
        clear lhl
        have HV := Lib.hid (vhl.kept K0.out)
        clear vhl
        have HB0 := Lib.hid (HasCells.new w #[.slice kA k.ws.length kc, .int .u64 k.seed, .int .i64 k.ep, .int .i64 k.nu, .int .i64 k.de] 25 (w.heap.size) (by simp))
        generalize (w.alloc (.cells #[.slice kA k.ws.length kc, .int .u64 k.seed, .int .i64 k.ep, .int .i64 k.nu, .int .i64 k.de] 25)) = W0 at *
        generalize w.heap.size = z0 at *
        have KB0 := Lib.hid (Kept.refl W0)
        refine (ffgAwake W0).mono ?_
        rintro e W1 ⟨rfl, k⟩
        have KB1 := Lib.hid (KB0.out.trans k)
        clear k
        obtain ⟨b00, b01, b02, b03, b04⟩ := (HB0.out.kept KB1.out).five
        have bz0 := (HB0.out.kept KB1.out).1
        go_wp2_with fail
        clear b00 b01 b02 b03 b04 bz0
        refine (few11_any kA kc k lA lc l vA vc v W1).mono ?_
        rintro e W2 ⟨rfl, k⟩
        have KB2 := Lib.hid (KB1.out.trans k)
        clear k
        rw [HF.out]
        have h0b : decide (n < 0) = true := decide_eq_true h0
        obtain ⟨b00, b01, b02, b03, b04⟩ := (HB0.out.kept KB2.out).five
        have bz0 := (HB0.out.kept KB2.out).1
        go_wp2_with fail
        clear b00 b01 b02 b03 b04 bz0
        go_ret
        exact ⟨by first | rfl | (simp; done), K0.out.trans KB2.out⟩
      · by_cases h1 : (v.length : Int) < n
        · go_enter Try.func5, Try.ntmps5
          go_wp2_with fail
          have K0 := Lib.hid ((Kept.refl w).alloc (.cells #[.slice kA k.ws.length kc, .int .u64 k.seed, .int .i64 k.ep, .int .i64 k.nu, .int .i64 k.de] 25))
          have HA := Lib.hid (khl.kept K0.out)
          clear khl
          have HL := Lib.hid (lhl.kept K0.out)
          clear lhl
          have HV := Lib.hid (vhl.kept K0.out)
          clear vhl
          have HB0 := Lib.hid (HasCells.new w #[.slice kA k.ws.length kc, .int .u64 k.seed, .int .i64 k.ep, .int .i64 k.nu, .int .i64 k.de] 25 (w.heap.size) (by simp))
          generalize (w.alloc (.cells #[.slice kA k.ws.length kc, .int .u64 k.seed, .int .i64 k.ep, .int .i64 k.nu, .int .i64 k.de] 25)) = W0 at *
          generalize w.heap.size = z0 at *
          have KB0 := Lib.hid (Kept.refl W0)
          refine (ffgAwake W0).mono ?_
          rintro e W1 ⟨rfl, k⟩
          have KB1 := Lib.hid (KB0.out.trans k)
          clear k
          obtain ⟨b00, b01, b02, b03, b04⟩ := (HB0.out.kept KB1.out).five
          have bz0 := (HB0.out.kept KB1.out).1
          go_wp2_with fail
          clear b00 b01 b02 b03 b04 bz0
          refine (few11_any kA kc k lA lc l vA vc v W1).mono ?_
          rintro e W2 ⟨rfl, k⟩
          have KB2 := Lib.hid (KB1.out.trans k)
          clear k
          rw [HF.out]
          have h1b : decide ((v.length : Int) < n) = true := decide_eq_true h1
          obtain ⟨b00, b01, b02, b03, b04⟩ := (HB0.out.kept KB2.out).five
          have bz0 := (HB0.out.kept KB2.out).1
          go_wp2_with fail
          clear b00 b01 b02 b03 b04 bz0
          go_ret
          exact ⟨by first | rfl | (simp; done), K0.out.trans KB2.out⟩
        · obtain ⟨m, rfl⟩ : ∃ m : Nat, n = (m : Int) := ⟨n.toNat, by omega⟩
          go_enter Try.func5, Try.ntmps5
          go_wp2_with fail
          have K0 := Lib.hid ((Kept.refl w).alloc (.cells #[.slice kA k.ws.length kc, .int .u64 k.seed, .int .i64 k.ep, .int .i64 k.nu, .int .i64 k.de] 25))
          have HA := Lib.hid (khl.kept K0.out)
          clear khl
          have HL := Lib.hid (lhl.kept K0.out)
          clear lhl
          have HV := Lib.hid (vhl.kept K0.out)
          clear vhl
          have HB0 := Lib.hid (HasCells.new w #[.slice kA k.ws.length kc, .int .u64 k.seed, .int .i64 k.ep, .int .i64 k.nu, .int .i64 k.de] 25 (w.heap.size) (by simp))
          generalize (w.alloc (.cells #[.slice kA k.ws.length kc, .int .u64 k.seed, .int .i64 k.ep, .int .i64 k.nu, .int .i64 k.de] 25)) = W0 at *
          generalize w.heap.size = z0 at *
          have KB0 := Lib.hid (Kept.refl W0)
          refine (ffgAwake W0).mono ?_
          rintro e W1 ⟨rfl, k⟩
          have KB1 := Lib.hid (KB0.out.trans k)
          clear k
          obtain ⟨b00, b01, b02, b03, b04⟩ := (HB0.out.kept KB1.out).five
          have bz0 := (HB0.out.kept KB1.out).1
          go_wp2_with fail
          clear b00 b01 b02 b03 b04 bz0
          refine (few11_any kA kc k lA lc l vA vc v W1).mono ?_
          rintro e W2 ⟨rfl, k⟩
          have KB2 := Lib.hid (KB1.out.trans k)
          clear k
          rw [HF.out]
          have hm : m ≤ v.length := by omega
          have hq1 : decide ((m : Int) < 0) = false := decide_eq_false (by omega)
          have hq2 : decide ((v.length : Int) < (m : Int)) = false := decide_eq_false (by omega)
          obtain ⟨A', hfr, hA'⟩ := from_lks (HV.out.kept KB2.out) vc m hm vhc
          have HD := Lib.hid hA'
          clear hA'
          have HLd := Lib.hid (show (v.drop m).length = v.length - m from List.length_drop)
          have hb1 : ([] : List Lk).length + (v.length - m) ≤ 1000000 := by simp; omega
          have hb2 : ([] ++ v.drop m).length + v.length ≤ 1000000 := by rw [List.nil_append, HLd.out]; omega
          obtain ⟨nd, hnd⟩ : ∃ nd, ([] ++ v.drop m).length = nd := ⟨_, rfl⟩
          obtain ⟨nu, hnu⟩ : ∃ nu, ([] ++ v.drop m ++ v).length = nu := ⟨_, rfl⟩
          have HNd := Lib.hid hnd
          have HNu := Lib.hid hnu
          have hlu : nu ≤ 40 := by rw [← hnu, List.length_append, List.nil_append, HLd.out]; omega
          clear hnd hnu
          have hwu : WfLks ([] ++ v.drop m ++ v) := fun y hy => vhw y ((order_mem v m y).2 hy)
          have HMm := Lib.hid (order_mem v m)
          obtain ⟨b00, b01, b02, b03, b04⟩ := (HB0.out.kept KB2.out).five
          have bz0 := (HB0.out.kept KB2.out).1
          go_wp2_with (first | (refine wpList_lks _ rfl 27 Try.underlying27 _ _ rfl W2 ([] ++ v.drop m) _ rfl HV1 _ _ _ _ v rfl rfl ((HV.out.kept KB2.out).kept HV1.2) hb2 ?_; intro A2 c2 w2 HV2 _; rw [HNu.out] at HV2 ⊢) | (refine wpList_lks _ rfl 27 Try.underlying27 _ _ rfl W2 [] _ rfl (Lks.nil W2) _ _ _ _ (v.drop m) rfl HLd.out HD.out hb1 ?_; intro A1 c1 w1 HV1 _; rw [HNd.out] at HV1 ⊢))
          clear b00 b01 b02 b03 b04 bz0
          have hcu := HV2.cells HNu.out.symm
          have k := HV2.2
          clear HV1 HV2 hfr hb1 hb2
          have KB3 := Lib.hid (KB2.out.trans k)
          clear k
          replace HA := Lib.hid (HA.out.kept KB3.out)
          replace HL := Lib.hid (HL.out.kept KB3.out)
          replace HV := Lib.hid (HV.out.kept KB3.out)
          replace HB0 := Lib.hid (HB0.out.kept KB3.out)
          replace K0 := Lib.hid (K0.out.trans KB3.out)
          have KB4 := Lib.hid (Kept.refl w2)
          have HU := Lib.hid hcu
          clear hcu
          obtain ⟨u, hu⟩ : ∃ u, u = [] ++ v.drop m ++ v := ⟨_, rfl⟩
          rw [← hu] at HU HMm hwu HNu
          clear hu
          have HJ1 := Lib.hid (fun w' (kk : Kept w2 w') => ffgJust_any kA kc k lA lc l vA vc v w' (by omega) (by omega) lhw (by omega) vhw (HA.out.kept kk) (HL.out.kept kk) (HV.out.kept kk))
          have HJ2 := Lib.hid (fun w' (kk : Kept w2 w') => (show Calls Try.prog 10 #[.agg #[.slice kA k.ws.length kc, .int .u64 k.seed, .int .i64 k.ep, .int .i64 k.nu, .int .i64 k.de], .slice lA l.length lc, .slice A2 nu c2] w' (JustNew k l u w') from by
            have h := ffgJust_any kA kc k lA lc l A2 c2 u w' (by omega) (by omega) lhw (by rw [HNu.out]; omega) hwu (HA.out.kept kk) (HL.out.kept kk) (HU.out.kept kk)
            rw [HNu.out] at h
            exact h))
          have HF1 := Lib.hid (fun w' (kk : Kept w2 w') => ffgFinal_any kA kc k lA lc l vA vc v w' (by omega) (by omega) lhw (by omega) vhw (HA.out.kept kk) (HL.out.kept kk) (HV.out.kept kk))
          have HF2 := Lib.hid (fun w' (kk : Kept w2 w') => (show Calls Try.prog 11 #[.agg #[.slice kA k.ws.length kc, .int .u64 k.seed, .int .i64 k.ep, .int .i64 k.nu, .int .i64 k.de], .slice lA l.length lc, .slice A2 nu c2] w' (FinalNew k l u w') from by
            have h := ffgFinal_any kA kc k lA lc l A2 c2 u w' (by omega) (by omega) lhw (by rw [HNu.out]; omega) hwu (HA.out.kept kk) (HL.out.kept kk) (HU.out.kept kk)
            rw [HNu.out] at h
            exact h))
          have hul : u.length ≤ 40 := by rw [HNu.out]; omega
          clear HNu HU
          obtain ⟨b00, b01, b02, b03, b04⟩ := (HB0.out.kept KB4.out).five
          have bz0 := (HB0.out.kept KB4.out).1
          refine wp_region_noPanic ?_
          refine wp_region_held_drew (S := (fun w' => w'.cell? ⟨z0, 0, none⟩ = some (.slice kA k.ws.length kc) ∧ w'.cell? ⟨z0, 1, none⟩ = some (.int .u64 k.seed) ∧ w'.cell? ⟨z0, 2, none⟩ = some (.int .i64 k.ep) ∧ w'.cell? ⟨z0, 3, none⟩ = some (.int .i64 k.nu) ∧ w'.cell? ⟨z0, 4, none⟩ = some (.int .i64 k.de) ∧ Kept w2 w')) (by kernel_rfl) ?_ (fun hHeld => ?_)
          · exact ⟨b00, b01, b02, b03, b04, (Kept.refl _).drew⟩
          refine wpAnyH_take (i := 0) (v := ?_) (by simp only [List.getElem?_toArray, List.getElem?_cons_succ, List.getElem?_cons_zero]; rfl) (by kernel_rfl) (by kernel_rfl) (by kernel_rfl) (fun _ _ _ h => h) (Or.inl ⟨by rfl, ?_⟩) (by assumption) ?_
          rotate_left
          · intro w hSw
            (try dsimp only at hSw)
            go_simp
            (try with_reducible rfl)
          simp only [Act.put, List.setIfInBounds_toArray, List.set_cons_zero, List.set_cons_succ]
          refine wpAnyH_take (i := 1) (v := ?_) (by simp only [List.getElem?_toArray, List.getElem?_cons_succ, List.getElem?_cons_zero]; rfl) (by kernel_rfl) (by kernel_rfl) (by kernel_rfl) (fun _ _ _ h => h) (Or.inl ⟨by rfl, ?_⟩) (by assumption) ?_
          rotate_left
          · intro w hSw
            (try dsimp only at hSw)
            go_simp
            (try with_reducible rfl)
          simp only [Act.put, List.setIfInBounds_toArray, List.set_cons_zero, List.set_cons_succ]
          refine wpAnyH_take (i := 2) (v := ?_) (by simp only [List.getElem?_toArray, List.getElem?_cons_succ, List.getElem?_cons_zero]; rfl) (by kernel_rfl) (by kernel_rfl) (by kernel_rfl) (fun _ _ _ h => h) (Or.inl ⟨by rfl, ?_⟩) (by assumption) ?_
          rotate_left
          · intro w hSw
            (try dsimp only at hSw)
            go_simp
            (try with_reducible rfl)
          simp only [Act.put, List.setIfInBounds_toArray, List.set_cons_zero, List.set_cons_succ]
          refine wpAnyH_take (i := 4) (v := ?_) (by simp only [List.getElem?_toArray, List.getElem?_cons_succ, List.getElem?_cons_zero]; rfl) (by kernel_rfl) (by kernel_rfl) (by kernel_rfl) (fun _ _ _ h => h) (Or.inl ⟨by rfl, ?_⟩) (by assumption) ?_
          rotate_left
          · intro w hSw
            (try dsimp only at hSw)
            go_simp
            (try with_reducible rfl)
          simp only [Act.put, List.setIfInBounds_toArray, List.set_cons_zero, List.set_cons_succ]
          refine wpAnyH_take (i := 5) (v := ?_) (by simp only [List.getElem?_toArray, List.getElem?_cons_succ, List.getElem?_cons_zero]; rfl) (by kernel_rfl) (by kernel_rfl) (by kernel_rfl) (fun _ _ _ h => h) (Or.inl ⟨by rfl, ?_⟩) (by assumption) ?_
          rotate_left
          · intro w hSw
            (try dsimp only at hSw)
            go_simp
            (try with_reducible rfl)
          simp only [Act.put, List.setIfInBounds_toArray, List.set_cons_zero, List.set_cons_succ]
          refine wpAnyH_take (i := 6) (v := ?_) (by simp only [List.getElem?_toArray, List.getElem?_cons_succ, List.getElem?_cons_zero]; rfl) (by kernel_rfl) (by kernel_rfl) (by kernel_rfl) (fun _ _ _ h => h) (Or.inl ⟨by rfl, ?_⟩) (by assumption) ?_
          rotate_left
          · intro w hSw
            (try dsimp only at hSw)
            go_simp
            (try with_reducible rfl)
          simp only [Act.put, List.setIfInBounds_toArray, List.set_cons_zero, List.set_cons_succ]
          refine wpAnyH_ready (rs := [3]) (by kernel_rfl) (by simp) ?_
          refine AllReadyH.cons (by simp only [List.getElem?_toArray, List.getElem?_cons_succ, List.getElem?_cons_zero]; rfl) (fun K hK => ?_) AllReadyH.nil
          go_simp
          go_at_call 10; with_reducible refine (HJ1.out _ (KB4.out.trans hHeld.2.2.2.2.2)).mono ?_
          rintro e w' ⟨R, A3, c3, hR1, hl1, rfl, hC1, hc1, kk⟩
          try go_wp2_with fail
          refine hK.out _ _ ?_ (fun hHeld2 => ?_)
          · exact keepP5 bz0 bz0 bz0 bz0 bz0 hHeld kk
          clear hK K hHeld
          have hHeld := hHeld2
          clear hHeld2
          try simp only [Act.put, List.setIfInBounds_toArray, List.set_cons_zero, List.set_cons_succ]
          refine wpAnyH_ready (rs := [7]) (by kernel_rfl) (by simp) ?_
          refine AllReadyH.cons (by simp only [List.getElem?_toArray, List.getElem?_cons_succ, List.getElem?_cons_zero]; rfl) (fun K hK => ?_) AllReadyH.nil
          go_simp
          go_at_call 10; with_reducible refine (HJ2.out _ (KB4.out.trans hHeld.2.2.2.2.2)).mono ?_
          rintro e w' ⟨R2, A4, c4, hR2, hl2, rfl, hC2, hc2, kk⟩
          replace hC1 := hC1.kept kk
          have hRR := (hR1.mem hR2 HMm.out).symm
          subst hRR
          try go_wp2_with fail
          refine hK.out _ _ ?_ (fun hHeld2 => ?_)
          · exact keepP5 bz0 bz0 bz0 bz0 bz0 hHeld kk
          clear hK K hHeld
          have hHeld := hHeld2
          clear hHeld2
          try simp only [Act.put, List.setIfInBounds_toArray, List.set_cons_zero, List.set_cons_succ]
          refine wpAnyH_ready (rs := [8]) (by kernel_rfl) (by simp) ?_
          refine AllReadyH.cons (by simp only [List.getElem?_toArray, List.getElem?_cons_succ, List.getElem?_cons_zero]; rfl) (fun K hK => ?_) AllReadyH.nil
          go_simp
          go_at_call 15; with_reducible refine (refSameK_any A3 c3 _ A4 c4 _ (by omega) (by omega) _ hC1 hC2).mono ?_
          rintro e w' ⟨rfl, kk⟩
          try go_wp2_with fail
          refine hK.out _ _ ?_ (fun hHeld2 => ?_)
          · exact keepP5 bz0 bz0 bz0 bz0 bz0 hHeld kk
          clear hK K hHeld
          have hHeld := hHeld2
          clear hHeld2
          try simp only [Act.put, List.setIfInBounds_toArray, List.set_cons_zero, List.set_cons_succ]
          refine wpAnyH_take (i := 9) (v := ?_) (by simp only [List.getElem?_toArray, List.getElem?_cons_succ, List.getElem?_cons_zero]; rfl) (by kernel_rfl) (by kernel_rfl) (by kernel_rfl) (fun _ _ _ h => h) (Or.inl ⟨by rfl, ?_⟩) (by assumption) ?_
          rotate_left
          · intro w hSw
            (try dsimp only at hSw)
            go_simp
            (try with_reducible rfl)
          simp only [Act.put, List.setIfInBounds_toArray, List.set_cons_zero, List.set_cons_succ]
          refine wpAnyH_done (by kernel_rfl) ?_ _
          refine NoPanic.normal ?_
          have k := hHeld.2.2.2.2.2
          clear hHeld
          clear b00 b01 b02 b03 b04 bz0
          have hss := sameKs_iff.2 (rfl : R2 = R2)
          rw [hss]
          clear hss hC1 hC2 hR1 hR2 hl1 hl2 hc1 hc2
          have KB5 := Lib.hid (KB4.out.trans k)
          clear k
          generalize w' = W5 at *
          obtain ⟨b00, b01, b02, b03, b04⟩ := (HB0.out.kept KB5.out).five
          have bz0 := (HB0.out.kept KB5.out).1
          go_wp2_with fail
          clear b00 b01 b02 b03 b04 bz0
          obtain ⟨b00, b01, b02, b03, b04⟩ := (HB0.out.kept KB5.out).five
          have bz0 := (HB0.out.kept KB5.out).1
          refine wp_region_noPanic ?_
          refine wp_region_held_drew (S := (fun w' => w'.cell? ⟨z0, 0, none⟩ = some (.slice kA k.ws.length kc) ∧ w'.cell? ⟨z0, 1, none⟩ = some (.int .u64 k.seed) ∧ w'.cell? ⟨z0, 2, none⟩ = some (.int .i64 k.ep) ∧ w'.cell? ⟨z0, 3, none⟩ = some (.int .i64 k.nu) ∧ w'.cell? ⟨z0, 4, none⟩ = some (.int .i64 k.de) ∧ Kept W5 w')) (by kernel_rfl) ?_ (fun hHeld => ?_)
          · exact ⟨b00, b01, b02, b03, b04, (Kept.refl _).drew⟩
          refine wpAnyH_take (i := 0) (v := ?_) (by simp only [List.getElem?_toArray, List.getElem?_cons_succ, List.getElem?_cons_zero]; rfl) (by kernel_rfl) (by kernel_rfl) (by kernel_rfl) (fun _ _ _ h => h) (Or.inl ⟨by rfl, ?_⟩) (by assumption) ?_
          rotate_left
          · intro w hSw
            (try dsimp only at hSw)
            go_simp
            (try with_reducible rfl)
          simp only [Act.put, List.setIfInBounds_toArray, List.set_cons_zero, List.set_cons_succ]
          refine wpAnyH_take (i := 1) (v := ?_) (by simp only [List.getElem?_toArray, List.getElem?_cons_succ, List.getElem?_cons_zero]; rfl) (by kernel_rfl) (by kernel_rfl) (by kernel_rfl) (fun _ _ _ h => h) (Or.inl ⟨by rfl, ?_⟩) (by assumption) ?_
          rotate_left
          · intro w hSw
            (try dsimp only at hSw)
            go_simp
            (try with_reducible rfl)
          simp only [Act.put, List.setIfInBounds_toArray, List.set_cons_zero, List.set_cons_succ]
          refine wpAnyH_take (i := 2) (v := ?_) (by simp only [List.getElem?_toArray, List.getElem?_cons_succ, List.getElem?_cons_zero]; rfl) (by kernel_rfl) (by kernel_rfl) (by kernel_rfl) (fun _ _ _ h => h) (Or.inl ⟨by rfl, ?_⟩) (by assumption) ?_
          rotate_left
          · intro w hSw
            (try dsimp only at hSw)
            go_simp
            (try with_reducible rfl)
          simp only [Act.put, List.setIfInBounds_toArray, List.set_cons_zero, List.set_cons_succ]
          refine wpAnyH_take (i := 4) (v := ?_) (by simp only [List.getElem?_toArray, List.getElem?_cons_succ, List.getElem?_cons_zero]; rfl) (by kernel_rfl) (by kernel_rfl) (by kernel_rfl) (fun _ _ _ h => h) (Or.inl ⟨by rfl, ?_⟩) (by assumption) ?_
          rotate_left
          · intro w hSw
            (try dsimp only at hSw)
            go_simp
            (try with_reducible rfl)
          simp only [Act.put, List.setIfInBounds_toArray, List.set_cons_zero, List.set_cons_succ]
          refine wpAnyH_take (i := 5) (v := ?_) (by simp only [List.getElem?_toArray, List.getElem?_cons_succ, List.getElem?_cons_zero]; rfl) (by kernel_rfl) (by kernel_rfl) (by kernel_rfl) (fun _ _ _ h => h) (Or.inl ⟨by rfl, ?_⟩) (by assumption) ?_
          rotate_left
          · intro w hSw
            (try dsimp only at hSw)
            go_simp
            (try with_reducible rfl)
          simp only [Act.put, List.setIfInBounds_toArray, List.set_cons_zero, List.set_cons_succ]
          refine wpAnyH_take (i := 6) (v := ?_) (by simp only [List.getElem?_toArray, List.getElem?_cons_succ, List.getElem?_cons_zero]; rfl) (by kernel_rfl) (by kernel_rfl) (by kernel_rfl) (fun _ _ _ h => h) (Or.inl ⟨by rfl, ?_⟩) (by assumption) ?_
          rotate_left
          · intro w hSw
            (try dsimp only at hSw)
            go_simp
            (try with_reducible rfl)
          simp only [Act.put, List.setIfInBounds_toArray, List.set_cons_zero, List.set_cons_succ]
          refine wpAnyH_ready (rs := [3]) (by kernel_rfl) (by simp) ?_
          refine AllReadyH.cons (by simp only [List.getElem?_toArray, List.getElem?_cons_succ, List.getElem?_cons_zero]; rfl) (fun K hK => ?_) AllReadyH.nil
          go_simp
          go_at_call 11; with_reducible refine (HF1.out _ (KB5.out.trans hHeld.2.2.2.2.2)).mono ?_
          rintro e w' ⟨R, A3, c3, hR1, hl1, rfl, hC1, hc1, kk⟩
          try go_wp2_with fail
          refine hK.out _ _ ?_ (fun hHeld2 => ?_)
          · exact keepP5 bz0 bz0 bz0 bz0 bz0 hHeld kk
          clear hK K hHeld
          have hHeld := hHeld2
          clear hHeld2
          try simp only [Act.put, List.setIfInBounds_toArray, List.set_cons_zero, List.set_cons_succ]
          refine wpAnyH_ready (rs := [7]) (by kernel_rfl) (by simp) ?_
          refine AllReadyH.cons (by simp only [List.getElem?_toArray, List.getElem?_cons_succ, List.getElem?_cons_zero]; rfl) (fun K hK => ?_) AllReadyH.nil
          go_simp
          go_at_call 11; with_reducible refine (HF2.out _ (KB5.out.trans hHeld.2.2.2.2.2)).mono ?_
          rintro e w' ⟨R2, A4, c4, hR2, hl2, rfl, hC2, hc2, kk⟩
          replace hC1 := hC1.kept kk
          have hRR := (hR1.mem hR2 HMm.out).symm
          subst hRR
          try go_wp2_with fail
          refine hK.out _ _ ?_ (fun hHeld2 => ?_)
          · exact keepP5 bz0 bz0 bz0 bz0 bz0 hHeld kk
          clear hK K hHeld
          have hHeld := hHeld2
          clear hHeld2
          try simp only [Act.put, List.setIfInBounds_toArray, List.set_cons_zero, List.set_cons_succ]
          refine wpAnyH_ready (rs := [8]) (by kernel_rfl) (by simp) ?_
          refine AllReadyH.cons (by simp only [List.getElem?_toArray, List.getElem?_cons_succ, List.getElem?_cons_zero]; rfl) (fun K hK => ?_) AllReadyH.nil
          go_simp
          go_at_call 15; with_reducible refine (refSameK_any A3 c3 _ A4 c4 _ (by omega) (by omega) _ hC1 hC2).mono ?_
          rintro e w' ⟨rfl, kk⟩
          try go_wp2_with fail
          refine hK.out _ _ ?_ (fun hHeld2 => ?_)
          · exact keepP5 bz0 bz0 bz0 bz0 bz0 hHeld kk
          clear hK K hHeld
          have hHeld := hHeld2
          clear hHeld2
          try simp only [Act.put, List.setIfInBounds_toArray, List.set_cons_zero, List.set_cons_succ]
          refine wpAnyH_take (i := 9) (v := ?_) (by simp only [List.getElem?_toArray, List.getElem?_cons_succ, List.getElem?_cons_zero]; rfl) (by kernel_rfl) (by kernel_rfl) (by kernel_rfl) (fun _ _ _ h => h) (Or.inl ⟨by rfl, ?_⟩) (by assumption) ?_
          rotate_left
          · intro w hSw
            (try dsimp only at hSw)
            go_simp
            (try with_reducible rfl)
          simp only [Act.put, List.setIfInBounds_toArray, List.set_cons_zero, List.set_cons_succ]
          refine wpAnyH_done (by kernel_rfl) ?_ _
          refine NoPanic.normal ?_
          have k := hHeld.2.2.2.2.2
          clear hHeld
          clear b00 b01 b02 b03 b04 bz0
          have hss := sameKs_iff.2 (rfl : R2 = R2)
          rw [hss]
          clear hss hC1 hC2 hR1 hR2 hl1 hl2 hc1 hc2
          have KB6 := Lib.hid (KB5.out.trans k)
          clear k
          generalize w' = W6 at *
          obtain ⟨b00, b01, b02, b03, b04⟩ := (HB0.out.kept KB6.out).five
          have bz0 := (HB0.out.kept KB6.out).1
          go_wp2_with fail
          clear b00 b01 b02 b03 b04 bz0
          go_ret
          exact ⟨by first | rfl | (simp; done), K0.out.trans KB6.out⟩
    · go_enter Try.func5, Try.ntmps5
      go_wp2_with fail
      have K0 := Lib.hid ((Kept.refl w).alloc (.cells #[.slice kA k.ws.length kc, .int .u64 k.seed, .int .i64 k.ep, .int .i64 k.nu, .int .i64 k.de] 25))
      have HA := Lib.hid (khl.kept K0.out)
      clear khl
      have HL := Lib.hid (lhl.kept K0.out)
      clear lhl
      have HV := Lib.hid (vhl.kept K0.out)
      clear vhl
      have HB0 := Lib.hid (HasCells.new w #[.slice kA k.ws.length kc, .int .u64 k.seed, .int .i64 k.ep, .int .i64 k.nu, .int .i64 k.de] 25 (w.heap.size) (by simp))
      generalize (w.alloc (.cells #[.slice kA k.ws.length kc, .int .u64 k.seed, .int .i64 k.ep, .int .i64 k.nu, .int .i64 k.de] 25)) = W0 at *
      generalize w.heap.size = z0 at *
      have KB0 := Lib.hid (Kept.refl W0)
      refine (ffgAwake W0).mono ?_
      rintro e W1 ⟨rfl, k⟩
      have KB1 := Lib.hid (KB0.out.trans k)
      clear k
      obtain ⟨b00, b01, b02, b03, b04⟩ := (HB0.out.kept KB1.out).five
      have bz0 := (HB0.out.kept KB1.out).1
      go_wp2_with fail
      clear b00 b01 b02 b03 b04 bz0
      refine (few11_any kA kc k lA lc l vA vc v W1).mono ?_
      rintro e W2 ⟨rfl, k⟩
      have KB2 := Lib.hid (KB1.out.trans k)
      clear k
      rw [HF.out]
      have h20b : decide (20 < (v.length : Int)) = true := decide_eq_true (by omega)
      obtain ⟨b00, b01, b02, b03, b04⟩ := (HB0.out.kept KB2.out).five
      have bz0 := (HB0.out.kept KB2.out).1
      go_wp2_with fail
      clear b00 b01 b02 b03 b04 bz0
      go_ret
      exact ⟨by first | rfl | (simp; done), K0.out.trans KB2.out⟩

/-! ### The row's step -/
set_option maxRecDepth 100000 in
theorem lifted (os : Os) (started : os.Started) (H : Type) (enc : TypeId × Value → H) :
    ReturnsInHanded {} Try.checked os 5 .any (Rows.ffgOrderSpec.pre6 enc Try.prog Try.f5 Rows.ffgOrderRow.domain false) (Rows.ffgOrderSpec.post enc Try.prog Try.f5 false true false false) := by
  refine returnsInHanded_of_change (C := Try.checked) own started (by kernel_rfl) Try.func5
    (ChangeSpec.witness6 (enc := enc) (C := Try.checked) false ⟨#[], #[.agg #[.slice none 0 0, .int .u64 0, .int .i64 0, .int .i64 0, .int .i64 0], .slice none 0 0, .slice none 0 0, .int .i64 0], []⟩ 8 (by kernel_rfl) (by kernel_rfl) (by kernel_rfl) (by kernel_rfl)) ?_
  intro W base args ds gs before hval0 hW hcnd _
  have hval : ∀ (j : Nat) t v, Try.f5.params[j]? = some t → args[j]? = some v → Value.okWide Try.prog W .any base t v := hval0
  have hW' := hW
  obtain ⟨p, q, hA0, hV, rfl, hfz, hnd⟩ := hW
  have hA : DataW.TrodAll enc Try.prog W 0 (fun _ => true) true Try.f5.params.toList args.toList ds p := hA0
  rw [Try.params5] at hA hval
  obtain ⟨v0, vs0, d0, ds0, p0, q0, hargs, rfl, rfl, h0, r0⟩ := trodAll_cons hA
  obtain ⟨v1, vs1, d1, ds1, p1, q1, rfl, rfl, rfl, h1, r1⟩ := trodAll_cons r0
  obtain ⟨v2, vs2, d2, ds2, p2, q2, rfl, rfl, rfl, h2, r2⟩ := trodAll_cons r1
  obtain ⟨v3, vs3, d3, ds3, p3, q3, rfl, rfl, rfl, h3, r3⟩ := trodAll_cons r2
  obtain ⟨rfl, rfl, rfl⟩ := trodAll_nil r3
  obtain rfl : args = #[v0, v1, v2, v3] := by cases args; simp_all
  obtain ⟨rfl, rfl⟩ := trodVars_none hV
  obtain ⟨kA, kc, k, rfl, khm, khs, khl⟩ := open_conf (hval 0 _ v0 rfl rfl) h0
  obtain ⟨lA, lc, l, rfl, lhm, lhc, lhw, lhl⟩ := open_blocks (hval 1 _ v1 rfl rfl) h1
  obtain ⟨vA, vc, v, rfl, vhm, vhc, vhw, vhl⟩ := open_links (hval 2 _ v2 rfl rfl) h2
  obtain ⟨n, rfl, hn1, hn2⟩ := open_num (hval 3 _ v3 rfl rfl) h3
  clear hA0 hval0
  refine (walk W kA kc k khm khs khl lA lc l lhm lhc lhw lhl vA vc v vhm vhc vhw vhl n hn1 hn2).mono fun e W' ⟨he, hb⟩ => ?_
  subst he
  exact ⟨_, rfl, law_post rfl (by kernel_rfl) rfl hW' rfl hb⟩

theorem over : Rows.ffgOrderRow.holds Try.pinned (OpenSpec.ofChange Rows.ffgOrderSpec) :=
  OpenClaim.holds_of_wide 5 Try.f5 rfl rfl rfl rfl rfl rfl rfl ⟨rfl, rfl, rfl, rfl, rfl⟩ rfl rfl rfl rfl rfl (by kernel_rfl) Try.func5 (by kernel_rfl)
    (of_decide_eq_true (by kernel_rfl)) (by unfold Func.isWrapper; first | (rw [if_pos (by decide +kernel)]; kernel_rfl) | (rw [if_neg (by decide +kernel)]; exact ⟨rfl, rfl⟩))
    (fun os started H enc _ => lifted os started H enc)

/-- The statement. -/
theorem proved : Rows.FfgOrderSaid :=
  over
#print axioms proved

end Go.Proofs.Ythgammhjoajhoaa.ffgOrder
