/-
  Law FfgMore of layer 11: with one more link no fewer are justified, nor final, what is final is justified, and the first one is both, whatever conf, blocks, links and link.
-/
import Derived.Test.YthgammhjoajhoaaFfgAwake
import Derived.Test.YthgammhjoajhoaaFfgFinals
import Derived.Test.YthgammhjoajhoaaDutyG
import Derived.Test.YthgammhjoajhoaaTreeG
import Derived.Test.YthgammhjoajhoaaFfgOpen
import Derived.Test.YthgammhjoajhoaaGround
import Derived.Test.YthgammhjoajhoaaFfgLaws
namespace Go.Proofs.Ythgammhjoajhoaa.ffgMore
set_option maxRecDepth 100000
set_option linter.unusedVariables false
set_option linter.unusedSimpArgs false
open Go.ChangeShapes Go.WideShapes Go.ChangeAt Go.RowKit
set_option linter.unusedVariables false

/-! ### The walk: the call returns true, and of what was there nothing has changed. -/
attribute [local go_sem high] eqK eqKZ in
set_option maxRecDepth 100000 in
set_option maxHeartbeats 12800000 in
theorem walk (w : World) (kA : Option Addr) (kc : Nat) (k : Cf) (khm : k.ws.length ≤ maxLen) (khs : k.seed < 18446744073709551616) (khl : CellsAt w w.heap.size kA (intCells k.ws)) (lA : Option Addr) (lc : Nat) (l : List Bk) (lhm : l.length ≤ maxLen) (lhc : l.length ≤ lc) (lhw : WfL l) (lhl : CellsAt w w.heap.size lA (blockCells l)) (vA : Option Addr) (vc : Nat) (v : List Lk) (vhm : v.length ≤ maxLen) (vhc : v.length ≤ vc) (vhw : WfLks v) (vhl : CellsAt w w.heap.size vA (lksCells v)) (x : Lk) (hx : WfLk x) :
    Calls Try.prog 3 #[.agg #[.slice kA k.ws.length kc, .int .u64 k.seed, .int .i64 k.ep, .int .i64 k.nu, .int .i64 k.de], .slice lA l.length lc, .slice vA v.length vc, .agg #[.int .i64 x.f, .int .i64 x.s.e, .int .u64 x.s.r.1, .int .u64 x.s.r.2, .int .i64 x.t.e, .int .u64 x.t.r.1, .int .u64 x.t.r.2]] w fun e w' => e = .returned (.bool true) ∧ Kept w w' := by
  cases hf : few11C k l v with
  | false =>
    go_enter Try.func3, Try.ntmps3
    go_wp2_with fail
    have K0 := Lib.hid (((Kept.refl w).alloc (.cells #[.slice kA k.ws.length kc, .int .u64 k.seed, .int .i64 k.ep, .int .i64 k.nu, .int .i64 k.de] 25)).alloc (.cells #[.int .i64 x.f, .int .i64 x.s.e, .int .u64 x.s.r.1, .int .u64 x.s.r.2, .int .i64 x.t.e, .int .u64 x.t.r.1, .int .u64 x.t.r.2] 33))
    have HA := Lib.hid (khl.kept K0.out)
    clear khl
    have HL := Lib.hid (lhl.kept K0.out)
    clear lhl
    have HV := Lib.hid (vhl.kept K0.out)
    clear vhl
    have HB0 := Lib.hid ((HasCells.new w #[.slice kA k.ws.length kc, .int .u64 k.seed, .int .i64 k.ep, .int .i64 k.nu, .int .i64 k.de] 25 (w.heap.size) (by simp)).alloc (.cells #[.int .i64 x.f, .int .i64 x.s.e, .int .u64 x.s.r.1, .int .u64 x.s.r.2, .int .i64 x.t.e, .int .u64 x.t.r.1, .int .u64 x.t.r.2] 33))
    have HB1 := Lib.hid (HasCells.new (w.alloc (.cells #[.slice kA k.ws.length kc, .int .u64 k.seed, .int .i64 k.ep, .int .i64 k.nu, .int .i64 k.de] 25)) #[.int .i64 x.f, .int .i64 x.s.e, .int .u64 x.s.r.1, .int .u64 x.s.r.2, .int .i64 x.t.e, .int .u64 x.t.r.1, .int .u64 x.t.r.2] 33 (w.heap.size + 1) (by simp))
    generalize ((w.alloc (.cells #[.slice kA k.ws.length kc, .int .u64 k.seed, .int .i64 k.ep, .int .i64 k.nu, .int .i64 k.de] 25)).alloc (.cells #[.int .i64 x.f, .int .i64 x.s.e, .int .u64 x.s.r.1, .int .u64 x.s.r.2, .int .i64 x.t.e, .int .u64 x.t.r.1, .int .u64 x.t.r.2] 33)) = W0 at *
    generalize w.heap.size + 1 = z1 at *
    generalize w.heap.size = z0 at *
    have KB0 := Lib.hid (Kept.refl W0)
    refine (ffgAwake W0).mono ?_
    rintro e W1 ⟨rfl, k⟩
    have KB1 := Lib.hid (KB0.out.trans k)
    clear k
    obtain ⟨b00, b01, b02, b03, b04⟩ := (HB0.out.kept KB1.out).five
    have bz0 := (HB0.out.kept KB1.out).1
    obtain ⟨b10, b11, b12, b13, b14, b15, b16⟩ := (HB1.out.kept KB1.out).seven
    have bz1 := (HB1.out.kept KB1.out).1
    go_wp2_with fail
    clear b00 b01 b02 b03 b04 bz0 b10 b11 b12 b13 b14 b15 b16 bz1
    refine (few11_any kA kc k lA lc l vA vc v W1).mono ?_
    rintro e W2 ⟨rfl, k⟩
    have KB2 := Lib.hid (KB1.out.trans k)
    clear k
    rw [hf]
    obtain ⟨b00, b01, b02, b03, b04⟩ := (HB0.out.kept KB2.out).five
    have bz0 := (HB0.out.kept KB2.out).1
    obtain ⟨b10, b11, b12, b13, b14, b15, b16⟩ := (HB1.out.kept KB2.out).seven
    have bz1 := (HB1.out.kept KB2.out).1
    go_wp2_with fail
    clear b00 b01 b02 b03 b04 bz0 b10 b11 b12 b13 b14 b15 b16 bz1
    go_ret
    exact ⟨by first | rfl | (simp; done), K0.out.trans KB2.out⟩
  | true =>
    obtain ⟨hk40, hl20, hv40⟩ := few11C_yes hf
    have HF := Lib.hid hf
    clear hf
    go_enter Try.func3, Try.ntmps3
    go_wp2_with fail
    have K0 := Lib.hid (((Kept.refl w).alloc (.cells #[.slice kA k.ws.length kc, .int .u64 k.seed, .int .i64 k.ep, .int .i64 k.nu, .int .i64 k.de] 25)).alloc (.cells #[.int .i64 x.f, .int .i64 x.s.e, .int .u64 x.s.r.1, .int .u64 x.s.r.2, .int .i64 x.t.e, .int .u64 x.t.r.1, .int .u64 x.t.r.2] 33))
    have HA := Lib.hid (khl.kept K0.out)
    clear khl
    have HL := Lib.hid (lhl.kept K0.out)
    clear lhl
    have HV := Lib.hid (vhl.kept K0.out)
    clear vhl
    have HB0 := Lib.hid ((HasCells.new w #[.slice kA k.ws.length kc, .int .u64 k.seed, .int .i64 k.ep, .int .i64 k.nu, .int .i64 k.de] 25 (w.heap.size) (by simp)).alloc (.cells #[.int .i64 x.f, .int .i64 x.s.e, .int .u64 x.s.r.1, .int .u64 x.s.r.2, .int .i64 x.t.e, .int .u64 x.t.r.1, .int .u64 x.t.r.2] 33))
    have HB1 := Lib.hid (HasCells.new (w.alloc (.cells #[.slice kA k.ws.length kc, .int .u64 k.seed, .int .i64 k.ep, .int .i64 k.nu, .int .i64 k.de] 25)) #[.int .i64 x.f, .int .i64 x.s.e, .int .u64 x.s.r.1, .int .u64 x.s.r.2, .int .i64 x.t.e, .int .u64 x.t.r.1, .int .u64 x.t.r.2] 33 (w.heap.size + 1) (by simp))
    generalize ((w.alloc (.cells #[.slice kA k.ws.length kc, .int .u64 k.seed, .int .i64 k.ep, .int .i64 k.nu, .int .i64 k.de] 25)).alloc (.cells #[.int .i64 x.f, .int .i64 x.s.e, .int .u64 x.s.r.1, .int .u64 x.s.r.2, .int .i64 x.t.e, .int .u64 x.t.r.1, .int .u64 x.t.r.2] 33)) = W0 at *
    generalize w.heap.size + 1 = z1 at *
    generalize w.heap.size = z0 at *
    have KB0 := Lib.hid (Kept.refl W0)
    refine (ffgAwake W0).mono ?_
    rintro e W1 ⟨rfl, k⟩
    have KB1 := Lib.hid (KB0.out.trans k)
    clear k
    obtain ⟨b00, b01, b02, b03, b04⟩ := (HB0.out.kept KB1.out).five
    have bz0 := (HB0.out.kept KB1.out).1
    obtain ⟨b10, b11, b12, b13, b14, b15, b16⟩ := (HB1.out.kept KB1.out).seven
    have bz1 := (HB1.out.kept KB1.out).1
    go_wp2_with fail
    clear b00 b01 b02 b03 b04 bz0 b10 b11 b12 b13 b14 b15 b16 bz1
    refine (few11_any kA kc k lA lc l vA vc v W1).mono ?_
    rintro e W2 ⟨rfl, k⟩
    have KB2 := Lib.hid (KB1.out.trans k)
    clear k
    rw [HF.out]
    obtain ⟨b00, b01, b02, b03, b04⟩ := (HB0.out.kept KB2.out).five
    have bz0 := (HB0.out.kept KB2.out).1
    obtain ⟨b10, b11, b12, b13, b14, b15, b16⟩ := (HB1.out.kept KB2.out).seven
    have bz1 := (HB1.out.kept KB2.out).1
    go_wp2_with fail
    clear b00 b01 b02 b03 b04 bz0 b10 b11 b12 b13 b14 b15 b16 bz1
    refine (ffgJust_any kA kc k lA lc l vA vc v W2 (by omega) (by omega) lhw (by omega) vhw (HA.out.kept KB2.out) (HL.out.kept KB2.out) (HV.out.kept KB2.out)).mono ?_
    rintro e W3 ⟨R, Aa, ca, hR1, hl1, rfl, hC1, hc1, k⟩
    have KB3 := Lib.hid (KB2.out.trans k)
    clear k
    replace HA := Lib.hid (HA.out.kept KB3.out)
    replace HL := Lib.hid (HL.out.kept KB3.out)
    replace HV := Lib.hid (HV.out.kept KB3.out)
    replace HB0 := Lib.hid (HB0.out.kept KB3.out)
    replace HB1 := Lib.hid (HB1.out.kept KB3.out)
    replace K0 := Lib.hid (K0.out.trans KB3.out)
    have KB4 := Lib.hid (Kept.refl W3)
    have HRa := Lib.hid hC1
    clear hC1
    have HJa := Lib.hid hR1
    clear hR1
    have HC2 := Lib.hid (fun (B : Option Addr) cb w' (kk : Kept W3 w') (hB : CellsAt w' w'.heap.size B (lksCells (v ++ [x]))) => (show Calls Try.prog 10 #[.agg #[.slice kA k.ws.length kc, .int .u64 k.seed, .int .i64 k.ep, .int .i64 k.nu, .int .i64 k.de], .slice lA l.length lc, .slice B (v.length + 1) cb] w' (JustNew k l (v ++ [x]) w') from by
      have h := ffgJust_any kA kc k lA lc l B cb (v ++ [x]) w' (by omega) (by omega) lhw (by rw [List.length_append]; simp; omega) (fun y hy => by
        rcases List.mem_append.1 hy with q | q
        · exact vhw y q
        · rw [List.mem_singleton] at q; subst q; exact hx) (HA.out.kept kk) (HL.out.kept kk) hB
      rw [List.length_append] at h
      exact h))
    obtain ⟨b00, b01, b02, b03, b04⟩ := (HB0.out.kept KB4.out).five
    have bz0 := (HB0.out.kept KB4.out).1
    obtain ⟨b10, b11, b12, b13, b14, b15, b16⟩ := (HB1.out.kept KB4.out).seven
    have bz1 := (HB1.out.kept KB4.out).1
    go_wp2_with fail
    refine wp_region_noPanic ?_
    refine wp_region_held_drew (S := (fun w' => w'.cell? ⟨z0, 0, none⟩ = some (.slice kA k.ws.length kc) ∧ w'.cell? ⟨z0, 1, none⟩ = some (.int .u64 k.seed) ∧ w'.cell? ⟨z0, 2, none⟩ = some (.int .i64 k.ep) ∧ w'.cell? ⟨z0, 3, none⟩ = some (.int .i64 k.nu) ∧ w'.cell? ⟨z0, 4, none⟩ = some (.int .i64 k.de) ∧ w'.cell? ⟨z1, 0, none⟩ = some (.int .i64 x.f) ∧ w'.cell? ⟨z1, 1, none⟩ = some (.int .i64 x.s.e) ∧ w'.cell? ⟨z1, 2, none⟩ = some (.int .u64 x.s.r.1) ∧ w'.cell? ⟨z1, 3, none⟩ = some (.int .u64 x.s.r.2) ∧ w'.cell? ⟨z1, 4, none⟩ = some (.int .i64 x.t.e) ∧ w'.cell? ⟨z1, 5, none⟩ = some (.int .u64 x.t.r.1) ∧ w'.cell? ⟨z1, 6, none⟩ = some (.int .u64 x.t.r.2) ∧ Kept W3 w')) (by kernel_rfl) ?_ (fun hHeld => ?_)
    · exact ⟨b00, b01, b02, b03, b04, b10, b11, b12, b13, b14, b15, b16, (Kept.refl _).drew⟩
    refine wpAnyH_take (i := 0) (v := ?_) (by simp only [List.getElem?_toArray, List.getElem?_cons_succ, List.getElem?_cons_zero]; rfl) (by kernel_rfl) (by kernel_rfl) (by kernel_rfl) (fun _ _ _ h => h) (Or.inl ⟨by rfl, ?_⟩) (by assumption) ?_
    rotate_left
    · intro w hSw
      (try dsimp only at hSw)
      go_simp
      (try with_reducible rfl)
    simp only [Act.put, List.setIfInBounds_toArray, List.set_cons_zero, List.set_cons_succ]
    refine wpAnyH_take (i := 1) (v := ?_) (by simp only [List.getElem?_toArray, List.getElem?_cons_succ, List.getElem?_cons_zero]; rfl) (by kernel_rfl) (by kernel_rfl) (by kernel_rfl) (fun _ _ _ h => h) (Or.inl ⟨by rfl, ?_⟩) (by assumption) ?_
    rotate_left
    · intro w hSw
      (try dsimp only at hSw)
      go_simp
      (try with_reducible rfl)
    simp only [Act.put, List.setIfInBounds_toArray, List.set_cons_zero, List.set_cons_succ]
    refine wpAnyH_take (i := 2) (v := ?_) (by simp only [List.getElem?_toArray, List.getElem?_cons_succ, List.getElem?_cons_zero]; rfl) (by kernel_rfl) (by kernel_rfl) (by kernel_rfl) (fun _ _ _ h => h) (Or.inl ⟨by rfl, ?_⟩) (by assumption) ?_
    rotate_left
    · intro w hSw
      (try dsimp only at hSw)
      go_simp
      (try with_reducible rfl)
    simp only [Act.put, List.setIfInBounds_toArray, List.set_cons_zero, List.set_cons_succ]
    refine wpAnyH_take (i := 4) (v := ?_) (by simp only [List.getElem?_toArray, List.getElem?_cons_succ, List.getElem?_cons_zero]; rfl) (by kernel_rfl) (by kernel_rfl) (by kernel_rfl) (fun _ _ _ h => h) (Or.inl ⟨by rfl, ?_⟩) (by assumption) ?_
    rotate_left
    · intro w hSw
      (try dsimp only at hSw)
      go_simp
      (try with_reducible rfl)
    simp only [Act.put, List.setIfInBounds_toArray, List.set_cons_zero, List.set_cons_succ]
    refine wpAnyH_ready (rs := [3, 5]) (by kernel_rfl) (by simp) ?_
    refine AllReadyH.cons (by simp only [List.getElem?_toArray, List.getElem?_cons_succ, List.getElem?_cons_zero]; rfl) (fun K hK => ?_) (AllReadyH.cons (by simp only [List.getElem?_toArray, List.getElem?_cons_succ, List.getElem?_cons_zero]; rfl) (fun K hK => ?_) (AllReadyH.nil))
    · refine step_lks _ (by rfl) 27 Try.underlying27 (.const (.slice none 0 0)) (.tmp 38) (by rfl) _ [] _ (by rfl) (Lks.nil _) _ vA v.length vc v (by rfl) rfl ((HV.out.kept KB4.out).kept (Kept.drew (Kept.refl _))) (by simp; omega) ?_
      intro A1 c1 w1 hI _
      rw [List.nil_append] at hI ⊢
      have k1 : Kept W3 w1 := Kept.trans (Kept.drew (Kept.refl _)) hI.2
      refine hK.out _ _ ?_ (fun hHeld2 => ?_)
      · exact keepP12 bz0 bz0 bz0 bz0 bz0 bz1 bz1 bz1 bz1 bz1 bz1 bz1 ⟨b00, b01, b02, b03, b04, b10, b11, b12, b13, b14, b15, b16, Kept.refl _⟩ k1
      clear hK K hHeld
      have hHeld := hHeld2
      clear hHeld2
      try simp only [Act.put, List.setIfInBounds_toArray, List.set_cons_zero, List.set_cons_succ]
      refine wpAnyH_ready (rs := [5]) (by kernel_rfl) (by simp) ?_
      refine AllReadyH.cons (by simp only [List.getElem?_toArray, List.getElem?_cons_succ, List.getElem?_cons_zero]; rfl) (fun K hK => ?_) (AllReadyH.nil)
      go_simp
      refine hK.out _ _ ?_ (fun hHeld2 => ?_)
      · exact keepP12 bz0 bz0 bz0 bz0 bz0 bz1 bz1 bz1 bz1 bz1 bz1 bz1 hHeld ((Kept.refl _).alloc _)
      clear hK K hHeld
      have hHeld := hHeld2
      clear hHeld2
      try simp only [Act.put, List.setIfInBounds_toArray, List.set_cons_zero, List.set_cons_succ]
      refine wpAnyH_ready (rs := [6]) (by kernel_rfl) (by simp) ?_
      refine AllReadyH.cons (by simp only [List.getElem?_toArray, List.getElem?_cons_succ, List.getElem?_cons_zero]; rfl) (fun K hK => ?_) (AllReadyH.nil)
      refine step_lks _ (by rfl) 27 Try.underlying27 (.tmp 39) (.tmp 41) (by rfl) _ v _ (by rfl) (hI.alloc (.cells #[.int .i64 x.f, .int .i64 x.s.e, .int .u64 x.s.r.1, .int .u64 x.s.r.2, .int .i64 x.t.e, .int .u64 x.t.r.1, .int .u64 x.t.r.2] 33)) _ _ 1 1 [x] (by rfl) rfl (lks_new (t := x) w1.heap.size rfl 33) (by omega) ?_
      intro A6 c6 w6 hI6 _
      have k6 : Kept W3 w6 := Kept.trans (Kept.drew (Kept.refl _)) hI6.2
      have hC6 := hI6.cells rfl
      refine hK.out _ _ ?_ (fun hHeld2 => ?_)
      · exact keepP12 bz0 bz0 bz0 bz0 bz0 bz1 bz1 bz1 bz1 bz1 bz1 bz1 ⟨b00, b01, b02, b03, b04, b10, b11, b12, b13, b14, b15, b16, Kept.refl _⟩ k6
      clear hK K hHeld
      have hHeld := hHeld2
      clear hHeld2
      try simp only [Act.put, List.setIfInBounds_toArray, List.set_cons_zero, List.set_cons_succ]
      refine wpAnyH_ready (rs := [7]) (by kernel_rfl) (by simp) ?_
      refine AllReadyH.cons (by simp only [List.getElem?_toArray, List.getElem?_cons_succ, List.getElem?_cons_zero]; rfl) (fun K hK => ?_) (AllReadyH.nil)
      go_simp
      go_at_call 10; with_reducible refine (HC2.out A6 c6 _ hHeld.2.2.2.2.2.2.2.2.2.2.2.2 hC6).mono ?_
      rintro e w' ⟨R2, A2, c2, hR2, hl2, rfl, hC2, hc2, kk⟩
      refine hK.out _ _ ?_ (fun hHeld2 => ?_)
      · exact keepP12 bz0 bz0 bz0 bz0 bz0 bz1 bz1 bz1 bz1 bz1 bz1 bz1 hHeld kk
      clear hK K hHeld
      have hHeld := hHeld2
      clear hHeld2
      try simp only [Act.put, List.setIfInBounds_toArray, List.set_cons_zero, List.set_cons_succ]
      refine wpAnyH_take (i := 8) (v := ?_) (by simp only [List.getElem?_toArray, List.getElem?_cons_succ, List.getElem?_cons_zero]; rfl) (by kernel_rfl) (by kernel_rfl) (by kernel_rfl) (fun _ _ _ h => h) (Or.inl ⟨by rfl, ?_⟩) (by assumption) ?_
      rotate_left
      · intro w hSw
        (try dsimp only at hSw)
        go_simp
        (try with_reducible rfl)
      simp only [Act.put, List.setIfInBounds_toArray, List.set_cons_zero, List.set_cons_succ]
      refine wpAnyH_done (by kernel_rfl) ?_ _
      refine NoPanic.normal ?_
      have k := hHeld.2.2.2.2.2.2.2.2.2.2.2.2
      clear hHeld hC6 hI6 k6 hI k1 HC2 kk
      clear b00 b01 b02 b03 b04 bz0 b10 b11 b12 b13 b14 b15 b16 bz1
      have KB5 := Lib.hid (KB4.out.trans k)
      clear k
      generalize w' = W5 at *
      replace HA := Lib.hid (HA.out.kept KB5.out)
      replace HL := Lib.hid (HL.out.kept KB5.out)
      replace HV := Lib.hid (HV.out.kept KB5.out)
      replace HRa := Lib.hid (HRa.out.kept KB5.out)
      replace HB0 := Lib.hid (HB0.out.kept KB5.out)
      replace HB1 := Lib.hid (HB1.out.kept KB5.out)
      replace K0 := Lib.hid (K0.out.trans KB5.out)
      have KB6 := Lib.hid (Kept.refl W5)
      have HRb := Lib.hid hC2
      clear hC2
      have HJb := Lib.hid hR2
      clear hR2
      obtain ⟨b00, b01, b02, b03, b04⟩ := (HB0.out.kept KB6.out).five
      have bz0 := (HB0.out.kept KB6.out).1
      obtain ⟨b10, b11, b12, b13, b14, b15, b16⟩ := (HB1.out.kept KB6.out).seven
      have bz1 := (HB1.out.kept KB6.out).1
      go_wp2_with fail
      clear b00 b01 b02 b03 b04 bz0 b10 b11 b12 b13 b14 b15 b16 bz1
      refine (ffgFinal_any kA kc k lA lc l vA vc v W5 (by omega) (by omega) lhw (by omega) vhw (HA.out.kept KB6.out) (HL.out.kept KB6.out) (HV.out.kept KB6.out)).mono ?_
      rintro e W7 ⟨Fa, A3, c3, hF1, hf1, rfl, hC3, hc3, k⟩
      have KB7 := Lib.hid (KB6.out.trans k)
      clear k
      replace HA := Lib.hid (HA.out.kept KB7.out)
      replace HL := Lib.hid (HL.out.kept KB7.out)
      replace HV := Lib.hid (HV.out.kept KB7.out)
      replace HRa := Lib.hid (HRa.out.kept KB7.out)
      replace HRb := Lib.hid (HRb.out.kept KB7.out)
      replace HB0 := Lib.hid (HB0.out.kept KB7.out)
      replace HB1 := Lib.hid (HB1.out.kept KB7.out)
      replace K0 := Lib.hid (K0.out.trans KB7.out)
      have KB8 := Lib.hid (Kept.refl W7)
      have HFr := Lib.hid hC3
      clear hC3
      have HFa := Lib.hid hF1
      clear hF1
      have HC2 := Lib.hid (fun (B : Option Addr) cb w' (kk : Kept W7 w') (hB : CellsAt w' w'.heap.size B (lksCells (v ++ [x]))) => (show Calls Try.prog 11 #[.agg #[.slice kA k.ws.length kc, .int .u64 k.seed, .int .i64 k.ep, .int .i64 k.nu, .int .i64 k.de], .slice lA l.length lc, .slice B (v.length + 1) cb] w' (FinalNew k l (v ++ [x]) w') from by
        have h := ffgFinal_any kA kc k lA lc l B cb (v ++ [x]) w' (by omega) (by omega) lhw (by rw [List.length_append]; simp; omega) (fun y hy => by
          rcases List.mem_append.1 hy with q | q
          · exact vhw y q
          · rw [List.mem_singleton] at q; subst q; exact hx) (HA.out.kept kk) (HL.out.kept kk) hB
        rw [List.length_append] at h
        exact h))
      obtain ⟨b00, b01, b02, b03, b04⟩ := (HB0.out.kept KB8.out).five
      have bz0 := (HB0.out.kept KB8.out).1
      obtain ⟨b10, b11, b12, b13, b14, b15, b16⟩ := (HB1.out.kept KB8.out).seven
      have bz1 := (HB1.out.kept KB8.out).1
      go_wp2_with fail
      refine wp_region_noPanic ?_
      refine wp_region_held_drew (S := (fun w' => w'.cell? ⟨z0, 0, none⟩ = some (.slice kA k.ws.length kc) ∧ w'.cell? ⟨z0, 1, none⟩ = some (.int .u64 k.seed) ∧ w'.cell? ⟨z0, 2, none⟩ = some (.int .i64 k.ep) ∧ w'.cell? ⟨z0, 3, none⟩ = some (.int .i64 k.nu) ∧ w'.cell? ⟨z0, 4, none⟩ = some (.int .i64 k.de) ∧ w'.cell? ⟨z1, 0, none⟩ = some (.int .i64 x.f) ∧ w'.cell? ⟨z1, 1, none⟩ = some (.int .i64 x.s.e) ∧ w'.cell? ⟨z1, 2, none⟩ = some (.int .u64 x.s.r.1) ∧ w'.cell? ⟨z1, 3, none⟩ = some (.int .u64 x.s.r.2) ∧ w'.cell? ⟨z1, 4, none⟩ = some (.int .i64 x.t.e) ∧ w'.cell? ⟨z1, 5, none⟩ = some (.int .u64 x.t.r.1) ∧ w'.cell? ⟨z1, 6, none⟩ = some (.int .u64 x.t.r.2) ∧ Kept W7 w')) (by kernel_rfl) ?_ (fun hHeld => ?_)
      · exact ⟨b00, b01, b02, b03, b04, b10, b11, b12, b13, b14, b15, b16, (Kept.refl _).drew⟩
      refine wpAnyH_take (i := 0) (v := ?_) (by simp only [List.getElem?_toArray, List.getElem?_cons_succ, List.getElem?_cons_zero]; rfl) (by kernel_rfl) (by kernel_rfl) (by kernel_rfl) (fun _ _ _ h => h) (Or.inl ⟨by rfl, ?_⟩) (by assumption) ?_
      rotate_left
      · intro w hSw
        (try dsimp only at hSw)
        go_simp
        (try with_reducible rfl)
      simp only [Act.put, List.setIfInBounds_toArray, List.set_cons_zero, List.set_cons_succ]
      refine wpAnyH_take (i := 1) (v := ?_) (by simp only [List.getElem?_toArray, List.getElem?_cons_succ, List.getElem?_cons_zero]; rfl) (by kernel_rfl) (by kernel_rfl) (by kernel_rfl) (fun _ _ _ h => h) (Or.inl ⟨by rfl, ?_⟩) (by assumption) ?_
      rotate_left
      · intro w hSw
        (try dsimp only at hSw)
        go_simp
        (try with_reducible rfl)
      simp only [Act.put, List.setIfInBounds_toArray, List.set_cons_zero, List.set_cons_succ]
      refine wpAnyH_take (i := 2) (v := ?_) (by simp only [List.getElem?_toArray, List.getElem?_cons_succ, List.getElem?_cons_zero]; rfl) (by kernel_rfl) (by kernel_rfl) (by kernel_rfl) (fun _ _ _ h => h) (Or.inl ⟨by rfl, ?_⟩) (by assumption) ?_
      rotate_left
      · intro w hSw
        (try dsimp only at hSw)
        go_simp
        (try with_reducible rfl)
      simp only [Act.put, List.setIfInBounds_toArray, List.set_cons_zero, List.set_cons_succ]
      refine wpAnyH_take (i := 4) (v := ?_) (by simp only [List.getElem?_toArray, List.getElem?_cons_succ, List.getElem?_cons_zero]; rfl) (by kernel_rfl) (by kernel_rfl) (by kernel_rfl) (fun _ _ _ h => h) (Or.inl ⟨by rfl, ?_⟩) (by assumption) ?_
      rotate_left
      · intro w hSw
        (try dsimp only at hSw)
        go_simp
        (try with_reducible rfl)
      simp only [Act.put, List.setIfInBounds_toArray, List.set_cons_zero, List.set_cons_succ]
      refine wpAnyH_ready (rs := [3, 5]) (by kernel_rfl) (by simp) ?_
      refine AllReadyH.cons (by simp only [List.getElem?_toArray, List.getElem?_cons_succ, List.getElem?_cons_zero]; rfl) (fun K hK => ?_) (AllReadyH.cons (by simp only [List.getElem?_toArray, List.getElem?_cons_succ, List.getElem?_cons_zero]; rfl) (fun K hK => ?_) (AllReadyH.nil))
      · refine step_lks _ (by rfl) 27 Try.underlying27 (.const (.slice none 0 0)) (.tmp 50) (by rfl) _ [] _ (by rfl) (Lks.nil _) _ vA v.length vc v (by rfl) rfl ((HV.out.kept KB8.out).kept (Kept.drew (Kept.refl _))) (by simp; omega) ?_
        intro A1 c1 w1 hI _
        rw [List.nil_append] at hI ⊢
        have k1 : Kept W7 w1 := Kept.trans (Kept.drew (Kept.refl _)) hI.2
        refine hK.out _ _ ?_ (fun hHeld2 => ?_)
        · exact keepP12 bz0 bz0 bz0 bz0 bz0 bz1 bz1 bz1 bz1 bz1 bz1 bz1 ⟨b00, b01, b02, b03, b04, b10, b11, b12, b13, b14, b15, b16, Kept.refl _⟩ k1
        clear hK K hHeld
        have hHeld := hHeld2
        clear hHeld2
        try simp only [Act.put, List.setIfInBounds_toArray, List.set_cons_zero, List.set_cons_succ]
        refine wpAnyH_ready (rs := [5]) (by kernel_rfl) (by simp) ?_
        refine AllReadyH.cons (by simp only [List.getElem?_toArray, List.getElem?_cons_succ, List.getElem?_cons_zero]; rfl) (fun K hK => ?_) (AllReadyH.nil)
        go_simp
        refine hK.out _ _ ?_ (fun hHeld2 => ?_)
        · exact keepP12 bz0 bz0 bz0 bz0 bz0 bz1 bz1 bz1 bz1 bz1 bz1 bz1 hHeld ((Kept.refl _).alloc _)
        clear hK K hHeld
        have hHeld := hHeld2
        clear hHeld2
        try simp only [Act.put, List.setIfInBounds_toArray, List.set_cons_zero, List.set_cons_succ]
        refine wpAnyH_ready (rs := [6]) (by kernel_rfl) (by simp) ?_
        refine AllReadyH.cons (by simp only [List.getElem?_toArray, List.getElem?_cons_succ, List.getElem?_cons_zero]; rfl) (fun K hK => ?_) (AllReadyH.nil)
        refine step_lks _ (by rfl) 27 Try.underlying27 (.tmp 51) (.tmp 53) (by rfl) _ v _ (by rfl) (hI.alloc (.cells #[.int .i64 x.f, .int .i64 x.s.e, .int .u64 x.s.r.1, .int .u64 x.s.r.2, .int .i64 x.t.e, .int .u64 x.t.r.1, .int .u64 x.t.r.2] 33)) _ _ 1 1 [x] (by rfl) rfl (lks_new (t := x) w1.heap.size rfl 33) (by omega) ?_
        intro A6 c6 w6 hI6 _
        have k6 : Kept W7 w6 := Kept.trans (Kept.drew (Kept.refl _)) hI6.2
        have hC6 := hI6.cells rfl
        refine hK.out _ _ ?_ (fun hHeld2 => ?_)
        · exact keepP12 bz0 bz0 bz0 bz0 bz0 bz1 bz1 bz1 bz1 bz1 bz1 bz1 ⟨b00, b01, b02, b03, b04, b10, b11, b12, b13, b14, b15, b16, Kept.refl _⟩ k6
        clear hK K hHeld
        have hHeld := hHeld2
        clear hHeld2
        try simp only [Act.put, List.setIfInBounds_toArray, List.set_cons_zero, List.set_cons_succ]
        refine wpAnyH_ready (rs := [7]) (by kernel_rfl) (by simp) ?_
        refine AllReadyH.cons (by simp only [List.getElem?_toArray, List.getElem?_cons_succ, List.getElem?_cons_zero]; rfl) (fun K hK => ?_) (AllReadyH.nil)
        go_simp
        go_at_call 11; with_reducible refine (HC2.out A6 c6 _ hHeld.2.2.2.2.2.2.2.2.2.2.2.2 hC6).mono ?_
        rintro e w' ⟨G, A4, c4, hF2, hf2, rfl, hC4, hc4, kk⟩
        refine hK.out _ _ ?_ (fun hHeld2 => ?_)
        · exact keepP12 bz0 bz0 bz0 bz0 bz0 bz1 bz1 bz1 bz1 bz1 bz1 bz1 hHeld kk
        clear hK K hHeld
        have hHeld := hHeld2
        clear hHeld2
        try simp only [Act.put, List.setIfInBounds_toArray, List.set_cons_zero, List.set_cons_succ]
        refine wpAnyH_take (i := 8) (v := ?_) (by simp only [List.getElem?_toArray, List.getElem?_cons_succ, List.getElem?_cons_zero]; rfl) (by kernel_rfl) (by kernel_rfl) (by kernel_rfl) (fun _ _ _ h => h) (Or.inl ⟨by rfl, ?_⟩) (by assumption) ?_
        rotate_left
        · intro w hSw
          (try dsimp only at hSw)
          go_simp
          (try with_reducible rfl)
        simp only [Act.put, List.setIfInBounds_toArray, List.set_cons_zero, List.set_cons_succ]
        refine wpAnyH_done (by kernel_rfl) ?_ _
        refine NoPanic.normal ?_
        have k := hHeld.2.2.2.2.2.2.2.2.2.2.2.2
        clear hHeld hC6 hI6 k6 hI k1 HC2 kk
        clear b00 b01 b02 b03 b04 bz0 b10 b11 b12 b13 b14 b15 b16 bz1
        have KB9 := Lib.hid (KB8.out.trans k)
        clear k
        generalize w' = W9 at *
        replace HA := Lib.hid (HA.out.kept KB9.out)
        replace HL := Lib.hid (HL.out.kept KB9.out)
        replace HV := Lib.hid (HV.out.kept KB9.out)
        replace HRa := Lib.hid (HRa.out.kept KB9.out)
        replace HRb := Lib.hid (HRb.out.kept KB9.out)
        replace HFr := Lib.hid (HFr.out.kept KB9.out)
        replace HB0 := Lib.hid (HB0.out.kept KB9.out)
        replace HB1 := Lib.hid (HB1.out.kept KB9.out)
        replace K0 := Lib.hid (K0.out.trans KB9.out)
        have KB10 := Lib.hid (Kept.refl W9)
        have HGr := Lib.hid hC4
        clear hC4
        have HG := Lib.hid hF2
        clear hF2
        have hvx : (v ++ [x]).length ≤ 41 := by rw [List.length_append]; simp; omega
        have HS1 := Lib.hid (fun y (hy : y ∈ R) => hasK_iff.2 (HJa.out.more HJb.out (more_mem v x) hy))
        have HS2 := Lib.hid (fun y (hy : y ∈ Fa) => hasK_iff.2 (HFa.out.more HG.out (more_mem v x) hy))
        have HS3 := Lib.hid (fun y (hy : y ∈ Fa) => hasK_iff.2 (HFa.out.just HJa.out hy))
        have HZ := Lib.hid (fun (h : R.length = 0) => (show R2.length = 0 ∧ Fa.length = 0 ∧ G.length = 0 from by
          have hn := just_empty HJa.out h
          rw [HJb.out.none hn, HFa.out.none hn, HG.out.none hn]
          exact ⟨rfl, rfl, rfl⟩))
        have HH := Lib.hid (fun (h : ¬ R.length = 0) => (show ∃ (h1 : 0 < R.length) (h2 : 0 < Fa.length), R[0] = firstK ∧ Fa[0] = firstK from by
          have hm := just_some HJa.out h
          obtain ⟨S, e1⟩ := HJa.out.head hm
          obtain ⟨S', e2⟩ := HFa.out.head hm
          exact ⟨by rw [e1]; simp, by rw [e2]; simp, by simp [e1], by simp [e2]⟩))
        clear HJa HJb HFa HG
        go_wp2_with fail
        go_loopw [15] (fun i w' => ∃ n : Nat, n ≤ R.length ∧ i = .int .i64 n ∧ Kept W9 w') (fun i _ => R.length - (intOf i).toNat)
        case atStart => exact ⟨0, by omega, rfl, Kept.refl _⟩
        case round =>
          obtain ⟨n, hn, rfl, k1⟩ := hrel
          have KB11 := Lib.hid (KB10.out.trans k1)
          clear k1
          by_cases hlt : n < R.length
          · obtain ⟨zj, oj, rfl, hbj, e0, e1, e2⟩ := ck_at (HRa.out.kept KB11.out) hlt
            have HMe := Lib.hid (List.getElem_mem hlt)
            have HS1y := Lib.hid (HS1.out _ HMe.out)
            generalize R[n] = y at *
            go_wp2_with fail
            refine (refHasK_any A2 c2 R2 (by omega) y wr (HRb.out.kept KB11.out)).mono ?_
            rintro e V1 ⟨rfl, k1⟩
            rw [HS1y.out]
            have KB12 := Lib.hid (KB11.out.trans k1)
            clear k1
            go_wp2_with fail
            go_roundw
            case rel => exact ⟨n + 1, by omega, by go_num, KB12.out⟩
            case measure => simp [intOf]; omega
          · go_wp2_with fail
            have KL := Lib.hid KB11.out
            go_loopw [17] (fun i w' => ∃ n : Nat, n ≤ Fa.length ∧ i = .int .i64 n ∧ Kept W9 w') (fun i _ => Fa.length - (intOf i).toNat)
            case atStart => exact ⟨0, by omega, rfl, KL.out⟩
            case round =>
              obtain ⟨n, hn, rfl, k1⟩ := hrel
              clear KL
              have KB32 := Lib.hid (KB10.out.trans k1)
              clear k1
              by_cases hlt : n < Fa.length
              · obtain ⟨zj, oj, rfl, hbj, e0, e1, e2⟩ := ck_at (HFr.out.kept KB32.out) hlt
                have HMe := Lib.hid (List.getElem_mem hlt)
                have HS2y := Lib.hid (HS2.out _ HMe.out)
                have HS3y := Lib.hid (HS3.out _ HMe.out)
                generalize Fa[n] = y at *
                go_wp2_with fail
                refine (refHasK_any A4 c4 G (by omega) y wr (HGr.out.kept KB32.out)).mono ?_
                rintro e V1 ⟨rfl, k1⟩
                rw [HS2y.out]
                have e0' := (k1.cell (p := ⟨zj, oj + n * 3, none⟩) hbj).trans e0
                have e1' := (k1.cell (p := ⟨zj, oj + n * 3 + 1, none⟩) hbj).trans e1
                have e2' := (k1.cell (p := ⟨zj, oj + n * 3 + 2, none⟩) hbj).trans e2
                clear e0 e1 e2
                have KB33 := Lib.hid (KB32.out.trans k1)
                clear k1
                go_wp2_with fail
                refine (refHasK_any Aa ca R (by omega) y V1 (HRa.out.kept KB33.out)).mono ?_
                rintro e V2 ⟨rfl, k1⟩
                rw [HS3y.out]
                clear e0' e1' e2'
                have KB34 := Lib.hid (KB33.out.trans k1)
                clear k1
                go_wp2_with fail
                go_roundw
                case rel => exact ⟨n + 1, by omega, by go_num, KB34.out⟩
                case measure => simp [intOf]; omega
              · by_cases h0 : R.length = 0
                · obtain ⟨hz1, hz2, hz3⟩ := HZ.out h0
                  rw [h0, hz1, hz2, hz3]
                  go_wp2_with fail
                  go_ret
                  exact ⟨by first | rfl | (simp; done), K0.out.trans KB32.out⟩
                · obtain ⟨h1, h2, hr0, hf0⟩ := HH.out h0
                  obtain ⟨zr, or_, rfl, hbr, r0, r1, r2⟩ := ck_at (HRa.out.kept KB32.out) h1
                  obtain ⟨zf, of_, rfl, hbf, f0, f1, f2⟩ := ck_at (HFr.out.kept KB32.out) h2
                  have hsr : sameK R[0] firstK = true := sameK_yes hr0
                  have hsf : sameK Fa[0] firstK = true := sameK_yes hf0
                  clear hr0 hf0
                  generalize R[0] = yr at *
                  generalize Fa[0] = yf at *
                  rw [show or_ + 0 * 3 = or_ from by omega] at r0 r1 r2
                  rw [show of_ + 0 * 3 = of_ from by omega] at f0 f1 f2
                  have hn0 : ((R.length : Int) == 0) = false := by rw [beq_eq_false_iff_ne]; omega
                  have hp0 : decide ((0 : Int) < (Fa.length : Int)) = true := decide_eq_true (by omega)
                  have h0r : (0 : Int) < (R.length : Int) := by omega
                  have h0f : (0 : Int) < (Fa.length : Int) := by omega
                  go_wp2_with fail
                  go_ret
                  exact ⟨by first | rfl | (simp; done) | (simp; omega), K0.out.trans KB32.out⟩
      · go_simp
        refine hK.out _ _ ?_ (fun hHeld2 => ?_)
        · exact keepP12 bz0 bz0 bz0 bz0 bz0 bz1 bz1 bz1 bz1 bz1 bz1 bz1 hHeld ((Kept.refl _).alloc _)
        clear hK K hHeld
        have hHeld := hHeld2
        clear hHeld2
        try simp only [Act.put, List.setIfInBounds_toArray, List.set_cons_zero, List.set_cons_succ]
        refine wpAnyH_ready (rs := [3]) (by kernel_rfl) (by simp) ?_
        refine AllReadyH.cons (by simp only [List.getElem?_toArray, List.getElem?_cons_succ, List.getElem?_cons_zero]; rfl) (fun K hK => ?_) (AllReadyH.nil)
        refine step_lks _ (by rfl) 27 Try.underlying27 (.const (.slice none 0 0)) (.tmp 50) (by rfl) _ [] _ (by rfl) (Lks.nil _) _ vA v.length vc v (by rfl) rfl ((HV.out.kept KB8.out).kept (Kept.drew (Kept.alloc (Kept.refl _) _))) (by simp; omega) ?_
        intro A1 c1 w1 hI _
        rw [List.nil_append] at hI ⊢
        have k1 : Kept W7 w1 := Kept.trans (Kept.drew (Kept.alloc (Kept.refl _) _)) hI.2
        refine hK.out _ _ ?_ (fun hHeld2 => ?_)
        · exact keepP12 bz0 bz0 bz0 bz0 bz0 bz1 bz1 bz1 bz1 bz1 bz1 bz1 ⟨b00, b01, b02, b03, b04, b10, b11, b12, b13, b14, b15, b16, Kept.refl _⟩ k1
        clear hK K hHeld
        have hHeld := hHeld2
        clear hHeld2
        try simp only [Act.put, List.setIfInBounds_toArray, List.set_cons_zero, List.set_cons_succ]
        refine wpAnyH_ready (rs := [6]) (by kernel_rfl) (by simp) ?_
        refine AllReadyH.cons (by simp only [List.getElem?_toArray, List.getElem?_cons_succ, List.getElem?_cons_zero]; rfl) (fun K hK => ?_) (AllReadyH.nil)
        refine step_lks _ (by rfl) 27 Try.underlying27 (.tmp 51) (.tmp 53) (by rfl) _ v _ (by rfl) hI _ _ 1 1 [x] (by rfl) rfl ((lks_new (w := W7) (t := x) W7.heap.size rfl 33).kept (Kept.trans (Kept.drew (Kept.refl _)) hI.2)) (by omega) ?_
        intro A6 c6 w6 hI6 _
        have k6 : Kept W7 w6 := Kept.trans (Kept.drew (Kept.alloc (Kept.refl _) _)) hI6.2
        have hC6 := hI6.cells rfl
        refine hK.out _ _ ?_ (fun hHeld2 => ?_)
        · exact keepP12 bz0 bz0 bz0 bz0 bz0 bz1 bz1 bz1 bz1 bz1 bz1 bz1 ⟨b00, b01, b02, b03, b04, b10, b11, b12, b13, b14, b15, b16, Kept.refl _⟩ k6
        clear hK K hHeld
        have hHeld := hHeld2
        clear hHeld2
        try simp only [Act.put, List.setIfInBounds_toArray, List.set_cons_zero, List.set_cons_succ]
        refine wpAnyH_ready (rs := [7]) (by kernel_rfl) (by simp) ?_
        refine AllReadyH.cons (by simp only [List.getElem?_toArray, List.getElem?_cons_succ, List.getElem?_cons_zero]; rfl) (fun K hK => ?_) (AllReadyH.nil)
        go_simp
        go_at_call 11; with_reducible refine (HC2.out A6 c6 _ hHeld.2.2.2.2.2.2.2.2.2.2.2.2 hC6).mono ?_
        rintro e w' ⟨G, A4, c4, hF2, hf2, rfl, hC4, hc4, kk⟩
        refine hK.out _ _ ?_ (fun hHeld2 => ?_)
        · exact keepP12 bz0 bz0 bz0 bz0 bz0 bz1 bz1 bz1 bz1 bz1 bz1 bz1 hHeld kk
        clear hK K hHeld
        have hHeld := hHeld2
        clear hHeld2
        try simp only [Act.put, List.setIfInBounds_toArray, List.set_cons_zero, List.set_cons_succ]
        refine wpAnyH_take (i := 8) (v := ?_) (by simp only [List.getElem?_toArray, List.getElem?_cons_succ, List.getElem?_cons_zero]; rfl) (by kernel_rfl) (by kernel_rfl) (by kernel_rfl) (fun _ _ _ h => h) (Or.inl ⟨by rfl, ?_⟩) (by assumption) ?_
        rotate_left
        · intro w hSw
          (try dsimp only at hSw)
          go_simp
          (try with_reducible rfl)
        simp only [Act.put, List.setIfInBounds_toArray, List.set_cons_zero, List.set_cons_succ]
        refine wpAnyH_done (by kernel_rfl) ?_ _
        refine NoPanic.normal ?_
        have k := hHeld.2.2.2.2.2.2.2.2.2.2.2.2
        clear hHeld hC6 hI6 k6 hI k1 HC2 kk
        clear b00 b01 b02 b03 b04 bz0 b10 b11 b12 b13 b14 b15 b16 bz1
        have KB9 := Lib.hid (KB8.out.trans k)
        clear k
        generalize w' = W9 at *
        replace HA := Lib.hid (HA.out.kept KB9.out)
        replace HL := Lib.hid (HL.out.kept KB9.out)
        replace HV := Lib.hid (HV.out.kept KB9.out)
        replace HRa := Lib.hid (HRa.out.kept KB9.out)
        replace HRb := Lib.hid (HRb.out.kept KB9.out)
        replace HFr := Lib.hid (HFr.out.kept KB9.out)
        replace HB0 := Lib.hid (HB0.out.kept KB9.out)
        replace HB1 := Lib.hid (HB1.out.kept KB9.out)
        replace K0 := Lib.hid (K0.out.trans KB9.out)
        have KB10 := Lib.hid (Kept.refl W9)
        have HGr := Lib.hid hC4
        clear hC4
        have HG := Lib.hid hF2
        clear hF2
        have hvx : (v ++ [x]).length ≤ 41 := by rw [List.length_append]; simp; omega
        have HS1 := Lib.hid (fun y (hy : y ∈ R) => hasK_iff.2 (HJa.out.more HJb.out (more_mem v x) hy))
        have HS2 := Lib.hid (fun y (hy : y ∈ Fa) => hasK_iff.2 (HFa.out.more HG.out (more_mem v x) hy))
        have HS3 := Lib.hid (fun y (hy : y ∈ Fa) => hasK_iff.2 (HFa.out.just HJa.out hy))
        have HZ := Lib.hid (fun (h : R.length = 0) => (show R2.length = 0 ∧ Fa.length = 0 ∧ G.length = 0 from by
          have hn := just_empty HJa.out h
          rw [HJb.out.none hn, HFa.out.none hn, HG.out.none hn]
          exact ⟨rfl, rfl, rfl⟩))
        have HH := Lib.hid (fun (h : ¬ R.length = 0) => (show ∃ (h1 : 0 < R.length) (h2 : 0 < Fa.length), R[0] = firstK ∧ Fa[0] = firstK from by
          have hm := just_some HJa.out h
          obtain ⟨S, e1⟩ := HJa.out.head hm
          obtain ⟨S', e2⟩ := HFa.out.head hm
          exact ⟨by rw [e1]; simp, by rw [e2]; simp, by simp [e1], by simp [e2]⟩))
        clear HJa HJb HFa HG
        go_wp2_with fail
        go_loopw [15] (fun i w' => ∃ n : Nat, n ≤ R.length ∧ i = .int .i64 n ∧ Kept W9 w') (fun i _ => R.length - (intOf i).toNat)
        case atStart => exact ⟨0, by omega, rfl, Kept.refl _⟩
        case round =>
          obtain ⟨n, hn, rfl, k1⟩ := hrel
          have KB11 := Lib.hid (KB10.out.trans k1)
          clear k1
          by_cases hlt : n < R.length
          · obtain ⟨zj, oj, rfl, hbj, e0, e1, e2⟩ := ck_at (HRa.out.kept KB11.out) hlt
            have HMe := Lib.hid (List.getElem_mem hlt)
            have HS1y := Lib.hid (HS1.out _ HMe.out)
            generalize R[n] = y at *
            go_wp2_with fail
            refine (refHasK_any A2 c2 R2 (by omega) y wr (HRb.out.kept KB11.out)).mono ?_
            rintro e V1 ⟨rfl, k1⟩
            rw [HS1y.out]
            have KB12 := Lib.hid (KB11.out.trans k1)
            clear k1
            go_wp2_with fail
            go_roundw
            case rel => exact ⟨n + 1, by omega, by go_num, KB12.out⟩
            case measure => simp [intOf]; omega
          · go_wp2_with fail
            have KL := Lib.hid KB11.out
            go_loopw [17] (fun i w' => ∃ n : Nat, n ≤ Fa.length ∧ i = .int .i64 n ∧ Kept W9 w') (fun i _ => Fa.length - (intOf i).toNat)
            case atStart => exact ⟨0, by omega, rfl, KL.out⟩
            case round =>
              obtain ⟨n, hn, rfl, k1⟩ := hrel
              clear KL
              have KB32 := Lib.hid (KB10.out.trans k1)
              clear k1
              by_cases hlt : n < Fa.length
              · obtain ⟨zj, oj, rfl, hbj, e0, e1, e2⟩ := ck_at (HFr.out.kept KB32.out) hlt
                have HMe := Lib.hid (List.getElem_mem hlt)
                have HS2y := Lib.hid (HS2.out _ HMe.out)
                have HS3y := Lib.hid (HS3.out _ HMe.out)
                generalize Fa[n] = y at *
                go_wp2_with fail
                refine (refHasK_any A4 c4 G (by omega) y wr (HGr.out.kept KB32.out)).mono ?_
                rintro e V1 ⟨rfl, k1⟩
                rw [HS2y.out]
                have e0' := (k1.cell (p := ⟨zj, oj + n * 3, none⟩) hbj).trans e0
                have e1' := (k1.cell (p := ⟨zj, oj + n * 3 + 1, none⟩) hbj).trans e1
                have e2' := (k1.cell (p := ⟨zj, oj + n * 3 + 2, none⟩) hbj).trans e2
                clear e0 e1 e2
                have KB33 := Lib.hid (KB32.out.trans k1)
                clear k1
                go_wp2_with fail
                refine (refHasK_any Aa ca R (by omega) y V1 (HRa.out.kept KB33.out)).mono ?_
                rintro e V2 ⟨rfl, k1⟩
                rw [HS3y.out]
                clear e0' e1' e2'
                have KB34 := Lib.hid (KB33.out.trans k1)
                clear k1
                go_wp2_with fail
                go_roundw
                case rel => exact ⟨n + 1, by omega, by go_num, KB34.out⟩
                case measure => simp [intOf]; omega
              · by_cases h0 : R.length = 0
                · obtain ⟨hz1, hz2, hz3⟩ := HZ.out h0
                  rw [h0, hz1, hz2, hz3]
                  go_wp2_with fail
                  go_ret
                  exact ⟨by first | rfl | (simp; done), K0.out.trans KB32.out⟩
                · obtain ⟨h1, h2, hr0, hf0⟩ := HH.out h0
                  obtain ⟨zr, or_, rfl, hbr, r0, r1, r2⟩ := ck_at (HRa.out.kept KB32.out) h1
                  obtain ⟨zf, of_, rfl, hbf, f0, f1, f2⟩ := ck_at (HFr.out.kept KB32.out) h2
                  have hsr : sameK R[0] firstK = true := sameK_yes hr0
                  have hsf : sameK Fa[0] firstK = true := sameK_yes hf0
                  clear hr0 hf0
                  generalize R[0] = yr at *
                  generalize Fa[0] = yf at *
                  rw [show or_ + 0 * 3 = or_ from by omega] at r0 r1 r2
                  rw [show of_ + 0 * 3 = of_ from by omega] at f0 f1 f2
                  have hn0 : ((R.length : Int) == 0) = false := by rw [beq_eq_false_iff_ne]; omega
                  have hp0 : decide ((0 : Int) < (Fa.length : Int)) = true := decide_eq_true (by omega)
                  have h0r : (0 : Int) < (R.length : Int) := by omega
                  have h0f : (0 : Int) < (Fa.length : Int) := by omega
                  go_wp2_with fail
                  go_ret
                  exact ⟨by first | rfl | (simp; done) | (simp; omega), K0.out.trans KB32.out⟩
    · go_simp
      refine hK.out _ _ ?_ (fun hHeld2 => ?_)
      · exact keepP12 bz0 bz0 bz0 bz0 bz0 bz1 bz1 bz1 bz1 bz1 bz1 bz1 hHeld ((Kept.refl _).alloc _)
      clear hK K hHeld
      have hHeld := hHeld2
      clear hHeld2
      try simp only [Act.put, List.setIfInBounds_toArray, List.set_cons_zero, List.set_cons_succ]
      refine wpAnyH_ready (rs := [3]) (by kernel_rfl) (by simp) ?_
      refine AllReadyH.cons (by simp only [List.getElem?_toArray, List.getElem?_cons_succ, List.getElem?_cons_zero]; rfl) (fun K hK => ?_) (AllReadyH.nil)
      refine step_lks _ (by rfl) 27 Try.underlying27 (.const (.slice none 0 0)) (.tmp 38) (by rfl) _ [] _ (by rfl) (Lks.nil _) _ vA v.length vc v (by rfl) rfl ((HV.out.kept KB4.out).kept (Kept.drew (Kept.alloc (Kept.refl _) _))) (by simp; omega) ?_
      intro A1 c1 w1 hI _
      rw [List.nil_append] at hI ⊢
      have k1 : Kept W3 w1 := Kept.trans (Kept.drew (Kept.alloc (Kept.refl _) _)) hI.2
      refine hK.out _ _ ?_ (fun hHeld2 => ?_)
      · exact keepP12 bz0 bz0 bz0 bz0 bz0 bz1 bz1 bz1 bz1 bz1 bz1 bz1 ⟨b00, b01, b02, b03, b04, b10, b11, b12, b13, b14, b15, b16, Kept.refl _⟩ k1
      clear hK K hHeld
      have hHeld := hHeld2
      clear hHeld2
      try simp only [Act.put, List.setIfInBounds_toArray, List.set_cons_zero, List.set_cons_succ]
      refine wpAnyH_ready (rs := [6]) (by kernel_rfl) (by simp) ?_
      refine AllReadyH.cons (by simp only [List.getElem?_toArray, List.getElem?_cons_succ, List.getElem?_cons_zero]; rfl) (fun K hK => ?_) (AllReadyH.nil)
      refine step_lks _ (by rfl) 27 Try.underlying27 (.tmp 39) (.tmp 41) (by rfl) _ v _ (by rfl) hI _ _ 1 1 [x] (by rfl) rfl ((lks_new (w := W3) (t := x) W3.heap.size rfl 33).kept (Kept.trans (Kept.drew (Kept.refl _)) hI.2)) (by omega) ?_
      intro A6 c6 w6 hI6 _
      have k6 : Kept W3 w6 := Kept.trans (Kept.drew (Kept.alloc (Kept.refl _) _)) hI6.2
      have hC6 := hI6.cells rfl
      refine hK.out _ _ ?_ (fun hHeld2 => ?_)
      · exact keepP12 bz0 bz0 bz0 bz0 bz0 bz1 bz1 bz1 bz1 bz1 bz1 bz1 ⟨b00, b01, b02, b03, b04, b10, b11, b12, b13, b14, b15, b16, Kept.refl _⟩ k6
      clear hK K hHeld
      have hHeld := hHeld2
      clear hHeld2
      try simp only [Act.put, List.setIfInBounds_toArray, List.set_cons_zero, List.set_cons_succ]
      refine wpAnyH_ready (rs := [7]) (by kernel_rfl) (by simp) ?_
      refine AllReadyH.cons (by simp only [List.getElem?_toArray, List.getElem?_cons_succ, List.getElem?_cons_zero]; rfl) (fun K hK => ?_) (AllReadyH.nil)
      go_simp
      go_at_call 10; with_reducible refine (HC2.out A6 c6 _ hHeld.2.2.2.2.2.2.2.2.2.2.2.2 hC6).mono ?_
      rintro e w' ⟨R2, A2, c2, hR2, hl2, rfl, hC2, hc2, kk⟩
      refine hK.out _ _ ?_ (fun hHeld2 => ?_)
      · exact keepP12 bz0 bz0 bz0 bz0 bz0 bz1 bz1 bz1 bz1 bz1 bz1 bz1 hHeld kk
      clear hK K hHeld
      have hHeld := hHeld2
      clear hHeld2
      try simp only [Act.put, List.setIfInBounds_toArray, List.set_cons_zero, List.set_cons_succ]
      refine wpAnyH_take (i := 8) (v := ?_) (by simp only [List.getElem?_toArray, List.getElem?_cons_succ, List.getElem?_cons_zero]; rfl) (by kernel_rfl) (by kernel_rfl) (by kernel_rfl) (fun _ _ _ h => h) (Or.inl ⟨by rfl, ?_⟩) (by assumption) ?_
      rotate_left
      · intro w hSw
        (try dsimp only at hSw)
        go_simp
        (try with_reducible rfl)
      simp only [Act.put, List.setIfInBounds_toArray, List.set_cons_zero, List.set_cons_succ]
      refine wpAnyH_done (by kernel_rfl) ?_ _
      refine NoPanic.normal ?_
      have k := hHeld.2.2.2.2.2.2.2.2.2.2.2.2
      clear hHeld hC6 hI6 k6 hI k1 HC2 kk
      clear b00 b01 b02 b03 b04 bz0 b10 b11 b12 b13 b14 b15 b16 bz1
      have KB5 := Lib.hid (KB4.out.trans k)
      clear k
      generalize w' = W5 at *
      replace HA := Lib.hid (HA.out.kept KB5.out)
      replace HL := Lib.hid (HL.out.kept KB5.out)
      replace HV := Lib.hid (HV.out.kept KB5.out)
      replace HRa := Lib.hid (HRa.out.kept KB5.out)
      replace HB0 := Lib.hid (HB0.out.kept KB5.out)
      replace HB1 := Lib.hid (HB1.out.kept KB5.out)
      replace K0 := Lib.hid (K0.out.trans KB5.out)
      have KB6 := Lib.hid (Kept.refl W5)
      have HRb := Lib.hid hC2
      clear hC2
      have HJb := Lib.hid hR2
      clear hR2
      obtain ⟨b00, b01, b02, b03, b04⟩ := (HB0.out.kept KB6.out).five
      have bz0 := (HB0.out.kept KB6.out).1
      obtain ⟨b10, b11, b12, b13, b14, b15, b16⟩ := (HB1.out.kept KB6.out).seven
      have bz1 := (HB1.out.kept KB6.out).1
      go_wp2_with fail
      clear b00 b01 b02 b03 b04 bz0 b10 b11 b12 b13 b14 b15 b16 bz1
      refine (ffgFinal_any kA kc k lA lc l vA vc v W5 (by omega) (by omega) lhw (by omega) vhw (HA.out.kept KB6.out) (HL.out.kept KB6.out) (HV.out.kept KB6.out)).mono ?_
      rintro e W7 ⟨Fa, A3, c3, hF1, hf1, rfl, hC3, hc3, k⟩
      have KB7 := Lib.hid (KB6.out.trans k)
      clear k
      replace HA := Lib.hid (HA.out.kept KB7.out)
      replace HL := Lib.hid (HL.out.kept KB7.out)
      replace HV := Lib.hid (HV.out.kept KB7.out)
      replace HRa := Lib.hid (HRa.out.kept KB7.out)
      replace HRb := Lib.hid (HRb.out.kept KB7.out)
      replace HB0 := Lib.hid (HB0.out.kept KB7.out)
      replace HB1 := Lib.hid (HB1.out.kept KB7.out)
      replace K0 := Lib.hid (K0.out.trans KB7.out)
      have KB8 := Lib.hid (Kept.refl W7)
      have HFr := Lib.hid hC3
      clear hC3
      have HFa := Lib.hid hF1
      clear hF1
      have HC2 := Lib.hid (fun (B : Option Addr) cb w' (kk : Kept W7 w') (hB : CellsAt w' w'.heap.size B (lksCells (v ++ [x]))) => (show Calls Try.prog 11 #[.agg #[.slice kA k.ws.length kc, .int .u64 k.seed, .int .i64 k.ep, .int .i64 k.nu, .int .i64 k.de], .slice lA l.length lc, .slice B (v.length + 1) cb] w' (FinalNew k l (v ++ [x]) w') from by
        have h := ffgFinal_any kA kc k lA lc l B cb (v ++ [x]) w' (by omega) (by omega) lhw (by rw [List.length_append]; simp; omega) (fun y hy => by
          rcases List.mem_append.1 hy with q | q
          · exact vhw y q
          · rw [List.mem_singleton] at q; subst q; exact hx) (HA.out.kept kk) (HL.out.kept kk) hB
        rw [List.length_append] at h
        exact h))
      obtain ⟨b00, b01, b02, b03, b04⟩ := (HB0.out.kept KB8.out).five
      have bz0 := (HB0.out.kept KB8.out).1
      obtain ⟨b10, b11, b12, b13, b14, b15, b16⟩ := (HB1.out.kept KB8.out).seven
      have bz1 := (HB1.out.kept KB8.out).1
      go_wp2_with fail
      refine wp_region_noPanic ?_
      refine wp_region_held_drew (S := (fun w' => w'.cell? ⟨z0, 0, none⟩ = some (.slice kA k.ws.length kc) ∧ w'.cell? ⟨z0, 1, none⟩ = some (.int .u64 k.seed) ∧ w'.cell? ⟨z0, 2, none⟩ = some (.int .i64 k.ep) ∧ w'.cell? ⟨z0, 3, none⟩ = some (.int .i64 k.nu) ∧ w'.cell? ⟨z0, 4, none⟩ = some (.int .i64 k.de) ∧ w'.cell? ⟨z1, 0, none⟩ = some (.int .i64 x.f) ∧ w'.cell? ⟨z1, 1, none⟩ = some (.int .i64 x.s.e) ∧ w'.cell? ⟨z1, 2, none⟩ = some (.int .u64 x.s.r.1) ∧ w'.cell? ⟨z1, 3, none⟩ = some (.int .u64 x.s.r.2) ∧ w'.cell? ⟨z1, 4, none⟩ = some (.int .i64 x.t.e) ∧ w'.cell? ⟨z1, 5, none⟩ = some (.int .u64 x.t.r.1) ∧ w'.cell? ⟨z1, 6, none⟩ = some (.int .u64 x.t.r.2) ∧ Kept W7 w')) (by kernel_rfl) ?_ (fun hHeld => ?_)
      · exact ⟨b00, b01, b02, b03, b04, b10, b11, b12, b13, b14, b15, b16, (Kept.refl _).drew⟩
      refine wpAnyH_take (i := 0) (v := ?_) (by simp only [List.getElem?_toArray, List.getElem?_cons_succ, List.getElem?_cons_zero]; rfl) (by kernel_rfl) (by kernel_rfl) (by kernel_rfl) (fun _ _ _ h => h) (Or.inl ⟨by rfl, ?_⟩) (by assumption) ?_
      rotate_left
      · intro w hSw
        (try dsimp only at hSw)
        go_simp
        (try with_reducible rfl)
      simp only [Act.put, List.setIfInBounds_toArray, List.set_cons_zero, List.set_cons_succ]
      refine wpAnyH_take (i := 1) (v := ?_) (by simp only [List.getElem?_toArray, List.getElem?_cons_succ, List.getElem?_cons_zero]; rfl) (by kernel_rfl) (by kernel_rfl) (by kernel_rfl) (fun _ _ _ h => h) (Or.inl ⟨by rfl, ?_⟩) (by assumption) ?_
      rotate_left
      · intro w hSw
        (try dsimp only at hSw)
        go_simp
        (try with_reducible rfl)
      simp only [Act.put, List.setIfInBounds_toArray, List.set_cons_zero, List.set_cons_succ]
      refine wpAnyH_take (i := 2) (v := ?_) (by simp only [List.getElem?_toArray, List.getElem?_cons_succ, List.getElem?_cons_zero]; rfl) (by kernel_rfl) (by kernel_rfl) (by kernel_rfl) (fun _ _ _ h => h) (Or.inl ⟨by rfl, ?_⟩) (by assumption) ?_
      rotate_left
      · intro w hSw
        (try dsimp only at hSw)
        go_simp
        (try with_reducible rfl)
      simp only [Act.put, List.setIfInBounds_toArray, List.set_cons_zero, List.set_cons_succ]
      refine wpAnyH_take (i := 4) (v := ?_) (by simp only [List.getElem?_toArray, List.getElem?_cons_succ, List.getElem?_cons_zero]; rfl) (by kernel_rfl) (by kernel_rfl) (by kernel_rfl) (fun _ _ _ h => h) (Or.inl ⟨by rfl, ?_⟩) (by assumption) ?_
      rotate_left
      · intro w hSw
        (try dsimp only at hSw)
        go_simp
        (try with_reducible rfl)
      simp only [Act.put, List.setIfInBounds_toArray, List.set_cons_zero, List.set_cons_succ]
      refine wpAnyH_ready (rs := [3, 5]) (by kernel_rfl) (by simp) ?_
      refine AllReadyH.cons (by simp only [List.getElem?_toArray, List.getElem?_cons_succ, List.getElem?_cons_zero]; rfl) (fun K hK => ?_) (AllReadyH.cons (by simp only [List.getElem?_toArray, List.getElem?_cons_succ, List.getElem?_cons_zero]; rfl) (fun K hK => ?_) (AllReadyH.nil))
      · refine step_lks _ (by rfl) 27 Try.underlying27 (.const (.slice none 0 0)) (.tmp 50) (by rfl) _ [] _ (by rfl) (Lks.nil _) _ vA v.length vc v (by rfl) rfl ((HV.out.kept KB8.out).kept (Kept.drew (Kept.refl _))) (by simp; omega) ?_
        intro A1 c1 w1 hI _
        rw [List.nil_append] at hI ⊢
        have k1 : Kept W7 w1 := Kept.trans (Kept.drew (Kept.refl _)) hI.2
        refine hK.out _ _ ?_ (fun hHeld2 => ?_)
        · exact keepP12 bz0 bz0 bz0 bz0 bz0 bz1 bz1 bz1 bz1 bz1 bz1 bz1 ⟨b00, b01, b02, b03, b04, b10, b11, b12, b13, b14, b15, b16, Kept.refl _⟩ k1
        clear hK K hHeld
        have hHeld := hHeld2
        clear hHeld2
        try simp only [Act.put, List.setIfInBounds_toArray, List.set_cons_zero, List.set_cons_succ]
        refine wpAnyH_ready (rs := [5]) (by kernel_rfl) (by simp) ?_
        refine AllReadyH.cons (by simp only [List.getElem?_toArray, List.getElem?_cons_succ, List.getElem?_cons_zero]; rfl) (fun K hK => ?_) (AllReadyH.nil)
        go_simp
        refine hK.out _ _ ?_ (fun hHeld2 => ?_)
        · exact keepP12 bz0 bz0 bz0 bz0 bz0 bz1 bz1 bz1 bz1 bz1 bz1 bz1 hHeld ((Kept.refl _).alloc _)
        clear hK K hHeld
        have hHeld := hHeld2
        clear hHeld2
        try simp only [Act.put, List.setIfInBounds_toArray, List.set_cons_zero, List.set_cons_succ]
        refine wpAnyH_ready (rs := [6]) (by kernel_rfl) (by simp) ?_
        refine AllReadyH.cons (by simp only [List.getElem?_toArray, List.getElem?_cons_succ, List.getElem?_cons_zero]; rfl) (fun K hK => ?_) (AllReadyH.nil)
        refine step_lks _ (by rfl) 27 Try.underlying27 (.tmp 51) (.tmp 53) (by rfl) _ v _ (by rfl) (hI.alloc (.cells #[.int .i64 x.f, .int .i64 x.s.e, .int .u64 x.s.r.1, .int .u64 x.s.r.2, .int .i64 x.t.e, .int .u64 x.t.r.1, .int .u64 x.t.r.2] 33)) _ _ 1 1 [x] (by rfl) rfl (lks_new (t := x) w1.heap.size rfl 33) (by omega) ?_
        intro A6 c6 w6 hI6 _
        have k6 : Kept W7 w6 := Kept.trans (Kept.drew (Kept.refl _)) hI6.2
        have hC6 := hI6.cells rfl
        refine hK.out _ _ ?_ (fun hHeld2 => ?_)
        · exact keepP12 bz0 bz0 bz0 bz0 bz0 bz1 bz1 bz1 bz1 bz1 bz1 bz1 ⟨b00, b01, b02, b03, b04, b10, b11, b12, b13, b14, b15, b16, Kept.refl _⟩ k6
        clear hK K hHeld
        have hHeld := hHeld2
        clear hHeld2
        try simp only [Act.put, List.setIfInBounds_toArray, List.set_cons_zero, List.set_cons_succ]
        refine wpAnyH_ready (rs := [7]) (by kernel_rfl) (by simp) ?_
        refine AllReadyH.cons (by simp only [List.getElem?_toArray, List.getElem?_cons_succ, List.getElem?_cons_zero]; rfl) (fun K hK => ?_) (AllReadyH.nil)
        go_simp
        go_at_call 11; with_reducible refine (HC2.out A6 c6 _ hHeld.2.2.2.2.2.2.2.2.2.2.2.2 hC6).mono ?_
        rintro e w' ⟨G, A4, c4, hF2, hf2, rfl, hC4, hc4, kk⟩
        refine hK.out _ _ ?_ (fun hHeld2 => ?_)
        · exact keepP12 bz0 bz0 bz0 bz0 bz0 bz1 bz1 bz1 bz1 bz1 bz1 bz1 hHeld kk
        clear hK K hHeld
        have hHeld := hHeld2
        clear hHeld2
        try simp only [Act.put, List.setIfInBounds_toArray, List.set_cons_zero, List.set_cons_succ]
        refine wpAnyH_take (i := 8) (v := ?_) (by simp only [List.getElem?_toArray, List.getElem?_cons_succ, List.getElem?_cons_zero]; rfl) (by kernel_rfl) (by kernel_rfl) (by kernel_rfl) (fun _ _ _ h => h) (Or.inl ⟨by rfl, ?_⟩) (by assumption) ?_
        rotate_left
        · intro w hSw
          (try dsimp only at hSw)
          go_simp
          (try with_reducible rfl)
        simp only [Act.put, List.setIfInBounds_toArray, List.set_cons_zero, List.set_cons_succ]
        refine wpAnyH_done (by kernel_rfl) ?_ _
        refine NoPanic.normal ?_
        have k := hHeld.2.2.2.2.2.2.2.2.2.2.2.2
        clear hHeld hC6 hI6 k6 hI k1 HC2 kk
        clear b00 b01 b02 b03 b04 bz0 b10 b11 b12 b13 b14 b15 b16 bz1
        have KB9 := Lib.hid (KB8.out.trans k)
        clear k
        generalize w' = W9 at *
        replace HA := Lib.hid (HA.out.kept KB9.out)
        replace HL := Lib.hid (HL.out.kept KB9.out)
        replace HV := Lib.hid (HV.out.kept KB9.out)
        replace HRa := Lib.hid (HRa.out.kept KB9.out)
        replace HRb := Lib.hid (HRb.out.kept KB9.out)
        replace HFr := Lib.hid (HFr.out.kept KB9.out)
        replace HB0 := Lib.hid (HB0.out.kept KB9.out)
        replace HB1 := Lib.hid (HB1.out.kept KB9.out)
        replace K0 := Lib.hid (K0.out.trans KB9.out)
        have KB10 := Lib.hid (Kept.refl W9)
        have HGr := Lib.hid hC4
        clear hC4
        have HG := Lib.hid hF2
        clear hF2
        have hvx : (v ++ [x]).length ≤ 41 := by rw [List.length_append]; simp; omega
        have HS1 := Lib.hid (fun y (hy : y ∈ R) => hasK_iff.2 (HJa.out.more HJb.out (more_mem v x) hy))
        have HS2 := Lib.hid (fun y (hy : y ∈ Fa) => hasK_iff.2 (HFa.out.more HG.out (more_mem v x) hy))
        have HS3 := Lib.hid (fun y (hy : y ∈ Fa) => hasK_iff.2 (HFa.out.just HJa.out hy))
        have HZ := Lib.hid (fun (h : R.length = 0) => (show R2.length = 0 ∧ Fa.length = 0 ∧ G.length = 0 from by
          have hn := just_empty HJa.out h
          rw [HJb.out.none hn, HFa.out.none hn, HG.out.none hn]
          exact ⟨rfl, rfl, rfl⟩))
        have HH := Lib.hid (fun (h : ¬ R.length = 0) => (show ∃ (h1 : 0 < R.length) (h2 : 0 < Fa.length), R[0] = firstK ∧ Fa[0] = firstK from by
          have hm := just_some HJa.out h
          obtain ⟨S, e1⟩ := HJa.out.head hm
          obtain ⟨S', e2⟩ := HFa.out.head hm
          exact ⟨by rw [e1]; simp, by rw [e2]; simp, by simp [e1], by simp [e2]⟩))
        clear HJa HJb HFa HG
        go_wp2_with fail
        go_loopw [15] (fun i w' => ∃ n : Nat, n ≤ R.length ∧ i = .int .i64 n ∧ Kept W9 w') (fun i _ => R.length - (intOf i).toNat)
        case atStart => exact ⟨0, by omega, rfl, Kept.refl _⟩
        case round =>
          obtain ⟨n, hn, rfl, k1⟩ := hrel
          have KB11 := Lib.hid (KB10.out.trans k1)
          clear k1
          by_cases hlt : n < R.length
          · obtain ⟨zj, oj, rfl, hbj, e0, e1, e2⟩ := ck_at (HRa.out.kept KB11.out) hlt
            have HMe := Lib.hid (List.getElem_mem hlt)
            have HS1y := Lib.hid (HS1.out _ HMe.out)
            generalize R[n] = y at *
            go_wp2_with fail
            refine (refHasK_any A2 c2 R2 (by omega) y wr (HRb.out.kept KB11.out)).mono ?_
            rintro e V1 ⟨rfl, k1⟩
            rw [HS1y.out]
            have KB12 := Lib.hid (KB11.out.trans k1)
            clear k1
            go_wp2_with fail
            go_roundw
            case rel => exact ⟨n + 1, by omega, by go_num, KB12.out⟩
            case measure => simp [intOf]; omega
          · go_wp2_with fail
            have KL := Lib.hid KB11.out
            go_loopw [17] (fun i w' => ∃ n : Nat, n ≤ Fa.length ∧ i = .int .i64 n ∧ Kept W9 w') (fun i _ => Fa.length - (intOf i).toNat)
            case atStart => exact ⟨0, by omega, rfl, KL.out⟩
            case round =>
              obtain ⟨n, hn, rfl, k1⟩ := hrel
              clear KL
              have KB32 := Lib.hid (KB10.out.trans k1)
              clear k1
              by_cases hlt : n < Fa.length
              · obtain ⟨zj, oj, rfl, hbj, e0, e1, e2⟩ := ck_at (HFr.out.kept KB32.out) hlt
                have HMe := Lib.hid (List.getElem_mem hlt)
                have HS2y := Lib.hid (HS2.out _ HMe.out)
                have HS3y := Lib.hid (HS3.out _ HMe.out)
                generalize Fa[n] = y at *
                go_wp2_with fail
                refine (refHasK_any A4 c4 G (by omega) y wr (HGr.out.kept KB32.out)).mono ?_
                rintro e V1 ⟨rfl, k1⟩
                rw [HS2y.out]
                have e0' := (k1.cell (p := ⟨zj, oj + n * 3, none⟩) hbj).trans e0
                have e1' := (k1.cell (p := ⟨zj, oj + n * 3 + 1, none⟩) hbj).trans e1
                have e2' := (k1.cell (p := ⟨zj, oj + n * 3 + 2, none⟩) hbj).trans e2
                clear e0 e1 e2
                have KB33 := Lib.hid (KB32.out.trans k1)
                clear k1
                go_wp2_with fail
                refine (refHasK_any Aa ca R (by omega) y V1 (HRa.out.kept KB33.out)).mono ?_
                rintro e V2 ⟨rfl, k1⟩
                rw [HS3y.out]
                clear e0' e1' e2'
                have KB34 := Lib.hid (KB33.out.trans k1)
                clear k1
                go_wp2_with fail
                go_roundw
                case rel => exact ⟨n + 1, by omega, by go_num, KB34.out⟩
                case measure => simp [intOf]; omega
              · by_cases h0 : R.length = 0
                · obtain ⟨hz1, hz2, hz3⟩ := HZ.out h0
                  rw [h0, hz1, hz2, hz3]
                  go_wp2_with fail
                  go_ret
                  exact ⟨by first | rfl | (simp; done), K0.out.trans KB32.out⟩
                · obtain ⟨h1, h2, hr0, hf0⟩ := HH.out h0
                  obtain ⟨zr, or_, rfl, hbr, r0, r1, r2⟩ := ck_at (HRa.out.kept KB32.out) h1
                  obtain ⟨zf, of_, rfl, hbf, f0, f1, f2⟩ := ck_at (HFr.out.kept KB32.out) h2
                  have hsr : sameK R[0] firstK = true := sameK_yes hr0
                  have hsf : sameK Fa[0] firstK = true := sameK_yes hf0
                  clear hr0 hf0
                  generalize R[0] = yr at *
                  generalize Fa[0] = yf at *
                  rw [show or_ + 0 * 3 = or_ from by omega] at r0 r1 r2
                  rw [show of_ + 0 * 3 = of_ from by omega] at f0 f1 f2
                  have hn0 : ((R.length : Int) == 0) = false := by rw [beq_eq_false_iff_ne]; omega
                  have hp0 : decide ((0 : Int) < (Fa.length : Int)) = true := decide_eq_true (by omega)
                  have h0r : (0 : Int) < (R.length : Int) := by omega
                  have h0f : (0 : Int) < (Fa.length : Int) := by omega
                  go_wp2_with fail
                  go_ret
                  exact ⟨by first | rfl | (simp; done) | (simp; omega), K0.out.trans KB32.out⟩
      · go_simp
        refine hK.out _ _ ?_ (fun hHeld2 => ?_)
        · exact keepP12 bz0 bz0 bz0 bz0 bz0 bz1 bz1 bz1 bz1 bz1 bz1 bz1 hHeld ((Kept.refl _).alloc _)
        clear hK K hHeld
        have hHeld := hHeld2
        clear hHeld2
        try simp only [Act.put, List.setIfInBounds_toArray, List.set_cons_zero, List.set_cons_succ]
        refine wpAnyH_ready (rs := [3]) (by kernel_rfl) (by simp) ?_
        refine AllReadyH.cons (by simp only [List.getElem?_toArray, List.getElem?_cons_succ, List.getElem?_cons_zero]; rfl) (fun K hK => ?_) (AllReadyH.nil)
        refine step_lks _ (by rfl) 27 Try.underlying27 (.const (.slice none 0 0)) (.tmp 50) (by rfl) _ [] _ (by rfl) (Lks.nil _) _ vA v.length vc v (by rfl) rfl ((HV.out.kept KB8.out).kept (Kept.drew (Kept.alloc (Kept.refl _) _))) (by simp; omega) ?_
        intro A1 c1 w1 hI _
        rw [List.nil_append] at hI ⊢
        have k1 : Kept W7 w1 := Kept.trans (Kept.drew (Kept.alloc (Kept.refl _) _)) hI.2
        refine hK.out _ _ ?_ (fun hHeld2 => ?_)
        · exact keepP12 bz0 bz0 bz0 bz0 bz0 bz1 bz1 bz1 bz1 bz1 bz1 bz1 ⟨b00, b01, b02, b03, b04, b10, b11, b12, b13, b14, b15, b16, Kept.refl _⟩ k1
        clear hK K hHeld
        have hHeld := hHeld2
        clear hHeld2
        try simp only [Act.put, List.setIfInBounds_toArray, List.set_cons_zero, List.set_cons_succ]
        refine wpAnyH_ready (rs := [6]) (by kernel_rfl) (by simp) ?_
        refine AllReadyH.cons (by simp only [List.getElem?_toArray, List.getElem?_cons_succ, List.getElem?_cons_zero]; rfl) (fun K hK => ?_) (AllReadyH.nil)
        refine step_lks _ (by rfl) 27 Try.underlying27 (.tmp 51) (.tmp 53) (by rfl) _ v _ (by rfl) hI _ _ 1 1 [x] (by rfl) rfl ((lks_new (w := W7) (t := x) W7.heap.size rfl 33).kept (Kept.trans (Kept.drew (Kept.refl _)) hI.2)) (by omega) ?_
        intro A6 c6 w6 hI6 _
        have k6 : Kept W7 w6 := Kept.trans (Kept.drew (Kept.alloc (Kept.refl _) _)) hI6.2
        have hC6 := hI6.cells rfl
        refine hK.out _ _ ?_ (fun hHeld2 => ?_)
        · exact keepP12 bz0 bz0 bz0 bz0 bz0 bz1 bz1 bz1 bz1 bz1 bz1 bz1 ⟨b00, b01, b02, b03, b04, b10, b11, b12, b13, b14, b15, b16, Kept.refl _⟩ k6
        clear hK K hHeld
        have hHeld := hHeld2
        clear hHeld2
        try simp only [Act.put, List.setIfInBounds_toArray, List.set_cons_zero, List.set_cons_succ]
        refine wpAnyH_ready (rs := [7]) (by kernel_rfl) (by simp) ?_
        refine AllReadyH.cons (by simp only [List.getElem?_toArray, List.getElem?_cons_succ, List.getElem?_cons_zero]; rfl) (fun K hK => ?_) (AllReadyH.nil)
        go_simp
        go_at_call 11; with_reducible refine (HC2.out A6 c6 _ hHeld.2.2.2.2.2.2.2.2.2.2.2.2 hC6).mono ?_
        rintro e w' ⟨G, A4, c4, hF2, hf2, rfl, hC4, hc4, kk⟩
        refine hK.out _ _ ?_ (fun hHeld2 => ?_)
        · exact keepP12 bz0 bz0 bz0 bz0 bz0 bz1 bz1 bz1 bz1 bz1 bz1 bz1 hHeld kk
        clear hK K hHeld
        have hHeld := hHeld2
        clear hHeld2
        try simp only [Act.put, List.setIfInBounds_toArray, List.set_cons_zero, List.set_cons_succ]
        refine wpAnyH_take (i := 8) (v := ?_) (by simp only [List.getElem?_toArray, List.getElem?_cons_succ, List.getElem?_cons_zero]; rfl) (by kernel_rfl) (by kernel_rfl) (by kernel_rfl) (fun _ _ _ h => h) (Or.inl ⟨by rfl, ?_⟩) (by assumption) ?_
        rotate_left
        · intro w hSw
          (try dsimp only at hSw)
          go_simp
          (try with_reducible rfl)
        simp only [Act.put, List.setIfInBounds_toArray, List.set_cons_zero, List.set_cons_succ]
        refine wpAnyH_done (by kernel_rfl) ?_ _
        refine NoPanic.normal ?_
        have k := hHeld.2.2.2.2.2.2.2.2.2.2.2.2
        clear hHeld hC6 hI6 k6 hI k1 HC2 kk
        clear b00 b01 b02 b03 b04 bz0 b10 b11 b12 b13 b14 b15 b16 bz1
        have KB9 := Lib.hid (KB8.out.trans k)
        clear k
        generalize w' = W9 at *
        replace HA := Lib.hid (HA.out.kept KB9.out)
        replace HL := Lib.hid (HL.out.kept KB9.out)
        replace HV := Lib.hid (HV.out.kept KB9.out)
        replace HRa := Lib.hid (HRa.out.kept KB9.out)
        replace HRb := Lib.hid (HRb.out.kept KB9.out)
        replace HFr := Lib.hid (HFr.out.kept KB9.out)
        replace HB0 := Lib.hid (HB0.out.kept KB9.out)
        replace HB1 := Lib.hid (HB1.out.kept KB9.out)
        replace K0 := Lib.hid (K0.out.trans KB9.out)
        have KB10 := Lib.hid (Kept.refl W9)
        have HGr := Lib.hid hC4
        clear hC4
        have HG := Lib.hid hF2
        clear hF2
        have hvx : (v ++ [x]).length ≤ 41 := by rw [List.length_append]; simp; omega
        have HS1 := Lib.hid (fun y (hy : y ∈ R) => hasK_iff.2 (HJa.out.more HJb.out (more_mem v x) hy))
        have HS2 := Lib.hid (fun y (hy : y ∈ Fa) => hasK_iff.2 (HFa.out.more HG.out (more_mem v x) hy))
        have HS3 := Lib.hid (fun y (hy : y ∈ Fa) => hasK_iff.2 (HFa.out.just HJa.out hy))
        have HZ := Lib.hid (fun (h : R.length = 0) => (show R2.length = 0 ∧ Fa.length = 0 ∧ G.length = 0 from by
          have hn := just_empty HJa.out h
          rw [HJb.out.none hn, HFa.out.none hn, HG.out.none hn]
          exact ⟨rfl, rfl, rfl⟩))
        have HH := Lib.hid (fun (h : ¬ R.length = 0) => (show ∃ (h1 : 0 < R.length) (h2 : 0 < Fa.length), R[0] = firstK ∧ Fa[0] = firstK from by
          have hm := just_some HJa.out h
          obtain ⟨S, e1⟩ := HJa.out.head hm
          obtain ⟨S', e2⟩ := HFa.out.head hm
          exact ⟨by rw [e1]; simp, by rw [e2]; simp, by simp [e1], by simp [e2]⟩))
        clear HJa HJb HFa HG
        go_wp2_with fail
        go_loopw [15] (fun i w' => ∃ n : Nat, n ≤ R.length ∧ i = .int .i64 n ∧ Kept W9 w') (fun i _ => R.length - (intOf i).toNat)
        case atStart => exact ⟨0, by omega, rfl, Kept.refl _⟩
        case round =>
          obtain ⟨n, hn, rfl, k1⟩ := hrel
          have KB11 := Lib.hid (KB10.out.trans k1)
          clear k1
          by_cases hlt : n < R.length
          · obtain ⟨zj, oj, rfl, hbj, e0, e1, e2⟩ := ck_at (HRa.out.kept KB11.out) hlt
            have HMe := Lib.hid (List.getElem_mem hlt)
            have HS1y := Lib.hid (HS1.out _ HMe.out)
            generalize R[n] = y at *
            go_wp2_with fail
            refine (refHasK_any A2 c2 R2 (by omega) y wr (HRb.out.kept KB11.out)).mono ?_
            rintro e V1 ⟨rfl, k1⟩
            rw [HS1y.out]
            have KB12 := Lib.hid (KB11.out.trans k1)
            clear k1
            go_wp2_with fail
            go_roundw
            case rel => exact ⟨n + 1, by omega, by go_num, KB12.out⟩
            case measure => simp [intOf]; omega
          · go_wp2_with fail
            have KL := Lib.hid KB11.out
            go_loopw [17] (fun i w' => ∃ n : Nat, n ≤ Fa.length ∧ i = .int .i64 n ∧ Kept W9 w') (fun i _ => Fa.length - (intOf i).toNat)
            case atStart => exact ⟨0, by omega, rfl, KL.out⟩
            case round =>
              obtain ⟨n, hn, rfl, k1⟩ := hrel
              clear KL
              have KB32 := Lib.hid (KB10.out.trans k1)
              clear k1
              by_cases hlt : n < Fa.length
              · obtain ⟨zj, oj, rfl, hbj, e0, e1, e2⟩ := ck_at (HFr.out.kept KB32.out) hlt
                have HMe := Lib.hid (List.getElem_mem hlt)
                have HS2y := Lib.hid (HS2.out _ HMe.out)
                have HS3y := Lib.hid (HS3.out _ HMe.out)
                generalize Fa[n] = y at *
                go_wp2_with fail
                refine (refHasK_any A4 c4 G (by omega) y wr (HGr.out.kept KB32.out)).mono ?_
                rintro e V1 ⟨rfl, k1⟩
                rw [HS2y.out]
                have e0' := (k1.cell (p := ⟨zj, oj + n * 3, none⟩) hbj).trans e0
                have e1' := (k1.cell (p := ⟨zj, oj + n * 3 + 1, none⟩) hbj).trans e1
                have e2' := (k1.cell (p := ⟨zj, oj + n * 3 + 2, none⟩) hbj).trans e2
                clear e0 e1 e2
                have KB33 := Lib.hid (KB32.out.trans k1)
                clear k1
                go_wp2_with fail
                refine (refHasK_any Aa ca R (by omega) y V1 (HRa.out.kept KB33.out)).mono ?_
                rintro e V2 ⟨rfl, k1⟩
                rw [HS3y.out]
                clear e0' e1' e2'
                have KB34 := Lib.hid (KB33.out.trans k1)
                clear k1
                go_wp2_with fail
                go_roundw
                case rel => exact ⟨n + 1, by omega, by go_num, KB34.out⟩
                case measure => simp [intOf]; omega
              · by_cases h0 : R.length = 0
                · obtain ⟨hz1, hz2, hz3⟩ := HZ.out h0
                  rw [h0, hz1, hz2, hz3]
                  go_wp2_with fail
                  go_ret
                  exact ⟨by first | rfl | (simp; done), K0.out.trans KB32.out⟩
                · obtain ⟨h1, h2, hr0, hf0⟩ := HH.out h0
                  obtain ⟨zr, or_, rfl, hbr, r0, r1, r2⟩ := ck_at (HRa.out.kept KB32.out) h1
                  obtain ⟨zf, of_, rfl, hbf, f0, f1, f2⟩ := ck_at (HFr.out.kept KB32.out) h2
                  have hsr : sameK R[0] firstK = true := sameK_yes hr0
                  have hsf : sameK Fa[0] firstK = true := sameK_yes hf0
                  clear hr0 hf0
                  generalize R[0] = yr at *
                  generalize Fa[0] = yf at *
                  rw [show or_ + 0 * 3 = or_ from by omega] at r0 r1 r2
                  rw [show of_ + 0 * 3 = of_ from by omega] at f0 f1 f2
                  have hn0 : ((R.length : Int) == 0) = false := by rw [beq_eq_false_iff_ne]; omega
                  have hp0 : decide ((0 : Int) < (Fa.length : Int)) = true := decide_eq_true (by omega)
                  have h0r : (0 : Int) < (R.length : Int) := by omega
                  have h0f : (0 : Int) < (Fa.length : Int) := by omega
                  go_wp2_with fail
                  go_ret
                  exact ⟨by first | rfl | (simp; done) | (simp; omega), K0.out.trans KB32.out⟩

/-! ### The row's step -/
set_option maxRecDepth 100000 in
theorem lifted (os : Os) (started : os.Started) (H : Type) (enc : TypeId × Value → H) :
    ReturnsInHanded {} Try.checked os 3 .any (Rows.ffgMoreSpec.pre6 enc Try.prog Try.f3 Rows.ffgMoreRow.domain false) (Rows.ffgMoreSpec.post enc Try.prog Try.f3 false true false false) := by
  refine returnsInHanded_of_change (C := Try.checked) own started (by kernel_rfl) Try.func3
    (ChangeSpec.witness6 (enc := enc) (C := Try.checked) false ⟨#[], #[.agg #[.slice none 0 0, .int .u64 0, .int .i64 0, .int .i64 0, .int .i64 0], .slice none 0 0, .slice none 0 0, .agg #[.int .i64 0, .int .i64 0, .int .u64 0, .int .u64 0, .int .i64 0, .int .u64 0, .int .u64 0]], []⟩ 8 (by kernel_rfl) (by kernel_rfl) (by kernel_rfl) (by kernel_rfl)) ?_
  intro W base args ds gs before hval0 hW hcnd _
  have hval : ∀ (j : Nat) t v, Try.f3.params[j]? = some t → args[j]? = some v → Value.okWide Try.prog W .any base t v := hval0
  have hW' := hW
  obtain ⟨p, q, hA0, hV, rfl, hfz, hnd⟩ := hW
  have hA : DataW.TrodAll enc Try.prog W 0 (fun _ => true) true Try.f3.params.toList args.toList ds p := hA0
  rw [Try.params3] at hA hval
  obtain ⟨v0, vs0, d0, ds0, p0, q0, hargs, rfl, rfl, h0, r0⟩ := trodAll_cons hA
  obtain ⟨v1, vs1, d1, ds1, p1, q1, rfl, rfl, rfl, h1, r1⟩ := trodAll_cons r0
  obtain ⟨v2, vs2, d2, ds2, p2, q2, rfl, rfl, rfl, h2, r2⟩ := trodAll_cons r1
  obtain ⟨v3, vs3, d3, ds3, p3, q3, rfl, rfl, rfl, h3, r3⟩ := trodAll_cons r2
  obtain ⟨rfl, rfl, rfl⟩ := trodAll_nil r3
  obtain rfl : args = #[v0, v1, v2, v3] := by cases args; simp_all
  obtain ⟨rfl, rfl⟩ := trodVars_none hV
  obtain ⟨kA, kc, k, rfl, khm, khs, khl⟩ := open_conf (hval 0 _ v0 rfl rfl) h0
  obtain ⟨lA, lc, l, rfl, lhm, lhc, lhw, lhl⟩ := open_blocks (hval 1 _ v1 rfl rfl) h1
  obtain ⟨vA, vc, v, rfl, vhm, vhc, vhw, vhl⟩ := open_links (hval 2 _ v2 rfl rfl) h2
  obtain ⟨x, rfl, hx⟩ := open_link (hval 3 _ v3 rfl rfl) h3
  clear hA0 hval0
  refine (walk W kA kc k khm khs khl lA lc l lhm lhc lhw lhl vA vc v vhm vhc vhw vhl x hx).mono fun e W' ⟨he, hb⟩ => ?_
  subst he
  exact ⟨_, rfl, law_post rfl (by kernel_rfl) rfl hW' rfl hb⟩

theorem over : Rows.ffgMoreRow.holds Try.pinned (OpenSpec.ofChange Rows.ffgMoreSpec) :=
  OpenClaim.holds_of_wide 3 Try.f3 rfl rfl rfl rfl rfl rfl rfl ⟨rfl, rfl, rfl, rfl, rfl⟩ rfl rfl rfl rfl rfl (by kernel_rfl) Try.func3 (by kernel_rfl)
    (of_decide_eq_true (by kernel_rfl)) (by unfold Func.isWrapper; first | (rw [if_pos (by decide +kernel)]; kernel_rfl) | (rw [if_neg (by decide +kernel)]; exact ⟨rfl, rfl⟩))
    (fun os started H enc _ => lifted os started H enc)

/-- The statement. -/
theorem proved : Rows.FfgMoreSaid :=
  over
#print axioms proved

end Go.Proofs.Ythgammhjoajhoaa.ffgMore
