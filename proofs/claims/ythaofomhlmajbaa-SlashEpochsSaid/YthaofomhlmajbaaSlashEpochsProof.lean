/-
  Law SlashEpochs of layer 12: where the guilty weigh less than a third of the total no two checkpoints of one epoch are justified, whatever conf, blocks and links.
-/
import Derived.Test.YthaofomhlmajbaaSlashAwake
import Derived.Test.YthaofomhlmajbaaFfgAwake
import Derived.Test.YthaofomhlmajbaaDutyG
import Derived.Test.YthaofomhlmajbaaTreeG
import Derived.Test.YthaofomhlmajbaaFfgOpen
import Derived.Test.YthaofomhlmajbaaGround
import Derived.Test.YthaofomhlmajbaaFfgLaws
namespace Go.Proofs.Ythaofomhlmajbaa.slashEpochs
set_option maxRecDepth 100000
set_option linter.unusedVariables false
set_option linter.unusedSimpArgs false
open Go.ChangeShapes Go.WideShapes Go.ChangeAt Go.RowKit
set_option linter.unusedVariables false

/-! ### The walk: the call returns true, and of what was there nothing has changed. -/
attribute [local go_sem high] eqK in
set_option maxRecDepth 100000 in
set_option maxHeartbeats 3200000 in
theorem walk (w : World) (kA : Option Addr) (kc : Nat) (k : Cf) (khm : k.ws.length ≤ maxLen) (khs : k.seed < 18446744073709551616) (khl : CellsAt w w.heap.size kA (intCells k.ws)) (lA : Option Addr) (lc : Nat) (l : List Bk) (lhm : l.length ≤ maxLen) (lhc : l.length ≤ lc) (lhw : WfL l) (lhl : CellsAt w w.heap.size lA (blockCells l)) (vA : Option Addr) (vc : Nat) (v : List Lk) (vhm : v.length ≤ maxLen) (vhc : v.length ≤ vc) (vhw : WfLks v) (vhl : CellsAt w w.heap.size vA (lksCells v)) :
    Calls Try.prog 5 #[.agg #[.slice kA k.ws.length kc, .int .u64 k.seed, .int .i64 k.ep, .int .i64 k.nu, .int .i64 k.de], .slice lA l.length lc, .slice vA v.length vc] w fun e w' => e = .returned (.bool true) ∧ Kept w w' := by
  cases hf : few11C k l v with
  | false =>
    go_enter Try.func5, Try.ntmps5
    go_wp2_with fail
    have K0 := Lib.hid ((Kept.refl w).alloc (.cells #[.slice kA k.ws.length kc, .int .u64 k.seed, .int .i64 k.ep, .int .i64 k.nu, .int .i64 k.de] 37))
    have HA := Lib.hid (khl.kept K0.out)
    clear khl
    have HL := Lib.hid (lhl.kept K0.out)
    clear lhl
    have HV := Lib.hid (vhl.kept K0.out)
    clear vhl
    have HB0 := Lib.hid (HasCells.new w #[.slice kA k.ws.length kc, .int .u64 k.seed, .int .i64 k.ep, .int .i64 k.nu, .int .i64 k.de] 37 (w.heap.size) (by simp))
    generalize (w.alloc (.cells #[.slice kA k.ws.length kc, .int .u64 k.seed, .int .i64 k.ep, .int .i64 k.nu, .int .i64 k.de] 37)) = W0 at *
    generalize w.heap.size = z0 at *
    have KB0 := Lib.hid (Kept.refl W0)
    refine (slashAwake W0).mono ?_
    rintro e W1 ⟨rfl, k⟩
    have KB1 := Lib.hid (KB0.out.trans k)
    clear k
    obtain ⟨b00, b01, b02, b03, b04⟩ := (HB0.out.kept KB1.out).five
    have bz0 := (HB0.out.kept KB1.out).1
    go_wp2_with fail
    clear b00 b01 b02 b03 b04 bz0
    refine (few11_any kA kc k lA lc l vA vc v W1).mono ?_
    rintro e W2 ⟨rfl, k⟩
    have KB2 := Lib.hid (KB1.out.trans k)
    clear k
    rw [hf]
    obtain ⟨b00, b01, b02, b03, b04⟩ := (HB0.out.kept KB2.out).five
    have bz0 := (HB0.out.kept KB2.out).1
    go_wp2_with fail
    go_quiet (fail)
    go_wp2_with fail
    clear b00 b01 b02 b03 b04 bz0
    go_ret
    exact ⟨by first | rfl | (simp; done), K0.out.trans (KB2.out.drewN _)⟩
  | true =>
    obtain ⟨hk40, hl20, hv40⟩ := few11C_yes hf
    have HF := Lib.hid hf
    clear hf
    go_enter Try.func5, Try.ntmps5
    go_wp2_with fail
    have K0 := Lib.hid ((Kept.refl w).alloc (.cells #[.slice kA k.ws.length kc, .int .u64 k.seed, .int .i64 k.ep, .int .i64 k.nu, .int .i64 k.de] 37))
    have HA := Lib.hid (khl.kept K0.out)
    clear khl
    have HL := Lib.hid (lhl.kept K0.out)
    clear lhl
    have HV := Lib.hid (vhl.kept K0.out)
    clear vhl
    have HB0 := Lib.hid (HasCells.new w #[.slice kA k.ws.length kc, .int .u64 k.seed, .int .i64 k.ep, .int .i64 k.nu, .int .i64 k.de] 37 (w.heap.size) (by simp))
    generalize (w.alloc (.cells #[.slice kA k.ws.length kc, .int .u64 k.seed, .int .i64 k.ep, .int .i64 k.nu, .int .i64 k.de] 37)) = W0 at *
    generalize w.heap.size = z0 at *
    have KB0 := Lib.hid (Kept.refl W0)
    refine (slashAwake W0).mono ?_
    rintro e W1 ⟨rfl, k⟩
    have KB1 := Lib.hid (KB0.out.trans k)
    clear k
    obtain ⟨b00, b01, b02, b03, b04⟩ := (HB0.out.kept KB1.out).five
    have bz0 := (HB0.out.kept KB1.out).1
    go_wp2_with fail
    clear b00 b01 b02 b03 b04 bz0
    refine (few11_any kA kc k lA lc l vA vc v W1).mono ?_
    rintro e W2 ⟨rfl, k⟩
    have KB2 := Lib.hid (KB1.out.trans k)
    clear k
    rw [HF.out]
    obtain ⟨b00, b01, b02, b03, b04⟩ := (HB0.out.kept KB2.out).five
    have bz0 := (HB0.out.kept KB2.out).1
    go_wp2_with fail
    clear b00 b01 b02 b03 b04 bz0
    have HTo := Lib.hid (fun w' (kk : Kept W0 w') => total_any kA kc k w' (HA.out.kept kk))
    obtain ⟨b00, b01, b02, b03, b04⟩ := (HB0.out.kept KB2.out).five
    have bz0 := (HB0.out.kept KB2.out).1
    refine wp_region_noPanic ?_
    refine wp_region_held_drew (S := (fun w' => w'.cell? ⟨z0, 0, none⟩ = some (.slice kA k.ws.length kc) ∧ w'.cell? ⟨z0, 1, none⟩ = some (.int .u64 k.seed) ∧ w'.cell? ⟨z0, 2, none⟩ = some (.int .i64 k.ep) ∧ w'.cell? ⟨z0, 3, none⟩ = some (.int .i64 k.nu) ∧ w'.cell? ⟨z0, 4, none⟩ = some (.int .i64 k.de) ∧ Kept W2 w')) (by kernel_rfl) ?_ (fun hHeld => ?_)
    · exact ⟨b00, b01, b02, b03, b04, (Kept.refl _).drew⟩
    refine wpAnyH_take (i := 0) (v := ?_) (by simp only [List.getElem?_toArray, List.getElem?_cons_succ, List.getElem?_cons_zero]; rfl) (by kernel_rfl) (by kernel_rfl) (by kernel_rfl) (fun _ _ _ h => h) (Or.inl ⟨by rfl, ?_⟩) (by assumption) ?_
    rotate_left
    · intro w hSw
      (try dsimp only at hSw)
      go_simp
      (try with_reducible rfl)
    simp only [Act.put, List.setIfInBounds_toArray, List.set_cons_zero, List.set_cons_succ]
    refine wpAnyH_take (i := 1) (v := ?_) (by simp only [List.getElem?_toArray, List.getElem?_cons_succ, List.getElem?_cons_zero]; rfl) (by kernel_rfl) (by kernel_rfl) (by kernel_rfl) (fun _ _ _ h => h) (Or.inl ⟨by rfl, ?_⟩) (by assumption) ?_
    rotate_left
    · intro w hSw
      (try dsimp only at hSw)
      go_simp
      (try with_reducible rfl)
    simp only [Act.put, List.setIfInBounds_toArray, List.set_cons_zero, List.set_cons_succ]
    refine wpAnyH_take (i := 2) (v := ?_) (by simp only [List.getElem?_toArray, List.getElem?_cons_succ, List.getElem?_cons_zero]; rfl) (by kernel_rfl) (by kernel_rfl) (by kernel_rfl) (fun _ _ _ h => h) (Or.inl ⟨by rfl, ?_⟩) (by assumption) ?_
    rotate_left
    · intro w hSw
      (try dsimp only at hSw)
      go_simp
      (try with_reducible rfl)
    simp only [Act.put, List.setIfInBounds_toArray, List.set_cons_zero, List.set_cons_succ]
    refine wpAnyH_take (i := 3) (v := ?_) (by simp only [List.getElem?_toArray, List.getElem?_cons_succ, List.getElem?_cons_zero]; rfl) (by kernel_rfl) (by kernel_rfl) (by kernel_rfl) (fun _ _ _ h => h) (Or.inl ⟨by rfl, ?_⟩) (by assumption) ?_
    rotate_left
    · intro w hSw
      (try dsimp only at hSw)
      go_simp
      (try with_reducible rfl)
    simp only [Act.put, List.setIfInBounds_toArray, List.set_cons_zero, List.set_cons_succ]
    refine wpAnyH_take (i := 4) (v := ?_) (by simp only [List.getElem?_toArray, List.getElem?_cons_succ, List.getElem?_cons_zero]; rfl) (by kernel_rfl) (by kernel_rfl) (by kernel_rfl) (fun _ _ _ h => h) (Or.inl ⟨by rfl, ?_⟩) (by assumption) ?_
    rotate_left
    · intro w hSw
      (try dsimp only at hSw)
      go_simp
      (try with_reducible rfl)
    simp only [Act.put, List.setIfInBounds_toArray, List.set_cons_zero, List.set_cons_succ]
    refine wpAnyH_take (i := 5) (v := ?_) (by simp only [List.getElem?_toArray, List.getElem?_cons_succ, List.getElem?_cons_zero]; rfl) (by kernel_rfl) (by kernel_rfl) (by kernel_rfl) (fun _ _ _ h => h) (Or.inl ⟨by rfl, ?_⟩) (by assumption) ?_
    rotate_left
    · intro w hSw
      (try dsimp only at hSw)
      go_simp
      (try with_reducible rfl)
    simp only [Act.put, List.setIfInBounds_toArray, List.set_cons_zero, List.set_cons_succ]
    refine wpAnyH_take (i := 6) (v := ?_) (by simp only [List.getElem?_toArray, List.getElem?_cons_succ, List.getElem?_cons_zero]; rfl) (by kernel_rfl) (by kernel_rfl) (by kernel_rfl) (fun _ _ _ h => h) (Or.inl ⟨by rfl, ?_⟩) (by assumption) ?_
    rotate_left
    · intro w hSw
      (try dsimp only at hSw)
      go_simp
      (try with_reducible rfl)
    simp only [Act.put, List.setIfInBounds_toArray, List.set_cons_zero, List.set_cons_succ]
    refine wpAnyH_take (i := 7) (v := ?_) (by simp only [List.getElem?_toArray, List.getElem?_cons_succ, List.getElem?_cons_zero]; rfl) (by kernel_rfl) (by kernel_rfl) (by kernel_rfl) (fun _ _ _ h => h) (Or.inl ⟨by rfl, ?_⟩) (by assumption) ?_
    rotate_left
    · intro w hSw
      (try dsimp only at hSw)
      go_simp
      (try with_reducible rfl)
    simp only [Act.put, List.setIfInBounds_toArray, List.set_cons_zero, List.set_cons_succ]
    refine wpAnyH_take (i := 8) (v := ?_) (by simp only [List.getElem?_toArray, List.getElem?_cons_succ, List.getElem?_cons_zero]; rfl) (by kernel_rfl) (by kernel_rfl) (by kernel_rfl) (fun _ _ _ h => h) (Or.inl ⟨by rfl, ?_⟩) (by assumption) ?_
    rotate_left
    · intro w hSw
      (try dsimp only at hSw)
      go_simp
      (try with_reducible rfl)
    simp only [Act.put, List.setIfInBounds_toArray, List.set_cons_zero, List.set_cons_succ]
    refine wpAnyH_take (i := 12) (v := ?_) (by simp only [List.getElem?_toArray, List.getElem?_cons_succ, List.getElem?_cons_zero]; rfl) (by kernel_rfl) (by kernel_rfl) (by kernel_rfl) (fun _ _ _ h => h) (Or.inl ⟨by rfl, ?_⟩) (by assumption) ?_
    rotate_left
    · intro w hSw
      (try dsimp only at hSw)
      go_simp
      (try with_reducible rfl)
    simp only [Act.put, List.setIfInBounds_toArray, List.set_cons_zero, List.set_cons_succ]
    refine wpAnyH_ready (rs := [9]) (by kernel_rfl) (by simp) ?_
    refine AllReadyH.cons (by simp only [List.getElem?_toArray, List.getElem?_cons_succ, List.getElem?_cons_zero]; rfl) (fun K hK => ?_) AllReadyH.nil
    go_simp
    go_at_call 11; with_reducible refine (slashGuilty_any vA vc v _ (by omega) vhw (HV.out.kept (KB2.out.trans hHeld.2.2.2.2.2))).mono ?_
    rintro e w' ⟨G, Ag, cg, hG, hlg, rfl, hCg, hcg, kk⟩
    try go_wp2_with fail
    refine hK.out _ _ ?_ (fun hHeld2 => ?_)
    · exact keepP5 bz0 bz0 bz0 bz0 bz0 hHeld kk
    clear hK K hHeld
    have hHeld := hHeld2
    clear hHeld2
    try simp only [Act.put, List.setIfInBounds_toArray, List.set_cons_zero, List.set_cons_succ]
    refine wpAnyH_ready (rs := [10]) (by kernel_rfl) (by simp) ?_
    refine AllReadyH.cons (by simp only [List.getElem?_toArray, List.getElem?_cons_succ, List.getElem?_cons_zero]; rfl) (fun K hK => ?_) AllReadyH.nil
    go_simp
    go_at_call 16; with_reducible refine (weight_any kA kc k Ag G cg _ (HA.out.kept (KB2.out.trans hHeld.2.2.2.2.2)) (Nat.le_trans hlg (by omega)) hCg).mono ?_
    rintro e w' ⟨rfl, kk⟩
    have HLg := Lib.hid hlg
    have HT := Lib.hid (fun (R : List Ck) (hR : Justs k l v R) (i : Nat) (hi : i < R.length) (h1 : 1 ≤ i) (e : R[i].e = (R[i - 1]'(by omega)).e) => third_justs hG hR hi h1 e)
    clear hG
    have hpb := weight_bounds k G
    have htb := total_bounds k
    generalize weightC k G = p at *
    generalize totalC k = t at *
    have hp3 : IntKind.i64.wrap (3 * p) = 3 * p := by rw [IntKind.wrap_i64]; omega
    try go_wp2_with fail
    refine hK.out _ _ ?_ (fun hHeld2 => ?_)
    · exact keepP5 bz0 bz0 bz0 bz0 bz0 hHeld kk
    clear hK K hHeld
    have hHeld := hHeld2
    clear hHeld2
    try simp only [Act.put, List.setIfInBounds_toArray, List.set_cons_zero, List.set_cons_succ]
    refine wpAnyH_take (i := 11) (v := ?_) (by simp only [List.getElem?_toArray, List.getElem?_cons_succ, List.getElem?_cons_zero]; rfl) (by kernel_rfl) (by kernel_rfl) (by kernel_rfl) (fun _ _ _ h => h) (Or.inl ⟨by rfl, ?_⟩) (by assumption) ?_
    rotate_left
    · intro w hSw
      (try dsimp only at hSw)
      go_simp
      (try with_reducible rfl)
    simp only [Act.put, List.setIfInBounds_toArray, List.set_cons_zero, List.set_cons_succ]
    try simp only [hp3]
    refine wpAnyH_ready (rs := [13]) (by kernel_rfl) (by simp) ?_
    refine AllReadyH.cons (by simp only [List.getElem?_toArray, List.getElem?_cons_succ, List.getElem?_cons_zero]; rfl) (fun K hK => ?_) AllReadyH.nil
    go_simp
    go_at_call 17; with_reducible refine (HTo.out _ (KB2.out.trans hHeld.2.2.2.2.2)).mono ?_
    rintro e w' ⟨rfl, kk⟩
    try go_wp2_with fail
    refine hK.out _ _ ?_ (fun hHeld2 => ?_)
    · exact keepP5 bz0 bz0 bz0 bz0 bz0 hHeld kk
    clear hK K hHeld
    have hHeld := hHeld2
    clear hHeld2
    try simp only [Act.put, List.setIfInBounds_toArray, List.set_cons_zero, List.set_cons_succ]
    refine wpAnyH_take (i := 14) (v := ?_) (by simp only [List.getElem?_toArray, List.getElem?_cons_succ, List.getElem?_cons_zero]; rfl) (by kernel_rfl) (by kernel_rfl) (by kernel_rfl) (fun _ _ _ h => h) (Or.inl ⟨by rfl, ?_⟩) (by assumption) ?_
    rotate_left
    · intro w hSw
      (try dsimp only at hSw)
      go_simp
      (try with_reducible rfl)
    simp only [Act.put, List.setIfInBounds_toArray, List.set_cons_zero, List.set_cons_succ]
    refine wpAnyH_take (i := 15) (v := ?_) (by simp only [List.getElem?_toArray, List.getElem?_cons_succ, List.getElem?_cons_zero]; rfl) (by kernel_rfl) (by kernel_rfl) (by kernel_rfl) (fun _ _ _ h => h) (Or.inl ⟨by rfl, ?_⟩) (by assumption) ?_
    rotate_left
    · intro w hSw
      (try dsimp only at hSw)
      go_simp
      (try with_reducible rfl)
    simp only [Act.put, List.setIfInBounds_toArray, List.set_cons_zero, List.set_cons_succ]
    refine wpAnyH_done (by kernel_rfl) ?_ _
    refine NoPanic.normal ?_
    have k := hHeld.2.2.2.2.2
    clear hHeld hCg hcg
    clear b00 b01 b02 b03 b04 bz0
    have KB3 := Lib.hid (KB2.out.trans k)
    clear k
    generalize w' = W3 at *
    by_cases hc : t ≤ 3 * p
    · have hcb : decide (t ≤ 3 * p) = true := decide_eq_true hc
      go_wp2_with fail
      go_ret
      exact ⟨by first | rfl | (simp; done), K0.out.trans KB3.out⟩
    · have hcb : decide (t ≤ 3 * p) = false := decide_eq_false hc
      obtain ⟨b00, b01, b02, b03, b04⟩ := (HB0.out.kept KB3.out).five
      have bz0 := (HB0.out.kept KB3.out).1
      go_wp2_with fail
      clear b00 b01 b02 b03 b04 bz0
      refine (ffgJust_any kA kc k lA lc l vA vc v W3 (by omega) (by omega) lhw (by omega) vhw (HA.out.kept KB3.out) (HL.out.kept KB3.out) (HV.out.kept KB3.out)).mono ?_
      rintro e W4 ⟨R, A1, c1, hR1, hl1, rfl, hC1, hc1, k⟩
      have KB4 := Lib.hid (KB3.out.trans k)
      clear k
      replace HA := Lib.hid (HA.out.kept KB4.out)
      replace HL := Lib.hid (HL.out.kept KB4.out)
      replace HV := Lib.hid (HV.out.kept KB4.out)
      replace HB0 := Lib.hid (HB0.out.kept KB4.out)
      replace K0 := Lib.hid (K0.out.trans KB4.out)
      have KB5 := Lib.hid (Kept.refl W4)
      have HR := Lib.hid hC1
      clear hC1
      have HNe := Lib.hid (fun i (hi : i < R.length) (h1 : 1 ≤ i) => (show ¬ R[i].e = (R[i - 1]'(by omega)).e from fun e => absurd (HT.out R hR1 i hi h1 e) (by omega)))
      clear hR1 HT hc hcb
      go_wp2_with fail
      go_loopw [10] (fun i w' => ∃ n : Nat, 1 ≤ n ∧ i = .int .i64 n ∧ Kept W4 w') (fun i _ => R.length - (intOf i).toNat)
      case atStart => exact ⟨1, by omega, rfl, Kept.refl _⟩
      case round =>
        obtain ⟨n, h1n, rfl, k1⟩ := hrel
        have KB6 := Lib.hid (KB5.out.trans k1)
        clear k1
        by_cases hlt : n < R.length
        · obtain ⟨m, hm⟩ : ∃ m, n = m + 1 := ⟨n - 1, by omega⟩
          subst hm
          have hml : m < R.length := by omega
          obtain ⟨zj, oj, hzj, hbj, e0, e1, e2⟩ := ck_at (HR.out.kept KB6.out) hlt
          obtain ⟨zp, op, hzp, hbp, p0, p1, p2⟩ := ck_at (HR.out.kept KB6.out) hml
          rw [hzj] at hzp
          injection hzp with hzp
          injection hzp with hz1 hz2 _
          subst hz1 hz2 hzj
          clear e1 e2 p1 p2
          have hne := HNe.out (m + 1) hlt (by omega)
          simp only [Nat.add_sub_cancel] at hne
          generalize R[m + 1] = x at *
          generalize R[m] = y at *
          have hnb : (x.e == y.e) = false := beq_eq_false_iff_ne.2 hne
          have hw : IntKind.i64.wrap (((m + 1 : Nat) : Int) - 1) = (m : Int) := by rw [IntKind.wrap_i64]; omega
          go_wp2_with fail
          go_quiet (fail)
          go_wp2_with fail
          go_roundw
          case rel => exact ⟨m + 1 + 1, by omega, by go_num, KB6.out.drewN _⟩
          case measure => simp [intOf]; omega
        · go_wp2_with fail
          go_ret
          exact ⟨by first | rfl | (simp; done), K0.out.trans KB6.out⟩

/-! ### The row's step -/
set_option maxRecDepth 100000 in
theorem lifted (os : Os) (started : os.Started) (H : Type) (enc : TypeId × Value → H) :
    ReturnsInHanded {} Try.checked os 5 .any (Rows.slashEpochsSpec.pre6 enc Try.prog Try.f5 Rows.slashEpochsRow.domain false) (Rows.slashEpochsSpec.post enc Try.prog Try.f5 false true false false) := by
  refine returnsInHanded_of_change (C := Try.checked) own started (by kernel_rfl) Try.func5
    (ChangeSpec.witness6 (enc := enc) (C := Try.checked) false ⟨#[], #[.agg #[.slice none 0 0, .int .u64 0, .int .i64 0, .int .i64 0, .int .i64 0], .slice none 0 0, .slice none 0 0], []⟩ 8 (by kernel_rfl) (by kernel_rfl) (by kernel_rfl) (by kernel_rfl)) ?_
  intro W base args ds gs before hval0 hW hcnd _
  have hval : ∀ (j : Nat) t v, Try.f5.params[j]? = some t → args[j]? = some v → Value.okWide Try.prog W .any base t v := hval0
  have hW' := hW
  obtain ⟨p, q, hA0, hV, rfl, hfz, hnd⟩ := hW
  have hA : DataW.TrodAll enc Try.prog W 0 (fun _ => true) true Try.f5.params.toList args.toList ds p := hA0
  rw [Try.params5] at hA hval
  obtain ⟨v0, vs0, d0, ds0, p0, q0, hargs, rfl, rfl, h0, r0⟩ := trodAll_cons hA
  obtain ⟨v1, vs1, d1, ds1, p1, q1, rfl, rfl, rfl, h1, r1⟩ := trodAll_cons r0
  obtain ⟨v2, vs2, d2, ds2, p2, q2, rfl, rfl, rfl, h2, r2⟩ := trodAll_cons r1
  obtain ⟨rfl, rfl, rfl⟩ := trodAll_nil r2
  obtain rfl : args = #[v0, v1, v2] := by cases args; simp_all
  obtain ⟨rfl, rfl⟩ := trodVars_none hV
  obtain ⟨kA, kc, k, rfl, khm, khs, khl⟩ := open_conf (hval 0 _ v0 rfl rfl) h0
  obtain ⟨lA, lc, l, rfl, lhm, lhc, lhw, lhl⟩ := open_blocks (hval 1 _ v1 rfl rfl) h1
  obtain ⟨vA, vc, v, rfl, vhm, vhc, vhw, vhl⟩ := open_links (hval 2 _ v2 rfl rfl) h2
  clear hA0 hval0
  refine (walk W kA kc k khm khs khl lA lc l lhm lhc lhw lhl vA vc v vhm vhc vhw vhl).mono fun e W' ⟨he, hb⟩ => ?_
  subst he
  exact ⟨_, rfl, law_post rfl (by kernel_rfl) rfl hW' rfl hb⟩

theorem over : Rows.slashEpochsRow.holds Try.pinned (OpenSpec.ofChange Rows.slashEpochsSpec) :=
  OpenClaim.holds_of_wide 5 Try.f5 rfl rfl rfl rfl rfl rfl rfl ⟨rfl, rfl, rfl, rfl, rfl⟩ rfl rfl rfl rfl rfl (by kernel_rfl) Try.func5 (by kernel_rfl)
    (of_decide_eq_true (by kernel_rfl)) (by unfold Func.isWrapper; first | (rw [if_pos (by decide +kernel)]; kernel_rfl) | (rw [if_neg (by decide +kernel)]; exact ⟨rfl, rfl⟩))
    (fun os started H enc _ => lifted os started H enc)

/-- The statement. -/
theorem proved : Rows.SlashEpochsSaid :=
  over
#print axioms proved

end Go.Proofs.Ythaofomhlmajbaa.slashEpochs
