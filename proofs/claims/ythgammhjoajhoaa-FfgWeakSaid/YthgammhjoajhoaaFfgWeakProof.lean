/-
  Law FfgWeak of layer 11: where all who have a link weigh less than two thirds nothing but the first checkpoint is justified, or final, whatever conf, blocks and links.
-/
import Derived.Test.YthgammhjoajhoaaFfgAwake
import Derived.Test.YthgammhjoajhoaaFfgFinals
import Derived.Test.YthgammhjoajhoaaDutyG
import Derived.Test.YthgammhjoajhoaaTreeG
import Derived.Test.YthgammhjoajhoaaFfgOpen
import Derived.Test.YthgammhjoajhoaaGround
import Derived.Test.YthgammhjoajhoaaFfgLaws
namespace Go.Proofs.Ythgammhjoajhoaa.ffgWeak
set_option maxRecDepth 100000
set_option linter.unusedVariables false
set_option linter.unusedSimpArgs false
open Go.ChangeShapes Go.WideShapes Go.ChangeAt Go.RowKit
set_option linter.unusedVariables false

/-! ### The walk: the call returns true, and of what was there nothing has changed. -/
attribute [local go_sem high] eqK in
set_option maxRecDepth 100000 in
set_option maxHeartbeats 3200000 in
theorem walk (w : World) (kA : Option Addr) (kc : Nat) (k : Cf) (khm : k.ws.length ≤ maxLen) (khs : k.seed < 18446744073709551616) (khl : CellsAt w w.heap.size kA (intCells k.ws)) (lA : Option Addr) (lc : Nat) (l : List Bk) (lhm : l.length ≤ maxLen) (lhc : l.length ≤ lc) (lhw : WfL l) (lhl : CellsAt w w.heap.size lA (blockCells l)) (vA : Option Addr) (vc : Nat) (v : List Lk) (vhm : v.length ≤ maxLen) (vhc : v.length ≤ vc) (vhw : WfLks v) (vhl : CellsAt w w.heap.size vA (lksCells v)) :
    Calls Try.prog 6 #[.agg #[.slice kA k.ws.length kc, .int .u64 k.seed, .int .i64 k.ep, .int .i64 k.nu, .int .i64 k.de], .slice lA l.length lc, .slice vA v.length vc] w fun e w' => e = .returned (.bool true) ∧ Kept w w' := by
  cases hf : few11C k l v with
  | false =>
    go_enter Try.func6, Try.ntmps6
    go_wp2_with fail
    have K0 := Lib.hid ((Kept.refl w).alloc (.cells #[.slice kA k.ws.length kc, .int .u64 k.seed, .int .i64 k.ep, .int .i64 k.nu, .int .i64 k.de] 25))
    have HA := Lib.hid (khl.kept K0.out)
    clear khl
    have HL := Lib.hid (lhl.kept K0.out)
    clear lhl
    have HV := Lib.hid (vhl.kept K0.out)
    clear vhl
    have HB0 := Lib.hid (HasCells.new w #[.slice kA k.ws.length kc, .int .u64 k.seed, .int .i64 k.ep, .int .i64 k.nu, .int .i64 k.de] 25 (w.heap.size) (by simp))
    generalize (w.alloc (.cells #[.slice kA k.ws.length kc, .int .u64 k.seed, .int .i64 k.ep, .int .i64 k.nu, .int .i64 k.de] 25)) = W0 at *
    generalize w.heap.size = z0 at *
    have KB0 := Lib.hid (Kept.refl W0)
    refine (ffgAwake W0).mono ?_
    rintro e W1 ⟨rfl, k⟩
    have KB1 := Lib.hid (KB0.out.trans k)
    clear k
    obtain ⟨b00, b01, b02, b03, b04⟩ := (HB0.out.kept KB1.out).five
    have bz0 := (HB0.out.kept KB1.out).1
    go_wp2_with fail
    clear b00 b01 b02 b03 b04 bz0
    refine (few11_any kA kc k lA lc l vA vc v W1).mono ?_
    rintro e W2 ⟨rfl, k⟩
    have KB2 := Lib.hid (KB1.out.trans k)
    clear k
    rw [hf]
    obtain ⟨b00, b01, b02, b03, b04⟩ := (HB0.out.kept KB2.out).five
    have bz0 := (HB0.out.kept KB2.out).1
    go_wp2_with fail
    clear b00 b01 b02 b03 b04 bz0
    go_ret
    exact ⟨by first | rfl | (simp; done), K0.out.trans KB2.out⟩
  | true =>
    obtain ⟨hk40, hl20, hv40⟩ := few11C_yes hf
    have HF := Lib.hid hf
    clear hf
    go_enter Try.func6, Try.ntmps6
    go_wp2_with fail
    have K0 := Lib.hid ((Kept.refl w).alloc (.cells #[.slice kA k.ws.length kc, .int .u64 k.seed, .int .i64 k.ep, .int .i64 k.nu, .int .i64 k.de] 25))
    have HA := Lib.hid (khl.kept K0.out)
    clear khl
    have HL := Lib.hid (lhl.kept K0.out)
    clear lhl
    have HV := Lib.hid (vhl.kept K0.out)
    clear vhl
    have HB0 := Lib.hid (HasCells.new w #[.slice kA k.ws.length kc, .int .u64 k.seed, .int .i64 k.ep, .int .i64 k.nu, .int .i64 k.de] 25 (w.heap.size) (by simp))
    generalize (w.alloc (.cells #[.slice kA k.ws.length kc, .int .u64 k.seed, .int .i64 k.ep, .int .i64 k.nu, .int .i64 k.de] 25)) = W0 at *
    generalize w.heap.size = z0 at *
    have KB0 := Lib.hid (Kept.refl W0)
    refine (ffgAwake W0).mono ?_
    rintro e W1 ⟨rfl, k⟩
    have KB1 := Lib.hid (KB0.out.trans k)
    clear k
    obtain ⟨b00, b01, b02, b03, b04⟩ := (HB0.out.kept KB1.out).five
    have bz0 := (HB0.out.kept KB1.out).1
    go_wp2_with fail
    clear b00 b01 b02 b03 b04 bz0
    refine (few11_any kA kc k lA lc l vA vc v W1).mono ?_
    rintro e W2 ⟨rfl, k⟩
    have KB2 := Lib.hid (KB1.out.trans k)
    clear k
    rw [HF.out]
    obtain ⟨b00, b01, b02, b03, b04⟩ := (HB0.out.kept KB2.out).five
    have bz0 := (HB0.out.kept KB2.out).1
    go_wp2_with fail
    clear b00 b01 b02 b03 b04 bz0
    go_loopw [9, 10] (fun u i w' => ∃ j : Nat, j ≤ v.length ∧ i = .int .i64 j ∧ Ints W2 (fromsK (v.take j)) u w') (fun _ i _ => v.length - (intOf i).toNat)
    case atStart => exact ⟨0, by omega, rfl, Ints.nil _⟩
    case round =>
      obtain ⟨j, hj, rfl, hI⟩ := hrel
      have HI := Lib.hid hI
      have k1 := hI.2
      clear hI
      have KB3 := Lib.hid (KB2.out.trans k1)
      clear k1
      by_cases hlt : j < v.length
      · obtain ⟨zv, ov, rfl, hbv, x0, x1, x2, x3, x4, x5, x6⟩ := lk_at (HV.out.kept KB3.out) hlt
        have HN := Lib.hid (fromsK_take hlt)
        have HLe := Lib.hid (show (fromsK (v.take j)).length ≤ j by rw [fromsK_length, List.length_take]; omega)
        generalize fromsK (v.take j) = X at *
        generalize v[j] = y at *
        have hll : X.length + 1 ≤ 1000000 := by have := HLe.out; omega
        go_wp2_with (refine wpList_ints _ rfl _ _ rfl W2 X _ rfl (HI.out.alloc _) _ _ 1 1 [y.f] rfl rfl (CellsAt.new _ _ _ _ (by simp)) hll ?_; intro v' w' HI'; rw [← HN.out] at HI')
        go_roundw
        case rel => exact ⟨j + 1, by omega, by go_num, HI'⟩
        case measure => simp [intOf]; omega
      · have hjl : j = v.length := by omega
        subst hjl
        have HTk := Lib.hid (show v.take v.length = v from List.take_length)
        rw [HTk.out] at HI
        have HLx := Lib.hid (fromsK_length v)
        have HWk := Lib.hid (fun h => weak_all (k := k) (l := l) (v := v) h)
        have HWj := Lib.hid (fun h R hR => weak_just (k := k) (l := l) (v := v) (R := R) h hR)
        have HWf := Lib.hid (fun h R hR => weak_final (k := k) (l := l) (v := v) (F := R) h hR)
        generalize fromsK v = X at *
        obtain ⟨B, cb, rfl⟩ := HI.out.sliceW
        have HWt := Lib.hid (fun w' (kk : Kept wr w') => weight_any kA kc k B X cb w' ((HA.out.kept KB3.out).kept kk) (by have := HLx.out; omega) ((HI.out.cells rfl).kept kk))
        have HTt := Lib.hid (fun w' (kk : Kept wr w') => total_any kA kc k w' ((HA.out.kept KB3.out).kept kk))
        have HJ1 := Lib.hid (fun w' (kk : Kept W0 w') => ffgJust_any kA kc k lA lc l vA vc v w' (by omega) (by omega) lhw (by omega) vhw (HA.out.kept kk) (HL.out.kept kk) (HV.out.kept kk))
        have HF1 := Lib.hid (fun w' (kk : Kept W0 w') => ffgFinal_any kA kc k lA lc l vA vc v w' (by omega) (by omega) lhw (by omega) vhw (HA.out.kept kk) (HL.out.kept kk) (HV.out.kept kk))
        have hpb := weight_bounds k X
        have htb := total_bounds k
        generalize weightC k X = p at *
        generalize totalC k = t at *
        have hp3 : IntKind.i64.wrap (3 * p) = 3 * p := by rw [IntKind.wrap_i64]; omega
        have hq2 : IntKind.i64.wrap (2 * t) = 2 * t := by rw [IntKind.wrap_i64]; omega
        obtain ⟨b00, b01, b02, b03, b04⟩ := (HB0.out.kept KB3.out).five
        have bz0 := (HB0.out.kept KB3.out).1
        go_wp2_with fail
        refine wp_region_noPanic ?_
        refine wp_region_held_drew (S := (fun w' => w'.cell? ⟨z0, 0, none⟩ = some (.slice kA k.ws.length kc) ∧ w'.cell? ⟨z0, 1, none⟩ = some (.int .u64 k.seed) ∧ w'.cell? ⟨z0, 2, none⟩ = some (.int .i64 k.ep) ∧ w'.cell? ⟨z0, 3, none⟩ = some (.int .i64 k.nu) ∧ w'.cell? ⟨z0, 4, none⟩ = some (.int .i64 k.de) ∧ Kept wr w')) (by kernel_rfl) ?_ (fun hHeld => ?_)
        · exact ⟨b00, b01, b02, b03, b04, (Kept.refl _).drew⟩
        refine wpAnyH_take (i := 0) (v := ?_) (by simp only [List.getElem?_toArray, List.getElem?_cons_succ, List.getElem?_cons_zero]; rfl) (by kernel_rfl) (by kernel_rfl) (by kernel_rfl) (fun _ _ _ h => h) (Or.inl ⟨by rfl, ?_⟩) (by assumption) ?_
        rotate_left
        · intro w hSw
          (try dsimp only at hSw)
          go_simp
          (try with_reducible rfl)
        simp only [Act.put, List.setIfInBounds_toArray, List.set_cons_zero, List.set_cons_succ]
        refine wpAnyH_take (i := 1) (v := ?_) (by simp only [List.getElem?_toArray, List.getElem?_cons_succ, List.getElem?_cons_zero]; rfl) (by kernel_rfl) (by kernel_rfl) (by kernel_rfl) (fun _ _ _ h => h) (Or.inl ⟨by rfl, ?_⟩) (by assumption) ?_
        rotate_left
        · intro w hSw
          (try dsimp only at hSw)
          go_simp
          (try with_reducible rfl)
        simp only [Act.put, List.setIfInBounds_toArray, List.set_cons_zero, List.set_cons_succ]
        refine wpAnyH_take (i := 4) (v := ?_) (by simp only [List.getElem?_toArray, List.getElem?_cons_succ, List.getElem?_cons_zero]; rfl) (by kernel_rfl) (by kernel_rfl) (by kernel_rfl) (fun _ _ _ h => h) (Or.inl ⟨by rfl, ?_⟩) (by assumption) ?_
        rotate_left
        · intro w hSw
          (try dsimp only at hSw)
          go_simp
          (try with_reducible rfl)
        simp only [Act.put, List.setIfInBounds_toArray, List.set_cons_zero, List.set_cons_succ]
        refine wpAnyH_ready (rs := [2]) (by kernel_rfl) (by simp) ?_
        refine AllReadyH.cons (by simp only [List.getElem?_toArray, List.getElem?_cons_succ, List.getElem?_cons_zero]; rfl) (fun K hK => ?_) AllReadyH.nil
        go_simp
        go_at_call 16; with_reducible refine (HWt.out _ hHeld.2.2.2.2.2).mono ?_
        rintro e w' ⟨rfl, kk⟩
        try go_wp2_with fail
        refine hK.out _ _ ?_ (fun hHeld2 => ?_)
        · exact keepP5 bz0 bz0 bz0 bz0 bz0 hHeld kk
        clear hK K hHeld
        have hHeld := hHeld2
        clear hHeld2
        try simp only [Act.put, List.setIfInBounds_toArray, List.set_cons_zero, List.set_cons_succ]
        refine wpAnyH_take (i := 3) (v := ?_) (by simp only [List.getElem?_toArray, List.getElem?_cons_succ, List.getElem?_cons_zero]; rfl) (by kernel_rfl) (by kernel_rfl) (by kernel_rfl) (fun _ _ _ h => h) (Or.inl ⟨by rfl, ?_⟩) (by assumption) ?_
        rotate_left
        · intro w hSw
          (try dsimp only at hSw)
          go_simp
          (try with_reducible rfl)
        simp only [Act.put, List.setIfInBounds_toArray, List.set_cons_zero, List.set_cons_succ]
        try simp only [hp3]
        refine wpAnyH_ready (rs := [5]) (by kernel_rfl) (by simp) ?_
        refine AllReadyH.cons (by simp only [List.getElem?_toArray, List.getElem?_cons_succ, List.getElem?_cons_zero]; rfl) (fun K hK => ?_) AllReadyH.nil
        go_simp
        go_at_call 17; with_reducible refine (HTt.out _ hHeld.2.2.2.2.2).mono ?_
        rintro e w' ⟨rfl, kk⟩
        try go_wp2_with fail
        refine hK.out _ _ ?_ (fun hHeld2 => ?_)
        · exact keepP5 bz0 bz0 bz0 bz0 bz0 hHeld kk
        clear hK K hHeld
        have hHeld := hHeld2
        clear hHeld2
        try simp only [Act.put, List.setIfInBounds_toArray, List.set_cons_zero, List.set_cons_succ]
        refine wpAnyH_take (i := 6) (v := ?_) (by simp only [List.getElem?_toArray, List.getElem?_cons_succ, List.getElem?_cons_zero]; rfl) (by kernel_rfl) (by kernel_rfl) (by kernel_rfl) (fun _ _ _ h => h) (Or.inl ⟨by rfl, ?_⟩) (by assumption) ?_
        rotate_left
        · intro w hSw
          (try dsimp only at hSw)
          go_simp
          (try with_reducible rfl)
        simp only [Act.put, List.setIfInBounds_toArray, List.set_cons_zero, List.set_cons_succ]
        try simp only [hq2]
        refine wpAnyH_take (i := 7) (v := ?_) (by simp only [List.getElem?_toArray, List.getElem?_cons_succ, List.getElem?_cons_zero]; rfl) (by kernel_rfl) (by kernel_rfl) (by kernel_rfl) (fun _ _ _ h => h) (Or.inl ⟨by rfl, ?_⟩) (by assumption) ?_
        rotate_left
        · intro w hSw
          (try dsimp only at hSw)
          go_simp
          (try with_reducible rfl)
        simp only [Act.put, List.setIfInBounds_toArray, List.set_cons_zero, List.set_cons_succ]
        refine wpAnyH_done (by kernel_rfl) ?_ _
        refine NoPanic.normal ?_
        have k := hHeld.2.2.2.2.2
        clear hHeld
        clear b00 b01 b02 b03 b04 bz0
        have KB4 := Lib.hid (KB3.out.trans k)
        clear k
        generalize w' = W4 at *
        by_cases hc : 2 * t ≤ 3 * p
        · have hcb : decide (2 * t ≤ 3 * p) = true := decide_eq_true hc
          go_wp2_with fail
          go_ret
          exact ⟨by first | rfl | (simp; done), K0.out.trans KB4.out⟩
        · have hcb : decide (2 * t ≤ 3 * p) = false := decide_eq_false hc
          have HW0 := Lib.hid (HWk.out (by omega))
          obtain ⟨b00, b01, b02, b03, b04⟩ := (HB0.out.kept KB4.out).five
          have bz0 := (HB0.out.kept KB4.out).1
          go_wp2_with fail
          clear b00 b01 b02 b03 b04 bz0
          refine (HJ1.out W4 KB4.out).mono ?_
          rintro e W5 ⟨R, A1, c1, hR1, hl1, rfl, hC1, hc1, k⟩
          have KB5 := Lib.hid (KB4.out.trans k)
          clear k
          have hr1 := HWj.out HW0.out R hR1
          clear hR1 hC1
          generalize R.length = rn at *
          have hrb : decide ((rn : Int) ≤ 1) = true := decide_eq_true (by omega)
          obtain ⟨b00, b01, b02, b03, b04⟩ := (HB0.out.kept KB5.out).five
          have bz0 := (HB0.out.kept KB5.out).1
          go_wp2_with fail
          clear b00 b01 b02 b03 b04 bz0
          refine (HF1.out W5 KB5.out).mono ?_
          rintro e W6 ⟨R2, A2, c2, hR2, hl2, rfl, hC2, hc2, k⟩
          have KB6 := Lib.hid (KB5.out.trans k)
          clear k
          have hr2 := HWf.out HW0.out R2 hR2
          clear hR2 hC2
          generalize R2.length = rn2 at *
          have hrb2 : decide ((rn2 : Int) ≤ 1) = true := decide_eq_true (by omega)
          go_wp2_with fail
          go_ret
          exact ⟨by first | rfl | (simp; done) | (simp; omega), K0.out.trans KB6.out⟩

/-! ### The row's step -/
set_option maxRecDepth 100000 in
theorem lifted (os : Os) (started : os.Started) (H : Type) (enc : TypeId × Value → H) :
    ReturnsInHanded {} Try.checked os 6 .any (Rows.ffgWeakSpec.pre6 enc Try.prog Try.f6 Rows.ffgWeakRow.domain false) (Rows.ffgWeakSpec.post enc Try.prog Try.f6 false true false false) := by
  refine returnsInHanded_of_change (C := Try.checked) own started (by kernel_rfl) Try.func6
    (ChangeSpec.witness6 (enc := enc) (C := Try.checked) false ⟨#[], #[.agg #[.slice none 0 0, .int .u64 0, .int .i64 0, .int .i64 0, .int .i64 0], .slice none 0 0, .slice none 0 0], []⟩ 8 (by kernel_rfl) (by kernel_rfl) (by kernel_rfl) (by kernel_rfl)) ?_
  intro W base args ds gs before hval0 hW hcnd _
  have hval : ∀ (j : Nat) t v, Try.f6.params[j]? = some t → args[j]? = some v → Value.okWide Try.prog W .any base t v := hval0
  have hW' := hW
  obtain ⟨p, q, hA0, hV, rfl, hfz, hnd⟩ := hW
  have hA : DataW.TrodAll enc Try.prog W 0 (fun _ => true) true Try.f6.params.toList args.toList ds p := hA0
  rw [Try.params6] at hA hval
  obtain ⟨v0, vs0, d0, ds0, p0, q0, hargs, rfl, rfl, h0, r0⟩ := trodAll_cons hA
  obtain ⟨v1, vs1, d1, ds1, p1, q1, rfl, rfl, rfl, h1, r1⟩ := trodAll_cons r0
  obtain ⟨v2, vs2, d2, ds2, p2, q2, rfl, rfl, rfl, h2, r2⟩ := trodAll_cons r1
  obtain ⟨rfl, rfl, rfl⟩ := trodAll_nil r2
  obtain rfl : args = #[v0, v1, v2] := by cases args; simp_all
  obtain ⟨rfl, rfl⟩ := trodVars_none hV
  obtain ⟨kA, kc, k, rfl, khm, khs, khl⟩ := open_conf (hval 0 _ v0 rfl rfl) h0
  obtain ⟨lA, lc, l, rfl, lhm, lhc, lhw, lhl⟩ := open_blocks (hval 1 _ v1 rfl rfl) h1
  obtain ⟨vA, vc, v, rfl, vhm, vhc, vhw, vhl⟩ := open_links (hval 2 _ v2 rfl rfl) h2
  clear hA0 hval0
  refine (walk W kA kc k khm khs khl lA lc l lhm lhc lhw lhl vA vc v vhm vhc vhw vhl).mono fun e W' ⟨he, hb⟩ => ?_
  subst he
  exact ⟨_, rfl, law_post rfl (by kernel_rfl) rfl hW' rfl hb⟩

theorem over : Rows.ffgWeakRow.holds Try.pinned (OpenSpec.ofChange Rows.ffgWeakSpec) :=
  OpenClaim.holds_of_wide 6 Try.f6 rfl rfl rfl rfl rfl rfl rfl ⟨rfl, rfl, rfl, rfl, rfl⟩ rfl rfl rfl rfl rfl (by kernel_rfl) Try.func6 (by kernel_rfl)
    (of_decide_eq_true (by kernel_rfl)) (by unfold Func.isWrapper; first | (rw [if_pos (by decide +kernel)]; kernel_rfl) | (rw [if_neg (by decide +kernel)]; exact ⟨rfl, rfl⟩))
    (fun os started H enc _ => lifted os started H enc)

/-- The statement. -/
theorem proved : Rows.FfgWeakSaid :=
  over
#print axioms proved

end Go.Proofs.Ythgammhjoajhoaa.ffgWeak
