/-
  Law FfgEpochs of layer 11: no link that may be goes back, or stays, in epochs, and of what may not be nothing is strong, whatever conf, blocks, links and link.
-/
import Derived.Test.YthgammhjoajhoaaFfgAwake
import Derived.Test.YthgammhjoajhoaaFfgFinals
import Derived.Test.YthgammhjoajhoaaDutyG
import Derived.Test.YthgammhjoajhoaaTreeG
import Derived.Test.YthgammhjoajhoaaFfgOpen
import Derived.Test.YthgammhjoajhoaaGround
import Derived.Test.YthgammhjoajhoaaFfgLaws
namespace Go.Proofs.Ythgammhjoajhoaa.ffgEpochs
set_option maxRecDepth 100000
set_option linter.unusedVariables false
set_option linter.unusedSimpArgs false
open Go.ChangeShapes Go.WideShapes Go.ChangeAt Go.RowKit
set_option linter.unusedVariables false

/-! ### The walk: the call returns true, and of what was there nothing has changed. -/
attribute [local go_sem high] eqK in
set_option maxRecDepth 100000 in
set_option maxHeartbeats 3200000 in
theorem walk (w : World) (kA : Option Addr) (kc : Nat) (k : Cf) (khm : k.ws.length ≤ maxLen) (khs : k.seed < 18446744073709551616) (khl : CellsAt w w.heap.size kA (intCells k.ws)) (lA : Option Addr) (lc : Nat) (l : List Bk) (lhm : l.length ≤ maxLen) (lhc : l.length ≤ lc) (lhw : WfL l) (lhl : CellsAt w w.heap.size lA (blockCells l)) (vA : Option Addr) (vc : Nat) (v : List Lk) (vhm : v.length ≤ maxLen) (vhc : v.length ≤ vc) (vhw : WfLks v) (vhl : CellsAt w w.heap.size vA (lksCells v)) (x : Lk) (hx : WfLk x) :
    Calls Try.prog 7 #[.agg #[.slice kA k.ws.length kc, .int .u64 k.seed, .int .i64 k.ep, .int .i64 k.nu, .int .i64 k.de], .slice lA l.length lc, .slice vA v.length vc, .agg #[.int .i64 x.f, .int .i64 x.s.e, .int .u64 x.s.r.1, .int .u64 x.s.r.2, .int .i64 x.t.e, .int .u64 x.t.r.1, .int .u64 x.t.r.2]] w fun e w' => e = .returned (.bool true) ∧ Kept w w' := by
  cases hf : few11C k l v with
  | false =>
    go_enter Try.func7, Try.ntmps7
    go_wp2_with fail
    have K0 := Lib.hid (((Kept.refl w).alloc (.cells #[.slice kA k.ws.length kc, .int .u64 k.seed, .int .i64 k.ep, .int .i64 k.nu, .int .i64 k.de] 25)).alloc (.cells #[.int .i64 x.f, .int .i64 x.s.e, .int .u64 x.s.r.1, .int .u64 x.s.r.2, .int .i64 x.t.e, .int .u64 x.t.r.1, .int .u64 x.t.r.2] 33))
    have HA := Lib.hid (khl.kept K0.out)
    clear khl
    have HL := Lib.hid (lhl.kept K0.out)
    clear lhl
    have HV := Lib.hid (vhl.kept K0.out)
    clear vhl
    have HB0 := Lib.hid ((HasCells.new w #[.slice kA k.ws.length kc, .int .u64 k.seed, .int .i64 k.ep, .int .i64 k.nu, .int .i64 k.de] 25 (w.heap.size) (by simp)).alloc (.cells #[.int .i64 x.f, .int .i64 x.s.e, .int .u64 x.s.r.1, .int .u64 x.s.r.2, .int .i64 x.t.e, .int .u64 x.t.r.1, .int .u64 x.t.r.2] 33))
    have HB1 := Lib.hid (HasCells.new (w.alloc (.cells #[.slice kA k.ws.length kc, .int .u64 k.seed, .int .i64 k.ep, .int .i64 k.nu, .int .i64 k.de] 25)) #[.int .i64 x.f, .int .i64 x.s.e, .int .u64 x.s.r.1, .int .u64 x.s.r.2, .int .i64 x.t.e, .int .u64 x.t.r.1, .int .u64 x.t.r.2] 33 (w.heap.size + 1) (by simp))
    generalize ((w.alloc (.cells #[.slice kA k.ws.length kc, .int .u64 k.seed, .int .i64 k.ep, .int .i64 k.nu, .int .i64 k.de] 25)).alloc (.cells #[.int .i64 x.f, .int .i64 x.s.e, .int .u64 x.s.r.1, .int .u64 x.s.r.2, .int .i64 x.t.e, .int .u64 x.t.r.1, .int .u64 x.t.r.2] 33)) = W0 at *
    generalize w.heap.size + 1 = z1 at *
    generalize w.heap.size = z0 at *
    have KB0 := Lib.hid (Kept.refl W0)
    refine (ffgAwake W0).mono ?_
    rintro e W1 ⟨rfl, k⟩
    have KB1 := Lib.hid (KB0.out.trans k)
    clear k
    obtain ⟨b00, b01, b02, b03, b04⟩ := (HB0.out.kept KB1.out).five
    have bz0 := (HB0.out.kept KB1.out).1
    obtain ⟨b10, b11, b12, b13, b14, b15, b16⟩ := (HB1.out.kept KB1.out).seven
    have bz1 := (HB1.out.kept KB1.out).1
    go_wp2_with fail
    clear b00 b01 b02 b03 b04 bz0 b10 b11 b12 b13 b14 b15 b16 bz1
    refine (few11_any kA kc k lA lc l vA vc v W1).mono ?_
    rintro e W2 ⟨rfl, k⟩
    have KB2 := Lib.hid (KB1.out.trans k)
    clear k
    rw [hf]
    obtain ⟨b00, b01, b02, b03, b04⟩ := (HB0.out.kept KB2.out).five
    have bz0 := (HB0.out.kept KB2.out).1
    obtain ⟨b10, b11, b12, b13, b14, b15, b16⟩ := (HB1.out.kept KB2.out).seven
    have bz1 := (HB1.out.kept KB2.out).1
    go_wp2_with fail
    clear b00 b01 b02 b03 b04 bz0 b10 b11 b12 b13 b14 b15 b16 bz1
    go_ret
    exact ⟨by first | rfl | (simp; done), K0.out.trans KB2.out⟩
  | true =>
    obtain ⟨hk40, hl20, hv40⟩ := few11C_yes hf
    have HF := Lib.hid hf
    clear hf
    go_enter Try.func7, Try.ntmps7
    go_wp2_with fail
    have K0 := Lib.hid (((Kept.refl w).alloc (.cells #[.slice kA k.ws.length kc, .int .u64 k.seed, .int .i64 k.ep, .int .i64 k.nu, .int .i64 k.de] 25)).alloc (.cells #[.int .i64 x.f, .int .i64 x.s.e, .int .u64 x.s.r.1, .int .u64 x.s.r.2, .int .i64 x.t.e, .int .u64 x.t.r.1, .int .u64 x.t.r.2] 33))
    have HA := Lib.hid (khl.kept K0.out)
    clear khl
    have HL := Lib.hid (lhl.kept K0.out)
    clear lhl
    have HV := Lib.hid (vhl.kept K0.out)
    clear vhl
    have HB0 := Lib.hid ((HasCells.new w #[.slice kA k.ws.length kc, .int .u64 k.seed, .int .i64 k.ep, .int .i64 k.nu, .int .i64 k.de] 25 (w.heap.size) (by simp)).alloc (.cells #[.int .i64 x.f, .int .i64 x.s.e, .int .u64 x.s.r.1, .int .u64 x.s.r.2, .int .i64 x.t.e, .int .u64 x.t.r.1, .int .u64 x.t.r.2] 33))
    have HB1 := Lib.hid (HasCells.new (w.alloc (.cells #[.slice kA k.ws.length kc, .int .u64 k.seed, .int .i64 k.ep, .int .i64 k.nu, .int .i64 k.de] 25)) #[.int .i64 x.f, .int .i64 x.s.e, .int .u64 x.s.r.1, .int .u64 x.s.r.2, .int .i64 x.t.e, .int .u64 x.t.r.1, .int .u64 x.t.r.2] 33 (w.heap.size + 1) (by simp))
    generalize ((w.alloc (.cells #[.slice kA k.ws.length kc, .int .u64 k.seed, .int .i64 k.ep, .int .i64 k.nu, .int .i64 k.de] 25)).alloc (.cells #[.int .i64 x.f, .int .i64 x.s.e, .int .u64 x.s.r.1, .int .u64 x.s.r.2, .int .i64 x.t.e, .int .u64 x.t.r.1, .int .u64 x.t.r.2] 33)) = W0 at *
    generalize w.heap.size + 1 = z1 at *
    generalize w.heap.size = z0 at *
    have KB0 := Lib.hid (Kept.refl W0)
    refine (ffgAwake W0).mono ?_
    rintro e W1 ⟨rfl, k⟩
    have KB1 := Lib.hid (KB0.out.trans k)
    clear k
    obtain ⟨b00, b01, b02, b03, b04⟩ := (HB0.out.kept KB1.out).five
    have bz0 := (HB0.out.kept KB1.out).1
    obtain ⟨b10, b11, b12, b13, b14, b15, b16⟩ := (HB1.out.kept KB1.out).seven
    have bz1 := (HB1.out.kept KB1.out).1
    go_wp2_with fail
    clear b00 b01 b02 b03 b04 bz0 b10 b11 b12 b13 b14 b15 b16 bz1
    refine (few11_any kA kc k lA lc l vA vc v W1).mono ?_
    rintro e W2 ⟨rfl, k⟩
    have KB2 := Lib.hid (KB1.out.trans k)
    clear k
    rw [HF.out]
    obtain ⟨b00, b01, b02, b03, b04⟩ := (HB0.out.kept KB2.out).five
    have bz0 := (HB0.out.kept KB2.out).1
    obtain ⟨b10, b11, b12, b13, b14, b15, b16⟩ := (HB1.out.kept KB2.out).seven
    have bz1 := (HB1.out.kept KB2.out).1
    go_wp2_with fail
    clear b00 b01 b02 b03 b04 bz0 b10 b11 b12 b13 b14 b15 b16 bz1
    have HS1 := Lib.hid (fun w' (kk : Kept W0 w') => ffgStrong_any kA kc k lA lc l vA vc v x.s x.t w' (by omega) (by omega) lhw (by omega) vhw hx.2.1 hx.2.2 (HA.out.kept kk) (HL.out.kept kk) (HV.out.kept kk))
    have HMx := Lib.hid (fun w' (kk : Kept W0 w') => ffgMay_any kA kc k lA lc l x w' (by omega) (by omega) lhw hx (HA.out.kept kk) (HL.out.kept kk))
    have HBk := Lib.hid (fun h => strong_back (k := k) (l := l) (v := v) (x := x) h)
    have HSe := Lib.hid (fun h => seenE_strong (k := k) (l := l) (v := v) (x := x) h)
    generalize strongC k l v x.s x.t = sb at *
    refine (HS1.out W2 KB2.out).mono ?_
    rintro e W3 ⟨rfl, k⟩
    have KB3 := Lib.hid (KB2.out.trans k)
    clear k
    by_cases hge : x.t.e ≤ x.s.e
    · obtain ⟨hsb, hmb⟩ := HBk.out hge
      rw [hmb] at HMx
      subst hsb
      have hgb : decide (x.t.e ≤ x.s.e) = true := decide_eq_true hge
      clear HSe HBk hmb
      obtain ⟨b00, b01, b02, b03, b04⟩ := (HB0.out.kept KB3.out).five
      have bz0 := (HB0.out.kept KB3.out).1
      obtain ⟨b10, b11, b12, b13, b14, b15, b16⟩ := (HB1.out.kept KB3.out).seven
      have bz1 := (HB1.out.kept KB3.out).1
      go_wp2_with fail
      clear b00 b01 b02 b03 b04 bz0 b10 b11 b12 b13 b14 b15 b16 bz1
      refine (HMx.out W3 KB3.out).mono ?_
      rintro e W4 ⟨rfl, k⟩
      have KB4 := Lib.hid (KB3.out.trans k)
      clear k
      obtain ⟨b00, b01, b02, b03, b04⟩ := (HB0.out.kept KB4.out).five
      have bz0 := (HB0.out.kept KB4.out).1
      obtain ⟨b10, b11, b12, b13, b14, b15, b16⟩ := (HB1.out.kept KB4.out).seven
      have bz1 := (HB1.out.kept KB4.out).1
      go_wp2_with fail
      clear b00 b01 b02 b03 b04 bz0 b10 b11 b12 b13 b14 b15 b16 bz1
      go_ret
      exact ⟨by first | rfl | (simp; done), K0.out.trans KB4.out⟩
    · have hgb : decide (x.t.e ≤ x.s.e) = false := decide_eq_false hge
      clear HBk HMx HS1
      obtain ⟨b00, b01, b02, b03, b04⟩ := (HB0.out.kept KB3.out).five
      have bz0 := (HB0.out.kept KB3.out).1
      obtain ⟨b10, b11, b12, b13, b14, b15, b16⟩ := (HB1.out.kept KB3.out).seven
      have bz1 := (HB1.out.kept KB3.out).1
      go_wp2_with fail
      clear b00 b01 b02 b03 b04 bz0 b10 b11 b12 b13 b14 b15 b16 bz1
      go_loopw [12, 13] (fun u i w' => ∃ j : Nat, j ≤ v.length ∧ i = .int .i64 j ∧ u = .bool (seenE k l v x j) ∧ Kept W3 w') (fun _ i _ => v.length - (intOf i).toNat)
      case atStart => exact ⟨0, by omega, rfl, by rw [seenE_zero], Kept.refl _⟩
      case round =>
        obtain ⟨j, hj, rfl, rfl, k1⟩ := hrel
        have HKr := Lib.hid k1
        have KB4 := Lib.hid (KB3.out.trans k1)
        clear k1
        by_cases hlt : j < v.length
        · obtain ⟨zv, ov, rfl, hbv, x0, x1, x2, x3, x4, x5, x6⟩ := lk_at (HV.out.kept KB4.out) hlt
          have HStp := Lib.hid (seenE_step (k := k) (l := l) (x := x) hlt)
          have hwy := vhw v[j] (List.getElem_mem hlt)
          have HMy := Lib.hid (fun w' (kk : Kept wr w') => ffgMay_any kA kc k lA lc l v[j] w' (by omega) (by omega) lhw hwy ((HA.out.kept KB4.out).kept kk) ((HL.out.kept KB4.out).kept kk))
          generalize hsn : seenE k l v x j = sn at *
          clear hsn
          generalize v[j] = y at *
          have HHt : Hid (hitE k l x y = (sameK y.s x.s && (sameK y.t x.t && mayL k l y))) := Lib.hid rfl
          cases sn with
          | true =>
            have HN := Lib.hid (show seenE k l v x (j + 1) = true by rw [HStp.out, HHt.out]; simp)
            clear HStp HHt HMy
            obtain ⟨b00, b01, b02, b03, b04⟩ := (HB0.out.kept KB4.out).five
            have bz0 := (HB0.out.kept KB4.out).1
            obtain ⟨b10, b11, b12, b13, b14, b15, b16⟩ := (HB1.out.kept KB4.out).seven
            have bz1 := (HB1.out.kept KB4.out).1
            go_wp2_with fail
            go_quiet (fail)
            clear b00 b01 b02 b03 b04 bz0 b10 b11 b12 b13 b14 b15 b16 bz1
            go_wp2_with fail
            go_roundw
            case rel => exact ⟨j + 1, by omega, by go_num, by rw [HN.out], HKr.out.drewN _⟩
            case measure => simp [intOf]; omega
          | false =>
            cases h1 : sameK y.s x.s with
            | false =>
              have HN := Lib.hid (show seenE k l v x (j + 1) = false by rw [HStp.out, HHt.out]; simp [h1])
              clear HStp HHt HMy
              obtain ⟨b00, b01, b02, b03, b04⟩ := (HB0.out.kept KB4.out).five
              have bz0 := (HB0.out.kept KB4.out).1
              obtain ⟨b10, b11, b12, b13, b14, b15, b16⟩ := (HB1.out.kept KB4.out).seven
              have bz1 := (HB1.out.kept KB4.out).1
              go_wp2_with fail
              go_quiet (fail)
              clear b00 b01 b02 b03 b04 bz0 b10 b11 b12 b13 b14 b15 b16 bz1
              go_wp2_with fail
              go_roundw
              case rel => exact ⟨j + 1, by omega, by go_num, by rw [HN.out], HKr.out.drewN _⟩
              case measure => simp [intOf]; omega
            | true =>
              cases h2 : sameK y.t x.t with
              | false =>
                have HN := Lib.hid (show seenE k l v x (j + 1) = false by rw [HStp.out, HHt.out]; simp [h2])
                clear HStp HHt HMy
                obtain ⟨b00, b01, b02, b03, b04⟩ := (HB0.out.kept KB4.out).five
                have bz0 := (HB0.out.kept KB4.out).1
                obtain ⟨b10, b11, b12, b13, b14, b15, b16⟩ := (HB1.out.kept KB4.out).seven
                have bz1 := (HB1.out.kept KB4.out).1
                go_wp2_with fail
                go_quiet (fail)
                clear b00 b01 b02 b03 b04 bz0 b10 b11 b12 b13 b14 b15 b16 bz1
                go_wp2_with fail
                go_roundw
                case rel => exact ⟨j + 1, by omega, by go_num, by rw [HN.out], HKr.out.drewN _⟩
                case measure => simp [intOf]; omega
              | true =>
                have HN := Lib.hid (show seenE k l v x (j + 1) = mayL k l y by rw [HStp.out, HHt.out]; simp [h1, h2])
                clear HStp HHt
                generalize hmy : mayL k l y = my at *
                clear hmy
                obtain ⟨b00, b01, b02, b03, b04⟩ := (HB0.out.kept KB4.out).five
                have bz0 := (HB0.out.kept KB4.out).1
                obtain ⟨b10, b11, b12, b13, b14, b15, b16⟩ := (HB1.out.kept KB4.out).seven
                have bz1 := (HB1.out.kept KB4.out).1
                go_wp2_with fail
                refine wp_region_noPanic ?_
                refine wp_region_held_drew (S := (fun w' => w'.cell? ⟨z0, 0, none⟩ = some (.slice kA k.ws.length kc) ∧ w'.cell? ⟨z0, 1, none⟩ = some (.int .u64 k.seed) ∧ w'.cell? ⟨z0, 2, none⟩ = some (.int .i64 k.ep) ∧ w'.cell? ⟨z0, 3, none⟩ = some (.int .i64 k.nu) ∧ w'.cell? ⟨z0, 4, none⟩ = some (.int .i64 k.de) ∧ w'.cell? ⟨z1, 1, none⟩ = some (.int .i64 x.s.e) ∧ w'.cell? ⟨z1, 2, none⟩ = some (.int .u64 x.s.r.1) ∧ w'.cell? ⟨z1, 3, none⟩ = some (.int .u64 x.s.r.2) ∧ w'.cell? ⟨z1, 4, none⟩ = some (.int .i64 x.t.e) ∧ w'.cell? ⟨z1, 5, none⟩ = some (.int .u64 x.t.r.1) ∧ w'.cell? ⟨z1, 6, none⟩ = some (.int .u64 x.t.r.2) ∧ w'.cell? ⟨zv, ov + j * 7, none⟩ = some (.int .i64 y.f) ∧ w'.cell? ⟨zv, ov + j * 7 + 1, none⟩ = some (.int .i64 y.s.e) ∧ w'.cell? ⟨zv, ov + j * 7 + 2, none⟩ = some (.int .u64 y.s.r.1) ∧ w'.cell? ⟨zv, ov + j * 7 + 3, none⟩ = some (.int .u64 y.s.r.2) ∧ w'.cell? ⟨zv, ov + j * 7 + 4, none⟩ = some (.int .i64 y.t.e) ∧ w'.cell? ⟨zv, ov + j * 7 + 5, none⟩ = some (.int .u64 y.t.r.1) ∧ w'.cell? ⟨zv, ov + j * 7 + 6, none⟩ = some (.int .u64 y.t.r.2) ∧ Kept wr w')) (by kernel_rfl) ?_ (fun hHeld => ?_)
                · exact ⟨b00, b01, b02, b03, b04, b11, b12, b13, b14, b15, b16, x0, x1, x2, x3, x4, x5, x6, (Kept.refl _).drew⟩
                refine wpAnyH_take (i := 0) (v := ?_) (by simp only [List.getElem?_toArray, List.getElem?_cons_succ, List.getElem?_cons_zero]; rfl) (by kernel_rfl) (by kernel_rfl) (by kernel_rfl) (fun _ _ _ h => h) (Or.inl ⟨by rfl, ?_⟩) (by assumption) ?_
                rotate_left
                · intro w hSw
                  (try dsimp only at hSw)
                  go_simp
                  (try with_reducible rfl)
                simp only [Act.put, List.setIfInBounds_toArray, List.set_cons_zero, List.set_cons_succ]
                refine wpAnyH_take (i := 1) (v := ?_) (by simp only [List.getElem?_toArray, List.getElem?_cons_succ, List.getElem?_cons_zero]; rfl) (by kernel_rfl) (by kernel_rfl) (by kernel_rfl) (fun _ _ _ h => h) (Or.inl ⟨by rfl, ?_⟩) (by assumption) ?_
                rotate_left
                · intro w hSw
                  (try dsimp only at hSw)
                  go_simp
                  (try with_reducible rfl)
                simp only [Act.put, List.setIfInBounds_toArray, List.set_cons_zero, List.set_cons_succ]
                refine wpAnyH_take (i := 2) (v := ?_) (by simp only [List.getElem?_toArray, List.getElem?_cons_succ, List.getElem?_cons_zero]; rfl) (by kernel_rfl) (by kernel_rfl) (by kernel_rfl) (fun _ _ _ h => h) (Or.inl ⟨by rfl, ?_⟩) (by assumption) ?_
                rotate_left
                · intro w hSw
                  (try dsimp only at hSw)
                  go_simp
                  (try with_reducible rfl)
                simp only [Act.put, List.setIfInBounds_toArray, List.set_cons_zero, List.set_cons_succ]
                refine wpAnyH_take (i := 3) (v := ?_) (by simp only [List.getElem?_toArray, List.getElem?_cons_succ, List.getElem?_cons_zero]; rfl) (by kernel_rfl) (by kernel_rfl) (by kernel_rfl) (fun _ _ _ h => h) (Or.inl ⟨by rfl, ?_⟩) (by assumption) ?_
                rotate_left
                · intro w hSw
                  (try dsimp only at hSw)
                  go_simp
                  (try with_reducible rfl)
                simp only [Act.put, List.setIfInBounds_toArray, List.set_cons_zero, List.set_cons_succ]
                refine wpAnyH_take (i := 4) (v := ?_) (by simp only [List.getElem?_toArray, List.getElem?_cons_succ, List.getElem?_cons_zero]; rfl) (by kernel_rfl) (by kernel_rfl) (by kernel_rfl) (fun _ _ _ h => h) (Or.inl ⟨by rfl, ?_⟩) (by assumption) ?_
                rotate_left
                · intro w hSw
                  (try dsimp only at hSw)
                  go_simp
                  (try with_reducible rfl)
                simp only [Act.put, List.setIfInBounds_toArray, List.set_cons_zero, List.set_cons_succ]
                refine wpAnyH_take (i := 5) (v := ?_) (by simp only [List.getElem?_toArray, List.getElem?_cons_succ, List.getElem?_cons_zero]; rfl) (by kernel_rfl) (by kernel_rfl) (by kernel_rfl) (fun _ _ _ h => h) (Or.inl ⟨by rfl, ?_⟩) (by assumption) ?_
                rotate_left
                · intro w hSw
                  (try dsimp only at hSw)
                  go_simp
                  (try with_reducible rfl)
                simp only [Act.put, List.setIfInBounds_toArray, List.set_cons_zero, List.set_cons_succ]
                refine wpAnyH_take (i := 6) (v := ?_) (by simp only [List.getElem?_toArray, List.getElem?_cons_succ, List.getElem?_cons_zero]; rfl) (by kernel_rfl) (by kernel_rfl) (by kernel_rfl) (fun _ _ _ h => h) (Or.inl ⟨by rfl, ?_⟩) (by assumption) ?_
                rotate_left
                · intro w hSw
                  (try dsimp only at hSw)
                  go_simp
                  (try with_reducible rfl)
                simp only [Act.put, List.setIfInBounds_toArray, List.set_cons_zero, List.set_cons_succ]
                refine wpAnyH_take (i := 7) (v := ?_) (by simp only [List.getElem?_toArray, List.getElem?_cons_succ, List.getElem?_cons_zero]; rfl) (by kernel_rfl) (by kernel_rfl) (by kernel_rfl) (fun _ _ _ h => h) (Or.inl ⟨by rfl, ?_⟩) (by assumption) ?_
                rotate_left
                · intro w hSw
                  (try dsimp only at hSw)
                  go_simp
                  (try with_reducible rfl)
                simp only [Act.put, List.setIfInBounds_toArray, List.set_cons_zero, List.set_cons_succ]
                refine wpAnyH_take (i := 8) (v := ?_) (by simp only [List.getElem?_toArray, List.getElem?_cons_succ, List.getElem?_cons_zero]; rfl) (by kernel_rfl) (by kernel_rfl) (by kernel_rfl) (fun _ _ _ h => h) (Or.inl ⟨by rfl, ?_⟩) (by assumption) ?_
                rotate_left
                · intro w hSw
                  (try dsimp only at hSw)
                  go_simp
                  (try with_reducible rfl)
                simp only [Act.put, List.setIfInBounds_toArray, List.set_cons_zero, List.set_cons_succ]
                refine wpAnyH_take (i := 9) (v := ?_) (by simp only [List.getElem?_toArray, List.getElem?_cons_succ, List.getElem?_cons_zero]; rfl) (by kernel_rfl) (by kernel_rfl) (by kernel_rfl) (fun _ _ _ h => h) (Or.inl ⟨by rfl, ?_⟩) (by assumption) ?_
                rotate_left
                · intro w hSw
                  (try dsimp only at hSw)
                  go_simp
                  (try with_reducible rfl)
                simp only [Act.put, List.setIfInBounds_toArray, List.set_cons_zero, List.set_cons_succ]
                refine wpAnyH_take (i := 10) (v := ?_) (by simp only [List.getElem?_toArray, List.getElem?_cons_succ, List.getElem?_cons_zero]; rfl) (by kernel_rfl) (by kernel_rfl) (by kernel_rfl) (fun _ _ _ h => h) (Or.inl ⟨by rfl, ?_⟩) (by assumption) ?_
                rotate_left
                · intro w hSw
                  (try dsimp only at hSw)
                  go_simp
                  (try with_reducible rfl)
                simp only [Act.put, List.setIfInBounds_toArray, List.set_cons_zero, List.set_cons_succ]
                refine wpAnyH_take (i := 11) (v := ?_) (by simp only [List.getElem?_toArray, List.getElem?_cons_succ, List.getElem?_cons_zero]; rfl) (by kernel_rfl) (by kernel_rfl) (by kernel_rfl) (fun _ _ _ h => h) (Or.inl ⟨by rfl, ?_⟩) (by assumption) ?_
                rotate_left
                · intro w hSw
                  (try dsimp only at hSw)
                  go_simp
                  (try with_reducible rfl)
                simp only [Act.put, List.setIfInBounds_toArray, List.set_cons_zero, List.set_cons_succ]
                refine wpAnyH_take (i := 12) (v := ?_) (by simp only [List.getElem?_toArray, List.getElem?_cons_succ, List.getElem?_cons_zero]; rfl) (by kernel_rfl) (by kernel_rfl) (by kernel_rfl) (fun _ _ _ h => h) (Or.inl ⟨by rfl, ?_⟩) (by assumption) ?_
                rotate_left
                · intro w hSw
                  (try dsimp only at hSw)
                  go_simp
                  (try with_reducible rfl)
                simp only [Act.put, List.setIfInBounds_toArray, List.set_cons_zero, List.set_cons_succ]
                refine wpAnyH_take (i := 13) (v := ?_) (by simp only [List.getElem?_toArray, List.getElem?_cons_succ, List.getElem?_cons_zero]; rfl) (by kernel_rfl) (by kernel_rfl) (by kernel_rfl) (fun _ _ _ h => h) (Or.inl ⟨by rfl, ?_⟩) (by assumption) ?_
                rotate_left
                · intro w hSw
                  (try dsimp only at hSw)
                  go_simp
                  (try with_reducible rfl)
                simp only [Act.put, List.setIfInBounds_toArray, List.set_cons_zero, List.set_cons_succ]
                refine wpAnyH_take (i := 14) (v := ?_) (by simp only [List.getElem?_toArray, List.getElem?_cons_succ, List.getElem?_cons_zero]; rfl) (by kernel_rfl) (by kernel_rfl) (by kernel_rfl) (fun _ _ _ h => h) (Or.inl ⟨by rfl, ?_⟩) (by assumption) ?_
                rotate_left
                · intro w hSw
                  (try dsimp only at hSw)
                  go_simp
                  (try with_reducible rfl)
                simp only [Act.put, List.setIfInBounds_toArray, List.set_cons_zero, List.set_cons_succ]
                refine wpAnyH_take (i := 15) (v := ?_) (by simp only [List.getElem?_toArray, List.getElem?_cons_succ, List.getElem?_cons_zero]; rfl) (by kernel_rfl) (by kernel_rfl) (by kernel_rfl) (fun _ _ _ h => h) (Or.inl ⟨by rfl, ?_⟩) (by assumption) ?_
                rotate_left
                · intro w hSw
                  (try dsimp only at hSw)
                  go_simp
                  (try with_reducible rfl)
                simp only [Act.put, List.setIfInBounds_toArray, List.set_cons_zero, List.set_cons_succ]
                refine wpAnyH_take (i := 16) (v := ?_) (by simp only [List.getElem?_toArray, List.getElem?_cons_succ, List.getElem?_cons_zero]; rfl) (by kernel_rfl) (by kernel_rfl) (by kernel_rfl) (fun _ _ _ h => h) (Or.inl ⟨by rfl, ?_⟩) (by assumption) ?_
                rotate_left
                · intro w hSw
                  (try dsimp only at hSw)
                  go_simp
                  (try with_reducible rfl)
                simp only [Act.put, List.setIfInBounds_toArray, List.set_cons_zero, List.set_cons_succ]
                refine wpAnyH_take (i := 17) (v := ?_) (by simp only [List.getElem?_toArray, List.getElem?_cons_succ, List.getElem?_cons_zero]; rfl) (by kernel_rfl) (by kernel_rfl) (by kernel_rfl) (fun _ _ _ h => h) (Or.inl ⟨by rfl, ?_⟩) (by assumption) ?_
                rotate_left
                · intro w hSw
                  (try dsimp only at hSw)
                  go_simp
                  (try with_reducible rfl)
                simp only [Act.put, List.setIfInBounds_toArray, List.set_cons_zero, List.set_cons_succ]
                refine wpAnyH_take (i := 18) (v := ?_) (by simp only [List.getElem?_toArray, List.getElem?_cons_succ, List.getElem?_cons_zero]; rfl) (by kernel_rfl) (by kernel_rfl) (by kernel_rfl) (fun _ _ _ h => h) (Or.inl ⟨by rfl, ?_⟩) (by assumption) ?_
                rotate_left
                · intro w hSw
                  (try dsimp only at hSw)
                  go_simp
                  (try with_reducible rfl)
                simp only [Act.put, List.setIfInBounds_toArray, List.set_cons_zero, List.set_cons_succ]
                refine wpAnyH_take (i := 19) (v := ?_) (by simp only [List.getElem?_toArray, List.getElem?_cons_succ, List.getElem?_cons_zero]; rfl) (by kernel_rfl) (by kernel_rfl) (by kernel_rfl) (fun _ _ _ h => h) (Or.inl ⟨by rfl, ?_⟩) (by assumption) ?_
                rotate_left
                · intro w hSw
                  (try dsimp only at hSw)
                  go_simp
                  (try with_reducible rfl)
                simp only [Act.put, List.setIfInBounds_toArray, List.set_cons_zero, List.set_cons_succ]
                refine wpAnyH_take (i := 20) (v := ?_) (by simp only [List.getElem?_toArray, List.getElem?_cons_succ, List.getElem?_cons_zero]; rfl) (by kernel_rfl) (by kernel_rfl) (by kernel_rfl) (fun _ _ _ h => h) (Or.inl ⟨by rfl, ?_⟩) (by assumption) ?_
                rotate_left
                · intro w hSw
                  (try dsimp only at hSw)
                  go_simp
                  (try with_reducible rfl)
                simp only [Act.put, List.setIfInBounds_toArray, List.set_cons_zero, List.set_cons_succ]
                refine wpAnyH_take (i := 21) (v := ?_) (by simp only [List.getElem?_toArray, List.getElem?_cons_succ, List.getElem?_cons_zero]; rfl) (by kernel_rfl) (by kernel_rfl) (by kernel_rfl) (fun _ _ _ h => h) (Or.inl ⟨by rfl, ?_⟩) (by assumption) ?_
                rotate_left
                · intro w hSw
                  (try dsimp only at hSw)
                  go_simp
                  (try with_reducible rfl)
                simp only [Act.put, List.setIfInBounds_toArray, List.set_cons_zero, List.set_cons_succ]
                refine wpAnyH_take (i := 22) (v := ?_) (by simp only [List.getElem?_toArray, List.getElem?_cons_succ, List.getElem?_cons_zero]; rfl) (by kernel_rfl) (by kernel_rfl) (by kernel_rfl) (fun _ _ _ h => h) (Or.inl ⟨by rfl, ?_⟩) (by assumption) ?_
                rotate_left
                · intro w hSw
                  (try dsimp only at hSw)
                  go_simp
                  (try with_reducible rfl)
                simp only [Act.put, List.setIfInBounds_toArray, List.set_cons_zero, List.set_cons_succ]
                refine wpAnyH_take (i := 23) (v := ?_) (by simp only [List.getElem?_toArray, List.getElem?_cons_succ, List.getElem?_cons_zero]; rfl) (by kernel_rfl) (by kernel_rfl) (by kernel_rfl) (fun _ _ _ h => h) (Or.inl ⟨by rfl, ?_⟩) (by assumption) ?_
                rotate_left
                · intro w hSw
                  (try dsimp only at hSw)
                  go_simp
                  (try with_reducible rfl)
                simp only [Act.put, List.setIfInBounds_toArray, List.set_cons_zero, List.set_cons_succ]
                refine wpAnyH_take (i := 24) (v := ?_) (by simp only [List.getElem?_toArray, List.getElem?_cons_succ, List.getElem?_cons_zero]; rfl) (by kernel_rfl) (by kernel_rfl) (by kernel_rfl) (fun _ _ _ h => h) (Or.inl ⟨by rfl, ?_⟩) (by assumption) ?_
                rotate_left
                · intro w hSw
                  (try dsimp only at hSw)
                  go_simp
                  (try with_reducible rfl)
                simp only [Act.put, List.setIfInBounds_toArray, List.set_cons_zero, List.set_cons_succ]
                refine wpAnyH_take (i := 25) (v := ?_) (by simp only [List.getElem?_toArray, List.getElem?_cons_succ, List.getElem?_cons_zero]; rfl) (by kernel_rfl) (by kernel_rfl) (by kernel_rfl) (fun _ _ _ h => h) (Or.inl ⟨by rfl, ?_⟩) (by assumption) ?_
                rotate_left
                · intro w hSw
                  (try dsimp only at hSw)
                  go_simp
                  (try with_reducible rfl)
                simp only [Act.put, List.setIfInBounds_toArray, List.set_cons_zero, List.set_cons_succ]
                refine wpAnyH_take (i := 26) (v := ?_) (by simp only [List.getElem?_toArray, List.getElem?_cons_succ, List.getElem?_cons_zero]; rfl) (by kernel_rfl) (by kernel_rfl) (by kernel_rfl) (fun _ _ _ h => h) (Or.inl ⟨by rfl, ?_⟩) (by assumption) ?_
                rotate_left
                · intro w hSw
                  (try dsimp only at hSw)
                  go_simp
                  (try with_reducible rfl)
                simp only [Act.put, List.setIfInBounds_toArray, List.set_cons_zero, List.set_cons_succ]
                refine wpAnyH_ready (rs := [27]) (by kernel_rfl) (by simp) ?_
                refine AllReadyH.cons (by simp only [List.getElem?_toArray, List.getElem?_cons_succ, List.getElem?_cons_zero]; rfl) (fun K hK => ?_) AllReadyH.nil
                go_simp
                go_at_call 18; with_reducible refine (HMy.out _ hHeld.2.2.2.2.2.2.2.2.2.2.2.2.2.2.2.2.2.2).mono ?_
                rintro e w' ⟨rfl, kk⟩
                try go_wp2_with fail
                refine hK.out _ _ ?_ (fun hHeld2 => ?_)
                · exact keepP18 bz0 bz0 bz0 bz0 bz0 bz1 bz1 bz1 bz1 bz1 bz1 hbv hbv hbv hbv hbv hbv hbv hHeld kk
                clear hK K hHeld
                have hHeld := hHeld2
                clear hHeld2
                try simp only [Act.put, List.setIfInBounds_toArray, List.set_cons_zero, List.set_cons_succ]
                refine wpAnyH_take (i := 28) (v := ?_) (by simp only [List.getElem?_toArray, List.getElem?_cons_succ, List.getElem?_cons_zero]; rfl) (by kernel_rfl) (by kernel_rfl) (by kernel_rfl) (fun _ _ _ h => h) (Or.inl ⟨by rfl, ?_⟩) (by assumption) ?_
                rotate_left
                · intro w hSw
                  (try dsimp only at hSw)
                  go_simp
                  (try with_reducible rfl)
                simp only [Act.put, List.setIfInBounds_toArray, List.set_cons_zero, List.set_cons_succ]
                refine wpAnyH_take (i := 29) (v := ?_) (by simp only [List.getElem?_toArray, List.getElem?_cons_succ, List.getElem?_cons_zero]; rfl) (by kernel_rfl) (by kernel_rfl) (by kernel_rfl) (fun _ _ _ h => h) (Or.inl ⟨by rfl, ?_⟩) (by assumption) ?_
                rotate_left
                · intro w hSw
                  (try dsimp only at hSw)
                  go_simp
                  (try with_reducible rfl)
                simp only [Act.put, List.setIfInBounds_toArray, List.set_cons_zero, List.set_cons_succ]
                refine wpAnyH_take (i := 30) (v := ?_) (by simp only [List.getElem?_toArray, List.getElem?_cons_succ, List.getElem?_cons_zero]; rfl) (by kernel_rfl) (by kernel_rfl) (by kernel_rfl) (fun _ _ _ h => h) (Or.inl ⟨by rfl, ?_⟩) (by assumption) ?_
                rotate_left
                · intro w hSw
                  (try dsimp only at hSw)
                  go_simp
                  (try with_reducible rfl)
                simp only [Act.put, List.setIfInBounds_toArray, List.set_cons_zero, List.set_cons_succ]
                refine wpAnyH_done (by kernel_rfl) ?_ _
                refine NoPanic.normal ?_
                have k := hHeld.2.2.2.2.2.2.2.2.2.2.2.2.2.2.2.2.2.2
                clear hHeld HMy
                clear b00 b01 b02 b03 b04 bz0 b10 b11 b12 b13 b14 b15 b16 bz1
                have HKs := Lib.hid (HKr.out.trans k)
                clear k
                generalize w' = VV at *
                go_wp2_with fail
                go_roundw
                case rel => exact ⟨j + 1, by omega, by go_num, by rw [HN.out], HKs.out⟩
                case measure => simp [intOf]; omega
        · have hjl : j = v.length := by omega
          subst hjl
          cases sb with
          | true =>
            have HN := Lib.hid (HSe.out (by first | rfl | trivial))
            rw [HN.out]
            go_wp2_with fail
            go_ret
            exact ⟨by first | rfl | (simp; done), K0.out.trans KB4.out⟩
          | false =>
            generalize seenE k l v x v.length = sn at *
            go_wp2_with fail
            go_ret
            exact ⟨by first | rfl | (simp; done), K0.out.trans KB4.out⟩

/-! ### The row's step -/
set_option maxRecDepth 100000 in
theorem lifted (os : Os) (started : os.Started) (H : Type) (enc : TypeId × Value → H) :
    ReturnsInHanded {} Try.checked os 7 .any (Rows.ffgEpochsSpec.pre6 enc Try.prog Try.f7 Rows.ffgEpochsRow.domain false) (Rows.ffgEpochsSpec.post enc Try.prog Try.f7 false true false false) := by
  refine returnsInHanded_of_change (C := Try.checked) own started (by kernel_rfl) Try.func7
    (ChangeSpec.witness6 (enc := enc) (C := Try.checked) false ⟨#[], #[.agg #[.slice none 0 0, .int .u64 0, .int .i64 0, .int .i64 0, .int .i64 0], .slice none 0 0, .slice none 0 0, .agg #[.int .i64 0, .int .i64 0, .int .u64 0, .int .u64 0, .int .i64 0, .int .u64 0, .int .u64 0]], []⟩ 8 (by kernel_rfl) (by kernel_rfl) (by kernel_rfl) (by kernel_rfl)) ?_
  intro W base args ds gs before hval0 hW hcnd _
  have hval : ∀ (j : Nat) t v, Try.f7.params[j]? = some t → args[j]? = some v → Value.okWide Try.prog W .any base t v := hval0
  have hW' := hW
  obtain ⟨p, q, hA0, hV, rfl, hfz, hnd⟩ := hW
  have hA : DataW.TrodAll enc Try.prog W 0 (fun _ => true) true Try.f7.params.toList args.toList ds p := hA0
  rw [Try.params7] at hA hval
  obtain ⟨v0, vs0, d0, ds0, p0, q0, hargs, rfl, rfl, h0, r0⟩ := trodAll_cons hA
  obtain ⟨v1, vs1, d1, ds1, p1, q1, rfl, rfl, rfl, h1, r1⟩ := trodAll_cons r0
  obtain ⟨v2, vs2, d2, ds2, p2, q2, rfl, rfl, rfl, h2, r2⟩ := trodAll_cons r1
  obtain ⟨v3, vs3, d3, ds3, p3, q3, rfl, rfl, rfl, h3, r3⟩ := trodAll_cons r2
  obtain ⟨rfl, rfl, rfl⟩ := trodAll_nil r3
  obtain rfl : args = #[v0, v1, v2, v3] := by cases args; simp_all
  obtain ⟨rfl, rfl⟩ := trodVars_none hV
  obtain ⟨kA, kc, k, rfl, khm, khs, khl⟩ := open_conf (hval 0 _ v0 rfl rfl) h0
  obtain ⟨lA, lc, l, rfl, lhm, lhc, lhw, lhl⟩ := open_blocks (hval 1 _ v1 rfl rfl) h1
  obtain ⟨vA, vc, v, rfl, vhm, vhc, vhw, vhl⟩ := open_links (hval 2 _ v2 rfl rfl) h2
  obtain ⟨x, rfl, hx⟩ := open_link (hval 3 _ v3 rfl rfl) h3
  clear hA0 hval0
  refine (walk W kA kc k khm khs khl lA lc l lhm lhc lhw lhl vA vc v vhm vhc vhw vhl x hx).mono fun e W' ⟨he, hb⟩ => ?_
  subst he
  exact ⟨_, rfl, law_post rfl (by kernel_rfl) rfl hW' rfl hb⟩

theorem over : Rows.ffgEpochsRow.holds Try.pinned (OpenSpec.ofChange Rows.ffgEpochsSpec) :=
  OpenClaim.holds_of_wide 7 Try.f7 rfl rfl rfl rfl rfl rfl rfl ⟨rfl, rfl, rfl, rfl, rfl⟩ rfl rfl rfl rfl rfl (by kernel_rfl) Try.func7 (by kernel_rfl)
    (of_decide_eq_true (by kernel_rfl)) (by unfold Func.isWrapper; first | (rw [if_pos (by decide +kernel)]; kernel_rfl) | (rw [if_neg (by decide +kernel)]; exact ⟨rfl, rfl⟩))
    (fun os started H enc _ => lifted os started H enc)

/-- The statement. -/
theorem proved : Rows.FfgEpochsSaid :=
  over
#print axioms proved

end Go.Proofs.Ythgammhjoajhoaa.ffgEpochs
