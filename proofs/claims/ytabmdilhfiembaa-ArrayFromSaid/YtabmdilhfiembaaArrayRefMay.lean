/-
  The contracts of May and Top of the given package marigoldref10.
-/
import Derived.Test.YtabmdilhfiembaaArrayRef
namespace Go.Proofs.Ytabmdilhfiembaa
set_option maxRecDepth 100000
set_option linter.unusedVariables false
set_option linter.unusedSimpArgs false
set_option linter.unusedVariables false
open Go.ChangeShapes Go.WideShapes Go.ChangeAt Go.RowKit

theorem pos_split {a : List It} {k : Nat} (hk : k < a.length) : ((k : Int) ≤ posI a (itA a k).x ∧ ∀ j, j < k → (itA a j).x ≠ (itA a k).x) ∨ (posI a (itA a k).x < (k : Int) ∧ ∃ j, j < k ∧ (itA a j).x = (itA a k).x) := by
  rcases pos_take (Nat.le_of_lt hk) (itA a k).x with ⟨_, hno⟩ | ⟨j, hj, hjk, hx⟩
  · left
    refine ⟨?_, hno⟩
    rcases posI_way a (itA a k).x with ⟨_, h⟩ | ⟨m, hm, _, hx⟩
    · exact absurd rfl (h k hk)
    · rw [hm]
      have : ¬ m < k := fun h => hno m h hx
      omega
  · right
    have e : posN (idsI (a.take k)) (itA a k).x = some j := by
      unfold posI posV at hj
      cases q : posN (idsI (a.take k)) (itA a k).x with
      | none => rw [q] at hj; simp only at hj; omega
      | some i => rw [q] at hj; simp only at hj; rw [show i = j by omega]
    have e2 : idsI (a.take k) = (idsI a).take k := by unfold idsI; rw [List.map_take]
    rw [e2] at e
    have e3 := posN_take e
    refine ⟨?_, j, hjk, hx⟩
    unfold posI posV
    rw [e3]
    simp only
    omega

attribute [local go_sem high] eqIdZ in
set_option maxRecDepth 100000 in
set_option maxHeartbeats 3200000 in
theorem refMayA_any (A : Option Addr) (c : Nat) (a : List It) (hl : a.length ≤ 70) (w : World) (hA : CellsAt w w.heap.size A (itemCells a)) :
    Calls Try.prog 18 #[.slice A a.length c] w fun e w' => e = .returned (.bool (mayI a)) ∧ Kept w w' := by
  have HA := Lib.hid hA
  clear hA
  by_cases h60 : a.length ≤ 60
  · have H60 := Lib.hid h60
    go_enter Try.func18, Try.ntmps18
    go_wp2_with fail
    go_loopw [3] (fun i w' => ∃ k : Nat, k ≤ a.length ∧ i = .int .i64 k ∧ (∀ j, j < k → rightI a j) ∧ Kept w w') (fun i _ => a.length - (intOf i).toNat)
    case atStart => exact ⟨0, by omega, rfl, fun j h => by omega, Kept.refl _⟩
    case round =>
      obtain ⟨k, hk, rfl, hs, hK⟩ := hrel
      have HS := Lib.hid hs
      have HK := Lib.hid hK
      clear hs hK
      by_cases hlt : k < a.length
      · obtain ⟨z, o, rfl, hb, c0, c1, c2, c3, c4, c5, c6⟩ := item_at (HA.out.kept HK.out) hlt
        have HE := Lib.hid (itA_get hlt)
        have HW := Lib.hid (pos_split hlt)
        rw [HE.out] at HW
        have HFd := Lib.hid (fun w' (kk : Kept wr w') => refFindA_any (some ⟨z, o, none⟩) c a (by omega) a[k].x w' ((HA.out.kept HK.out).kept kk))
        generalize hpv : posI a a[k].x = pv at *
        clear hpv
        generalize a[k] = y at *
        obtain ⟨yx, yp, yo, yw, yb, yh⟩ := y
        dsimp only at *
        go_upto_region 7 with (fail)
        have HKb := Lib.hid ((Kept.refl wr).alloc (.cells #[.int .u64 yx.1, .int .u64 yx.2, .int .i64 yp, .int .i64 yo, .int .i64 yw, .int .i64 yb, .int .i64 yh] 50))
        have HBx := Lib.hid (HasCells.new wr #[.int .u64 yx.1, .int .u64 yx.2, .int .i64 yp, .int .i64 yo, .int .i64 yw, .int .i64 yb, .int .i64 yh] 50 wr.heap.size rfl)
        clear c0 c1 c2 c3 c4 c5 c6 hb
        generalize wr.alloc (.cells #[.int .u64 yx.1, .int .u64 yx.2, .int .i64 yp, .int .i64 yo, .int .i64 yw, .int .i64 yb, .int .i64 yh] 50) = W2 at *
        generalize wr.heap.size = bk at *
        have m0 := HBx.out.at0
        have m1 := HBx.out.at1
        have hbk := HBx.out.1
        cases hz : isZ yx with
        | true =>
          have HF := Lib.hid (show mayI a = false from mayI_no fun h => (h.2.1 k hlt).1 (by rw [HE.out]; exact of_decide_eq_true hz))
          go_wp2_with fail
          go_ret
          exact ⟨by rw [HF.out]; rfl, HK.out.trans HKb.out⟩
        | false =>
          have HZ := Lib.hid (of_decide_eq_false hz : ¬ yx = zid)
          go_wp2_with fail
          refine (HFd.out _ HKb.out).mono ?_
          rintro e W3 ⟨rfl, k3⟩
          have HB3 := Lib.hid (HBx.out.kept k3)
          have HKE := Lib.hid (HK.out.trans (HKb.out.trans k3))
          clear m0 m1 hbk k3 hz HFd
          have m0 := HB3.out.at0
          have m1 := HB3.out.at1
          have m2 := HB3.out.at2
          have m3 := HB3.out.at3
          have hbk := HB3.out.1
          rcases HW.out with ⟨hge, hno⟩ | ⟨hlt2, j, hj, hx⟩
          · have HNo := Lib.hid hno
            have hnp : ¬ pv < (k : Int) := by omega
            clear hno HW
            by_cases h1 : yp < -1
            · have HF := Lib.hid (show mayI a = false from mayI_no fun h => by have := (h.2.1 k hlt).2.2.1; rw [HE.out] at this; simp only at this; omega)
              go_wp2_with fail
              go_ret
              exact ⟨by rw [HF.out]; rfl, HKE.out⟩
            · by_cases h2 : (k : Int) ≤ yp
              · have HF := Lib.hid (show mayI a = false from mayI_no fun h => by have := (h.2.1 k hlt).2.2.2.1; rw [HE.out] at this; simp only at this; omega)
                go_wp2_with fail
                go_ret
                exact ⟨by rw [HF.out]; rfl, HKE.out⟩
              · by_cases h3 : yo < 0
                · have HF := Lib.hid (show mayI a = false from mayI_no fun h => by have := (h.2.1 k hlt).2.2.2.2.1; rw [HE.out] at this; simp only at this; omega)
                  go_wp2_with fail
                  go_ret
                  exact ⟨by rw [HF.out]; rfl, HKE.out⟩
                · by_cases h4 : 1125899906842624 < yo
                  · have HF := Lib.hid (show mayI a = false from mayI_no fun h => by have := (h.2.1 k hlt).2.2.2.2.2; rw [HE.out] at this; simp only at this; omega)
                    go_wp2_with fail
                    go_ret
                    exact ⟨by rw [HF.out]; rfl, HKE.out⟩
                  · have HT := Lib.hid (show ∀ j, j < k + 1 → rightI a j from fun j hj => by
                      by_cases e : j = k
                      · subst e
                        unfold rightI
                        rw [HE.out]
                        exact ⟨HZ.out, HNo.out, by dsimp only; omega, by dsimp only; omega, by dsimp only; omega, by dsimp only; omega⟩
                      · exact HS.out j (by omega))
                    go_wp2_with fail
                    go_roundw
                    case rel => exact ⟨k + 1, by omega, by go_num, HT.out, HKE.out⟩
                    case measure => simp [intOf]; omega
          · have HF := Lib.hid (show mayI a = false from mayI_no fun h => (h.2.1 k hlt).2.1 j hj (by rw [HE.out]; exact hx))
            clear HW hx
            go_wp2_with fail
            go_ret
            exact ⟨by rw [HF.out]; rfl, HKE.out⟩
      · have hkl : k = a.length := by omega
        subst hkl
        have HSd := Lib.hid (show StandI a from ⟨H60.out, HS.out⟩)
        have HM := Lib.hid (show mayI a = sameL a (anewC a) by
          cases q : sameL a (anewC a) with
          | true => exact mayI_yes (may_stand.2 ⟨HSd.out, sameL_iff.2 (sameL_iff.1 q).symm⟩)
          | false => exact mayI_no fun h => by rw [sameL_iff.2 (sameL_iff.1 (may_stand.1 h).2).symm] at q; cases q)
        have HAn := Lib.hid (refAnew_any A c a hl HSd.out.right HSd.out.own wr (HA.out.kept HK.out))
        have HEq := Lib.hid (fun A' c' w' (h1 : CellsAt w' w'.heap.size A' (itemCells (anewC a))) (h2 : CellsAt w' w'.heap.size A (itemCells a)) => (show Calls Try.prog 23 #[.slice A a.length c, .slice A' a.length c'] w' fun e w'' => e = .returned (.bool (sameL a (anewC a))) ∧ Kept w' w'' by
          have h := refSame_any A c a A' c' (anewC a) (by omega) (by rw [anewC_length]; omega) w' h2 h1
          rw [anewC_length] at h
          exact h))
        have HAl := Lib.hid (anewC_length a)
        generalize hm : sameL a (anewC a) = sm at *
        clear hm
        go_wp2_with fail
        refine HAn.out.mono ?_
        rintro e W2 ⟨A2, c2, rfl, hI⟩
        have HI := Lib.hid hI
        clear hI HAn
        go_wp2_with fail
        refine (HEq.out A2 c2 W2 (HI.out.cells HAl.out.symm) ((HA.out.kept HK.out).kept HI.out.2)).mono ?_
        rintro e W4 ⟨rfl, k4⟩
        have K4 := Lib.hid (HK.out.trans (HI.out.2.trans k4))
        clear k4
        go_wp2_with fail
        go_ret
        exact ⟨by rw [HM.out]; rfl, K4.out⟩
  · have HF := Lib.hid (show mayI a = false from mayI_no fun h => h60 h.1)
    go_enter Try.func18, Try.ntmps18
    go_wp2_with fail
    go_ret
    exact ⟨by rw [HF.out]; rfl, Kept.refl _⟩

/-! ### Top -/
def bestK (a : List It) (k : Nat) : Option Nat := bestE a (kidsEto a (-1) k)
theorem bestK_miss {a : List It} {k : Nat} (hk : k < a.length) (h : ¬ a[k].p = -1) : bestK a (k + 1) = bestK a k := by unfold bestK; rw [kidsEto_miss hk h]
theorem bestK_first {a : List It} {k : Nat} (hk : k < a.length) (h : a[k].p = -1) (q : bestK a k = none) : bestK a (k + 1) = some k := by unfold bestK at q ⊢; rw [kidsEto_hit hk h]; exact bestX_first q
theorem bestK_hit {a : List It} {k y : Nat} (hk : k < a.length) (h : a[k].p = -1) (q : bestK a k = some y) (m : moreI (itA a k).w (itA a y).w (itA a k).x (itA a y).x = true) : bestK a (k + 1) = some k := by unfold bestK at q ⊢; rw [kidsEto_hit hk h]; exact bestX_hit q m
theorem bestK_less {a : List It} {k y : Nat} (hk : k < a.length) (h : a[k].p = -1) (q : bestK a k = some y) (m : moreI (itA a k).w (itA a y).w (itA a k).x (itA a y).x = false) : bestK a (k + 1) = some y := by unfold bestK at q ⊢; rw [kidsEto_hit hk h]; exact bestX_miss q m
theorem bestK_lt {a : List It} {k y : Nat} (q : bestK a k = some y) : y < k := by
  have := (bestX_some q).1
  unfold kidsEto at this
  exact List.mem_range.1 (List.mem_filter.1 this).1
set_option maxRecDepth 100000 in
set_option maxHeartbeats 3200000 in
theorem refTopA_any (A : Option Addr) (c : Nat) (a : List It) (hl : a.length ≤ 70) (w : World) (hA : CellsAt w w.heap.size A (itemCells a)) :
    Calls Try.prog 26 #[.slice A a.length c] w fun e w' => e = .returned (.agg #[.int .u64 (topC a).1, .int .u64 (topC a).2]) ∧ Kept w w' := by
  have HD := Lib.hid (Down.new w)
  have HK0 := Lib.hid ((Kept.refl w).alloc (.cells #[.int .u64 0, .int .u64 0] 29))
  have HA := Lib.hid (hA.kept HK0.out)
  have HM := Lib.hid (refMayA_any A c a hl _ HA.out)
  clear hA
  go_enter Try.func26, Try.ntmps26
  go_wp2_with fail
  generalize w.alloc (.cells #[.int .u64 0, .int .u64 0] 29) = W at *
  generalize hzz : w.heap.size = z at *
  have HZ := Lib.hid (Nat.le_of_eq hzz)
  clear hzz
  refine HM.out.mono ?_
  rintro e W1 ⟨rfl, k1⟩
  have HD1 := Lib.hid (HD.out.keep k1)
  have HA1 := Lib.hid (HA.out.kept k1)
  clear k1 HM HK0 HA HD
  cases hm : mayI a with
  | false =>
    obtain ⟨d0, d1⟩ := HD1.out.cells.two
    have hzl := HD1.out.cells.1
    have f0 := HD1.out.f0
    have f1 := HD1.out.f1
    have HT := Lib.hid (topC_no hm)
    clear hm
    go_wp2_with fail
    go_loopw [4, 5] (fun b i w' => b = .int .i64 (-1) ∧ i = .int .i64 0 ∧ w' = W1) (fun _ _ _ => 0)
    case atStart => exact ⟨rfl, rfl, rfl⟩
    case round =>
      obtain ⟨rfl, rfl, rfl⟩ := hrel
      go_wp2_with fail
      all_goals
        refine bodyPost_ret (v := .agg #[.int .u64 0, .int .u64 0]) (by simp [results, Try.results26, go_sem, d0, d1]) rfl ⟨by rw [HT.out]; rfl, ?_⟩
        exact (HD1.out.set HZ.out zid).kept
  | true =>
    have HMt := Lib.hid hm
    have HMa := Lib.hid (mayI_of hm)
    clear hm
    go_wp2_with fail
    go_loopw [4, 5] (fun b i w' => ∃ k : Nat, k ≤ a.length ∧ i = .int .i64 k ∧ b = .int .i64 (optI (bestK a k)) ∧ Kept W1 w') (fun _ i _ => a.length - (intOf i).toNat)
    case atStart => exact ⟨0, by omega, rfl, rfl, Kept.refl _⟩
    case round =>
      obtain ⟨k, hk, rfl, rfl, hK⟩ := hrel
      have HK := Lib.hid hK
      clear hK
      by_cases hlt : k < a.length
      · obtain ⟨zz, o, rfl, hb, x0, x1, x2, x3, x4, x5, x6⟩ := item_at (HA1.out.kept HK.out) hlt
        by_cases hp : a[k].p = -1
        · have HHi := Lib.hid (fun y q r => bestK_hit (y := y) hlt hp q r)
          have HLe := Lib.hid (fun y q r => bestK_less (y := y) hlt hp q r)
          have HFi := Lib.hid (fun q => bestK_first hlt hp q)
          have HX := Lib.hid (itA_get hlt)
          rw [hp] at x2
          clear hp
          cases hbk : bestK a k with
          | none =>
            have HN := Lib.hid (HFi.out hbk)
            rw [show optI none = -1 from rfl]
            clear hbk
            go_wp2_with fail
            go_roundw
            case rel => exact ⟨k + 1, by omega, by go_num, by rw [HN.out]; rfl, HK.out⟩
            case measure => simp [intOf]; omega
          | some y =>
            have hy := bestK_lt hbk
            have hyl : y < a.length := by omega
            have hy0 : ¬ (y : Int) < 0 := by omega
            obtain ⟨z2, o2, e2, _, y0, y1, y2, y3, y4, y5, y6⟩ := item_at (HA1.out.kept HK.out) hyl
            obtain ⟨rfl, rfl⟩ : zz = z2 ∧ o = o2 := by injection e2 with e2; injection e2 with e3 e4; exact ⟨e3, e4⟩
            clear e2
            have HHt := Lib.hid (fun r => HHi.out y hbk r)
            have HLt := Lib.hid (fun r => HLe.out y hbk r)
            rw [show optI (some y) = (y : Int) from rfl]
            rw [itA_get hlt, itA_get hyl] at HHt HLt
            clear hbk HHi HLe HFi HX
            generalize a[y] = sy at *
            generalize a[k] = sm at *
            go_wp2_with fail
            go_region_held3 (fun w' => w'.cell? ⟨zz, o + k * 7, none⟩ = some (.int .u64 sm.x.1) ∧ w'.cell? ⟨zz, o + k * 7 + 1, none⟩ = some (.int .u64 sm.x.2) ∧ w'.cell? ⟨zz, o + k * 7 + 2, none⟩ = some (.int .i64 (-1)) ∧ w'.cell? ⟨zz, o + k * 7 + 3, none⟩ = some (.int .i64 sm.o) ∧ w'.cell? ⟨zz, o + k * 7 + 4, none⟩ = some (.int .i64 sm.w) ∧ w'.cell? ⟨zz, o + k * 7 + 5, none⟩ = some (.int .i64 sm.b) ∧ w'.cell? ⟨zz, o + k * 7 + 6, none⟩ = some (.int .i64 sm.h) ∧ w'.cell? ⟨zz, o + y * 7, none⟩ = some (.int .u64 sy.x.1) ∧ w'.cell? ⟨zz, o + y * 7 + 1, none⟩ = some (.int .u64 sy.x.2) ∧ w'.cell? ⟨zz, o + y * 7 + 2, none⟩ = some (.int .i64 sy.p) ∧ w'.cell? ⟨zz, o + y * 7 + 3, none⟩ = some (.int .i64 sy.o) ∧ w'.cell? ⟨zz, o + y * 7 + 4, none⟩ = some (.int .i64 sy.w) ∧ w'.cell? ⟨zz, o + y * 7 + 5, none⟩ = some (.int .i64 sy.b) ∧ w'.cell? ⟨zz, o + y * 7 + 6, none⟩ = some (.int .i64 sy.h) ∧ Kept wr w')
              (first | exact ⟨x0, x1, x2, x3, x4, x5, x6, y0, y1, y2, y3, y4, y5, y6, Kept.refl _⟩ | exact ⟨x0, x1, x2, x3, x4, x5, x6, y0, y1, y2, y3, y4, y5, y6, (Kept.refl _).drew⟩ | assumption | exact keepP14 hb hb hb hb hb hb hb hb hb hb hb hb hb hb (by assumption) (by assumption))
              (first
                | (go_at_call 50; ((with_reducible refine (refBetter_any ⟨sm.x, -1, sm.o, sm.w, sm.b, sm.h⟩ sy _).mono ?_); rintro e w' ⟨rfl, kk⟩)))
            rename_i hh
            have HK2 := Lib.hid (HK.out.trans hh.2.2.2.2.2.2.2.2.2.2.2.2.2.2)
            clear hh kk x0 x1 x2 x3 x4 x5 x6 y0 y1 y2 y3 y4 y5 y6
            generalize w' = V2 at *
            try dsimp only
            cases hmo : moreI sm.w sy.w sm.x sy.x with
            | true =>
              have HN := Lib.hid (HHt.out hmo)
              clear hmo HHt HLt
              go_wp2_with fail
              go_roundw
              case rel => exact ⟨k + 1, by omega, by go_num, by rw [HN.out]; rfl, HK2.out⟩
              case measure => simp [intOf]; omega
            | false =>
              have HN := Lib.hid (HLt.out hmo)
              clear hmo HHt HLt
              go_wp2_with fail
              go_roundw
              case rel => exact ⟨k + 1, by omega, by go_num, by rw [HN.out]; rfl, HK2.out⟩
              case measure => simp [intOf]; omega
        · have HN := Lib.hid (bestK_miss hlt hp)
          have hpb : (a[k].p != -1) = true := by rw [bne_iff_ne]; exact hp
          clear hp
          generalize a[k] = sm at *
          go_wp2_with fail
          go_roundw
          case rel => exact ⟨k + 1, by omega, by go_num, by rw [HN.out], HK.out⟩
          case measure => simp [intOf]; omega
      · have hkl : k = a.length := by omega
        subst hkl
        have HBe := Lib.hid (show bestK a a.length = bC a (-1) from may_best HMa.out (-1))
        rw [HBe.out]
        have HD2 := Lib.hid (HD1.out.keep HK.out)
        obtain ⟨d0, d1⟩ := HD2.out.cells.two
        have hzl := HD2.out.cells.1
        have f0 := HD2.out.f0
        have f1 := HD2.out.f1
        cases hb : bC a (-1) with
        | none =>
          have HT := Lib.hid (topC_none HMt.out hb)
          rw [show optI none = -1 from rfl]
          clear hb
          go_wp2_with fail
          refine bodyPost_ret (v := .agg #[.int .u64 0, .int .u64 0]) (by simp [results, Try.results26, go_sem, d0, d1]) rfl ⟨by rw [HT.out]; rfl, ?_⟩
          exact (HD2.out.set HZ.out zid).kept
        | some r =>
          have HT := Lib.hid (topC_some HMt.out hb)
          have hr := (bC_mem hb).1
          have hh := (hC_lt a.length r (by omega) hr).2.1
          have HN := Lib.hid (show a[r].h = (hC a r : Int) by rw [← itA_get hr, may_at HMa.out hr]; rfl)
          have HX := Lib.hid (itA_get hh)
          obtain ⟨zz, o, rfl, hbz, _, _, _, _, _, _, c6⟩ := item_at (HA1.out.kept HK.out) hr
          obtain ⟨z2, o2, e2, _, x0, x1, _, _, _, _, _⟩ := item_at (HA1.out.kept HK.out) hh
          obtain ⟨rfl, rfl⟩ : zz = z2 ∧ o = o2 := by injection e2 with e2; injection e2 with e3 e4; exact ⟨e3, e4⟩
          rw [HN.out] at c6
          have hr1 : ¬ (r : Int) < 0 := by omega
          rw [show optI (some r) = (r : Int) from rfl]
          clear hb e2
          rw [← HX.out] at x0 x1
          generalize (itA a (hC a r)).x = tx at *
          generalize hC a r = hd at *
          go_wp2_with fail
          refine bodyPost_ret (v := .agg #[.int .u64 tx.1, .int .u64 tx.2]) (by simp [results, Try.results26, go_sem, d0, d1]) rfl ⟨by rw [HT.out], ?_⟩
          exact (HD2.out.set HZ.out tx).kept

end Go.Proofs.Ytabmdilhfiembaa
