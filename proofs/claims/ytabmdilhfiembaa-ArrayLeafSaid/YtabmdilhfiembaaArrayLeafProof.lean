/-
  Law ArrayLeaf of layer 10: the top has no child, and what stands on the beginning weighs, together, what all own, whatever items.
-/
import Derived.Test.YtabmdilhfiembaaArrayAwake
import Derived.Test.YtabmdilhfiembaaArrayOpen
import Derived.Test.YtabmdilhfiembaaArrayRefOps
import Derived.Test.YtabmdilhfiembaaGround
import Derived.Test.YtabmdilhfiembaaMixG
import Derived.Test.YtabmdilhfiembaaGhostRef
namespace Go.Proofs.Ytabmdilhfiembaa.arrayLeaf
set_option maxRecDepth 100000
set_option linter.unusedVariables false
set_option linter.unusedSimpArgs false
set_option linter.unusedSectionVars false
open Go.ChangeShapes Go.WideShapes Go.ChangeAt Go.RowKit
set_option linter.unusedVariables false

theorem may_apart {a : List It} (h : MayI a) {i j : Nat} (hi : i < a.length) (hj : j < a.length) (e : (itA a i).x = (itA a j).x) : i = j := by
  rcases Nat.lt_trichotomy i j with q | q | q
  · exact absurd e ((h.2.1 j hj).2.1 i q)
  · exact q
  · exact absurd e.symm ((h.2.1 i hi).2.1 j q)
def ownTo (a : List It) (k : Nat) : Int := ((List.range k).map fun i => (itA a i).o).sum
def lowTo (a : List It) (k : Nat) : Int := ((kidsEto a (-1) k).map fun i => (itA a i).w).sum
def atTo (hd k : Nat) : Int := if hd < k then (hd : Int) else -1
theorem ownTo_step (a : List It) (k : Nat) : ownTo a (k + 1) = ownTo a k + (itA a k).o := sum_range_succ (fun i => (itA a i).o) k
theorem lowTo_hit {a : List It} {k : Nat} (hk : k < a.length) (h : a[k].p = -1) : lowTo a (k + 1) = lowTo a k + (itA a k).w := by
  unfold lowTo; rw [kidsEto_hit hk h, List.map_append, List.sum_append]; simp
theorem lowTo_miss {a : List It} {k : Nat} (hk : k < a.length) (h : ¬ a[k].p = -1) : lowTo a (k + 1) = lowTo a k := by unfold lowTo; rw [kidsEto_miss hk h]
theorem atTo_hit (k : Nat) : atTo k (k + 1) = (k : Int) := by unfold atTo; rw [if_pos (by omega)]
theorem atTo_miss {hd k : Nat} (h : ¬ k = hd) : atTo hd (k + 1) = atTo hd k := by
  unfold atTo
  by_cases q : hd < k
  · rw [if_pos q, if_pos (by omega)]
  · rw [if_neg q, if_neg (by omega)]
section
variable {a : List It} (h : MayI a)
include h
theorem ownTo_bounds : ∀ k, k ≤ a.length → 0 ≤ ownTo a k ∧ ownTo a k ≤ k * 1125899906842624
  | 0, _ => ⟨Int.le_refl 0, by show (0 : Int) ≤ _; omega⟩
  | k + 1, hk => by
    have ih := ownTo_bounds k (by omega)
    have ho := h.stand.own k (by omega)
    rw [ownTo_step]
    omega
theorem may_w {k : Nat} (hk : k < a.length) : 0 ≤ (itA a k).w ∧ (itA a k).w ≤ 67553994410557440 := by
  rw [may_at h hk]
  have := wC_bounds h.stand.right h.stand.own hk
  have := h.1
  show 0 ≤ wC a k ∧ wC a k ≤ _
  omega
theorem lowTo_bounds : ∀ k, k ≤ a.length → 0 ≤ lowTo a k ∧ lowTo a k ≤ k * 67553994410557440
  | 0, _ => ⟨Int.le_refl 0, by show (0 : Int) ≤ _; omega⟩
  | k + 1, hk => by
    have ih := lowTo_bounds k (by omega)
    have hw := may_w h (k := k) (by omega)
    by_cases e : a[k].p = -1
    · rw [lowTo_hit (by omega) e]; omega
    · rw [lowTo_miss (by omega) e]; omega
theorem own_low : ownTo a a.length = lowTo a a.length := by
  have h1 := roots_sum h.stand.right
  have h2 : kidsEto a (-1) a.length = kidsI a (-1) := kidsE_kids h.stand.right (-1)
  unfold ownTo lowTo
  rw [h2, ← h1]
  exact map_sum_congr fun k hk => by rw [may_at h (mem_kidsI.1 hk).1]; rfl
/-- The top's place, and that nothing stands on it. -/
theorem top_place (h0 : 0 < a.length) : ∃ hd, hd < a.length ∧ topC a = (itA a hd).x ∧ (itA a hd).x ≠ zid ∧ ∀ k, k < a.length → ¬ (itA a k).p = (hd : Int) := by
  obtain ⟨r, hr⟩ := roots_some h.stand.right h0
  have hrl := (bC_mem hr).1
  obtain ⟨_, hl, hb⟩ := hC_lt a.length r (by omega) hrl
  refine ⟨hC a r, hl, topC_some (mayI_yes h) hr, (h.2.1 _ hl).1, fun k hk e => ?_⟩
  have hm : k ∈ kidsI a (hC a r : Int) := mem_kidsI.2 ⟨hk, by have := h.stand.right k hk; omega, e⟩
  unfold bC at hb
  rw [bestX_none hb] at hm
  cases hm
end

/-! ### The walk: the call returns true, and of what was there nothing has changed. -/
attribute [local go_sem high] eqIdN eqIdZ in
set_option maxRecDepth 100000 in
set_option maxHeartbeats 3200000 in
theorem walk (w : World) (aA : Option Addr) (ac : Nat) (a : List It) (ahm : a.length ≤ maxLen) (ahc : a.length ≤ ac) (ahl : CellsAt w w.heap.size aA (itemCells a)) :
    Calls Try.prog 8 #[.slice aA a.length ac] w fun e w' => e = .returned (.bool true) ∧ Kept w w' := by
  by_cases h70 : a.length ≤ 70
  · go_enter Try.func8, Try.ntmps8
    go_wp2_with fail
    have K0 := Lib.hid (Kept.refl w)
    have HA := Lib.hid (ahl.kept K0.out)
    clear ahl
    have KB0 := Lib.hid (Kept.refl w)
    have HMay := Lib.hid (fun w' (kk : Kept w w') => mayI_any aA ac a h70 ahc w' (HA.out.kept kk))
    have HTop := Lib.hid (fun w' (kk : Kept w w') => topI_any aA ac a h70 ahc w' (HA.out.kept kk))
    refine (arrayAwake w).mono ?_
    rintro e W1 ⟨rfl, k⟩
    have KB1 := Lib.hid (KB0.out.trans k)
    clear k
    go_wp2_with fail
    refine (HMay.out W1 KB1.out).mono ?_
    rintro e W2 ⟨rfl, k⟩
    have KB2 := Lib.hid (KB1.out.trans k)
    clear k
    cases hm : mayI a with
    | false =>
      have HM := Lib.hid hm
      clear hm
      go_wp2_with fail
      go_ret
      exact ⟨by first | rfl | (simp; done), K0.out.trans KB2.out⟩
    | true =>
      have HM := Lib.hid (mayI_of hm)
      clear hm
      go_wp2_with fail
      refine (HTop.out W2 KB2.out).mono ?_
      rintro e W3 ⟨rfl, k⟩
      have KB3 := Lib.hid (KB2.out.trans k)
      clear k
      by_cases h0 : 0 < a.length
      · obtain ⟨hd, hdl, ht, hnz, hlf⟩ := top_place HM.out h0
        have HLf := Lib.hid hlf
        have HNz := Lib.hid hnz
        have HAp := Lib.hid (fun k (hk : k < a.length) (e : (itA a k).x = (itA a hd).x) => may_apart HM.out hk hdl e)
        have HOL := Lib.hid (own_low HM.out)
        have HOb := Lib.hid (fun k hk => ownTo_bounds HM.out k hk)
        have HLb := Lib.hid (fun k hk => lowTo_bounds HM.out k hk)
        have HWb := Lib.hid (fun k (hk : k < a.length) => may_w HM.out hk)
        have HBo := Lib.hid (fun k (hk : k < a.length) => HM.out.stand.own k hk)
        have h60 := HM.out.1
        rw [ht]
        clear ht hlf hnz
        generalize htp : (itA a hd).x = tp at *
        have HTp := Lib.hid htp
        clear htp
        have HX := Lib.hid (HasCells.new W3 #[.int .u64 tp.1, .int .u64 tp.2] 29 W3.heap.size rfl)
        have KX := Lib.hid (Kept.alloc (Kept.refl W3) (.cells #[.int .u64 tp.1, .int .u64 tp.2] 29))
        have HAx := Lib.hid ((HA.out.kept KB3.out).kept KX.out)
        go_wp2_with fail
        generalize W3.alloc (.cells #[.int .u64 tp.1, .int .u64 tp.2] 29) = V1 at *
        generalize W3.heap.size = z at *
        go_loopw [5, 6, 7, 8] (fun o l t i w' => ∃ k : Nat, k ≤ a.length ∧ i = .int .i64 k ∧ o = .int .i64 (ownTo a k) ∧ l = .int .i64 (lowTo a k) ∧ t = .int .i64 (atTo hd k) ∧ Kept V1 w') (fun _ _ _ i _ => a.length - (intOf i).toNat)
        case atStart => exact ⟨0, by omega, rfl, rfl, rfl, rfl, Kept.refl _⟩
        case round =>
          obtain ⟨k, hk, rfl, rfl, rfl, rfl, hK⟩ := hrel
          have HK := Lib.hid hK
          clear hK
          by_cases hlt : k < a.length
          · obtain ⟨zz, o, rfl, hb, x0, x1, x2, x3, x4, _, _⟩ := item_at (HAx.out.kept HK.out) hlt
            obtain ⟨d0, d1⟩ := (HX.out.kept HK.out).two
            have hzl := (HX.out.kept HK.out).1
            have b1 := HOb.out k hk
            have b2 := HOb.out (k + 1) hlt
            have b3 := HLb.out k hk
            have b4 := HWb.out k hlt
            have b5 := HBo.out k hlt
            have HOs := Lib.hid (ownTo_step a k)
            have HLh := Lib.hid (fun h => lowTo_hit (a := a) hlt h)
            have HLm := Lib.hid (fun h => lowTo_miss (a := a) hlt h)
            have HApk := Lib.hid (fun e => HAp.out k hlt e)
            have HGe := Lib.hid (itA_get hlt)
            rw [HOs.out] at b2
            rw [HGe.out] at b2 b4 b5 HOs HLh HApk
            have HTk := Lib.hid (show k = hd → a[k].x = tp from fun e => by subst e; rw [← HGe.out]; exact HTp.out)
            generalize a[k] = y at *
            generalize hot : ownTo a k = so at *
            generalize hlo : lowTo a k = sl at *
            clear hot hlo
            by_cases hp : y.p = -1
            · have HLo := Lib.hid (HLh.out hp)
              have hpb : (y.p == -1) = true := by rw [beq_iff_eq]; exact hp
              clear hp HLh HLm
              by_cases hx : k = hd
              · have hs : sameI y.x tp = true := sameI_yes (HTk.out hx)
                have HAt := Lib.hid (show atTo hd (k + 1) = (k : Int) by rw [← hx]; exact atTo_hit k)
                clear hx
                go_wp2_with fail
                go_quiet (fail)
                go_wp2_with fail
                go_roundw
                case rel => exact ⟨k + 1, by omega, by go_num, by rw [HOs.out], by rw [HLo.out], by rw [HAt.out], HK.out.drewN _⟩
                case measure => simp [intOf]; omega
              · have hs : sameI y.x tp = false := sameI_no (fun e => hx (HApk.out e))
                have HAt := Lib.hid (atTo_miss hx)
                clear hx
                go_wp2_with fail
                go_quiet (fail)
                go_wp2_with fail
                go_roundw
                case rel => exact ⟨k + 1, by omega, by go_num, by rw [HOs.out], by rw [HLo.out], by rw [HAt.out], HK.out.drewN _⟩
                case measure => simp [intOf]; omega
            · have HLo := Lib.hid (HLm.out hp)
              have hpb : (y.p == -1) = false := by rw [beq_eq_false_iff_ne]; exact hp
              clear hp HLh HLm
              by_cases hx : k = hd
              · have hs : sameI y.x tp = true := sameI_yes (HTk.out hx)
                have HAt := Lib.hid (show atTo hd (k + 1) = (k : Int) by rw [← hx]; exact atTo_hit k)
                clear hx
                go_wp2_with fail
                go_quiet (fail)
                go_wp2_with fail
                go_roundw
                case rel => exact ⟨k + 1, by omega, by go_num, by rw [HOs.out], by rw [HLo.out], by rw [HAt.out], HK.out.drewN _⟩
                case measure => simp [intOf]; omega
              · have hs : sameI y.x tp = false := sameI_no (fun e => hx (HApk.out e))
                have HAt := Lib.hid (atTo_miss hx)
                clear hx
                go_wp2_with fail
                go_quiet (fail)
                go_wp2_with fail
                go_roundw
                case rel => exact ⟨k + 1, by omega, by go_num, by rw [HOs.out], by rw [HLo.out], by rw [HAt.out], HK.out.drewN _⟩
                case measure => simp [intOf]; omega
          · have hkl : k = a.length := by omega
            subst hkl
            have HAt := Lib.hid (show atTo hd a.length = (hd : Int) by unfold atTo; rw [if_pos hdl])
            rw [HOL.out, HAt.out]
            generalize lowTo a a.length = sl at *
            have hd0 : (0 : Int) ≤ (hd : Int) := by omega
            go_wp2_with fail
            go_loopw [9] (fun i w' => ∃ k : Nat, k ≤ a.length ∧ i = .int .i64 k ∧ Kept V1 w') (fun i _ => a.length - (intOf i).toNat)
            case atStart => exact ⟨0, by omega, rfl, HK.out⟩
            case round =>
              obtain ⟨k, hk, rfl, hK2⟩ := hrel
              have HK2 := Lib.hid hK2
              clear hK2
              by_cases hlt : k < a.length
              · obtain ⟨zz, o, rfl, hb, _, _, x2, _, _, _, _⟩ := item_at (HAx.out.kept HK2.out) hlt
                have hpb : (a[k].p == (hd : Int)) = false := by rw [beq_eq_false_iff_ne, ← itA_get hlt]; exact HLf.out k hlt
                generalize a[k] = y at *
                go_wp2_with fail
                go_roundw
                case rel => exact ⟨k + 1, by omega, by go_num, HK2.out⟩
                case measure => simp [intOf]; omega
              · have hkl : k = a.length := by omega
                subst hkl
                obtain ⟨d0, d1⟩ := (HX.out.kept HK2.out).two
                have hzl := (HX.out.kept HK2.out).1
                have hz : isZ tp = false := decide_eq_false HNz.out
                have hn0 : ((a.length : Int) == 0) = false := by rw [beq_eq_false_iff_ne]; omega
                go_wp2_with fail
                go_ret
                exact ⟨by first | rfl | (simp; done), K0.out.trans (KB3.out.trans (KX.out.trans HK2.out))⟩
      · have h0 : a = [] := List.eq_nil_of_length_eq_zero (by omega)
        subst h0
        have HT := Lib.hid (show topC [] = zid from topC_none (mayI_yes nil_may) rfl)
        rw [HT.out]
        have HX := Lib.hid (HasCells.new W3 #[.int .u64 zid.1, .int .u64 zid.2] 29 W3.heap.size rfl)
        have KX := Lib.hid (Kept.alloc (Kept.refl W3) (.cells #[.int .u64 zid.1, .int .u64 zid.2] 29))
        go_wp2_with fail
        generalize W3.alloc (.cells #[.int .u64 zid.1, .int .u64 zid.2] 29) = V1 at *
        generalize W3.heap.size = z at *
        go_loopw [5, 6, 7, 8] (fun o l t i w' => o = .int .i64 0 ∧ l = .int .i64 0 ∧ t = .int .i64 (-1) ∧ i = .int .i64 0 ∧ w' = V1) (fun _ _ _ _ _ => 0)
        case atStart => exact ⟨rfl, rfl, rfl, rfl, rfl⟩
        case round =>
          obtain ⟨rfl, rfl, rfl, rfl, rfl⟩ := hrel
          obtain ⟨d0, d1⟩ := HX.out.two
          have hzl := HX.out.1
          have hs : isZ zid = true := by decide
          go_wp2_with fail
          go_loopw [9] (fun i w' => i = .int .i64 0 ∧ w' = wr) (fun _ _ => 0)
          case atStart => exact ⟨rfl, rfl⟩
          case round =>
            obtain ⟨rfl, rfl⟩ := hrel
            go_wp2_with fail
            go_ret
            exact ⟨by first | rfl | (simp; done) | (simp [zid]; done), K0.out.trans (KB3.out.trans KX.out)⟩
  · go_enter Try.func8, Try.ntmps8
    go_wp2_with fail
    have K0 := Lib.hid (Kept.refl w)
    have HA := Lib.hid (ahl.kept K0.out)
    clear ahl
    have KB0 := Lib.hid (Kept.refl w)
    refine (arrayAwake w).mono ?_
    rintro e W1 ⟨rfl, k⟩
    have KB1 := Lib.hid (KB0.out.trans k)
    clear k
    go_wp2_with fail
    go_ret
    exact ⟨by first | rfl | (simp; done), K0.out.trans KB1.out⟩

/-! ### The row's step -/
set_option maxRecDepth 100000 in
theorem lifted (os : Os) (started : os.Started) (H : Type) (enc : TypeId × Value → H) :
    ReturnsInHanded {} Try.checked os 8 .any (Rows.arrayLeafSpec.pre6 enc Try.prog Try.f8 Rows.arrayLeafRow.domain false) (Rows.arrayLeafSpec.post enc Try.prog Try.f8 false true false false) := by
  refine returnsInHanded_of_change (C := Try.checked) own started (by kernel_rfl) Try.func8
    (ChangeSpec.witness6 (enc := enc) (C := Try.checked) false ⟨#[], #[.slice none 0 0], []⟩ 8 (by kernel_rfl) (by kernel_rfl) (by kernel_rfl) (by kernel_rfl)) ?_
  intro W base args ds gs before hval0 hW hcnd _
  have hval : ∀ (j : Nat) t v, Try.f8.params[j]? = some t → args[j]? = some v → Value.okWide Try.prog W .any base t v := hval0
  have hW' := hW
  obtain ⟨p, q, hA0, hV, rfl, hfz, hnd⟩ := hW
  have hA : DataW.TrodAll enc Try.prog W 0 (fun _ => true) true Try.f8.params.toList args.toList ds p := hA0
  rw [Try.params8] at hA hval
  obtain ⟨v0, vs0, d0, ds0, p0, q0, hargs, rfl, rfl, h0, r0⟩ := trodAll_cons hA
  obtain ⟨rfl, rfl, rfl⟩ := trodAll_nil r0
  obtain rfl : args = #[v0] := by cases args; simp_all
  obtain ⟨rfl, rfl⟩ := trodVars_none hV
  obtain ⟨aA, ac, a, rfl, ahm, ahc, ahl⟩ := open_items (hval 0 _ v0 rfl rfl) h0
  clear hA0 hval0
  refine (walk W aA ac a ahm ahc ahl).mono fun e W' ⟨he, hb⟩ => ?_
  subst he
  exact ⟨_, rfl, law_post rfl (by kernel_rfl) rfl hW' rfl hb⟩

theorem over : Rows.arrayLeafRow.holds Try.pinned (OpenSpec.ofChange Rows.arrayLeafSpec) :=
  OpenClaim.holds_of_wide 8 Try.f8 rfl rfl rfl rfl rfl rfl rfl ⟨rfl, rfl, rfl, rfl, rfl⟩ rfl rfl rfl rfl rfl (by kernel_rfl) Try.func8 (by kernel_rfl)
    (of_decide_eq_true (by kernel_rfl)) (by unfold Func.isWrapper; first | (rw [if_pos (by decide +kernel)]; kernel_rfl) | (rw [if_neg (by decide +kernel)]; exact ⟨rfl, rfl⟩))
    (fun os started H enc _ => lifted os started H enc)

/-- The statement. -/
theorem proved : Rows.ArrayLeafSaid :=
  over
#print axioms proved

end Go.Proofs.Ytabmdilhfiembaa.arrayLeaf
