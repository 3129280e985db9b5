/-
  For every conf, every list and every number marigoldlaw05.DutyWeighs returns true and leaves its arguments as they were: no further condition.
-/
import Derived.Test.YtdidmgmfjfnliaaDutyRefHas
namespace Go.Proofs.Ytdidmgmfjfnliaa.dutyWeighs
open Go.ChangeShapes Go.WideShapes Go.ChangeAt Go.RowKit
set_option linter.unusedVariables false

theorem weighs_has {k : Cf} {l : List Int} {who : Int} (h : hasI l who = true) : weightC k (l ++ [who]) = weightC k l :=
  weight_same k fun j => by
    rw [inList_snoc]
    by_cases e : (j : Int) = who
    · subst e
      have : inList l j = true := h
      rw [this]; rfl
    · rw [decide_eq_false e]; simp
theorem weighs_not {k : Cf} {l : List Int} {who : Int} (h : hasI l who = false) : weightC k (l ++ [who]) = weightC k l + weightC k [who] :=
  (weight_both k l [who]).2 fun x hx hy => by
    simp at hy
    subst hy
    exact of_decide_eq_false h hx
theorem weighs_all {k : Cf} (hm : mayC k = true) : weightC k (commTo (fun _ => true) k.ws.length) = totalC k := by
  rw [weightC_yes _ hm, totalC_yes hm]
  exact weighTo_congr fun j hj => inList_comm j hj
theorem weighs_le {k : Cf} (hm : mayC k = true) (l : List Int) : weightC k l ≤ totalC k := by
  rw [weightC_yes _ hm, totalC_yes hm]
  exact weighTo_mono (mayC_yes hm).2.2.1 (fun _ _ => rfl) _
theorem weighs_twice (k : Cf) (l : List Int) : weightC k (l ++ l) = weightC k l := weight_same k fun j => by rw [inList_append]; simp

/-! ### The walk: the call returns true, and of what was there nothing has changed. -/
set_option maxRecDepth 100000 in
set_option maxHeartbeats 6400000 in
theorem walk (w : World) (kA : Option Addr) (kc : Nat) (k : Cf) (khm : k.ws.length ≤ maxLen) (khs : k.seed < 18446744073709551616) (khl : CellsAt w w.heap.size kA (intCells k.ws)) (lA : Option Addr) (lc : Nat) (l : List Int) (lhm : l.length ≤ maxLen) (lhb : ∀ x ∈ l, -9223372036854775808 ≤ x ∧ x ≤ 9223372036854775807) (lhl : CellsAt w w.heap.size lA (intCells l)) (who : Int) (hwho1 : -9223372036854775808 ≤ who) (hwho2 : who ≤ 9223372036854775807) :
    Calls Try.prog 5 #[.agg #[.slice kA k.ws.length kc, .int .u64 k.seed, .int .i64 k.ep, .int .i64 k.nu, .int .i64 k.de], .slice lA l.length lc, .int .i64 who] w fun e w' => e = .returned (.bool true) ∧ Kept w w' := by
  by_cases hn : k.ws.length > 40
  · obtain ⟨hC, hA, hK⟩ := conf_box (c := kc) khl
    have HC0 := Lib.hid hC
    have HA0 := Lib.hid hA
    have HK0 := Lib.hid hK
    have HLl0 := Lib.hid (lhl.kept hK)
    clear hC hA hK khl lhl
    go_enter Try.func5, Try.ntmps5
    go_wp2_with fail
    generalize w.alloc (.cells #[.slice kA k.ws.length kc, .int .u64 k.seed, .int .i64 k.ep, .int .i64 k.nu, .int .i64 k.de] 25) = W0 at *
    generalize w.heap.size = z at *
    refine (dutyAwake _).mono ?_
    rintro e W1 ⟨rfl, k1⟩
    have HC1 := Lib.hid (HC0.out.kept k1)
    have HA1 := Lib.hid (HA0.out.kept k1)
    have HLl1 := Lib.hid (HLl0.out.kept k1)
    have HK1 := Lib.hid (HK0.out.trans k1)
    clear k1 HC0 HA0 HLl0 HK0
    obtain ⟨c0, c1, c2, c3, c4⟩ := HC1.out.five
    have hz := HC1.out.1
    go_wp2_with fail
    clear c0 c1 c2 c3 c4 hz
    go_ret
    exact ⟨rfl, HK1.out⟩
  · by_cases hl : l.length > 40
    · obtain ⟨hC, hA, hK⟩ := conf_box (c := kc) khl
      have HC0 := Lib.hid hC
      have HA0 := Lib.hid hA
      have HK0 := Lib.hid hK
      have HLl0 := Lib.hid (lhl.kept hK)
      clear hC hA hK khl lhl
      go_enter Try.func5, Try.ntmps5
      go_wp2_with fail
      generalize w.alloc (.cells #[.slice kA k.ws.length kc, .int .u64 k.seed, .int .i64 k.ep, .int .i64 k.nu, .int .i64 k.de] 25) = W0 at *
      generalize w.heap.size = z at *
      refine (dutyAwake _).mono ?_
      rintro e W1 ⟨rfl, k1⟩
      have HC1 := Lib.hid (HC0.out.kept k1)
      have HA1 := Lib.hid (HA0.out.kept k1)
      have HLl1 := Lib.hid (HLl0.out.kept k1)
      have HK1 := Lib.hid (HK0.out.trans k1)
      clear k1 HC0 HA0 HLl0 HK0
      obtain ⟨c0, c1, c2, c3, c4⟩ := HC1.out.five
      have hz := HC1.out.1
      go_wp2_with fail
      clear c0 c1 c2 c3 c4 hz
      go_ret
      exact ⟨rfl, HK1.out⟩
    · cases hm : mayC k with
      | false =>
        have HM := Lib.hid hm
        clear hm
        obtain ⟨hC, hA, hK⟩ := conf_box (c := kc) khl
        have HC0 := Lib.hid hC
        have HA0 := Lib.hid hA
        have HK0 := Lib.hid hK
        have HLl0 := Lib.hid (lhl.kept hK)
        clear hC hA hK khl lhl
        go_enter Try.func5, Try.ntmps5
        go_wp2_with fail
        generalize w.alloc (.cells #[.slice kA k.ws.length kc, .int .u64 k.seed, .int .i64 k.ep, .int .i64 k.nu, .int .i64 k.de] 25) = W0 at *
        generalize w.heap.size = z at *
        refine (dutyAwake _).mono ?_
        rintro e W1 ⟨rfl, k1⟩
        have HC1 := Lib.hid (HC0.out.kept k1)
        have HA1 := Lib.hid (HA0.out.kept k1)
        have HLl1 := Lib.hid (HLl0.out.kept k1)
        have HK1 := Lib.hid (HK0.out.trans k1)
        clear k1 HC0 HA0 HLl0 HK0
        obtain ⟨c0, c1, c2, c3, c4⟩ := HC1.out.five
        have hz := HC1.out.1
        go_wp2_with fail
        clear c0 c1 c2 c3 c4 hz
        refine (may_any kA kc k _ HA1.out).mono ?_
        rintro e W2 ⟨rfl, k1⟩
        rw [HM.out]
        have HC2 := Lib.hid (HC1.out.kept k1)
        have HA2 := Lib.hid (HA1.out.kept k1)
        have HLl2 := Lib.hid (HLl1.out.kept k1)
        have HK2 := Lib.hid (HK1.out.trans k1)
        clear k1 HC1 HA1 HLl1 HK1
        obtain ⟨c0, c1, c2, c3, c4⟩ := HC2.out.five
        have hz := HC2.out.1
        go_wp2_with fail
        clear c0 c1 c2 c3 c4 hz
        go_ret
        exact ⟨rfl, HK2.out⟩
      | true =>
        cases hh : hasI l who with
        | true =>
          have HM := Lib.hid hm
          have HH := Lib.hid hh
          have HEm := Lib.hid (weighs_has (k := k) hh)
          have HEa := Lib.hid (weighs_all hm)
          have HEt := Lib.hid (weighs_twice k l)
          have HE0 := Lib.hid (show weightC k [] = 0 from weight_out k fun _ _ => by simp)
          have hle := weighs_le hm l
          have hnb := weight_bounds k l
          have hob := weight_bounds k [who]
          have hn0 : 0 ≤ weightC k l := hnb.1
          have hsum : IntKind.i64.wrap (weightC k l + weightC k [who]) = weightC k l + weightC k [who] := by rw [IntKind.wrap_i64]; omega
          clear hm hh
          obtain ⟨hC, hA, hK⟩ := conf_box (c := kc) khl
          have HC0 := Lib.hid hC
          have HA0 := Lib.hid hA
          have HK0 := Lib.hid hK
          have HLl0 := Lib.hid (lhl.kept hK)
          clear hC hA hK khl lhl
          go_enter Try.func5, Try.ntmps5
          go_wp2_with fail
          generalize w.alloc (.cells #[.slice kA k.ws.length kc, .int .u64 k.seed, .int .i64 k.ep, .int .i64 k.nu, .int .i64 k.de] 25) = W0 at *
          generalize w.heap.size = z at *
          refine (dutyAwake _).mono ?_
          rintro e W1 ⟨rfl, k1⟩
          have HC1 := Lib.hid (HC0.out.kept k1)
          have HA1 := Lib.hid (HA0.out.kept k1)
          have HLl1 := Lib.hid (HLl0.out.kept k1)
          have HK1 := Lib.hid (HK0.out.trans k1)
          clear k1 HC0 HA0 HLl0 HK0
          obtain ⟨c0, c1, c2, c3, c4⟩ := HC1.out.five
          have hz := HC1.out.1
          go_wp2_with fail
          clear c0 c1 c2 c3 c4 hz
          refine (may_any kA kc k _ HA1.out).mono ?_
          rintro e W2 ⟨rfl, k1⟩
          rw [HM.out]
          have HC2 := Lib.hid (HC1.out.kept k1)
          have HA2 := Lib.hid (HA1.out.kept k1)
          have HLl2 := Lib.hid (HLl1.out.kept k1)
          have HK2 := Lib.hid (HK1.out.trans k1)
          clear k1 HC1 HA1 HLl1 HK1
          obtain ⟨c0, c1, c2, c3, c4⟩ := HC2.out.five
          have hz := HC2.out.1
          go_wp2_with fail
          clear c0 c1 c2 c3 c4 hz
          refine (weight_any kA kc k lA l lc _ HA2.out (by omega) HLl2.out).mono ?_
          rintro e W3 ⟨rfl, k1⟩
          have HC3 := Lib.hid (HC2.out.kept k1)
          have HA3 := Lib.hid (HA2.out.kept k1)
          have HLl3 := Lib.hid (HLl2.out.kept k1)
          have HK3 := Lib.hid (HK2.out.trans k1)
          clear k1 HC2 HA2 HLl2 HK2
          obtain ⟨c0, c1, c2, c3, c4⟩ := HC3.out.five
          have hz := HC3.out.1
          go_wp2_with fail
          clear c0 c1 c2 c3 c4 hz
          obtain ⟨c0, c1, c2, c3, c4⟩ := HC3.out.five
          have hz := HC3.out.1
          have HWm := Lib.hid (fun w' (hk : w'.cell? ⟨z, 0, none⟩ = some (.slice kA k.ws.length kc) ∧ w'.cell? ⟨z, 1, none⟩ = some (.int .u64 k.seed) ∧ w'.cell? ⟨z, 2, none⟩ = some (.int .i64 k.ep) ∧ w'.cell? ⟨z, 3, none⟩ = some (.int .i64 k.nu) ∧ w'.cell? ⟨z, 4, none⟩ = some (.int .i64 k.de) ∧ Kept W3 w') A2 c2 (h : CellsAt w' w'.heap.size A2 (intCells (l ++ [who]))) => weight_len kA kc k A2 (l ++ [who]) (l.length + 1) c2 w' (HA3.out.kept hk.2.2.2.2.2) (by omega) h (by simp))
          rw [HEm.out] at HWm
          have hlen : l.length + 1 ≤ 1000000 := by omega
          have hq := (⟨c0, c1, c2, c3, c4, Kept.refl W3⟩ : _ ∧ _ ∧ _ ∧ _ ∧ _ ∧ _)
          go_region_held3 (fun w' => w'.cell? ⟨z, 0, none⟩ = some (.slice kA k.ws.length kc) ∧ w'.cell? ⟨z, 1, none⟩ = some (.int .u64 k.seed) ∧ w'.cell? ⟨z, 2, none⟩ = some (.int .i64 k.ep) ∧ w'.cell? ⟨z, 3, none⟩ = some (.int .i64 k.nu) ∧ w'.cell? ⟨z, 4, none⟩ = some (.int .i64 k.de) ∧ Kept W3 w')
            (first | exact hq | exact ⟨c0, c1, c2, c3, c4, (Kept.refl _).drew⟩ | assumption | exact five_keep hz hq (Kept.trans (Kept.drew (Kept.refl _)) b2.2) | exact five_keep hz hq (Kept.trans (Kept.drew (Kept.alloc (Kept.refl _) _)) b2.2) | exact five_keep hz hq (Kept.trans (Kept.drew (Kept.refl _)) b1.2) | exact five_keep hz hq (Kept.trans (Kept.drew (Kept.alloc (Kept.refl _) _)) b1.2) | exact five_keep hz hq (Kept.drew (Kept.alloc (Kept.refl _) _)) | exact five_keep hz (by assumption) ((Kept.refl _).alloc _) | exact five_keep hz (by assumption) (by assumption))
            (first
              | (refine step_nil _ (by rfl) (.tmp 38) (by rfl) _ lA l.length lc l (by rfl) rfl (HLl3.out.kept (Kept.refl _).drew) (by omega) ?_; intro A1 d1 w1 b1)
              | (refine step_nil _ (by rfl) (.tmp 38) (by rfl) _ lA l.length lc l (by rfl) rfl (HLl3.out.kept (Kept.drew (Kept.alloc (Kept.refl _) _))) (by omega) ?_; intro A1 d1 w1 b1)
              | (refine step_ints _ (by rfl) (.tmp 39) (.tmp 41) (by rfl) _ l _ (by rfl) (b1.alloc _) _ _ 1 1 [who] (by rfl) rfl (CellsAt.one _ _ _ _ rfl) hlen ?_; intro A2 d2 w2 b2)
              | (refine step_ints _ (by rfl) (.tmp 39) (.tmp 41) (by rfl) _ l _ (by rfl) b1 _ _ 1 1 [who] (by rfl) rfl (((CellsAt.one W3 _ _ _ rfl).kept (Kept.drew (Kept.refl _))).kept b1.2) hlen ?_; intro A2 d2 w2 b2)
              | (go_at_call 17; ((with_reducible refine (HWm.out _ (by assumption) A2 d2 (b2.cells (by simp))).mono ?_); rintro e w' ⟨rfl, kk⟩)))
          all_goals
            rename_i hh
            have k1 := hh.2.2.2.2.2
            clear hh hq kk b1 b2 c0 c1 c2 c3 c4 hz
            have HC4 := Lib.hid (HC3.out.kept k1)
            have HA4 := Lib.hid (HA3.out.kept k1)
            have HLl4 := Lib.hid (HLl3.out.kept k1)
            have HK4 := Lib.hid (HK3.out.trans k1)
            clear k1 HC3 HA3 HLl3 HK3
            obtain ⟨c0, c1, c2, c3, c4⟩ := HC4.out.five
            have hz := HC4.out.1
            go_wp2_with fail
            refine (weight_len kA kc k _ [who] 1 _ _ (HA4.out.kept ((Kept.refl _).alloc _)) (by omega) (CellsAt.one w' _ _ _ rfl) rfl).mono ?_
            rintro e W5 ⟨rfl, k5⟩
            have k1 := Kept.trans ((Kept.refl w').alloc _) k5
            clear k5 c0 c1 c2 c3 c4 hz
            have HC5 := Lib.hid (HC4.out.kept k1)
            have HA5 := Lib.hid (HA4.out.kept k1)
            have HLl5 := Lib.hid (HLl4.out.kept k1)
            have HK5 := Lib.hid (HK4.out.trans k1)
            clear k1 HC4 HA4 HLl4 HK4
            obtain ⟨c0, c1, c2, c3, c4⟩ := HC5.out.five
            have hz := HC5.out.1
            go_wp2_with fail
            refine (refHas_any lA lc l who _ (by omega) HLl5.out).mono ?_
            rintro e W6 ⟨rfl, rfl⟩
            rw [HH.out]
            go_wp2_with fail
            clear c0 c1 c2 c3 c4
            go_loopw [12, 13] (fun v i w' => ∃ j : Nat, j ≤ k.ws.length ∧ i = .int .i64 (j : Nat) ∧ Ints W6 (commTo (fun _ => true) j) v w') (fun _ i _ => k.ws.length - (intOf i).toNat)
            case atStart => exact ⟨0, by omega, rfl, Ints.nil W6⟩
            case round =>
              obtain ⟨j, hj, rfl, hI⟩ := hrel
              have HI := Lib.hid hI
              clear hI
              obtain ⟨c0, c1, c2, c3, c4⟩ := (HC5.out.kept HI.out.2).five
              have hzr := (HC5.out.kept HI.out.2).1
              by_cases hlt : j < k.ws.length
              · have HN := Lib.hid (commTo_hit (p := fun _ => true) (j := j) rfl)
                have HL := Lib.hid (commTo_length (fun _ => true) j)
                go_wp2_with (refine wpList_ints _ rfl _ _ rfl W6 (commTo (fun _ => true) j) _ rfl (HI.out.alloc _) _ _ 1 1 [(j : Int)] rfl rfl (CellsAt.one _ _ _ _ rfl) (by have := HL.out; omega) ?_; intro v' w' HI'; rw [← HN.out] at HI')
                go_roundw
                case rel => exact ⟨j + 1, by omega, by go_num, by assumption⟩
                case measure => simp [intOf]; omega
              · have hjl : j = k.ws.length := by omega
                subst hjl
                obtain ⟨A3, q3, rfl⟩ := row_slice HI.out.1
                have HAl := Lib.hid (CellsAt.of_own HI.out.1)
                have HL := Lib.hid (commTo_length (fun _ => true) k.ws.length)
                have HC6 := Lib.hid (HC5.out.kept HI.out.2)
                have HA6 := Lib.hid (HA5.out.kept HI.out.2)
                have HLl6 := Lib.hid (HLl5.out.kept HI.out.2)
                have HK6 := Lib.hid (HK5.out.trans HI.out.2)
                clear HC5 HA5 HLl5 HK5
                have HT1 := Lib.hid (fun w' (hk : w'.cell? ⟨z, 0, none⟩ = some (.slice kA k.ws.length kc) ∧ w'.cell? ⟨z, 1, none⟩ = some (.int .u64 k.seed) ∧ w'.cell? ⟨z, 2, none⟩ = some (.int .i64 k.ep) ∧ w'.cell? ⟨z, 3, none⟩ = some (.int .i64 k.nu) ∧ w'.cell? ⟨z, 4, none⟩ = some (.int .i64 k.de) ∧ Kept wr w') => total_any kA kc k w' (HA6.out.kept hk.2.2.2.2.2))
                have HWa := Lib.hid (fun w' (hk : w'.cell? ⟨z, 0, none⟩ = some (.slice kA k.ws.length kc) ∧ w'.cell? ⟨z, 1, none⟩ = some (.int .u64 k.seed) ∧ w'.cell? ⟨z, 2, none⟩ = some (.int .i64 k.ep) ∧ w'.cell? ⟨z, 3, none⟩ = some (.int .i64 k.nu) ∧ w'.cell? ⟨z, 4, none⟩ = some (.int .i64 k.de) ∧ Kept wr w') => weight_any kA kc k A3 (commTo (fun _ => true) k.ws.length) q3 w' (HA6.out.kept hk.2.2.2.2.2) (by have := HL.out; omega) (HAl.out.kept hk.2.2.2.2.2))
                have HWn := Lib.hid (fun w' (hk : w'.cell? ⟨z, 0, none⟩ = some (.slice kA k.ws.length kc) ∧ w'.cell? ⟨z, 1, none⟩ = some (.int .u64 k.seed) ∧ w'.cell? ⟨z, 2, none⟩ = some (.int .i64 k.ep) ∧ w'.cell? ⟨z, 3, none⟩ = some (.int .i64 k.nu) ∧ w'.cell? ⟨z, 4, none⟩ = some (.int .i64 k.de) ∧ Kept wr w') => weight_len kA kc k none [] 0 0 w' (HA6.out.kept hk.2.2.2.2.2) (by omega) CellsAt.nil rfl)
                have HWl := Lib.hid (fun w' (hk : w'.cell? ⟨z, 0, none⟩ = some (.slice kA k.ws.length kc) ∧ w'.cell? ⟨z, 1, none⟩ = some (.int .u64 k.seed) ∧ w'.cell? ⟨z, 2, none⟩ = some (.int .i64 k.ep) ∧ w'.cell? ⟨z, 3, none⟩ = some (.int .i64 k.nu) ∧ w'.cell? ⟨z, 4, none⟩ = some (.int .i64 k.de) ∧ Kept wr w') A2 c2 (h : CellsAt w' w'.heap.size A2 (intCells (l ++ l))) => weight_len kA kc k A2 (l ++ l) (l.length + l.length) c2 w' (HA6.out.kept hk.2.2.2.2.2) (by omega) h (by simp))
                have HLd := Lib.hid (fun w' (hk : w'.cell? ⟨z, 0, none⟩ = some (.slice kA k.ws.length kc) ∧ w'.cell? ⟨z, 1, none⟩ = some (.int .u64 k.seed) ∧ w'.cell? ⟨z, 2, none⟩ = some (.int .i64 k.ep) ∧ w'.cell? ⟨z, 3, none⟩ = some (.int .i64 k.nu) ∧ w'.cell? ⟨z, 4, none⟩ = some (.int .i64 k.de) ∧ Kept wr w') => HLl6.out.kept hk.2.2.2.2.2)
                have hlen2 : l.length + l.length ≤ 1000000 := by omega
                rw [HEa.out] at HWa
                rw [HE0.out] at HWn
                rw [HEt.out] at HWl
                have hlb : l.length ≤ 1000000 := by omega
                generalize weightC k l = n at *
                generalize weightC k [who] = ow at *
                generalize totalC k = tt at *
                generalize commTo (fun _ => true) k.ws.length = al at *
                go_wp2_with fail
                refine wp_region_noPanic ?_
                refine wp_region_held_drew (S := (fun w' => w'.cell? ⟨z, 0, none⟩ = some (.slice kA k.ws.length kc) ∧ w'.cell? ⟨z, 1, none⟩ = some (.int .u64 k.seed) ∧ w'.cell? ⟨z, 2, none⟩ = some (.int .i64 k.ep) ∧ w'.cell? ⟨z, 3, none⟩ = some (.int .i64 k.nu) ∧ w'.cell? ⟨z, 4, none⟩ = some (.int .i64 k.de) ∧ Kept wr w')) (by kernel_rfl) ?_ (fun hHeld => ?_)
                · exact ⟨c0, c1, c2, c3, c4, (Kept.refl _).drew⟩
                refine wpAnyH_take (i := 0) (v := ?_) (by simp only [List.getElem?_toArray, List.getElem?_cons_succ, List.getElem?_cons_zero]; rfl) (by kernel_rfl) (by kernel_rfl) (by kernel_rfl) (fun _ _ _ h => h) (Or.inl ⟨by rfl, ?_⟩) (by assumption) ?_
                rotate_left
                · intro w hSw
                  (try dsimp only at hSw)
                  go_simp
                  (try with_reducible rfl)
                simp only [Act.put, List.setIfInBounds_toArray, List.set_cons_zero, List.set_cons_succ]
                refine wpAnyH_take (i := 1) (v := ?_) (by simp only [List.getElem?_toArray, List.getElem?_cons_succ, List.getElem?_cons_zero]; rfl) (by kernel_rfl) (by kernel_rfl) (by kernel_rfl) (fun _ _ _ h => h) (Or.inl ⟨by rfl, ?_⟩) (by assumption) ?_
                rotate_left
                · intro w hSw
                  (try dsimp only at hSw)
                  go_simp
                  (try with_reducible rfl)
                simp only [Act.put, List.setIfInBounds_toArray, List.set_cons_zero, List.set_cons_succ]
                refine wpAnyH_take (i := 2) (v := ?_) (by simp only [List.getElem?_toArray, List.getElem?_cons_succ, List.getElem?_cons_zero]; rfl) (by kernel_rfl) (by kernel_rfl) (by kernel_rfl) (fun _ _ _ h => h) (Or.inl ⟨by rfl, ?_⟩) (by assumption) ?_
                rotate_left
                · intro w hSw
                  (try dsimp only at hSw)
                  go_simp
                  (try with_reducible rfl)
                simp only [Act.put, List.setIfInBounds_toArray, List.set_cons_zero, List.set_cons_succ]
                refine wpAnyH_take (i := 3) (v := ?_) (by simp only [List.getElem?_toArray, List.getElem?_cons_succ, List.getElem?_cons_zero]; rfl) (by kernel_rfl) (by kernel_rfl) (by kernel_rfl) (fun _ _ _ h => h) (Or.inl ⟨by rfl, ?_⟩) (by assumption) ?_
                rotate_left
                · intro w hSw
                  (try dsimp only at hSw)
                  go_simp
                  (try with_reducible rfl)
                simp only [Act.put, List.setIfInBounds_toArray, List.set_cons_zero, List.set_cons_succ]
                refine wpAnyH_take (i := 4) (v := ?_) (by simp only [List.getElem?_toArray, List.getElem?_cons_succ, List.getElem?_cons_zero]; rfl) (by kernel_rfl) (by kernel_rfl) (by kernel_rfl) (fun _ _ _ h => h) (Or.inl ⟨by rfl, ?_⟩) (by assumption) ?_
                rotate_left
                · intro w hSw
                  (try dsimp only at hSw)
                  go_simp
                  (try with_reducible rfl)
                simp only [Act.put, List.setIfInBounds_toArray, List.set_cons_zero, List.set_cons_succ]
                refine wpAnyH_ready (rs := [5]) (by kernel_rfl) (by simp) ?_
                refine AllReadyH.cons (by simp only [List.getElem?_toArray, List.getElem?_cons_succ, List.getElem?_cons_zero]; rfl) (fun K hK => ?_) AllReadyH.nil
                go_simp
                go_at_call 19; with_reducible refine (HT1.out _ hHeld).mono ?_
                rintro e w' ⟨rfl, kk⟩
                try go_wp2_with fail
                refine hK.out _ _ ?_ (fun hHeld2 => ?_)
                · first | exact five_keep hzr hHeld kk | exact five_keep hzr hq b2.2
                clear hK K hHeld
                have hHeld := hHeld2
                clear hHeld2
                try simp only [Act.put, List.setIfInBounds_toArray, List.set_cons_zero, List.set_cons_succ]
                refine wpAnyH_take (i := 6) (v := ?_) (by simp only [List.getElem?_toArray, List.getElem?_cons_succ, List.getElem?_cons_zero]; rfl) (by kernel_rfl) (by kernel_rfl) (by kernel_rfl) (fun _ _ _ h => h) (Or.inl ⟨by rfl, ?_⟩) (by assumption) ?_
                rotate_left
                · intro w hSw
                  (try dsimp only at hSw)
                  go_simp
                  (try with_reducible rfl)
                simp only [Act.put, List.setIfInBounds_toArray, List.set_cons_zero, List.set_cons_succ]
                refine wpAnyH_take (i := 7) (v := ?_) (by simp only [List.getElem?_toArray, List.getElem?_cons_succ, List.getElem?_cons_zero]; rfl) (by kernel_rfl) (by kernel_rfl) (by kernel_rfl) (fun _ _ _ h => h) (Or.inl ⟨by rfl, ?_⟩) (by assumption) ?_
                rotate_left
                · intro w hSw
                  (try dsimp only at hSw)
                  go_simp
                  (try with_reducible rfl)
                simp only [Act.put, List.setIfInBounds_toArray, List.set_cons_zero, List.set_cons_succ]
                refine wpAnyH_take (i := 8) (v := ?_) (by simp only [List.getElem?_toArray, List.getElem?_cons_succ, List.getElem?_cons_zero]; rfl) (by kernel_rfl) (by kernel_rfl) (by kernel_rfl) (fun _ _ _ h => h) (Or.inl ⟨by rfl, ?_⟩) (by assumption) ?_
                rotate_left
                · intro w hSw
                  (try dsimp only at hSw)
                  go_simp
                  (try with_reducible rfl)
                simp only [Act.put, List.setIfInBounds_toArray, List.set_cons_zero, List.set_cons_succ]
                refine wpAnyH_take (i := 9) (v := ?_) (by simp only [List.getElem?_toArray, List.getElem?_cons_succ, List.getElem?_cons_zero]; rfl) (by kernel_rfl) (by kernel_rfl) (by kernel_rfl) (fun _ _ _ h => h) (Or.inl ⟨by rfl, ?_⟩) (by assumption) ?_
                rotate_left
                · intro w hSw
                  (try dsimp only at hSw)
                  go_simp
                  (try with_reducible rfl)
                simp only [Act.put, List.setIfInBounds_toArray, List.set_cons_zero, List.set_cons_succ]
                refine wpAnyH_take (i := 10) (v := ?_) (by simp only [List.getElem?_toArray, List.getElem?_cons_succ, List.getElem?_cons_zero]; rfl) (by kernel_rfl) (by kernel_rfl) (by kernel_rfl) (fun _ _ _ h => h) (Or.inl ⟨by rfl, ?_⟩) (by assumption) ?_
                rotate_left
                · intro w hSw
                  (try dsimp only at hSw)
                  go_simp
                  (try with_reducible rfl)
                simp only [Act.put, List.setIfInBounds_toArray, List.set_cons_zero, List.set_cons_succ]
                refine wpAnyH_take (i := 11) (v := ?_) (by simp only [List.getElem?_toArray, List.getElem?_cons_succ, List.getElem?_cons_zero]; rfl) (by kernel_rfl) (by kernel_rfl) (by kernel_rfl) (fun _ _ _ h => h) (Or.inl ⟨by rfl, ?_⟩) (by assumption) ?_
                rotate_left
                · intro w hSw
                  (try dsimp only at hSw)
                  go_simp
                  (try with_reducible rfl)
                simp only [Act.put, List.setIfInBounds_toArray, List.set_cons_zero, List.set_cons_succ]
                refine wpAnyH_take (i := 12) (v := ?_) (by simp only [List.getElem?_toArray, List.getElem?_cons_succ, List.getElem?_cons_zero]; rfl) (by kernel_rfl) (by kernel_rfl) (by kernel_rfl) (fun _ _ _ h => h) (Or.inl ⟨by rfl, ?_⟩) (by assumption) ?_
                rotate_left
                · intro w hSw
                  (try dsimp only at hSw)
                  go_simp
                  (try with_reducible rfl)
                simp only [Act.put, List.setIfInBounds_toArray, List.set_cons_zero, List.set_cons_succ]
                refine wpAnyH_take (i := 13) (v := ?_) (by simp only [List.getElem?_toArray, List.getElem?_cons_succ, List.getElem?_cons_zero]; rfl) (by kernel_rfl) (by kernel_rfl) (by kernel_rfl) (fun _ _ _ h => h) (Or.inl ⟨by rfl, ?_⟩) (by assumption) ?_
                rotate_left
                · intro w hSw
                  (try dsimp only at hSw)
                  go_simp
                  (try with_reducible rfl)
                simp only [Act.put, List.setIfInBounds_toArray, List.set_cons_zero, List.set_cons_succ]
                refine wpAnyH_take (i := 14) (v := ?_) (by simp only [List.getElem?_toArray, List.getElem?_cons_succ, List.getElem?_cons_zero]; rfl) (by kernel_rfl) (by kernel_rfl) (by kernel_rfl) (fun _ _ _ h => h) (Or.inl ⟨by rfl, ?_⟩) (by assumption) ?_
                rotate_left
                · intro w hSw
                  (try dsimp only at hSw)
                  go_simp
                  (try with_reducible rfl)
                simp only [Act.put, List.setIfInBounds_toArray, List.set_cons_zero, List.set_cons_succ]
                refine wpAnyH_take (i := 15) (v := ?_) (by simp only [List.getElem?_toArray, List.getElem?_cons_succ, List.getElem?_cons_zero]; rfl) (by kernel_rfl) (by kernel_rfl) (by kernel_rfl) (fun _ _ _ h => h) (Or.inl ⟨by rfl, ?_⟩) (by assumption) ?_
                rotate_left
                · intro w hSw
                  (try dsimp only at hSw)
                  go_simp
                  (try with_reducible rfl)
                simp only [Act.put, List.setIfInBounds_toArray, List.set_cons_zero, List.set_cons_succ]
                refine wpAnyH_take (i := 16) (v := undef) (by simp only [List.getElem?_toArray, List.getElem?_cons_succ, List.getElem?_cons_zero]; rfl) (by kernel_rfl) (by kernel_rfl) (by kernel_rfl) (fun _ _ _ h => h) (Or.inr ⟨by rfl, rfl⟩) (by assumption) ?_
                simp only [Act.put, List.setIfInBounds_toArray, List.set_cons_zero, List.set_cons_succ]
                refine wpAnyH_take (i := 17) (v := undef) (by simp only [List.getElem?_toArray, List.getElem?_cons_succ, List.getElem?_cons_zero]; rfl) (by kernel_rfl) (by kernel_rfl) (by kernel_rfl) (fun _ _ _ h => h) (Or.inr ⟨by rfl, rfl⟩) (by assumption) ?_
                simp only [Act.put, List.setIfInBounds_toArray, List.set_cons_zero, List.set_cons_succ]
                refine wpAnyH_take (i := 18) (v := undef) (by simp only [List.getElem?_toArray, List.getElem?_cons_succ, List.getElem?_cons_zero]; rfl) (by kernel_rfl) (by kernel_rfl) (by kernel_rfl) (fun _ _ _ h => h) (Or.inr ⟨by rfl, rfl⟩) (by assumption) ?_
                simp only [Act.put, List.setIfInBounds_toArray, List.set_cons_zero, List.set_cons_succ]
                refine wpAnyH_take (i := 19) (v := undef) (by simp only [List.getElem?_toArray, List.getElem?_cons_succ, List.getElem?_cons_zero]; rfl) (by kernel_rfl) (by kernel_rfl) (by kernel_rfl) (fun _ _ _ h => h) (Or.inr ⟨by rfl, rfl⟩) (by assumption) ?_
                simp only [Act.put, List.setIfInBounds_toArray, List.set_cons_zero, List.set_cons_succ]
                refine wpAnyH_take (i := 20) (v := undef) (by simp only [List.getElem?_toArray, List.getElem?_cons_succ, List.getElem?_cons_zero]; rfl) (by kernel_rfl) (by kernel_rfl) (by kernel_rfl) (fun _ _ _ h => h) (Or.inr ⟨by rfl, rfl⟩) (by assumption) ?_
                simp only [Act.put, List.setIfInBounds_toArray, List.set_cons_zero, List.set_cons_succ]
                refine wpAnyH_take (i := 21) (v := undef) (by simp only [List.getElem?_toArray, List.getElem?_cons_succ, List.getElem?_cons_zero]; rfl) (by kernel_rfl) (by kernel_rfl) (by kernel_rfl) (fun _ _ _ h => h) (Or.inr ⟨by rfl, rfl⟩) (by assumption) ?_
                simp only [Act.put, List.setIfInBounds_toArray, List.set_cons_zero, List.set_cons_succ]
                refine wpAnyH_take (i := 22) (v := undef) (by simp only [List.getElem?_toArray, List.getElem?_cons_succ, List.getElem?_cons_zero]; rfl) (by kernel_rfl) (by kernel_rfl) (by kernel_rfl) (fun _ _ _ h => h) (Or.inr ⟨by rfl, rfl⟩) (by assumption) ?_
                simp only [Act.put, List.setIfInBounds_toArray, List.set_cons_zero, List.set_cons_succ]
                refine wpAnyH_take (i := 23) (v := undef) (by simp only [List.getElem?_toArray, List.getElem?_cons_succ, List.getElem?_cons_zero]; rfl) (by kernel_rfl) (by kernel_rfl) (by kernel_rfl) (fun _ _ _ h => h) (Or.inr ⟨by rfl, rfl⟩) (by assumption) ?_
                simp only [Act.put, List.setIfInBounds_toArray, List.set_cons_zero, List.set_cons_succ]
                refine wpAnyH_take (i := 24) (v := undef) (by simp only [List.getElem?_toArray, List.getElem?_cons_succ, List.getElem?_cons_zero]; rfl) (by kernel_rfl) (by kernel_rfl) (by kernel_rfl) (fun _ _ _ h => h) (Or.inr ⟨by rfl, rfl⟩) (by assumption) ?_
                simp only [Act.put, List.setIfInBounds_toArray, List.set_cons_zero, List.set_cons_succ]
                refine wpAnyH_take (i := 25) (v := ?_) (by simp only [List.getElem?_toArray, List.getElem?_cons_succ, List.getElem?_cons_zero]; rfl) (by kernel_rfl) (by kernel_rfl) (by kernel_rfl) (fun _ _ _ h => h) (Or.inl ⟨by rfl, ?_⟩) (by assumption) ?_
                rotate_left
                · intro w hSw
                  (try dsimp only at hSw)
                  go_simp
                  (try with_reducible rfl)
                simp only [Act.put, List.setIfInBounds_toArray, List.set_cons_zero, List.set_cons_succ]
                refine wpAnyH_take (i := 26) (v := ?_) (by simp only [List.getElem?_toArray, List.getElem?_cons_succ, List.getElem?_cons_zero]; rfl) (by kernel_rfl) (by kernel_rfl) (by kernel_rfl) (fun _ _ _ h => h) (Or.inl ⟨by rfl, ?_⟩) (by assumption) ?_
                rotate_left
                · intro w hSw
                  (try dsimp only at hSw)
                  go_simp
                  (try with_reducible rfl)
                simp only [Act.put, List.setIfInBounds_toArray, List.set_cons_zero, List.set_cons_succ]
                refine wpAnyH_take (i := 27) (v := ?_) (by simp only [List.getElem?_toArray, List.getElem?_cons_succ, List.getElem?_cons_zero]; rfl) (by kernel_rfl) (by kernel_rfl) (by kernel_rfl) (fun _ _ _ h => h) (Or.inl ⟨by rfl, ?_⟩) (by assumption) ?_
                rotate_left
                · intro w hSw
                  (try dsimp only at hSw)
                  go_simp
                  (try with_reducible rfl)
                simp only [Act.put, List.setIfInBounds_toArray, List.set_cons_zero, List.set_cons_succ]
                refine wpAnyH_take (i := 28) (v := ?_) (by simp only [List.getElem?_toArray, List.getElem?_cons_succ, List.getElem?_cons_zero]; rfl) (by kernel_rfl) (by kernel_rfl) (by kernel_rfl) (fun _ _ _ h => h) (Or.inl ⟨by rfl, ?_⟩) (by assumption) ?_
                rotate_left
                · intro w hSw
                  (try dsimp only at hSw)
                  go_simp
                  (try with_reducible rfl)
                simp only [Act.put, List.setIfInBounds_toArray, List.set_cons_zero, List.set_cons_succ]
                refine wpAnyH_take (i := 29) (v := ?_) (by simp only [List.getElem?_toArray, List.getElem?_cons_succ, List.getElem?_cons_zero]; rfl) (by kernel_rfl) (by kernel_rfl) (by kernel_rfl) (fun _ _ _ h => h) (Or.inl ⟨by rfl, ?_⟩) (by assumption) ?_
                rotate_left
                · intro w hSw
                  (try dsimp only at hSw)
                  go_simp
                  (try with_reducible rfl)
                simp only [Act.put, List.setIfInBounds_toArray, List.set_cons_zero, List.set_cons_succ]
                refine wpAnyH_take (i := 31) (v := ?_) (by simp only [List.getElem?_toArray, List.getElem?_cons_succ, List.getElem?_cons_zero]; rfl) (by kernel_rfl) (by kernel_rfl) (by kernel_rfl) (fun _ _ _ h => h) (Or.inl ⟨by rfl, ?_⟩) (by assumption) ?_
                rotate_left
                · intro w hSw
                  (try dsimp only at hSw)
                  go_simp
                  (try with_reducible rfl)
                simp only [Act.put, List.setIfInBounds_toArray, List.set_cons_zero, List.set_cons_succ]
                refine wpAnyH_ready (rs := [30]) (by kernel_rfl) (by simp) ?_
                refine AllReadyH.cons (by simp only [List.getElem?_toArray, List.getElem?_cons_succ, List.getElem?_cons_zero]; rfl) (fun K hK => ?_) AllReadyH.nil
                go_simp
                go_at_call 17; with_reducible refine (HWa.out _ hHeld).mono ?_
                rintro e w' ⟨rfl, kk⟩
                try go_wp2_with fail
                refine hK.out _ _ ?_ (fun hHeld2 => ?_)
                · first | exact five_keep hzr hHeld kk | exact five_keep hzr hq b2.2
                clear hK K hHeld
                have hHeld := hHeld2
                clear hHeld2
                try simp only [Act.put, List.setIfInBounds_toArray, List.set_cons_zero, List.set_cons_succ]
                refine wpAnyH_ready (rs := [32]) (by kernel_rfl) (by simp) ?_
                refine AllReadyH.cons (by simp only [List.getElem?_toArray, List.getElem?_cons_succ, List.getElem?_cons_zero]; rfl) (fun K hK => ?_) AllReadyH.nil
                go_simp
                go_at_call 19; with_reducible refine (HT1.out _ hHeld).mono ?_
                rintro e w' ⟨rfl, kk⟩
                try go_wp2_with fail
                refine hK.out _ _ ?_ (fun hHeld2 => ?_)
                · first | exact five_keep hzr hHeld kk | exact five_keep hzr hq b2.2
                clear hK K hHeld
                have hHeld := hHeld2
                clear hHeld2
                try simp only [Act.put, List.setIfInBounds_toArray, List.set_cons_zero, List.set_cons_succ]
                refine wpAnyH_take (i := 33) (v := ?_) (by simp only [List.getElem?_toArray, List.getElem?_cons_succ, List.getElem?_cons_zero]; rfl) (by kernel_rfl) (by kernel_rfl) (by kernel_rfl) (fun _ _ _ h => h) (Or.inl ⟨by rfl, ?_⟩) (by assumption) ?_
                rotate_left
                · intro w hSw
                  (try dsimp only at hSw)
                  go_simp
                  (try with_reducible rfl)
                simp only [Act.put, List.setIfInBounds_toArray, List.set_cons_zero, List.set_cons_succ]
                refine wpAnyH_take (i := 34) (v := ?_) (by simp only [List.getElem?_toArray, List.getElem?_cons_succ, List.getElem?_cons_zero]; rfl) (by kernel_rfl) (by kernel_rfl) (by kernel_rfl) (fun _ _ _ h => h) (Or.inl ⟨by rfl, ?_⟩) (by assumption) ?_
                rotate_left
                · intro w hSw
                  (try dsimp only at hSw)
                  go_simp
                  (try with_reducible rfl)
                simp only [Act.put, List.setIfInBounds_toArray, List.set_cons_zero, List.set_cons_succ]
                refine wpAnyH_take (i := 35) (v := ?_) (by simp only [List.getElem?_toArray, List.getElem?_cons_succ, List.getElem?_cons_zero]; rfl) (by kernel_rfl) (by kernel_rfl) (by kernel_rfl) (fun _ _ _ h => h) (Or.inl ⟨by rfl, ?_⟩) (by assumption) ?_
                rotate_left
                · intro w hSw
                  (try dsimp only at hSw)
                  go_simp
                  (try with_reducible rfl)
                simp only [Act.put, List.setIfInBounds_toArray, List.set_cons_zero, List.set_cons_succ]
                refine wpAnyH_take (i := 36) (v := ?_) (by simp only [List.getElem?_toArray, List.getElem?_cons_succ, List.getElem?_cons_zero]; rfl) (by kernel_rfl) (by kernel_rfl) (by kernel_rfl) (fun _ _ _ h => h) (Or.inl ⟨by rfl, ?_⟩) (by assumption) ?_
                rotate_left
                · intro w hSw
                  (try dsimp only at hSw)
                  go_simp
                  (try with_reducible rfl)
                simp only [Act.put, List.setIfInBounds_toArray, List.set_cons_zero, List.set_cons_succ]
                refine wpAnyH_ready (rs := [37]) (by kernel_rfl) (by simp) ?_
                refine AllReadyH.cons (by simp only [List.getElem?_toArray, List.getElem?_cons_succ, List.getElem?_cons_zero]; rfl) (fun K hK => ?_) AllReadyH.nil
                go_simp
                go_at_call 17; with_reducible refine (HWn.out _ hHeld).mono ?_
                rintro e w' ⟨rfl, kk⟩
                try go_wp2_with fail
                refine hK.out _ _ ?_ (fun hHeld2 => ?_)
                · first | exact five_keep hzr hHeld kk | exact five_keep hzr hq b2.2
                clear hK K hHeld
                have hHeld := hHeld2
                clear hHeld2
                try simp only [Act.put, List.setIfInBounds_toArray, List.set_cons_zero, List.set_cons_succ]
                refine wpAnyH_take (i := 38) (v := ?_) (by simp only [List.getElem?_toArray, List.getElem?_cons_succ, List.getElem?_cons_zero]; rfl) (by kernel_rfl) (by kernel_rfl) (by kernel_rfl) (fun _ _ _ h => h) (Or.inl ⟨by rfl, ?_⟩) (by assumption) ?_
                rotate_left
                · intro w hSw
                  (try dsimp only at hSw)
                  go_simp
                  (try with_reducible rfl)
                simp only [Act.put, List.setIfInBounds_toArray, List.set_cons_zero, List.set_cons_succ]
                refine wpAnyH_take (i := 39) (v := ?_) (by simp only [List.getElem?_toArray, List.getElem?_cons_succ, List.getElem?_cons_zero]; rfl) (by kernel_rfl) (by kernel_rfl) (by kernel_rfl) (fun _ _ _ h => h) (Or.inl ⟨by rfl, ?_⟩) (by assumption) ?_
                rotate_left
                · intro w hSw
                  (try dsimp only at hSw)
                  go_simp
                  (try with_reducible rfl)
                simp only [Act.put, List.setIfInBounds_toArray, List.set_cons_zero, List.set_cons_succ]
                refine wpAnyH_take (i := 40) (v := ?_) (by simp only [List.getElem?_toArray, List.getElem?_cons_succ, List.getElem?_cons_zero]; rfl) (by kernel_rfl) (by kernel_rfl) (by kernel_rfl) (fun _ _ _ h => h) (Or.inl ⟨by rfl, ?_⟩) (by assumption) ?_
                rotate_left
                · intro w hSw
                  (try dsimp only at hSw)
                  go_simp
                  (try with_reducible rfl)
                simp only [Act.put, List.setIfInBounds_toArray, List.set_cons_zero, List.set_cons_succ]
                refine wpAnyH_take (i := 41) (v := ?_) (by simp only [List.getElem?_toArray, List.getElem?_cons_succ, List.getElem?_cons_zero]; rfl) (by kernel_rfl) (by kernel_rfl) (by kernel_rfl) (fun _ _ _ h => h) (Or.inl ⟨by rfl, ?_⟩) (by assumption) ?_
                rotate_left
                · intro w hSw
                  (try dsimp only at hSw)
                  go_simp
                  (try with_reducible rfl)
                simp only [Act.put, List.setIfInBounds_toArray, List.set_cons_zero, List.set_cons_succ]
                refine wpAnyH_take (i := 42) (v := ?_) (by simp only [List.getElem?_toArray, List.getElem?_cons_succ, List.getElem?_cons_zero]; rfl) (by kernel_rfl) (by kernel_rfl) (by kernel_rfl) (fun _ _ _ h => h) (Or.inl ⟨by rfl, ?_⟩) (by assumption) ?_
                rotate_left
                · intro w hSw
                  (try dsimp only at hSw)
                  go_simp
                  (try with_reducible rfl)
                simp only [Act.put, List.setIfInBounds_toArray, List.set_cons_zero, List.set_cons_succ]
                refine wpAnyH_take (i := 44) (v := ?_) (by simp only [List.getElem?_toArray, List.getElem?_cons_succ, List.getElem?_cons_zero]; rfl) (by kernel_rfl) (by kernel_rfl) (by kernel_rfl) (fun _ _ _ h => h) (Or.inl ⟨by rfl, ?_⟩) (by assumption) ?_
                rotate_left
                · intro w hSw
                  (try dsimp only at hSw)
                  go_simp
                  (try with_reducible rfl)
                simp only [Act.put, List.setIfInBounds_toArray, List.set_cons_zero, List.set_cons_succ]
                refine wpAnyH_take (i := 47) (v := ?_) (by simp only [List.getElem?_toArray, List.getElem?_cons_succ, List.getElem?_cons_zero]; rfl) (by kernel_rfl) (by kernel_rfl) (by kernel_rfl) (fun _ _ _ h => h) (Or.inl ⟨by rfl, ?_⟩) (by assumption) ?_
                rotate_left
                · intro w hSw
                  (try dsimp only at hSw)
                  go_simp
                  (try with_reducible rfl)
                simp only [Act.put, List.setIfInBounds_toArray, List.set_cons_zero, List.set_cons_succ]
                refine wpAnyH_ready (rs := [43]) (by kernel_rfl) (by simp) ?_
                refine AllReadyH.cons (by simp only [List.getElem?_toArray, List.getElem?_cons_succ, List.getElem?_cons_zero]; rfl) (fun K hK => ?_) AllReadyH.nil
                have hq := hHeld
                refine step_nil _ (by rfl) (.tmp 104) (by rfl) _ lA l.length lc l (by rfl) rfl (HLd.out _ hHeld) hlb ?_
                intro A1 d1 w1 b1
                have kk := b1.2
                try go_wp2_with fail
                refine hK.out _ _ ?_ (fun hHeld2 => ?_)
                · first | exact five_keep hzr hHeld kk | exact five_keep hzr hq b2.2
                clear hK K hHeld
                have hHeld := hHeld2
                clear hHeld2
                try simp only [Act.put, List.setIfInBounds_toArray, List.set_cons_zero, List.set_cons_succ]
                refine wpAnyH_ready (rs := [45]) (by kernel_rfl) (by simp) ?_
                refine AllReadyH.cons (by simp only [List.getElem?_toArray, List.getElem?_cons_succ, List.getElem?_cons_zero]; rfl) (fun K hK => ?_) AllReadyH.nil
                refine step_ints _ (by rfl) (.tmp 105) (.tmp 106) (by rfl) _ l _ (by rfl) b1 _ lA l.length lc l (by rfl) rfl (HLd.out _ hHeld) hlen2 ?_
                intro A2 d2 w2 b2
                clear kk
                try go_wp2_with fail
                refine hK.out _ _ ?_ (fun hHeld2 => ?_)
                · first | exact five_keep hzr hHeld kk | exact five_keep hzr hq b2.2
                clear hK K hHeld
                have hHeld := hHeld2
                clear hHeld2
                try simp only [Act.put, List.setIfInBounds_toArray, List.set_cons_zero, List.set_cons_succ]
                refine wpAnyH_ready (rs := [46]) (by kernel_rfl) (by simp) ?_
                refine AllReadyH.cons (by simp only [List.getElem?_toArray, List.getElem?_cons_succ, List.getElem?_cons_zero]; rfl) (fun K hK => ?_) AllReadyH.nil
                go_simp
                go_at_call 17; with_reducible refine (HWl.out _ hHeld A2 d2 (b2.cells (by simp))).mono ?_
                rintro e w' ⟨rfl, kk⟩
                try go_wp2_with fail
                refine hK.out _ _ ?_ (fun hHeld2 => ?_)
                · first | exact five_keep hzr hHeld kk | exact five_keep hzr hq b2.2
                clear hK K hHeld
                have hHeld := hHeld2
                clear hHeld2
                try simp only [Act.put, List.setIfInBounds_toArray, List.set_cons_zero, List.set_cons_succ]
                refine wpAnyH_take (i := 48) (v := ?_) (by simp only [List.getElem?_toArray, List.getElem?_cons_succ, List.getElem?_cons_zero]; rfl) (by kernel_rfl) (by kernel_rfl) (by kernel_rfl) (fun _ _ _ h => h) (Or.inl ⟨by rfl, ?_⟩) (by assumption) ?_
                rotate_left
                · intro w hSw
                  (try dsimp only at hSw)
                  go_simp
                  (try with_reducible rfl)
                simp only [Act.put, List.setIfInBounds_toArray, List.set_cons_zero, List.set_cons_succ]
                refine wpAnyH_take (i := 49) (v := ?_) (by simp only [List.getElem?_toArray, List.getElem?_cons_succ, List.getElem?_cons_zero]; rfl) (by kernel_rfl) (by kernel_rfl) (by kernel_rfl) (fun _ _ _ h => h) (Or.inl ⟨by rfl, ?_⟩) (by assumption) ?_
                rotate_left
                · intro w hSw
                  (try dsimp only at hSw)
                  go_simp
                  (try with_reducible rfl)
                simp only [Act.put, List.setIfInBounds_toArray, List.set_cons_zero, List.set_cons_succ]
                refine wpAnyH_take (i := 50) (v := ?_) (by simp only [List.getElem?_toArray, List.getElem?_cons_succ, List.getElem?_cons_zero]; rfl) (by kernel_rfl) (by kernel_rfl) (by kernel_rfl) (fun _ _ _ h => h) (Or.inl ⟨by rfl, ?_⟩) (by assumption) ?_
                rotate_left
                · intro w hSw
                  (try dsimp only at hSw)
                  go_simp
                  (try with_reducible rfl)
                simp only [Act.put, List.setIfInBounds_toArray, List.set_cons_zero, List.set_cons_succ]
                refine wpAnyH_done (by kernel_rfl) ?_ _
                refine NoPanic.normal ?_
                have hk := Lib.hid (HK6.out.trans hHeld.2.2.2.2.2)
                go_wp2_with fail
                go_ret
                exact ⟨by first | rfl | (simp; done), hk.out⟩
        | false =>
          have HM := Lib.hid hm
          have HH := Lib.hid hh
          have HEm := Lib.hid (weighs_not (k := k) hh)
          have HEa := Lib.hid (weighs_all hm)
          have HEt := Lib.hid (weighs_twice k l)
          have HE0 := Lib.hid (show weightC k [] = 0 from weight_out k fun _ _ => by simp)
          have hle := weighs_le hm l
          have hnb := weight_bounds k l
          have hob := weight_bounds k [who]
          have hn0 : 0 ≤ weightC k l := hnb.1
          have hsum : IntKind.i64.wrap (weightC k l + weightC k [who]) = weightC k l + weightC k [who] := by rw [IntKind.wrap_i64]; omega
          clear hm hh
          obtain ⟨hC, hA, hK⟩ := conf_box (c := kc) khl
          have HC0 := Lib.hid hC
          have HA0 := Lib.hid hA
          have HK0 := Lib.hid hK
          have HLl0 := Lib.hid (lhl.kept hK)
          clear hC hA hK khl lhl
          go_enter Try.func5, Try.ntmps5
          go_wp2_with fail
          generalize w.alloc (.cells #[.slice kA k.ws.length kc, .int .u64 k.seed, .int .i64 k.ep, .int .i64 k.nu, .int .i64 k.de] 25) = W0 at *
          generalize w.heap.size = z at *
          refine (dutyAwake _).mono ?_
          rintro e W1 ⟨rfl, k1⟩
          have HC1 := Lib.hid (HC0.out.kept k1)
          have HA1 := Lib.hid (HA0.out.kept k1)
          have HLl1 := Lib.hid (HLl0.out.kept k1)
          have HK1 := Lib.hid (HK0.out.trans k1)
          clear k1 HC0 HA0 HLl0 HK0
          obtain ⟨c0, c1, c2, c3, c4⟩ := HC1.out.five
          have hz := HC1.out.1
          go_wp2_with fail
          clear c0 c1 c2 c3 c4 hz
          refine (may_any kA kc k _ HA1.out).mono ?_
          rintro e W2 ⟨rfl, k1⟩
          rw [HM.out]
          have HC2 := Lib.hid (HC1.out.kept k1)
          have HA2 := Lib.hid (HA1.out.kept k1)
          have HLl2 := Lib.hid (HLl1.out.kept k1)
          have HK2 := Lib.hid (HK1.out.trans k1)
          clear k1 HC1 HA1 HLl1 HK1
          obtain ⟨c0, c1, c2, c3, c4⟩ := HC2.out.five
          have hz := HC2.out.1
          go_wp2_with fail
          clear c0 c1 c2 c3 c4 hz
          refine (weight_any kA kc k lA l lc _ HA2.out (by omega) HLl2.out).mono ?_
          rintro e W3 ⟨rfl, k1⟩
          have HC3 := Lib.hid (HC2.out.kept k1)
          have HA3 := Lib.hid (HA2.out.kept k1)
          have HLl3 := Lib.hid (HLl2.out.kept k1)
          have HK3 := Lib.hid (HK2.out.trans k1)
          clear k1 HC2 HA2 HLl2 HK2
          obtain ⟨c0, c1, c2, c3, c4⟩ := HC3.out.five
          have hz := HC3.out.1
          go_wp2_with fail
          clear c0 c1 c2 c3 c4 hz
          obtain ⟨c0, c1, c2, c3, c4⟩ := HC3.out.five
          have hz := HC3.out.1
          have HWm := Lib.hid (fun w' (hk : w'.cell? ⟨z, 0, none⟩ = some (.slice kA k.ws.length kc) ∧ w'.cell? ⟨z, 1, none⟩ = some (.int .u64 k.seed) ∧ w'.cell? ⟨z, 2, none⟩ = some (.int .i64 k.ep) ∧ w'.cell? ⟨z, 3, none⟩ = some (.int .i64 k.nu) ∧ w'.cell? ⟨z, 4, none⟩ = some (.int .i64 k.de) ∧ Kept W3 w') A2 c2 (h : CellsAt w' w'.heap.size A2 (intCells (l ++ [who]))) => weight_len kA kc k A2 (l ++ [who]) (l.length + 1) c2 w' (HA3.out.kept hk.2.2.2.2.2) (by omega) h (by simp))
          rw [HEm.out] at HWm
          have hlen : l.length + 1 ≤ 1000000 := by omega
          have hq := (⟨c0, c1, c2, c3, c4, Kept.refl W3⟩ : _ ∧ _ ∧ _ ∧ _ ∧ _ ∧ _)
          go_region_held3 (fun w' => w'.cell? ⟨z, 0, none⟩ = some (.slice kA k.ws.length kc) ∧ w'.cell? ⟨z, 1, none⟩ = some (.int .u64 k.seed) ∧ w'.cell? ⟨z, 2, none⟩ = some (.int .i64 k.ep) ∧ w'.cell? ⟨z, 3, none⟩ = some (.int .i64 k.nu) ∧ w'.cell? ⟨z, 4, none⟩ = some (.int .i64 k.de) ∧ Kept W3 w')
            (first | exact hq | exact ⟨c0, c1, c2, c3, c4, (Kept.refl _).drew⟩ | assumption | exact five_keep hz hq (Kept.trans (Kept.drew (Kept.refl _)) b2.2) | exact five_keep hz hq (Kept.trans (Kept.drew (Kept.alloc (Kept.refl _) _)) b2.2) | exact five_keep hz hq (Kept.trans (Kept.drew (Kept.refl _)) b1.2) | exact five_keep hz hq (Kept.trans (Kept.drew (Kept.alloc (Kept.refl _) _)) b1.2) | exact five_keep hz hq (Kept.drew (Kept.alloc (Kept.refl _) _)) | exact five_keep hz (by assumption) ((Kept.refl _).alloc _) | exact five_keep hz (by assumption) (by assumption))
            (first
              | (refine step_nil _ (by rfl) (.tmp 38) (by rfl) _ lA l.length lc l (by rfl) rfl (HLl3.out.kept (Kept.refl _).drew) (by omega) ?_; intro A1 d1 w1 b1)
              | (refine step_nil _ (by rfl) (.tmp 38) (by rfl) _ lA l.length lc l (by rfl) rfl (HLl3.out.kept (Kept.drew (Kept.alloc (Kept.refl _) _))) (by omega) ?_; intro A1 d1 w1 b1)
              | (refine step_ints _ (by rfl) (.tmp 39) (.tmp 41) (by rfl) _ l _ (by rfl) (b1.alloc _) _ _ 1 1 [who] (by rfl) rfl (CellsAt.one _ _ _ _ rfl) hlen ?_; intro A2 d2 w2 b2)
              | (refine step_ints _ (by rfl) (.tmp 39) (.tmp 41) (by rfl) _ l _ (by rfl) b1 _ _ 1 1 [who] (by rfl) rfl (((CellsAt.one W3 _ _ _ rfl).kept (Kept.drew (Kept.refl _))).kept b1.2) hlen ?_; intro A2 d2 w2 b2)
              | (go_at_call 17; ((with_reducible refine (HWm.out _ (by assumption) A2 d2 (b2.cells (by simp))).mono ?_); rintro e w' ⟨rfl, kk⟩)))
          all_goals
            rename_i hh
            have k1 := hh.2.2.2.2.2
            clear hh hq kk b1 b2 c0 c1 c2 c3 c4 hz
            have HC4 := Lib.hid (HC3.out.kept k1)
            have HA4 := Lib.hid (HA3.out.kept k1)
            have HLl4 := Lib.hid (HLl3.out.kept k1)
            have HK4 := Lib.hid (HK3.out.trans k1)
            clear k1 HC3 HA3 HLl3 HK3
            obtain ⟨c0, c1, c2, c3, c4⟩ := HC4.out.five
            have hz := HC4.out.1
            go_wp2_with fail
            refine (weight_len kA kc k _ [who] 1 _ _ (HA4.out.kept ((Kept.refl _).alloc _)) (by omega) (CellsAt.one w' _ _ _ rfl) rfl).mono ?_
            rintro e W5 ⟨rfl, k5⟩
            have k1 := Kept.trans ((Kept.refl w').alloc _) k5
            clear k5 c0 c1 c2 c3 c4 hz
            have HC5 := Lib.hid (HC4.out.kept k1)
            have HA5 := Lib.hid (HA4.out.kept k1)
            have HLl5 := Lib.hid (HLl4.out.kept k1)
            have HK5 := Lib.hid (HK4.out.trans k1)
            clear k1 HC4 HA4 HLl4 HK4
            obtain ⟨c0, c1, c2, c3, c4⟩ := HC5.out.five
            have hz := HC5.out.1
            go_wp2_with fail
            refine (refHas_any lA lc l who _ (by omega) HLl5.out).mono ?_
            rintro e W6 ⟨rfl, rfl⟩
            rw [HH.out]
            go_wp2_with fail
            clear c0 c1 c2 c3 c4
            go_loopw [12, 13] (fun v i w' => ∃ j : Nat, j ≤ k.ws.length ∧ i = .int .i64 (j : Nat) ∧ Ints W6 (commTo (fun _ => true) j) v w') (fun _ i _ => k.ws.length - (intOf i).toNat)
            case atStart => exact ⟨0, by omega, rfl, Ints.nil W6⟩
            case round =>
              obtain ⟨j, hj, rfl, hI⟩ := hrel
              have HI := Lib.hid hI
              clear hI
              obtain ⟨c0, c1, c2, c3, c4⟩ := (HC5.out.kept HI.out.2).five
              have hzr := (HC5.out.kept HI.out.2).1
              by_cases hlt : j < k.ws.length
              · have HN := Lib.hid (commTo_hit (p := fun _ => true) (j := j) rfl)
                have HL := Lib.hid (commTo_length (fun _ => true) j)
                go_wp2_with (refine wpList_ints _ rfl _ _ rfl W6 (commTo (fun _ => true) j) _ rfl (HI.out.alloc _) _ _ 1 1 [(j : Int)] rfl rfl (CellsAt.one _ _ _ _ rfl) (by have := HL.out; omega) ?_; intro v' w' HI'; rw [← HN.out] at HI')
                go_roundw
                case rel => exact ⟨j + 1, by omega, by go_num, by assumption⟩
                case measure => simp [intOf]; omega
              · have hjl : j = k.ws.length := by omega
                subst hjl
                obtain ⟨A3, q3, rfl⟩ := row_slice HI.out.1
                have HAl := Lib.hid (CellsAt.of_own HI.out.1)
                have HL := Lib.hid (commTo_length (fun _ => true) k.ws.length)
                have HC6 := Lib.hid (HC5.out.kept HI.out.2)
                have HA6 := Lib.hid (HA5.out.kept HI.out.2)
                have HLl6 := Lib.hid (HLl5.out.kept HI.out.2)
                have HK6 := Lib.hid (HK5.out.trans HI.out.2)
                clear HC5 HA5 HLl5 HK5
                have HT1 := Lib.hid (fun w' (hk : w'.cell? ⟨z, 0, none⟩ = some (.slice kA k.ws.length kc) ∧ w'.cell? ⟨z, 1, none⟩ = some (.int .u64 k.seed) ∧ w'.cell? ⟨z, 2, none⟩ = some (.int .i64 k.ep) ∧ w'.cell? ⟨z, 3, none⟩ = some (.int .i64 k.nu) ∧ w'.cell? ⟨z, 4, none⟩ = some (.int .i64 k.de) ∧ Kept wr w') => total_any kA kc k w' (HA6.out.kept hk.2.2.2.2.2))
                have HWa := Lib.hid (fun w' (hk : w'.cell? ⟨z, 0, none⟩ = some (.slice kA k.ws.length kc) ∧ w'.cell? ⟨z, 1, none⟩ = some (.int .u64 k.seed) ∧ w'.cell? ⟨z, 2, none⟩ = some (.int .i64 k.ep) ∧ w'.cell? ⟨z, 3, none⟩ = some (.int .i64 k.nu) ∧ w'.cell? ⟨z, 4, none⟩ = some (.int .i64 k.de) ∧ Kept wr w') => weight_any kA kc k A3 (commTo (fun _ => true) k.ws.length) q3 w' (HA6.out.kept hk.2.2.2.2.2) (by have := HL.out; omega) (HAl.out.kept hk.2.2.2.2.2))
                have HWn := Lib.hid (fun w' (hk : w'.cell? ⟨z, 0, none⟩ = some (.slice kA k.ws.length kc) ∧ w'.cell? ⟨z, 1, none⟩ = some (.int .u64 k.seed) ∧ w'.cell? ⟨z, 2, none⟩ = some (.int .i64 k.ep) ∧ w'.cell? ⟨z, 3, none⟩ = some (.int .i64 k.nu) ∧ w'.cell? ⟨z, 4, none⟩ = some (.int .i64 k.de) ∧ Kept wr w') => weight_len kA kc k none [] 0 0 w' (HA6.out.kept hk.2.2.2.2.2) (by omega) CellsAt.nil rfl)
                have HWl := Lib.hid (fun w' (hk : w'.cell? ⟨z, 0, none⟩ = some (.slice kA k.ws.length kc) ∧ w'.cell? ⟨z, 1, none⟩ = some (.int .u64 k.seed) ∧ w'.cell? ⟨z, 2, none⟩ = some (.int .i64 k.ep) ∧ w'.cell? ⟨z, 3, none⟩ = some (.int .i64 k.nu) ∧ w'.cell? ⟨z, 4, none⟩ = some (.int .i64 k.de) ∧ Kept wr w') A2 c2 (h : CellsAt w' w'.heap.size A2 (intCells (l ++ l))) => weight_len kA kc k A2 (l ++ l) (l.length + l.length) c2 w' (HA6.out.kept hk.2.2.2.2.2) (by omega) h (by simp))
                have HLd := Lib.hid (fun w' (hk : w'.cell? ⟨z, 0, none⟩ = some (.slice kA k.ws.length kc) ∧ w'.cell? ⟨z, 1, none⟩ = some (.int .u64 k.seed) ∧ w'.cell? ⟨z, 2, none⟩ = some (.int .i64 k.ep) ∧ w'.cell? ⟨z, 3, none⟩ = some (.int .i64 k.nu) ∧ w'.cell? ⟨z, 4, none⟩ = some (.int .i64 k.de) ∧ Kept wr w') => HLl6.out.kept hk.2.2.2.2.2)
                have hlen2 : l.length + l.length ≤ 1000000 := by omega
                rw [HEa.out] at HWa
                rw [HE0.out] at HWn
                rw [HEt.out] at HWl
                have hlb : l.length ≤ 1000000 := by omega
                generalize weightC k l = n at *
                generalize weightC k [who] = ow at *
                generalize totalC k = tt at *
                generalize commTo (fun _ => true) k.ws.length = al at *
                go_wp2_with fail
                refine wp_region_noPanic ?_
                refine wp_region_held_drew (S := (fun w' => w'.cell? ⟨z, 0, none⟩ = some (.slice kA k.ws.length kc) ∧ w'.cell? ⟨z, 1, none⟩ = some (.int .u64 k.seed) ∧ w'.cell? ⟨z, 2, none⟩ = some (.int .i64 k.ep) ∧ w'.cell? ⟨z, 3, none⟩ = some (.int .i64 k.nu) ∧ w'.cell? ⟨z, 4, none⟩ = some (.int .i64 k.de) ∧ Kept wr w')) (by kernel_rfl) ?_ (fun hHeld => ?_)
                · exact ⟨c0, c1, c2, c3, c4, (Kept.refl _).drew⟩
                refine wpAnyH_take (i := 0) (v := ?_) (by simp only [List.getElem?_toArray, List.getElem?_cons_succ, List.getElem?_cons_zero]; rfl) (by kernel_rfl) (by kernel_rfl) (by kernel_rfl) (fun _ _ _ h => h) (Or.inl ⟨by rfl, ?_⟩) (by assumption) ?_
                rotate_left
                · intro w hSw
                  (try dsimp only at hSw)
                  go_simp
                  (try with_reducible rfl)
                simp only [Act.put, List.setIfInBounds_toArray, List.set_cons_zero, List.set_cons_succ]
                refine wpAnyH_take (i := 1) (v := ?_) (by simp only [List.getElem?_toArray, List.getElem?_cons_succ, List.getElem?_cons_zero]; rfl) (by kernel_rfl) (by kernel_rfl) (by kernel_rfl) (fun _ _ _ h => h) (Or.inl ⟨by rfl, ?_⟩) (by assumption) ?_
                rotate_left
                · intro w hSw
                  (try dsimp only at hSw)
                  go_simp
                  (try with_reducible rfl)
                simp only [Act.put, List.setIfInBounds_toArray, List.set_cons_zero, List.set_cons_succ]
                refine wpAnyH_take (i := 2) (v := ?_) (by simp only [List.getElem?_toArray, List.getElem?_cons_succ, List.getElem?_cons_zero]; rfl) (by kernel_rfl) (by kernel_rfl) (by kernel_rfl) (fun _ _ _ h => h) (Or.inl ⟨by rfl, ?_⟩) (by assumption) ?_
                rotate_left
                · intro w hSw
                  (try dsimp only at hSw)
                  go_simp
                  (try with_reducible rfl)
                simp only [Act.put, List.setIfInBounds_toArray, List.set_cons_zero, List.set_cons_succ]
                refine wpAnyH_take (i := 3) (v := ?_) (by simp only [List.getElem?_toArray, List.getElem?_cons_succ, List.getElem?_cons_zero]; rfl) (by kernel_rfl) (by kernel_rfl) (by kernel_rfl) (fun _ _ _ h => h) (Or.inl ⟨by rfl, ?_⟩) (by assumption) ?_
                rotate_left
                · intro w hSw
                  (try dsimp only at hSw)
                  go_simp
                  (try with_reducible rfl)
                simp only [Act.put, List.setIfInBounds_toArray, List.set_cons_zero, List.set_cons_succ]
                refine wpAnyH_take (i := 4) (v := ?_) (by simp only [List.getElem?_toArray, List.getElem?_cons_succ, List.getElem?_cons_zero]; rfl) (by kernel_rfl) (by kernel_rfl) (by kernel_rfl) (fun _ _ _ h => h) (Or.inl ⟨by rfl, ?_⟩) (by assumption) ?_
                rotate_left
                · intro w hSw
                  (try dsimp only at hSw)
                  go_simp
                  (try with_reducible rfl)
                simp only [Act.put, List.setIfInBounds_toArray, List.set_cons_zero, List.set_cons_succ]
                refine wpAnyH_ready (rs := [5]) (by kernel_rfl) (by simp) ?_
                refine AllReadyH.cons (by simp only [List.getElem?_toArray, List.getElem?_cons_succ, List.getElem?_cons_zero]; rfl) (fun K hK => ?_) AllReadyH.nil
                go_simp
                go_at_call 19; with_reducible refine (HT1.out _ hHeld).mono ?_
                rintro e w' ⟨rfl, kk⟩
                try go_wp2_with fail
                refine hK.out _ _ ?_ (fun hHeld2 => ?_)
                · first | exact five_keep hzr hHeld kk | exact five_keep hzr hq b2.2
                clear hK K hHeld
                have hHeld := hHeld2
                clear hHeld2
                try simp only [Act.put, List.setIfInBounds_toArray, List.set_cons_zero, List.set_cons_succ]
                refine wpAnyH_take (i := 6) (v := ?_) (by simp only [List.getElem?_toArray, List.getElem?_cons_succ, List.getElem?_cons_zero]; rfl) (by kernel_rfl) (by kernel_rfl) (by kernel_rfl) (fun _ _ _ h => h) (Or.inl ⟨by rfl, ?_⟩) (by assumption) ?_
                rotate_left
                · intro w hSw
                  (try dsimp only at hSw)
                  go_simp
                  (try with_reducible rfl)
                simp only [Act.put, List.setIfInBounds_toArray, List.set_cons_zero, List.set_cons_succ]
                refine wpAnyH_take (i := 7) (v := ?_) (by simp only [List.getElem?_toArray, List.getElem?_cons_succ, List.getElem?_cons_zero]; rfl) (by kernel_rfl) (by kernel_rfl) (by kernel_rfl) (fun _ _ _ h => h) (Or.inl ⟨by rfl, ?_⟩) (by assumption) ?_
                rotate_left
                · intro w hSw
                  (try dsimp only at hSw)
                  go_simp
                  (try with_reducible rfl)
                simp only [Act.put, List.setIfInBounds_toArray, List.set_cons_zero, List.set_cons_succ]
                refine wpAnyH_take (i := 8) (v := ?_) (by simp only [List.getElem?_toArray, List.getElem?_cons_succ, List.getElem?_cons_zero]; rfl) (by kernel_rfl) (by kernel_rfl) (by kernel_rfl) (fun _ _ _ h => h) (Or.inl ⟨by rfl, ?_⟩) (by assumption) ?_
                rotate_left
                · intro w hSw
                  (try dsimp only at hSw)
                  go_simp
                  (try with_reducible rfl)
                simp only [Act.put, List.setIfInBounds_toArray, List.set_cons_zero, List.set_cons_succ]
                refine wpAnyH_take (i := 9) (v := ?_) (by simp only [List.getElem?_toArray, List.getElem?_cons_succ, List.getElem?_cons_zero]; rfl) (by kernel_rfl) (by kernel_rfl) (by kernel_rfl) (fun _ _ _ h => h) (Or.inl ⟨by rfl, ?_⟩) (by assumption) ?_
                rotate_left
                · intro w hSw
                  (try dsimp only at hSw)
                  go_simp
                  (try with_reducible rfl)
                simp only [Act.put, List.setIfInBounds_toArray, List.set_cons_zero, List.set_cons_succ]
                refine wpAnyH_take (i := 10) (v := ?_) (by simp only [List.getElem?_toArray, List.getElem?_cons_succ, List.getElem?_cons_zero]; rfl) (by kernel_rfl) (by kernel_rfl) (by kernel_rfl) (fun _ _ _ h => h) (Or.inl ⟨by rfl, ?_⟩) (by assumption) ?_
                rotate_left
                · intro w hSw
                  (try dsimp only at hSw)
                  go_simp
                  (try with_reducible rfl)
                simp only [Act.put, List.setIfInBounds_toArray, List.set_cons_zero, List.set_cons_succ]
                refine wpAnyH_take (i := 11) (v := undef) (by simp only [List.getElem?_toArray, List.getElem?_cons_succ, List.getElem?_cons_zero]; rfl) (by kernel_rfl) (by kernel_rfl) (by kernel_rfl) (fun _ _ _ h => h) (Or.inr ⟨by rfl, rfl⟩) (by assumption) ?_
                simp only [Act.put, List.setIfInBounds_toArray, List.set_cons_zero, List.set_cons_succ]
                refine wpAnyH_take (i := 12) (v := undef) (by simp only [List.getElem?_toArray, List.getElem?_cons_succ, List.getElem?_cons_zero]; rfl) (by kernel_rfl) (by kernel_rfl) (by kernel_rfl) (fun _ _ _ h => h) (Or.inr ⟨by rfl, rfl⟩) (by assumption) ?_
                simp only [Act.put, List.setIfInBounds_toArray, List.set_cons_zero, List.set_cons_succ]
                refine wpAnyH_take (i := 13) (v := undef) (by simp only [List.getElem?_toArray, List.getElem?_cons_succ, List.getElem?_cons_zero]; rfl) (by kernel_rfl) (by kernel_rfl) (by kernel_rfl) (fun _ _ _ h => h) (Or.inr ⟨by rfl, rfl⟩) (by assumption) ?_
                simp only [Act.put, List.setIfInBounds_toArray, List.set_cons_zero, List.set_cons_succ]
                refine wpAnyH_take (i := 14) (v := ?_) (by simp only [List.getElem?_toArray, List.getElem?_cons_succ, List.getElem?_cons_zero]; rfl) (by kernel_rfl) (by kernel_rfl) (by kernel_rfl) (fun _ _ _ h => h) (Or.inl ⟨by rfl, ?_⟩) (by assumption) ?_
                rotate_left
                · intro w hSw
                  (try dsimp only at hSw)
                  go_simp
                  (try with_reducible rfl)
                simp only [Act.put, List.setIfInBounds_toArray, List.set_cons_zero, List.set_cons_succ]
                refine wpAnyH_take (i := 15) (v := ?_) (by simp only [List.getElem?_toArray, List.getElem?_cons_succ, List.getElem?_cons_zero]; rfl) (by kernel_rfl) (by kernel_rfl) (by kernel_rfl) (fun _ _ _ h => h) (Or.inl ⟨by rfl, ?_⟩) (by assumption) ?_
                rotate_left
                · intro w hSw
                  (try dsimp only at hSw)
                  go_simp
                  (try with_reducible rfl)
                simp only [Act.put, List.setIfInBounds_toArray, List.set_cons_zero, List.set_cons_succ]
                refine wpAnyH_take (i := 16) (v := ?_) (by simp only [List.getElem?_toArray, List.getElem?_cons_succ, List.getElem?_cons_zero]; rfl) (by kernel_rfl) (by kernel_rfl) (by kernel_rfl) (fun _ _ _ h => h) (Or.inl ⟨by rfl, ?_⟩) (by assumption) ?_
                rotate_left
                · intro w hSw
                  (try dsimp only at hSw)
                  go_simp
                  (try with_reducible rfl)
                simp only [Act.put, List.setIfInBounds_toArray, List.set_cons_zero, List.set_cons_succ]
                refine wpAnyH_take (i := 17) (v := ?_) (by simp only [List.getElem?_toArray, List.getElem?_cons_succ, List.getElem?_cons_zero]; rfl) (by kernel_rfl) (by kernel_rfl) (by kernel_rfl) (fun _ _ _ h => h) (Or.inl ⟨by rfl, ?_⟩) (by assumption) ?_
                rotate_left
                · intro w hSw
                  (try dsimp only at hSw)
                  go_simp
                  (try with_reducible rfl)
                simp only [Act.put, List.setIfInBounds_toArray, List.set_cons_zero, List.set_cons_succ]
                refine wpAnyH_take (i := 18) (v := ?_) (by simp only [List.getElem?_toArray, List.getElem?_cons_succ, List.getElem?_cons_zero]; rfl) (by kernel_rfl) (by kernel_rfl) (by kernel_rfl) (fun _ _ _ h => h) (Or.inl ⟨by rfl, ?_⟩) (by assumption) ?_
                rotate_left
                · intro w hSw
                  (try dsimp only at hSw)
                  go_simp
                  (try with_reducible rfl)
                simp only [Act.put, List.setIfInBounds_toArray, List.set_cons_zero, List.set_cons_succ]
                refine wpAnyH_take (i := 19) (v := ?_) (by simp only [List.getElem?_toArray, List.getElem?_cons_succ, List.getElem?_cons_zero]; rfl) (by kernel_rfl) (by kernel_rfl) (by kernel_rfl) (fun _ _ _ h => h) (Or.inl ⟨by rfl, ?_⟩) (by assumption) ?_
                rotate_left
                · intro w hSw
                  (try dsimp only at hSw)
                  go_simp
                  (try with_reducible rfl)
                simp only [Act.put, List.setIfInBounds_toArray, List.set_cons_zero, List.set_cons_succ]
                refine wpAnyH_take (i := 20) (v := ?_) (by simp only [List.getElem?_toArray, List.getElem?_cons_succ, List.getElem?_cons_zero]; rfl) (by kernel_rfl) (by kernel_rfl) (by kernel_rfl) (fun _ _ _ h => h) (Or.inl ⟨by rfl, ?_⟩) (by assumption) ?_
                rotate_left
                · intro w hSw
                  (try dsimp only at hSw)
                  go_simp
                  (try with_reducible rfl)
                simp only [Act.put, List.setIfInBounds_toArray, List.set_cons_zero, List.set_cons_succ]
                refine wpAnyH_take (i := 21) (v := ?_) (by simp only [List.getElem?_toArray, List.getElem?_cons_succ, List.getElem?_cons_zero]; rfl) (by kernel_rfl) (by kernel_rfl) (by kernel_rfl) (fun _ _ _ h => h) (Or.inl ⟨by rfl, ?_⟩) (by assumption) ?_
                rotate_left
                · intro w hSw
                  (try dsimp only at hSw)
                  go_simp
                  (try with_reducible rfl)
                simp only [Act.put, List.setIfInBounds_toArray, List.set_cons_zero, List.set_cons_succ]
                refine wpAnyH_take (i := 22) (v := ?_) (by simp only [List.getElem?_toArray, List.getElem?_cons_succ, List.getElem?_cons_zero]; rfl) (by kernel_rfl) (by kernel_rfl) (by kernel_rfl) (fun _ _ _ h => h) (Or.inl ⟨by rfl, ?_⟩) (by assumption) ?_
                rotate_left
                · intro w hSw
                  (try dsimp only at hSw)
                  go_simp
                  (try with_reducible rfl)
                simp only [Act.put, List.setIfInBounds_toArray, List.set_cons_zero, List.set_cons_succ]
                refine wpAnyH_take (i := 23) (v := ?_) (by simp only [List.getElem?_toArray, List.getElem?_cons_succ, List.getElem?_cons_zero]; rfl) (by kernel_rfl) (by kernel_rfl) (by kernel_rfl) (fun _ _ _ h => h) (Or.inl ⟨by rfl, ?_⟩) (by assumption) ?_
                rotate_left
                · intro w hSw
                  (try dsimp only at hSw)
                  go_simp
                  (try with_reducible rfl)
                simp only [Act.put, List.setIfInBounds_toArray, List.set_cons_zero, List.set_cons_succ]
                refine wpAnyH_take (i := 24) (v := ?_) (by simp only [List.getElem?_toArray, List.getElem?_cons_succ, List.getElem?_cons_zero]; rfl) (by kernel_rfl) (by kernel_rfl) (by kernel_rfl) (fun _ _ _ h => h) (Or.inl ⟨by rfl, ?_⟩) (by assumption) ?_
                rotate_left
                · intro w hSw
                  (try dsimp only at hSw)
                  go_simp
                  (try with_reducible rfl)
                simp only [Act.put, List.setIfInBounds_toArray, List.set_cons_zero, List.set_cons_succ]
                refine wpAnyH_take (i := 25) (v := ?_) (by simp only [List.getElem?_toArray, List.getElem?_cons_succ, List.getElem?_cons_zero]; rfl) (by kernel_rfl) (by kernel_rfl) (by kernel_rfl) (fun _ _ _ h => h) (Or.inl ⟨by rfl, ?_⟩) (by assumption) ?_
                rotate_left
                · intro w hSw
                  (try dsimp only at hSw)
                  go_simp
                  (try with_reducible rfl)
                simp only [Act.put, List.setIfInBounds_toArray, List.set_cons_zero, List.set_cons_succ]
                refine wpAnyH_take (i := 26) (v := ?_) (by simp only [List.getElem?_toArray, List.getElem?_cons_succ, List.getElem?_cons_zero]; rfl) (by kernel_rfl) (by kernel_rfl) (by kernel_rfl) (fun _ _ _ h => h) (Or.inl ⟨by rfl, ?_⟩) (by assumption) ?_
                rotate_left
                · intro w hSw
                  (try dsimp only at hSw)
                  go_simp
                  (try with_reducible rfl)
                simp only [Act.put, List.setIfInBounds_toArray, List.set_cons_zero, List.set_cons_succ]
                refine wpAnyH_take (i := 27) (v := ?_) (by simp only [List.getElem?_toArray, List.getElem?_cons_succ, List.getElem?_cons_zero]; rfl) (by kernel_rfl) (by kernel_rfl) (by kernel_rfl) (fun _ _ _ h => h) (Or.inl ⟨by rfl, ?_⟩) (by assumption) ?_
                rotate_left
                · intro w hSw
                  (try dsimp only at hSw)
                  go_simp
                  (try with_reducible rfl)
                simp only [Act.put, List.setIfInBounds_toArray, List.set_cons_zero, List.set_cons_succ]
                refine wpAnyH_take (i := 28) (v := ?_) (by simp only [List.getElem?_toArray, List.getElem?_cons_succ, List.getElem?_cons_zero]; rfl) (by kernel_rfl) (by kernel_rfl) (by kernel_rfl) (fun _ _ _ h => h) (Or.inl ⟨by rfl, ?_⟩) (by assumption) ?_
                rotate_left
                · intro w hSw
                  (try dsimp only at hSw)
                  go_simp
                  (try with_reducible rfl)
                simp only [Act.put, List.setIfInBounds_toArray, List.set_cons_zero, List.set_cons_succ]
                refine wpAnyH_take (i := 29) (v := ?_) (by simp only [List.getElem?_toArray, List.getElem?_cons_succ, List.getElem?_cons_zero]; rfl) (by kernel_rfl) (by kernel_rfl) (by kernel_rfl) (fun _ _ _ h => h) (Or.inl ⟨by rfl, ?_⟩) (by assumption) ?_
                rotate_left
                · intro w hSw
                  (try dsimp only at hSw)
                  go_simp
                  (try with_reducible rfl)
                simp only [Act.put, List.setIfInBounds_toArray, List.set_cons_zero, List.set_cons_succ]
                refine wpAnyH_take (i := 31) (v := ?_) (by simp only [List.getElem?_toArray, List.getElem?_cons_succ, List.getElem?_cons_zero]; rfl) (by kernel_rfl) (by kernel_rfl) (by kernel_rfl) (fun _ _ _ h => h) (Or.inl ⟨by rfl, ?_⟩) (by assumption) ?_
                rotate_left
                · intro w hSw
                  (try dsimp only at hSw)
                  go_simp
                  (try with_reducible rfl)
                simp only [Act.put, List.setIfInBounds_toArray, List.set_cons_zero, List.set_cons_succ]
                refine wpAnyH_ready (rs := [30]) (by kernel_rfl) (by simp) ?_
                refine AllReadyH.cons (by simp only [List.getElem?_toArray, List.getElem?_cons_succ, List.getElem?_cons_zero]; rfl) (fun K hK => ?_) AllReadyH.nil
                go_simp
                go_at_call 17; with_reducible refine (HWa.out _ hHeld).mono ?_
                rintro e w' ⟨rfl, kk⟩
                try go_wp2_with fail
                refine hK.out _ _ ?_ (fun hHeld2 => ?_)
                · first | exact five_keep hzr hHeld kk | exact five_keep hzr hq b2.2
                clear hK K hHeld
                have hHeld := hHeld2
                clear hHeld2
                try simp only [Act.put, List.setIfInBounds_toArray, List.set_cons_zero, List.set_cons_succ]
                refine wpAnyH_ready (rs := [32]) (by kernel_rfl) (by simp) ?_
                refine AllReadyH.cons (by simp only [List.getElem?_toArray, List.getElem?_cons_succ, List.getElem?_cons_zero]; rfl) (fun K hK => ?_) AllReadyH.nil
                go_simp
                go_at_call 19; with_reducible refine (HT1.out _ hHeld).mono ?_
                rintro e w' ⟨rfl, kk⟩
                try go_wp2_with fail
                refine hK.out _ _ ?_ (fun hHeld2 => ?_)
                · first | exact five_keep hzr hHeld kk | exact five_keep hzr hq b2.2
                clear hK K hHeld
                have hHeld := hHeld2
                clear hHeld2
                try simp only [Act.put, List.setIfInBounds_toArray, List.set_cons_zero, List.set_cons_succ]
                refine wpAnyH_take (i := 33) (v := ?_) (by simp only [List.getElem?_toArray, List.getElem?_cons_succ, List.getElem?_cons_zero]; rfl) (by kernel_rfl) (by kernel_rfl) (by kernel_rfl) (fun _ _ _ h => h) (Or.inl ⟨by rfl, ?_⟩) (by assumption) ?_
                rotate_left
                · intro w hSw
                  (try dsimp only at hSw)
                  go_simp
                  (try with_reducible rfl)
                simp only [Act.put, List.setIfInBounds_toArray, List.set_cons_zero, List.set_cons_succ]
                refine wpAnyH_take (i := 34) (v := ?_) (by simp only [List.getElem?_toArray, List.getElem?_cons_succ, List.getElem?_cons_zero]; rfl) (by kernel_rfl) (by kernel_rfl) (by kernel_rfl) (fun _ _ _ h => h) (Or.inl ⟨by rfl, ?_⟩) (by assumption) ?_
                rotate_left
                · intro w hSw
                  (try dsimp only at hSw)
                  go_simp
                  (try with_reducible rfl)
                simp only [Act.put, List.setIfInBounds_toArray, List.set_cons_zero, List.set_cons_succ]
                refine wpAnyH_take (i := 35) (v := ?_) (by simp only [List.getElem?_toArray, List.getElem?_cons_succ, List.getElem?_cons_zero]; rfl) (by kernel_rfl) (by kernel_rfl) (by kernel_rfl) (fun _ _ _ h => h) (Or.inl ⟨by rfl, ?_⟩) (by assumption) ?_
                rotate_left
                · intro w hSw
                  (try dsimp only at hSw)
                  go_simp
                  (try with_reducible rfl)
                simp only [Act.put, List.setIfInBounds_toArray, List.set_cons_zero, List.set_cons_succ]
                refine wpAnyH_take (i := 36) (v := ?_) (by simp only [List.getElem?_toArray, List.getElem?_cons_succ, List.getElem?_cons_zero]; rfl) (by kernel_rfl) (by kernel_rfl) (by kernel_rfl) (fun _ _ _ h => h) (Or.inl ⟨by rfl, ?_⟩) (by assumption) ?_
                rotate_left
                · intro w hSw
                  (try dsimp only at hSw)
                  go_simp
                  (try with_reducible rfl)
                simp only [Act.put, List.setIfInBounds_toArray, List.set_cons_zero, List.set_cons_succ]
                refine wpAnyH_ready (rs := [37]) (by kernel_rfl) (by simp) ?_
                refine AllReadyH.cons (by simp only [List.getElem?_toArray, List.getElem?_cons_succ, List.getElem?_cons_zero]; rfl) (fun K hK => ?_) AllReadyH.nil
                go_simp
                go_at_call 17; with_reducible refine (HWn.out _ hHeld).mono ?_
                rintro e w' ⟨rfl, kk⟩
                try go_wp2_with fail
                refine hK.out _ _ ?_ (fun hHeld2 => ?_)
                · first | exact five_keep hzr hHeld kk | exact five_keep hzr hq b2.2
                clear hK K hHeld
                have hHeld := hHeld2
                clear hHeld2
                try simp only [Act.put, List.setIfInBounds_toArray, List.set_cons_zero, List.set_cons_succ]
                refine wpAnyH_take (i := 38) (v := ?_) (by simp only [List.getElem?_toArray, List.getElem?_cons_succ, List.getElem?_cons_zero]; rfl) (by kernel_rfl) (by kernel_rfl) (by kernel_rfl) (fun _ _ _ h => h) (Or.inl ⟨by rfl, ?_⟩) (by assumption) ?_
                rotate_left
                · intro w hSw
                  (try dsimp only at hSw)
                  go_simp
                  (try with_reducible rfl)
                simp only [Act.put, List.setIfInBounds_toArray, List.set_cons_zero, List.set_cons_succ]
                refine wpAnyH_take (i := 39) (v := ?_) (by simp only [List.getElem?_toArray, List.getElem?_cons_succ, List.getElem?_cons_zero]; rfl) (by kernel_rfl) (by kernel_rfl) (by kernel_rfl) (fun _ _ _ h => h) (Or.inl ⟨by rfl, ?_⟩) (by assumption) ?_
                rotate_left
                · intro w hSw
                  (try dsimp only at hSw)
                  go_simp
                  (try with_reducible rfl)
                simp only [Act.put, List.setIfInBounds_toArray, List.set_cons_zero, List.set_cons_succ]
                refine wpAnyH_take (i := 40) (v := ?_) (by simp only [List.getElem?_toArray, List.getElem?_cons_succ, List.getElem?_cons_zero]; rfl) (by kernel_rfl) (by kernel_rfl) (by kernel_rfl) (fun _ _ _ h => h) (Or.inl ⟨by rfl, ?_⟩) (by assumption) ?_
                rotate_left
                · intro w hSw
                  (try dsimp only at hSw)
                  go_simp
                  (try with_reducible rfl)
                simp only [Act.put, List.setIfInBounds_toArray, List.set_cons_zero, List.set_cons_succ]
                refine wpAnyH_take (i := 41) (v := ?_) (by simp only [List.getElem?_toArray, List.getElem?_cons_succ, List.getElem?_cons_zero]; rfl) (by kernel_rfl) (by kernel_rfl) (by kernel_rfl) (fun _ _ _ h => h) (Or.inl ⟨by rfl, ?_⟩) (by assumption) ?_
                rotate_left
                · intro w hSw
                  (try dsimp only at hSw)
                  go_simp
                  (try with_reducible rfl)
                simp only [Act.put, List.setIfInBounds_toArray, List.set_cons_zero, List.set_cons_succ]
                refine wpAnyH_take (i := 42) (v := ?_) (by simp only [List.getElem?_toArray, List.getElem?_cons_succ, List.getElem?_cons_zero]; rfl) (by kernel_rfl) (by kernel_rfl) (by kernel_rfl) (fun _ _ _ h => h) (Or.inl ⟨by rfl, ?_⟩) (by assumption) ?_
                rotate_left
                · intro w hSw
                  (try dsimp only at hSw)
                  go_simp
                  (try with_reducible rfl)
                simp only [Act.put, List.setIfInBounds_toArray, List.set_cons_zero, List.set_cons_succ]
                refine wpAnyH_take (i := 44) (v := ?_) (by simp only [List.getElem?_toArray, List.getElem?_cons_succ, List.getElem?_cons_zero]; rfl) (by kernel_rfl) (by kernel_rfl) (by kernel_rfl) (fun _ _ _ h => h) (Or.inl ⟨by rfl, ?_⟩) (by assumption) ?_
                rotate_left
                · intro w hSw
                  (try dsimp only at hSw)
                  go_simp
                  (try with_reducible rfl)
                simp only [Act.put, List.setIfInBounds_toArray, List.set_cons_zero, List.set_cons_succ]
                refine wpAnyH_take (i := 47) (v := ?_) (by simp only [List.getElem?_toArray, List.getElem?_cons_succ, List.getElem?_cons_zero]; rfl) (by kernel_rfl) (by kernel_rfl) (by kernel_rfl) (fun _ _ _ h => h) (Or.inl ⟨by rfl, ?_⟩) (by assumption) ?_
                rotate_left
                · intro w hSw
                  (try dsimp only at hSw)
                  go_simp
                  (try with_reducible rfl)
                simp only [Act.put, List.setIfInBounds_toArray, List.set_cons_zero, List.set_cons_succ]
                refine wpAnyH_ready (rs := [43]) (by kernel_rfl) (by simp) ?_
                refine AllReadyH.cons (by simp only [List.getElem?_toArray, List.getElem?_cons_succ, List.getElem?_cons_zero]; rfl) (fun K hK => ?_) AllReadyH.nil
                have hq := hHeld
                refine step_nil _ (by rfl) (.tmp 104) (by rfl) _ lA l.length lc l (by rfl) rfl (HLd.out _ hHeld) hlb ?_
                intro A1 d1 w1 b1
                have kk := b1.2
                try go_wp2_with fail
                refine hK.out _ _ ?_ (fun hHeld2 => ?_)
                · first | exact five_keep hzr hHeld kk | exact five_keep hzr hq b2.2
                clear hK K hHeld
                have hHeld := hHeld2
                clear hHeld2
                try simp only [Act.put, List.setIfInBounds_toArray, List.set_cons_zero, List.set_cons_succ]
                refine wpAnyH_ready (rs := [45]) (by kernel_rfl) (by simp) ?_
                refine AllReadyH.cons (by simp only [List.getElem?_toArray, List.getElem?_cons_succ, List.getElem?_cons_zero]; rfl) (fun K hK => ?_) AllReadyH.nil
                refine step_ints _ (by rfl) (.tmp 105) (.tmp 106) (by rfl) _ l _ (by rfl) b1 _ lA l.length lc l (by rfl) rfl (HLd.out _ hHeld) hlen2 ?_
                intro A2 d2 w2 b2
                clear kk
                try go_wp2_with fail
                refine hK.out _ _ ?_ (fun hHeld2 => ?_)
                · first | exact five_keep hzr hHeld kk | exact five_keep hzr hq b2.2
                clear hK K hHeld
                have hHeld := hHeld2
                clear hHeld2
                try simp only [Act.put, List.setIfInBounds_toArray, List.set_cons_zero, List.set_cons_succ]
                refine wpAnyH_ready (rs := [46]) (by kernel_rfl) (by simp) ?_
                refine AllReadyH.cons (by simp only [List.getElem?_toArray, List.getElem?_cons_succ, List.getElem?_cons_zero]; rfl) (fun K hK => ?_) AllReadyH.nil
                go_simp
                go_at_call 17; with_reducible refine (HWl.out _ hHeld A2 d2 (b2.cells (by simp))).mono ?_
                rintro e w' ⟨rfl, kk⟩
                try go_wp2_with fail
                refine hK.out _ _ ?_ (fun hHeld2 => ?_)
                · first | exact five_keep hzr hHeld kk | exact five_keep hzr hq b2.2
                clear hK K hHeld
                have hHeld := hHeld2
                clear hHeld2
                try simp only [Act.put, List.setIfInBounds_toArray, List.set_cons_zero, List.set_cons_succ]
                refine wpAnyH_take (i := 48) (v := ?_) (by simp only [List.getElem?_toArray, List.getElem?_cons_succ, List.getElem?_cons_zero]; rfl) (by kernel_rfl) (by kernel_rfl) (by kernel_rfl) (fun _ _ _ h => h) (Or.inl ⟨by rfl, ?_⟩) (by assumption) ?_
                rotate_left
                · intro w hSw
                  (try dsimp only at hSw)
                  go_simp
                  (try with_reducible rfl)
                simp only [Act.put, List.setIfInBounds_toArray, List.set_cons_zero, List.set_cons_succ]
                refine wpAnyH_take (i := 49) (v := ?_) (by simp only [List.getElem?_toArray, List.getElem?_cons_succ, List.getElem?_cons_zero]; rfl) (by kernel_rfl) (by kernel_rfl) (by kernel_rfl) (fun _ _ _ h => h) (Or.inl ⟨by rfl, ?_⟩) (by assumption) ?_
                rotate_left
                · intro w hSw
                  (try dsimp only at hSw)
                  go_simp
                  (try with_reducible rfl)
                simp only [Act.put, List.setIfInBounds_toArray, List.set_cons_zero, List.set_cons_succ]
                refine wpAnyH_take (i := 50) (v := ?_) (by simp only [List.getElem?_toArray, List.getElem?_cons_succ, List.getElem?_cons_zero]; rfl) (by kernel_rfl) (by kernel_rfl) (by kernel_rfl) (fun _ _ _ h => h) (Or.inl ⟨by rfl, ?_⟩) (by assumption) ?_
                rotate_left
                · intro w hSw
                  (try dsimp only at hSw)
                  go_simp
                  (try with_reducible rfl)
                simp only [Act.put, List.setIfInBounds_toArray, List.set_cons_zero, List.set_cons_succ]
                refine wpAnyH_done (by kernel_rfl) ?_ _
                refine NoPanic.normal ?_
                have hk := Lib.hid (HK6.out.trans hHeld.2.2.2.2.2)
                go_wp2_with fail
                go_ret
                exact ⟨by first | rfl | (simp; done), hk.out⟩

/-! ### The row's step -/
set_option maxRecDepth 100000 in
theorem lifted (os : Os) (started : os.Started) (H : Type) (enc : TypeId × Value → H) :
    ReturnsInHanded {} Try.checked os 5 .any (Rows.dutyWeighsSpec.pre6 enc Try.prog Try.f5 Rows.dutyWeighsRow.domain false) (Rows.dutyWeighsSpec.post enc Try.prog Try.f5 false true false false) := by
  refine returnsInHanded_of_change (C := Try.checked) own started (by kernel_rfl) Try.func5
    (ChangeSpec.witness6 (enc := enc) (C := Try.checked) false ⟨#[], #[.agg #[.slice none 0 0, .int .u64 0, .int .i64 0, .int .i64 0, .int .i64 0], .slice none 0 0, .int .i64 0], []⟩ 8 (by kernel_rfl) (by kernel_rfl) (by kernel_rfl) (by kernel_rfl)) ?_
  intro W base args ds gs before hval0 hW hcnd _
  have hval : ∀ (j : Nat) t v, Try.f5.params[j]? = some t → args[j]? = some v → Value.okWide Try.prog W .any base t v := hval0
  have hW' := hW
  obtain ⟨p, q, hA0, hV, rfl, hfz, hnd⟩ := hW
  have hA : DataW.TrodAll enc Try.prog W 0 (fun _ => true) true Try.f5.params.toList args.toList ds p := hA0
  rw [Try.params5] at hA hval
  obtain ⟨v0, vs0, d0, ds0, p0, q0, hargs, rfl, rfl, h0, r0⟩ := trodAll_cons hA
  obtain ⟨v1, vs1, d1, ds1, p1, q1, rfl, rfl, rfl, h1, r1⟩ := trodAll_cons r0
  obtain ⟨v2, vs2, d2, ds2, p2, q2, rfl, rfl, rfl, h2, r2⟩ := trodAll_cons r1
  obtain ⟨rfl, rfl, rfl⟩ := trodAll_nil r2
  obtain rfl : args = #[v0, v1, v2] := by cases args; simp_all
  obtain ⟨rfl, rfl⟩ := trodVars_none hV
  obtain ⟨kA, kc, k, rfl, khm, khs, khl⟩ := open_conf (hval 0 _ v0 rfl rfl) h0
  obtain ⟨lA, lc, l, rfl, lhm, lhb, lhl⟩ := open_list (hval 1 _ v1 rfl rfl) h1
  obtain ⟨who, rfl, hwho1, hwho2⟩ := open_num (hval 2 _ v2 rfl rfl) h2
  clear hA0 hval0
  refine (walk W kA kc k khm khs khl lA lc l lhm lhb lhl who hwho1 hwho2).mono fun e W' ⟨he, hb⟩ => ?_
  subst he
  exact ⟨_, rfl, law_post rfl (by kernel_rfl) rfl hW' rfl hb⟩

theorem over : Rows.dutyWeighsRow.holds Try.pinned (OpenSpec.ofChange Rows.dutyWeighsSpec) :=
  OpenClaim.holds_of_wide 5 Try.f5 rfl rfl rfl rfl rfl rfl rfl ⟨rfl, rfl, rfl, rfl, rfl⟩ rfl rfl rfl rfl rfl (by kernel_rfl) Try.func5 (by kernel_rfl)
    (of_decide_eq_true (by kernel_rfl)) (by unfold Func.isWrapper; first | (rw [if_pos (by decide +kernel)]; kernel_rfl) | (rw [if_neg (by decide +kernel)]; exact ⟨rfl, rfl⟩))
    (fun os started H enc _ => lifted os started H enc)

/-- The statement. -/
theorem proved : Rows.DutyWeighsSaid :=
  over
#print axioms proved
end Go.Proofs.Ytdidmgmfjfnliaa.dutyWeighs
