/-
  For every conf and every two lists marigoldlaw05.DutyParts returns true and leaves its arguments as they were: no further condition.
-/
import Derived.Test.YtdidmgmfjfnliaaDutyLists
namespace Go.Proofs.Ytdidmgmfjfnliaa.dutyParts
open Go.ChangeShapes Go.WideShapes Go.ChangeAt Go.RowKit
set_option linter.unusedVariables false

/-! ### The walk: the call returns true, and of what was there nothing has changed. -/
set_option maxRecDepth 100000 in
set_option maxHeartbeats 3200000 in
theorem walk (w : World) (kA : Option Addr) (kc : Nat) (k : Cf) (khm : k.ws.length ≤ maxLen) (khs : k.seed < 18446744073709551616) (khl : CellsAt w w.heap.size kA (intCells k.ws)) (aA : Option Addr) (ac : Nat) (a : List Int) (ahm : a.length ≤ maxLen) (ahb : ∀ x ∈ a, -9223372036854775808 ≤ x ∧ x ≤ 9223372036854775807) (ahl : CellsAt w w.heap.size aA (intCells a)) (bA : Option Addr) (bc : Nat) (b : List Int) (bhm : b.length ≤ maxLen) (bhb : ∀ x ∈ b, -9223372036854775808 ≤ x ∧ x ≤ 9223372036854775807) (bhl : CellsAt w w.heap.size bA (intCells b)) :
    Calls Try.prog 8 #[.agg #[.slice kA k.ws.length kc, .int .u64 k.seed, .int .i64 k.ep, .int .i64 k.nu, .int .i64 k.de], .slice aA a.length ac, .slice bA b.length bc] w fun e w' => e = .returned (.bool true) ∧ Kept w w' := by
  by_cases hn : k.ws.length > 40
  · obtain ⟨hC, hA, hK⟩ := conf_box (c := kc) khl
    have HC0 := Lib.hid hC
    have HA0 := Lib.hid hA
    have HK0 := Lib.hid hK
    have HLa0 := Lib.hid (ahl.kept hK)
    have HLb0 := Lib.hid (bhl.kept hK)
    clear hC hA hK khl ahl bhl
    go_enter Try.func8, Try.ntmps8
    go_wp2_with fail
    generalize w.alloc (.cells #[.slice kA k.ws.length kc, .int .u64 k.seed, .int .i64 k.ep, .int .i64 k.nu, .int .i64 k.de] 25) = W0 at *
    generalize w.heap.size = z at *
    refine (dutyAwake _).mono ?_
    rintro e W1 ⟨rfl, k1⟩
    have HC1 := Lib.hid (HC0.out.kept k1)
    have HA1 := Lib.hid (HA0.out.kept k1)
    have HLa1 := Lib.hid (HLa0.out.kept k1)
    have HLb1 := Lib.hid (HLb0.out.kept k1)
    have HK1 := Lib.hid (HK0.out.trans k1)
    clear k1 HC0 HA0 HLa0 HLb0 HK0
    obtain ⟨c0, c1, c2, c3, c4⟩ := HC1.out.five
    have hz := HC1.out.1
    go_wp2_with fail
    clear c0 c1 c2 c3 c4 hz
    go_ret
    exact ⟨rfl, HK1.out⟩
  · by_cases ha : a.length > 20
    · obtain ⟨hC, hA, hK⟩ := conf_box (c := kc) khl
      have HC0 := Lib.hid hC
      have HA0 := Lib.hid hA
      have HK0 := Lib.hid hK
      have HLa0 := Lib.hid (ahl.kept hK)
      have HLb0 := Lib.hid (bhl.kept hK)
      clear hC hA hK khl ahl bhl
      go_enter Try.func8, Try.ntmps8
      go_wp2_with fail
      generalize w.alloc (.cells #[.slice kA k.ws.length kc, .int .u64 k.seed, .int .i64 k.ep, .int .i64 k.nu, .int .i64 k.de] 25) = W0 at *
      generalize w.heap.size = z at *
      refine (dutyAwake _).mono ?_
      rintro e W1 ⟨rfl, k1⟩
      have HC1 := Lib.hid (HC0.out.kept k1)
      have HA1 := Lib.hid (HA0.out.kept k1)
      have HLa1 := Lib.hid (HLa0.out.kept k1)
      have HLb1 := Lib.hid (HLb0.out.kept k1)
      have HK1 := Lib.hid (HK0.out.trans k1)
      clear k1 HC0 HA0 HLa0 HLb0 HK0
      obtain ⟨c0, c1, c2, c3, c4⟩ := HC1.out.five
      have hz := HC1.out.1
      go_wp2_with fail
      clear c0 c1 c2 c3 c4 hz
      go_ret
      exact ⟨rfl, HK1.out⟩
    · by_cases hb : b.length > 20
      · obtain ⟨hC, hA, hK⟩ := conf_box (c := kc) khl
        have HC0 := Lib.hid hC
        have HA0 := Lib.hid hA
        have HK0 := Lib.hid hK
        have HLa0 := Lib.hid (ahl.kept hK)
        have HLb0 := Lib.hid (bhl.kept hK)
        clear hC hA hK khl ahl bhl
        go_enter Try.func8, Try.ntmps8
        go_wp2_with fail
        generalize w.alloc (.cells #[.slice kA k.ws.length kc, .int .u64 k.seed, .int .i64 k.ep, .int .i64 k.nu, .int .i64 k.de] 25) = W0 at *
        generalize w.heap.size = z at *
        refine (dutyAwake _).mono ?_
        rintro e W1 ⟨rfl, k1⟩
        have HC1 := Lib.hid (HC0.out.kept k1)
        have HA1 := Lib.hid (HA0.out.kept k1)
        have HLa1 := Lib.hid (HLa0.out.kept k1)
        have HLb1 := Lib.hid (HLb0.out.kept k1)
        have HK1 := Lib.hid (HK0.out.trans k1)
        clear k1 HC0 HA0 HLa0 HLb0 HK0
        obtain ⟨c0, c1, c2, c3, c4⟩ := HC1.out.five
        have hz := HC1.out.1
        go_wp2_with fail
        clear c0 c1 c2 c3 c4 hz
        go_ret
        exact ⟨rfl, HK1.out⟩
      · have HWB := Lib.hid (weight_both k a b)
        have HBa := Lib.hid (weight_bounds k a)
        have HBb := Lib.hid (weight_bounds k b)
        have HBab := Lib.hid (weight_bounds k (a ++ b))
        have HMN := Lib.hid (meetB_no (a := a) (b := b))
        have HWO := Lib.hid (show weightC k [-1, (k.ws.length : Int), 1099511627776] = 0 from weight_out k fun j hj => by simp; omega)
        obtain ⟨hC, hA, hK⟩ := conf_box (c := kc) khl
        have HC0 := Lib.hid hC
        have HA0 := Lib.hid hA
        have HK0 := Lib.hid hK
        have HLa0 := Lib.hid (ahl.kept hK)
        have HLb0 := Lib.hid (bhl.kept hK)
        clear hC hA hK khl ahl bhl
        go_enter Try.func8, Try.ntmps8
        go_wp2_with fail
        generalize w.alloc (.cells #[.slice kA k.ws.length kc, .int .u64 k.seed, .int .i64 k.ep, .int .i64 k.nu, .int .i64 k.de] 25) = W0 at *
        generalize w.heap.size = z at *
        refine (dutyAwake _).mono ?_
        rintro e W1 ⟨rfl, k1⟩
        have HC1 := Lib.hid (HC0.out.kept k1)
        have HA1 := Lib.hid (HA0.out.kept k1)
        have HLa1 := Lib.hid (HLa0.out.kept k1)
        have HLb1 := Lib.hid (HLb0.out.kept k1)
        have HK1 := Lib.hid (HK0.out.trans k1)
        clear k1 HC0 HA0 HLa0 HLb0 HK0
        obtain ⟨c0, c1, c2, c3, c4⟩ := HC1.out.five
        have hz := HC1.out.1
        go_wp2_with fail
        clear c0 c1 c2 c3 c4 hz
        go_loopw [8, 9] (fun u i w' => ∃ j : Nat, j ≤ a.length ∧ u = .bool (meetB (a.take j) b) ∧ i = .int .i64 (j : Nat) ∧ Kept W1 w') (fun _ i _ => a.length - (intOf i).toNat)
        case atStart => exact ⟨0, by omega, rfl, rfl, Kept.refl _⟩
        case round =>
          obtain ⟨j, hj, rfl, rfl, hKr⟩ := hrel
          have HR := Lib.hid hKr
          clear hKr
          by_cases hlt : j < a.length
          · obtain ⟨ad, rfl, hbl, hcell⟩ := ints_cell HLa1.out hlt
            have HT := Lib.hid (show meetB (a.take (j + 1)) b = (meetB (a.take j) b || b.any fun y => wAt a j == y) by rw [take_snoc hlt, meetB_snoc])
            have HCx := Lib.hid hcell
            clear hcell
            generalize wAt a j = x at *
            generalize meetB (a.take j) b = u0 at *
            go_wp2_with fail
            go_loopw [8, 10] (fun u i w' => ∃ m : Nat, m ≤ b.length ∧ u = .bool (u0 || (b.take m).any fun y => x == y) ∧ i = .int .i64 (m : Nat) ∧ Kept W1 w') (fun _ i _ => b.length - (intOf i).toNat)
            case atStart => exact ⟨0, by omega, by simp, rfl, HR.out⟩
            case round =>
              obtain ⟨m, hm, rfl, rfl, hKr2⟩ := hrel
              have HR2 := Lib.hid hKr2
              clear hKr2
              by_cases hlt2 : m < b.length
              · obtain ⟨bd, rfl, hbl2, hcell2⟩ := ints_cell HLb1.out hlt2
                have HT2 := Lib.hid (show (u0 || (b.take (m + 1)).any fun y => x == y) = ((u0 || (b.take m).any fun y => x == y) || x == wAt b m) by rw [take_snoc hlt2, any_snoc, Bool.or_assoc])
                have hcx : wr.cell? (ad.add j) = some (.int .i64 x) := (HR2.out.cell (by rw [block_add]; exact hbl)).trans HCx.out
                have hcy : wr.cell? (bd.add m) = some (.int .i64 (wAt b m)) := (HR2.out.cell (by rw [block_add]; exact hbl2)).trans hcell2
                clear hcell2
                generalize wAt b m = y at *
                generalize hu1 : (u0 || (b.take m).any fun y => x == y) = u1 at *
                clear hu1
                cases u1 with
                | true =>
                  go_wp2_with fail
                  go_quiet (fail)
                  go_wp2_with fail
                  go_roundw
                  case rel => exact ⟨m + 1, by omega, by rw [HT2.out]; rfl, by go_num, HR2.out.drewN _⟩
                  case measure => simp [intOf]; omega
                | false =>
                  go_wp2_with fail
                  go_quiet (fail)
                  go_wp2_with fail
                  go_roundw
                  case rel => exact ⟨m + 1, by omega, by rw [HT2.out]; rfl, by go_num, HR2.out.drewN _⟩
                  case measure => simp [intOf]; omega
              · have hml : m = b.length := by omega
                subst hml
                have HE := Lib.hid (show (b.take b.length).any (fun y => x == y) = b.any fun y => x == y by rw [List.take_length])
                go_wp2_with fail
                go_roundw
                case rel => exact ⟨j + 1, by omega, by rw [HT.out, ← HE.out], by go_num, HR2.out⟩
                case measure => simp [intOf]; omega
          · have hjl : j = a.length := by omega
            subst hjl
            have HE := Lib.hid (show a.take a.length = a from List.take_length)
            rw [HE.out]
            have HC2 := Lib.hid (HC1.out.kept HR.out)
            have HA2 := Lib.hid (HA1.out.kept HR.out)
            have HLa2 := Lib.hid (HLa1.out.kept HR.out)
            have HLb2 := Lib.hid (HLb1.out.kept HR.out)
            have HK2 := Lib.hid (HK1.out.trans HR.out)
            clear HC1 HA1 HLa1 HLb1 HK1
            obtain ⟨c0, c1, c2, c3, c4⟩ := HC2.out.five
            have hz := HC2.out.1
            have hsum : IntKind.i64.wrap (weightC k a + weightC k b) = weightC k a + weightC k b := by
              have h1 := HBa.out
              have h2 := HBb.out
              rw [IntKind.wrap_i64]; omega
            have HWa := Lib.hid (fun w' (hk : w'.cell? ⟨z, 0, none⟩ = some (.slice kA k.ws.length kc) ∧ w'.cell? ⟨z, 1, none⟩ = some (.int .u64 k.seed) ∧ w'.cell? ⟨z, 2, none⟩ = some (.int .i64 k.ep) ∧ w'.cell? ⟨z, 3, none⟩ = some (.int .i64 k.nu) ∧ w'.cell? ⟨z, 4, none⟩ = some (.int .i64 k.de) ∧ Kept wr w') => weight_any kA kc k aA a ac w' (HA2.out.kept hk.2.2.2.2.2) (by omega) (HLa2.out.kept hk.2.2.2.2.2))
            have HWb := Lib.hid (fun w' (hk : w'.cell? ⟨z, 0, none⟩ = some (.slice kA k.ws.length kc) ∧ w'.cell? ⟨z, 1, none⟩ = some (.int .u64 k.seed) ∧ w'.cell? ⟨z, 2, none⟩ = some (.int .i64 k.ep) ∧ w'.cell? ⟨z, 3, none⟩ = some (.int .i64 k.nu) ∧ w'.cell? ⟨z, 4, none⟩ = some (.int .i64 k.de) ∧ Kept wr w') => weight_any kA kc k bA b bc w' (HA2.out.kept hk.2.2.2.2.2) (by omega) (HLb2.out.kept hk.2.2.2.2.2))
            have HWab := Lib.hid (fun w' (hk : w'.cell? ⟨z, 0, none⟩ = some (.slice kA k.ws.length kc) ∧ w'.cell? ⟨z, 1, none⟩ = some (.int .u64 k.seed) ∧ w'.cell? ⟨z, 2, none⟩ = some (.int .i64 k.ep) ∧ w'.cell? ⟨z, 3, none⟩ = some (.int .i64 k.nu) ∧ w'.cell? ⟨z, 4, none⟩ = some (.int .i64 k.de) ∧ Kept wr w') A2 c2 (h : CellsAt w' w'.heap.size A2 (intCells (a ++ b))) => weight_len kA kc k A2 (a ++ b) (a.length + b.length) c2 w' (HA2.out.kept hk.2.2.2.2.2) (by omega) h (by simp))
            have HWx := Lib.hid (fun w' (hk : Kept wr w') A2 c2 (h : CellsAt w' w'.heap.size A2 (intCells [-1, (k.ws.length : Int), 1099511627776])) => weight_len kA kc k A2 [-1, (k.ws.length : Int), 1099511627776] 3 c2 w' (HA2.out.kept hk) (by omega) h rfl)
            have HBo := Lib.hid (show meetB a b = true ∨ weightC k (a ++ b) = weightC k a + weightC k b from by
              cases h : meetB a b with
              | true => exact Or.inl rfl
              | false => exact Or.inr (HWB.out.2 (HMN.out h)))
            have hle := HWB.out.1
            rw [HWO.out] at HWx
            clear HWB HMN HWO HBa HBb HBab
            generalize weightC k (a ++ b) = n at *
            generalize weightC k a = x at *
            generalize weightC k b = y at *
            generalize meetB a b = u at *
            have hlen : a.length + b.length ≤ 1000000 := by omega
            go_wp2_with fail
            have hq := (⟨c0, c1, c2, c3, c4, (Kept.refl wr).drew⟩ : _ ∧ _ ∧ _ ∧ _ ∧ _ ∧ _)
            go_region_held3 (fun w' => w'.cell? ⟨z, 0, none⟩ = some (.slice kA k.ws.length kc) ∧ w'.cell? ⟨z, 1, none⟩ = some (.int .u64 k.seed) ∧ w'.cell? ⟨z, 2, none⟩ = some (.int .i64 k.ep) ∧ w'.cell? ⟨z, 3, none⟩ = some (.int .i64 k.nu) ∧ w'.cell? ⟨z, 4, none⟩ = some (.int .i64 k.de) ∧ Kept wr w')
              (first | exact ⟨c0, c1, c2, c3, c4, Kept.refl _⟩ | exact hq | assumption | exact five_keep hz hq b2.2 | exact five_keep hz hq b1.2 | exact five_keep hz (by assumption) (by assumption))
              (first
                | (refine step_nil _ (by rfl) (.tmp 58) (by rfl) _ aA a.length ac a (by rfl) rfl (HLa2.out.kept (Kept.refl _).drew) (by omega) ?_; intro A1 d1 w1 b1)
                | (refine step_ints _ (by rfl) (.tmp 59) (.tmp 60) (by rfl) _ a _ (by rfl) b1 _ bA b.length bc b (by rfl) rfl ((HLb2.out.kept (Kept.refl _).drew).kept b1.2) hlen ?_; intro A2 d2 w2 b2)
                | (go_at_call 17; ((with_reducible refine (HWab.out _ (by assumption) A2 d2 (b2.cells rfl)).mono ?_); rintro e w' ⟨rfl, kk⟩)))
            rename_i hh
            obtain ⟨e0, e1, e2, e3, e4, ek⟩ := hh
            clear b1 b2 c0 c1 c2 c3 c4 hq
            go_wp2_with fail
            go_region_held3 (fun w' => w'.cell? ⟨z, 0, none⟩ = some (.slice kA k.ws.length kc) ∧ w'.cell? ⟨z, 1, none⟩ = some (.int .u64 k.seed) ∧ w'.cell? ⟨z, 2, none⟩ = some (.int .i64 k.ep) ∧ w'.cell? ⟨z, 3, none⟩ = some (.int .i64 k.nu) ∧ w'.cell? ⟨z, 4, none⟩ = some (.int .i64 k.de) ∧ Kept wr w')
              (first | exact ⟨e0, e1, e2, e3, e4, ek⟩ | exact ⟨e0, e1, e2, e3, e4, ek.drew⟩ | assumption | exact five_keep hz (by assumption) (by assumption))
              (first
                | (go_at_call 17; ((with_reducible refine (HWa.out _ (by assumption)).mono ?_); rintro e w' ⟨rfl, kk⟩))
                | (go_at_call 17; ((with_reducible refine (HWb.out _ (by assumption)).mono ?_); rintro e w' ⟨rfl, kk⟩)))
            rename_i hh
            obtain ⟨f0, f1, f2, f3, f4, fk⟩ := hh
            have hzw : z < w'.heap.size := Nat.lt_of_lt_of_le hz fk.size_le
            have HN := Lib.hid (CellsAt.new w' #[.int .i64 (-1), .int .i64 (k.ws.length : Int), .int .i64 1099511627776] 3 w'.heap.size rfl)
            have HF := Lib.hid (fk.alloc (.cells #[.int .i64 (-1), .int .i64 (k.ws.length : Int), .int .i64 1099511627776] 3))
            clear fk ek e0 e1 e2 e3 e4 kk
            rcases HBo.out with rfl | hne
            · go_wp2_with fail
              refine (HWx.out _ HF.out _ _ HN.out).mono ?_
              rintro e w5 ⟨rfl, kk5⟩
              have hk := Lib.hid (HK2.out.trans (HF.out.trans kk5))
              clear kk5
              go_wp2_with fail
              go_ret
              exact ⟨rfl, hk.out⟩
            · cases u with
              | true =>
                go_wp2_with fail
                refine (HWx.out _ HF.out _ _ HN.out).mono ?_
                rintro e w5 ⟨rfl, kk5⟩
                have hk := Lib.hid (HK2.out.trans (HF.out.trans kk5))
                clear kk5
                go_wp2_with fail
                go_ret
                exact ⟨rfl, hk.out⟩
              | false =>
                have hnb : (n == x + y) = true := by rw [hne]; simp
                clear hne
                go_wp2_with fail
                refine (HWx.out _ HF.out _ _ HN.out).mono ?_
                rintro e w5 ⟨rfl, kk5⟩
                have hk := Lib.hid (HK2.out.trans (HF.out.trans kk5))
                clear kk5
                go_wp2_with fail
                go_ret
                exact ⟨by first | rfl | (simp; done) | (simp; assumption), hk.out⟩

/-! ### The row's step -/
set_option maxRecDepth 100000 in
theorem lifted (os : Os) (started : os.Started) (H : Type) (enc : TypeId × Value → H) :
    ReturnsInHanded {} Try.checked os 8 .any (Rows.dutyPartsSpec.pre6 enc Try.prog Try.f8 Rows.dutyPartsRow.domain false) (Rows.dutyPartsSpec.post enc Try.prog Try.f8 false true false false) := by
  refine returnsInHanded_of_change (C := Try.checked) own started (by kernel_rfl) Try.func8
    (ChangeSpec.witness6 (enc := enc) (C := Try.checked) false ⟨#[], #[.agg #[.slice none 0 0, .int .u64 0, .int .i64 0, .int .i64 0, .int .i64 0], .slice none 0 0, .slice none 0 0], []⟩ 8 (by kernel_rfl) (by kernel_rfl) (by kernel_rfl) (by kernel_rfl)) ?_
  intro W base args ds gs before hval0 hW hcnd _
  have hval : ∀ (j : Nat) t v, Try.f8.params[j]? = some t → args[j]? = some v → Value.okWide Try.prog W .any base t v := hval0
  have hW' := hW
  obtain ⟨p, q, hA0, hV, rfl, hfz, hnd⟩ := hW
  have hA : DataW.TrodAll enc Try.prog W 0 (fun _ => true) true Try.f8.params.toList args.toList ds p := hA0
  rw [Try.params8] at hA hval
  obtain ⟨v0, vs0, d0, ds0, p0, q0, hargs, rfl, rfl, h0, r0⟩ := trodAll_cons hA
  obtain ⟨v1, vs1, d1, ds1, p1, q1, rfl, rfl, rfl, h1, r1⟩ := trodAll_cons r0
  obtain ⟨v2, vs2, d2, ds2, p2, q2, rfl, rfl, rfl, h2, r2⟩ := trodAll_cons r1
  obtain ⟨rfl, rfl, rfl⟩ := trodAll_nil r2
  obtain rfl : args = #[v0, v1, v2] := by cases args; simp_all
  obtain ⟨rfl, rfl⟩ := trodVars_none hV
  obtain ⟨kA, kc, k, rfl, khm, khs, khl⟩ := open_conf (hval 0 _ v0 rfl rfl) h0
  obtain ⟨aA, ac, a, rfl, ahm, ahb, ahl⟩ := open_list (hval 1 _ v1 rfl rfl) h1
  obtain ⟨bA, bc, b, rfl, bhm, bhb, bhl⟩ := open_list (hval 2 _ v2 rfl rfl) h2
  clear hA0 hval0
  refine (walk W kA kc k khm khs khl aA ac a ahm ahb ahl bA bc b bhm bhb bhl).mono fun e W' ⟨he, hb⟩ => ?_
  subst he
  exact ⟨_, rfl, law_post rfl (by kernel_rfl) rfl hW' rfl hb⟩

theorem over : Rows.dutyPartsRow.holds Try.pinned (OpenSpec.ofChange Rows.dutyPartsSpec) :=
  OpenClaim.holds_of_wide 8 Try.f8 rfl rfl rfl rfl rfl rfl rfl ⟨rfl, rfl, rfl, rfl, rfl⟩ rfl rfl rfl rfl rfl (by kernel_rfl) Try.func8 (by kernel_rfl)
    (of_decide_eq_true (by kernel_rfl)) (by unfold Func.isWrapper; first | (rw [if_pos (by decide +kernel)]; kernel_rfl) | (rw [if_neg (by decide +kernel)]; exact ⟨rfl, rfl⟩))
    (fun os started H enc _ => lifted os started H enc)

/-- The statement. -/
theorem proved : Rows.DutyPartsSaid :=
  over
#print axioms proved
end Go.Proofs.Ytdidmgmfjfnliaa.dutyParts
