/-
  Law WeighDouble of layer 8: where all weigh twice as much so does what is on any block, whatever conf, blocks, votes and id.
-/
import Derived.Test.YtajdhcanajbgoaaWeighAwake
import Derived.Test.YtajdhcanajbgoaaWeighFacts
import Derived.Test.YtajdhcanajbgoaaWeighKeep
import Derived.Test.YtajdhcanajbgoaaKeep
import Derived.Test.YtajdhcanajbgoaaDutyG
import Derived.Test.YtajdhcanajbgoaaTreeG
import Derived.Test.YtajdhcanajbgoaaVoteG
import Derived.Test.YtajdhcanajbgoaaMixG
import Derived.Test.YtajdhcanajbgoaaGround
import Derived.Test.YtajdhcanajbgoaaWeighDbl
import Derived.Test.YtajdhcanajbgoaaUntil
namespace Go.Proofs.Ytajdhcanajbgoaa.weighDouble
set_option maxRecDepth 100000
open Go.ChangeShapes Go.WideShapes Go.ChangeAt Go.RowKit
set_option linter.unusedVariables false

/-! ### The walk: the call returns true, and of what was there nothing has changed. -/
attribute [local go_sem high] eqIdN eqIdZ in
set_option maxRecDepth 100000 in
set_option maxHeartbeats 3200000 in
theorem walk (w : World) (kA : Option Addr) (kc : Nat) (k : Cf) (khm : k.ws.length ≤ maxLen) (khs : k.seed < 18446744073709551616) (khl : CellsAt w w.heap.size kA (intCells k.ws)) (lA : Option Addr) (lc : Nat) (l : List Bk) (lhm : l.length ≤ maxLen) (lhc : l.length ≤ lc) (lhw : WfL l) (lhl : CellsAt w w.heap.size lA (blockCells l)) (vA : Option Addr) (vc : Nat) (v : List Vt) (vhm : v.length ≤ maxLen) (vhc : v.length ≤ vc) (vhw : WfVs v) (vhl : CellsAt w w.heap.size vA (votesCells v)) (x : Nat × Nat) (hx1 : x.1 < 18446744073709551616) (hx2 : x.2 < 18446744073709551616) :
    Calls Try.prog 6 #[.agg #[.slice kA k.ws.length kc, .int .u64 k.seed, .int .i64 k.ep, .int .i64 k.nu, .int .i64 k.de], .slice lA l.length lc, .slice vA v.length vc, .agg #[.int .u64 x.1, .int .u64 x.2]] w fun e w' => e = .returned (.bool true) ∧ Kept w w' := by
  cases hf : fewC k l v with
  | false =>
    go_enter Try.func6, Try.ntmps6
    go_wp2_with fail
    have K0 := Lib.hid (((Kept.refl w).alloc (.cells #[.slice kA k.ws.length kc, .int .u64 k.seed, .int .i64 k.ep, .int .i64 k.nu, .int .i64 k.de] 25)).alloc (.cells #[.int .u64 x.1, .int .u64 x.2] 29))
    have HA := Lib.hid (khl.kept K0.out)
    clear khl
    have HL := Lib.hid (lhl.kept K0.out)
    clear lhl
    have HV := Lib.hid (vhl.kept K0.out)
    clear vhl
    have HB0 := Lib.hid ((HasCells.new w #[.slice kA k.ws.length kc, .int .u64 k.seed, .int .i64 k.ep, .int .i64 k.nu, .int .i64 k.de] 25 (w.heap.size) (by simp)).alloc (.cells #[.int .u64 x.1, .int .u64 x.2] 29))
    have HB1 := Lib.hid (HasCells.new (w.alloc (.cells #[.slice kA k.ws.length kc, .int .u64 k.seed, .int .i64 k.ep, .int .i64 k.nu, .int .i64 k.de] 25)) #[.int .u64 x.1, .int .u64 x.2] 29 (w.heap.size + 1) (by simp))
    generalize ((w.alloc (.cells #[.slice kA k.ws.length kc, .int .u64 k.seed, .int .i64 k.ep, .int .i64 k.nu, .int .i64 k.de] 25)).alloc (.cells #[.int .u64 x.1, .int .u64 x.2] 29)) = W0 at *
    generalize w.heap.size + 1 = z1 at *
    generalize w.heap.size = z0 at *
    have KB0 := Lib.hid (Kept.refl W0)
    refine (weighAwake W0).mono ?_
    rintro e W1 ⟨rfl, k⟩
    have KB1 := Lib.hid (KB0.out.trans k)
    clear k
    obtain ⟨b00, b01, b02, b03, b04⟩ := (HB0.out.kept KB1.out).five
    have bz0 := (HB0.out.kept KB1.out).1
    obtain ⟨b10, b11⟩ := (HB1.out.kept KB1.out).two
    have bz1 := (HB1.out.kept KB1.out).1
    go_wp2_with fail
    clear b00 b01 b02 b03 b04 bz0 b10 b11 bz1
    refine (few_any kA kc k lA lc l vA vc v W1).mono ?_
    rintro e W2 ⟨rfl, k⟩
    have KB2 := Lib.hid (KB1.out.trans k)
    clear k
    rw [hf]
    obtain ⟨b00, b01, b02, b03, b04⟩ := (HB0.out.kept KB2.out).five
    have bz0 := (HB0.out.kept KB2.out).1
    obtain ⟨b10, b11⟩ := (HB1.out.kept KB2.out).two
    have bz1 := (HB1.out.kept KB2.out).1
    go_wp2_with fail
    clear b00 b01 b02 b03 b04 bz0 b10 b11 bz1
    go_ret
    exact ⟨by first | rfl | (simp; done), K0.out.trans KB2.out⟩
  | true =>
    obtain ⟨hk40, hl30, hv30⟩ := fewC_yes hf
    have HF := Lib.hid hf
    clear hf
    cases hm : mayC k with
    | false =>
      go_enter Try.func6, Try.ntmps6
      go_wp2_with fail
      have K0 := Lib.hid (((Kept.refl w).alloc (.cells #[.slice kA k.ws.length kc, .int .u64 k.seed, .int .i64 k.ep, .int .i64 k.nu, .int .i64 k.de] 25)).alloc (.cells #[.int .u64 x.1, .int .u64 x.2] 29))
      have HA := Lib.hid (khl.kept K0.out)
      clear khl
      have HL := Lib.hid (lhl.kept K0.out)
      clear lhl
      have HV := Lib.hid (vhl.kept K0.out)
      clear vhl
      have HB0 := Lib.hid ((HasCells.new w #[.slice kA k.ws.length kc, .int .u64 k.seed, .int .i64 k.ep, .int .i64 k.nu, .int .i64 k.de] 25 (w.heap.size) (by simp)).alloc (.cells #[.int .u64 x.1, .int .u64 x.2] 29))
      have HB1 := Lib.hid (HasCells.new (w.alloc (.cells #[.slice kA k.ws.length kc, .int .u64 k.seed, .int .i64 k.ep, .int .i64 k.nu, .int .i64 k.de] 25)) #[.int .u64 x.1, .int .u64 x.2] 29 (w.heap.size + 1) (by simp))
      generalize ((w.alloc (.cells #[.slice kA k.ws.length kc, .int .u64 k.seed, .int .i64 k.ep, .int .i64 k.nu, .int .i64 k.de] 25)).alloc (.cells #[.int .u64 x.1, .int .u64 x.2] 29)) = W0 at *
      generalize w.heap.size + 1 = z1 at *
      generalize w.heap.size = z0 at *
      have KB0 := Lib.hid (Kept.refl W0)
      refine (weighAwake W0).mono ?_
      rintro e W1 ⟨rfl, k⟩
      have KB1 := Lib.hid (KB0.out.trans k)
      clear k
      obtain ⟨b00, b01, b02, b03, b04⟩ := (HB0.out.kept KB1.out).five
      have bz0 := (HB0.out.kept KB1.out).1
      obtain ⟨b10, b11⟩ := (HB1.out.kept KB1.out).two
      have bz1 := (HB1.out.kept KB1.out).1
      go_wp2_with fail
      clear b00 b01 b02 b03 b04 bz0 b10 b11 bz1
      refine (few_any kA kc k lA lc l vA vc v W1).mono ?_
      rintro e W2 ⟨rfl, k⟩
      have KB2 := Lib.hid (KB1.out.trans k)
      clear k
      rw [HF.out]
      obtain ⟨b00, b01, b02, b03, b04⟩ := (HB0.out.kept KB2.out).five
      have bz0 := (HB0.out.kept KB2.out).1
      obtain ⟨b10, b11⟩ := (HB1.out.kept KB2.out).two
      have bz1 := (HB1.out.kept KB2.out).1
      go_wp2_with fail
      clear b00 b01 b02 b03 b04 bz0 b10 b11 bz1
      refine (mayD_any kA kc k W2 (HA.out.kept KB2.out)).mono ?_
      rintro e W3 ⟨rfl, k⟩
      have KB3 := Lib.hid (KB2.out.trans k)
      clear k
      rw [hm]
      obtain ⟨b00, b01, b02, b03, b04⟩ := (HB0.out.kept KB3.out).five
      have bz0 := (HB0.out.kept KB3.out).1
      obtain ⟨b10, b11⟩ := (HB1.out.kept KB3.out).two
      have bz1 := (HB1.out.kept KB3.out).1
      go_wp2_with fail
      clear b00 b01 b02 b03 b04 bz0 b10 b11 bz1
      go_ret
      exact ⟨by first | rfl | (simp; done), K0.out.trans KB3.out⟩
    | true =>
      have HM := Lib.hid hm
      clear hm
      go_enter Try.func6, Try.ntmps6
      go_wp2_with fail
      have K0 := Lib.hid (((Kept.refl w).alloc (.cells #[.slice kA k.ws.length kc, .int .u64 k.seed, .int .i64 k.ep, .int .i64 k.nu, .int .i64 k.de] 25)).alloc (.cells #[.int .u64 x.1, .int .u64 x.2] 29))
      have HA := Lib.hid (khl.kept K0.out)
      clear khl
      have HL := Lib.hid (lhl.kept K0.out)
      clear lhl
      have HV := Lib.hid (vhl.kept K0.out)
      clear vhl
      have HB0 := Lib.hid ((HasCells.new w #[.slice kA k.ws.length kc, .int .u64 k.seed, .int .i64 k.ep, .int .i64 k.nu, .int .i64 k.de] 25 (w.heap.size) (by simp)).alloc (.cells #[.int .u64 x.1, .int .u64 x.2] 29))
      have HB1 := Lib.hid (HasCells.new (w.alloc (.cells #[.slice kA k.ws.length kc, .int .u64 k.seed, .int .i64 k.ep, .int .i64 k.nu, .int .i64 k.de] 25)) #[.int .u64 x.1, .int .u64 x.2] 29 (w.heap.size + 1) (by simp))
      generalize ((w.alloc (.cells #[.slice kA k.ws.length kc, .int .u64 k.seed, .int .i64 k.ep, .int .i64 k.nu, .int .i64 k.de] 25)).alloc (.cells #[.int .u64 x.1, .int .u64 x.2] 29)) = W0 at *
      generalize w.heap.size + 1 = z1 at *
      generalize w.heap.size = z0 at *
      have KB0 := Lib.hid (Kept.refl W0)
      refine (weighAwake W0).mono ?_
      rintro e W1 ⟨rfl, k⟩
      have KB1 := Lib.hid (KB0.out.trans k)
      clear k
      obtain ⟨b00, b01, b02, b03, b04⟩ := (HB0.out.kept KB1.out).five
      have bz0 := (HB0.out.kept KB1.out).1
      obtain ⟨b10, b11⟩ := (HB1.out.kept KB1.out).two
      have bz1 := (HB1.out.kept KB1.out).1
      go_wp2_with fail
      clear b00 b01 b02 b03 b04 bz0 b10 b11 bz1
      refine (few_any kA kc k lA lc l vA vc v W1).mono ?_
      rintro e W2 ⟨rfl, k⟩
      have KB2 := Lib.hid (KB1.out.trans k)
      clear k
      rw [HF.out]
      obtain ⟨b00, b01, b02, b03, b04⟩ := (HB0.out.kept KB2.out).five
      have bz0 := (HB0.out.kept KB2.out).1
      obtain ⟨b10, b11⟩ := (HB1.out.kept KB2.out).two
      have bz1 := (HB1.out.kept KB2.out).1
      go_wp2_with fail
      clear b00 b01 b02 b03 b04 bz0 b10 b11 bz1
      refine (mayD_any kA kc k W2 (HA.out.kept KB2.out)).mono ?_
      rintro e W3 ⟨rfl, k⟩
      have KB3 := Lib.hid (KB2.out.trans k)
      clear k
      rw [HM.out]
      obtain ⟨b00, b01, b02, b03, b04⟩ := (HB0.out.kept KB3.out).five
      have bz0 := (HB0.out.kept KB3.out).1
      obtain ⟨b10, b11⟩ := (HB1.out.kept KB3.out).two
      have bz1 := (HB1.out.kept KB3.out).1
      go_wp2_with fail
      clear b00 b01 b02 b03 b04 bz0 b10 b11 bz1
      have HD := DblAt.new W3 k 25 _ rfl _ rfl
      have HMW := Lib.hid (mayC_yes HM.out)
      generalize W3.alloc _ = V0 at *
      generalize hzd : W3.heap.size = zd at *
      clear hzd
      go_loopw [12] (fun i w' => ∃ (j : Nat) (u : Value), j ≤ k.ws.length ∧ i = .int .i64 (j : Nat) ∧ DblAt W3 zd k u ((k.ws.take j).map (2 * ·)) u w' ∧ ∀ y ∈ k.ws.take j, y ≤ 549755813888) (fun i _ => k.ws.length - (intOf i).toNat)
      case atStart => exact ⟨0, _, by omega, rfl, HD, fun y hy => by simp at hy⟩
      case round =>
        clear HD
        obtain ⟨j, u, hj, rfl, hD, hS⟩ := hrel
        have HD := Lib.hid hD
        have HS := Lib.hid hS
        have k1 := hD.own.2
        clear hD hS
        have KB4 := Lib.hid (KB3.out.trans k1)
        clear k1
        by_cases hlt : j < k.ws.length
        · obtain ⟨zw, ow, rfl, hbw, cw⟩ := int_at HA.out hlt
          have cwb := cw
          have cw := (KB4.out.cell (p := ⟨zw, ow + j, none⟩) hbw).trans cwb
          have HT := Lib.hid (show (k.ws.take (j + 1)).map (2 * ·) = (k.ws.take j).map (2 * ·) ++ [2 * k.ws[j]] by rw [List.take_succ_eq_append_getElem hlt, List.map_append]; rfl)
          have HT2 := Lib.hid (show k.ws.take (j + 1) = k.ws.take j ++ [k.ws[j]] from List.take_succ_eq_append_getElem hlt)
          have hy0 := HMW.out.2.2.1 k.ws[j] (List.getElem_mem hlt)
          have hjw : j ≤ 40 := by omega
          generalize k.ws[j] = y at *
          by_cases hs : y ≤ 549755813888
          · obtain ⟨A1, ca1, rfl⟩ := HD.out.own.slice
            have hll : ((k.ws.take j).map (2 * ·)).length + 1 ≤ 1000000 := by rw [List.length_map, List.length_take]; omega
            have d0 := HD.out.c0
            obtain ⟨e0, e1, e2, e3, e4⟩ := (HB0.out.kept KB3.out).five
            have ez := (HB0.out.kept KB3.out).1
            have hbw3 := Nat.lt_of_lt_of_le hbw KB3.out.size_le
            have cw3 := (KB3.out.cell (p := ⟨zw, ow + j, none⟩) hbw).trans cwb
            have hq3 := (⟨e0, e1, e2, e3, e4, cw3, Kept.refl W3⟩ : _ ∧ _ ∧ _ ∧ _ ∧ _ ∧ _ ∧ _)
            generalize (k.ws.take j).map (2 * ·) = q at *
            obtain ⟨b00, b01, b02, b03, b04⟩ := (HB0.out.kept KB4.out).five
            have bz0 := (HB0.out.kept KB4.out).1
            obtain ⟨b10, b11⟩ := (HB1.out.kept KB4.out).two
            have bz1 := (HB1.out.kept KB4.out).1
            go_wp2_with fail
            have hw2 : IntKind.i64.wrap (2 * y) = 2 * y := by rw [IntKind.wrap_i64]; omega
            refine wp_region_noPanic ?_
            refine wp_region_until 11 (fun w' => w'.cell? ⟨zd, 0, none⟩ = some (.slice A1 q.length ca1) ∧ w'.cell? ⟨z0, 0, none⟩ = some (.slice (some ⟨zw, ow, none⟩) k.ws.length kc) ∧ w'.cell? ⟨z0, 1, none⟩ = some (.int .u64 k.seed) ∧ w'.cell? ⟨z0, 2, none⟩ = some (.int .i64 k.ep) ∧ w'.cell? ⟨z0, 3, none⟩ = some (.int .i64 k.nu) ∧ w'.cell? ⟨z0, 4, none⟩ = some (.int .i64 k.de) ∧ w'.cell? ⟨zw, ow + j, none⟩ = some (.int .i64 y) ∧ Kept W3 w') (by kernel_rfl) ?_ (fun hHeld => ?_)
            · exact ⟨HD.out.drew.c0, keepP6 ez ez ez ez ez hbw3 hq3 HD.out.drew.own.2⟩
            refine wpAnyU_take 0 ?_ (by simp only [List.getElem?_toArray, List.getElem?_cons_succ, List.getElem?_cons_zero]; rfl) (by kernel_rfl) (by kernel_rfl) (by kernel_rfl) (by kernel_rfl) (by kernel_rfl) (by kernel_rfl) (fun _ _ _ h => h) (Or.inl ⟨by rfl, ?_⟩) (by assumption) ?_
            rotate_left
            · intro w hSw
              (try dsimp only at hSw)
              go_simp
              (try with_reducible rfl)
            simp only [Act.put, List.setIfInBounds_toArray, List.set_cons_zero, List.set_cons_succ]
            refine wpAnyU_take 1 ?_ (by simp only [List.getElem?_toArray, List.getElem?_cons_succ, List.getElem?_cons_zero]; rfl) (by kernel_rfl) (by kernel_rfl) (by kernel_rfl) (by kernel_rfl) (by kernel_rfl) (by kernel_rfl) (fun _ _ _ h => h) (Or.inl ⟨by rfl, ?_⟩) (by assumption) ?_
            rotate_left
            · intro w hSw
              (try dsimp only at hSw)
              go_simp
              (try with_reducible rfl)
            simp only [Act.put, List.setIfInBounds_toArray, List.set_cons_zero, List.set_cons_succ]
            refine wpAnyU_take 2 ?_ (by simp only [List.getElem?_toArray, List.getElem?_cons_succ, List.getElem?_cons_zero]; rfl) (by kernel_rfl) (by kernel_rfl) (by kernel_rfl) (by kernel_rfl) (by kernel_rfl) (by kernel_rfl) (fun _ _ _ h => h) (Or.inl ⟨by rfl, ?_⟩) (by assumption) ?_
            rotate_left
            · intro w hSw
              (try dsimp only at hSw)
              go_simp
              (try with_reducible rfl)
            simp only [Act.put, List.setIfInBounds_toArray, List.set_cons_zero, List.set_cons_succ]
            refine wpAnyU_take 3 ?_ (by simp only [List.getElem?_toArray, List.getElem?_cons_succ, List.getElem?_cons_zero]; rfl) (by kernel_rfl) (by kernel_rfl) (by kernel_rfl) (by kernel_rfl) (by kernel_rfl) (by kernel_rfl) (fun _ _ _ h => h) (Or.inl ⟨by rfl, ?_⟩) (by assumption) ?_
            rotate_left
            · intro w hSw
              (try dsimp only at hSw)
              go_simp
              (try with_reducible rfl)
            simp only [Act.put, List.setIfInBounds_toArray, List.set_cons_zero, List.set_cons_succ]
            refine wpAnyU_take 4 ?_ (by simp only [List.getElem?_toArray, List.getElem?_cons_succ, List.getElem?_cons_zero]; rfl) (by kernel_rfl) (by kernel_rfl) (by kernel_rfl) (by kernel_rfl) (by kernel_rfl) (by kernel_rfl) (fun _ _ _ h => h) (Or.inl ⟨by rfl, ?_⟩) (by assumption) ?_
            rotate_left
            · intro w hSw
              (try dsimp only at hSw)
              go_simp
              (try with_reducible rfl)
            simp only [Act.put, List.setIfInBounds_toArray, List.set_cons_zero, List.set_cons_succ]
            refine wpAnyU_take 5 ?_ (by simp only [List.getElem?_toArray, List.getElem?_cons_succ, List.getElem?_cons_zero]; rfl) (by kernel_rfl) (by kernel_rfl) (by kernel_rfl) (by kernel_rfl) (by kernel_rfl) (by kernel_rfl) (fun _ _ _ h => h) (Or.inl ⟨by rfl, ?_⟩) (by assumption) ?_
            rotate_left
            · intro w hSw
              (try dsimp only at hSw)
              go_simp
              (try with_reducible rfl)
            simp only [Act.put, List.setIfInBounds_toArray, List.set_cons_zero, List.set_cons_succ]
            refine wpAnyU_take 6 ?_ (by simp only [List.getElem?_toArray, List.getElem?_cons_succ, List.getElem?_cons_zero]; rfl) (by kernel_rfl) (by kernel_rfl) (by kernel_rfl) (by kernel_rfl) (by kernel_rfl) (by kernel_rfl) (fun _ _ _ h => h) (Or.inl ⟨by rfl, ?_⟩) (by assumption) ?_
            rotate_left
            · intro w hSw
              (try dsimp only at hSw)
              go_simp
              (try with_reducible rfl)
            simp only [Act.put, List.setIfInBounds_toArray, List.set_cons_zero, List.set_cons_succ]
            refine wpAnyU_take 7 ?_ (by simp only [List.getElem?_toArray, List.getElem?_cons_succ, List.getElem?_cons_zero]; rfl) (by kernel_rfl) (by kernel_rfl) (by kernel_rfl) (by kernel_rfl) (by kernel_rfl) (by kernel_rfl) (fun _ _ _ h => h) (Or.inl ⟨by rfl, ?_⟩) (by assumption) ?_
            rotate_left
            · intro w hSw
              (try dsimp only at hSw)
              go_simp
              (try with_reducible rfl)
            simp only [Act.put, List.setIfInBounds_toArray, List.set_cons_zero, List.set_cons_succ]
            refine wpAnyU_one 8 (by kernel_rfl) (by simp only [List.getElem?_toArray, List.getElem?_cons_succ, List.getElem?_cons_zero]; rfl) (fun K hK => ?_)
            go_simp
            refine hK.out _ _ ?_ (fun hHeld2 => ?_)
            · exact ⟨(HD.out.drew.alloc _).c0, keepP6 ez ez ez ez ez hbw3 hq3 (HD.out.drew.alloc _).own.2⟩
            clear hK K hHeld
            have hHeld := hHeld2
            clear hHeld2
            try simp only [Act.put, List.setIfInBounds_toArray, List.set_cons_zero, List.set_cons_succ]
            refine wpAnyU_one 9 (by kernel_rfl) (by simp only [List.getElem?_toArray, List.getElem?_cons_succ, List.getElem?_cons_zero]; rfl) (fun K hK => ?_)
            refine step_dbl (by rfl) (.tmp 46) (.tmp 53) (by rfl) (by rfl) (HD.out.drew.alloc _) _ _ 1 1 [2 * y] (by rfl) rfl (CellsAt.new _ _ _ _ rfl) hll ?_; intro A2 ca2 w' HI'
            refine hK.out _ _ ?_ (fun hHeld2 => ?_)
            · exact ⟨HI'.c0, keepP6 ez ez ez ez ez hbw3 hq3 HI'.own.2⟩
            clear hK K hHeld
            have hHeld := hHeld2
            clear hHeld2
            try simp only [Act.put, List.setIfInBounds_toArray, List.set_cons_zero, List.set_cons_succ]
            refine wpAnyU_one 10 (by kernel_rfl) (by simp only [List.getElem?_toArray, List.getElem?_cons_succ, List.getElem?_cons_zero]; rfl) (fun K hK => ?_)
            go_simp
            refine hK.out _ _ ?_ (fun hHeld2 => ?_)
            · exact ⟨HI'.c0, keepP6 ez ez ez ez ez hbw3 hq3 HI'.own.2⟩
            clear hK K hHeld
            have hHeld := hHeld2
            clear hHeld2
            try simp only [Act.put, List.setIfInBounds_toArray, List.set_cons_zero, List.set_cons_succ]
            refine wpAnyU_last (by kernel_rfl) (by simp only [List.getElem?_toArray, List.getElem?_cons_succ, List.getElem?_cons_zero]; rfl) (by kernel_rfl) (by kernel_rfl) (fun K hK => ?_)
            have fd := HI'.fr 0
            have d0' := HI'.c0
            go_simp
            refine hK.out _ _ ?_
            clear hK K hHeld
            refine NoPanic.normal ?_
            have HE := HI'.store (.slice A2 (q ++ [2 * y]).length ca2)
            rw [show (q ++ [2 * y]).length = q.length + 1 from by simp] at HE
            replace HE := Lib.hid HE
            clear HI' fd d0'
            go_wp2_with fail
            go_roundw
            case rel => exact ⟨j + 1, _, by omega, by go_num, by rw [HT.out]; exact HE.out, fun t ht => by
              rw [HT2.out] at ht
              rcases List.mem_append.1 ht with h | h
              · exact HS.out t h
              · rw [show t = y by simpa using h]; exact hs⟩
            case measure => simp [intOf]; omega
          · obtain ⟨b00, b01, b02, b03, b04⟩ := (HB0.out.kept KB4.out).five
            have bz0 := (HB0.out.kept KB4.out).1
            obtain ⟨b10, b11⟩ := (HB1.out.kept KB4.out).two
            have bz1 := (HB1.out.kept KB4.out).1
            go_wp2_with fail
            go_ret
            exact ⟨by first | rfl | (simp; done), K0.out.trans KB4.out⟩
        · have hjl : j = k.ws.length := by omega
          subst hjl
          rw [List.take_length] at HD HS
          obtain ⟨A1, ca1, rfl⟩ := HD.out.own.slice
          have HDC := Lib.hid (HD.out.own.cells rfl)
          obtain ⟨d0, d1, d2, d3, d4⟩ := HD.out.five.five
          have dz := HD.out.lt
          clear HD
          have HO1 := Lib.hid (fun w' (kk0 : Kept wr w') => (fun (kk : Kept W0 w') => on_any kA kc k lA lc l vA vc v x w' (by omega) (by omega) lhw vhw ⟨hx1, hx2⟩ (HA.out.kept kk) (HL.out.kept kk) (HV.out.kept kk)) (KB4.out.trans kk0))
          have HO2 := Lib.hid (fun w' (kk0 : Kept wr w') => (show Calls Try.prog 11 #[.agg #[.slice A1 (k.ws.map (2 * ·)).length ca1, .int .u64 k.seed, .int .i64 k.ep, .int .i64 k.nu, .int .i64 k.de], .slice lA l.length lc, .slice vA v.length vc, .agg #[.int .u64 x.1, .int .u64 x.2]] w' _ from on_same (dbl_on HM.out HS.out l v x) (on_any A1 ca1 (dblC k) lA lc l vA vc v x w' (by omega) (by omega) lhw vhw ⟨hx1, hx2⟩ (HDC.out.kept kk0) ((HL.out.kept KB4.out).kept kk0) ((HV.out.kept KB4.out).kept kk0))))
          have hp := on_bounds k l v x
          have hpw : IntKind.i64.wrap (2 * onC k l v x) = 2 * onC k l v x := by rw [IntKind.wrap_i64]; omega
          generalize onC k l v x = p at *
          generalize (k.ws.map (2 * ·)).length = nq at *
          obtain ⟨b00, b01, b02, b03, b04⟩ := (HB0.out.kept KB4.out).five
          have bz0 := (HB0.out.kept KB4.out).1
          obtain ⟨b10, b11⟩ := (HB1.out.kept KB4.out).two
          have bz1 := (HB1.out.kept KB4.out).1
          go_wp2_with fail
          go_region_held3 (fun w' => w'.cell? ⟨z0, 0, none⟩ = some (.slice kA k.ws.length kc) ∧ w'.cell? ⟨z0, 1, none⟩ = some (.int .u64 k.seed) ∧ w'.cell? ⟨z0, 2, none⟩ = some (.int .i64 k.ep) ∧ w'.cell? ⟨z0, 3, none⟩ = some (.int .i64 k.nu) ∧ w'.cell? ⟨z0, 4, none⟩ = some (.int .i64 k.de) ∧ w'.cell? ⟨z1, 0, none⟩ = some (.int .u64 x.1) ∧ w'.cell? ⟨z1, 1, none⟩ = some (.int .u64 x.2) ∧ w'.cell? ⟨zd, 0, none⟩ = some (.slice A1 nq ca1) ∧ w'.cell? ⟨zd, 1, none⟩ = some (.int .u64 k.seed) ∧ w'.cell? ⟨zd, 2, none⟩ = some (.int .i64 k.ep) ∧ w'.cell? ⟨zd, 3, none⟩ = some (.int .i64 k.nu) ∧ w'.cell? ⟨zd, 4, none⟩ = some (.int .i64 k.de) ∧ Kept wr w')
            (first | exact ⟨b00, b01, b02, b03, b04, b10, b11, d0, d1, d2, d3, d4, Kept.refl _⟩ | exact ⟨b00, b01, b02, b03, b04, b10, b11, d0, d1, d2, d3, d4, (Kept.refl _).drew⟩ | assumption | exact keepP12 bz0 bz0 bz0 bz0 bz0 bz1 bz1 dz dz dz dz dz (by assumption) (by assumption))
            (first
              | (go_at_call 11; ((first | (with_reducible refine (HO1.out _ (by assumption : _ ∧ _ ∧ _ ∧ _ ∧ _ ∧ _ ∧ _ ∧ _ ∧ _ ∧ _ ∧ _ ∧ _ ∧ Kept wr _).2.2.2.2.2.2.2.2.2.2.2.2).mono ?_) | (with_reducible refine (HO2.out _ (by assumption : _ ∧ _ ∧ _ ∧ _ ∧ _ ∧ _ ∧ _ ∧ _ ∧ _ ∧ _ ∧ _ ∧ _ ∧ Kept wr _).2.2.2.2.2.2.2.2.2.2.2.2).mono ?_)); rintro e w' ⟨rfl, kk⟩)))
          all_goals
            rename_i hh
            have k := hh.2.2.2.2.2.2.2.2.2.2.2.2
            clear hh
            have KB5 := Lib.hid (KB4.out.trans k)
            clear k
            generalize w' = W5 at *
            go_wp2_with fail
            go_ret
            exact ⟨by first | rfl | (simp; done), K0.out.trans KB5.out⟩

/-! ### The row's step -/
set_option maxRecDepth 100000 in
theorem lifted (os : Os) (started : os.Started) (H : Type) (enc : TypeId × Value → H) :
    ReturnsInHanded {} Try.checked os 6 .any (Rows.weighDoubleSpec.pre6 enc Try.prog Try.f6 Rows.weighDoubleRow.domain false) (Rows.weighDoubleSpec.post enc Try.prog Try.f6 false true false false) := by
  refine returnsInHanded_of_change (C := Try.checked) own started (by kernel_rfl) Try.func6
    (ChangeSpec.witness6 (enc := enc) (C := Try.checked) false ⟨#[], #[.agg #[.slice none 0 0, .int .u64 0, .int .i64 0, .int .i64 0, .int .i64 0], .slice none 0 0, .slice none 0 0, .agg #[.int .u64 0, .int .u64 0]], []⟩ 8 (by kernel_rfl) (by kernel_rfl) (by kernel_rfl) (by kernel_rfl)) ?_
  intro W base args ds gs before hval0 hW hcnd _
  have hval : ∀ (j : Nat) t v, Try.f6.params[j]? = some t → args[j]? = some v → Value.okWide Try.prog W .any base t v := hval0
  have hW' := hW
  obtain ⟨p, q, hA0, hV, rfl, hfz, hnd⟩ := hW
  have hA : DataW.TrodAll enc Try.prog W 0 (fun _ => true) true Try.f6.params.toList args.toList ds p := hA0
  rw [Try.params6] at hA hval
  obtain ⟨v0, vs0, d0, ds0, p0, q0, hargs, rfl, rfl, h0, r0⟩ := trodAll_cons hA
  obtain ⟨v1, vs1, d1, ds1, p1, q1, rfl, rfl, rfl, h1, r1⟩ := trodAll_cons r0
  obtain ⟨v2, vs2, d2, ds2, p2, q2, rfl, rfl, rfl, h2, r2⟩ := trodAll_cons r1
  obtain ⟨v3, vs3, d3, ds3, p3, q3, rfl, rfl, rfl, h3, r3⟩ := trodAll_cons r2
  obtain ⟨rfl, rfl, rfl⟩ := trodAll_nil r3
  obtain rfl : args = #[v0, v1, v2, v3] := by cases args; simp_all
  obtain ⟨rfl, rfl⟩ := trodVars_none hV
  obtain ⟨kA, kc, k, rfl, khm, khs, khl⟩ := open_conf (hval 0 _ v0 rfl rfl) h0
  obtain ⟨lA, lc, l, rfl, lhm, lhc, lhw, lhl⟩ := open_blocks (hval 1 _ v1 rfl rfl) h1
  obtain ⟨vA, vc, v, rfl, vhm, vhc, vhw, vhl⟩ := open_votes (hval 2 _ v2 rfl rfl) h2
  obtain ⟨x, rfl, hx1, hx2⟩ := open_id (hval 3 _ v3 rfl rfl) h3
  clear hA0 hval0
  refine (walk W kA kc k khm khs khl lA lc l lhm lhc lhw lhl vA vc v vhm vhc vhw vhl x hx1 hx2).mono fun e W' ⟨he, hb⟩ => ?_
  subst he
  exact ⟨_, rfl, law_post rfl (by kernel_rfl) rfl hW' rfl hb⟩

theorem over : Rows.weighDoubleRow.holds Try.pinned (OpenSpec.ofChange Rows.weighDoubleSpec) :=
  OpenClaim.holds_of_wide 6 Try.f6 rfl rfl rfl rfl rfl rfl rfl ⟨rfl, rfl, rfl, rfl, rfl⟩ rfl rfl rfl rfl rfl (by kernel_rfl) Try.func6 (by kernel_rfl)
    (of_decide_eq_true (by kernel_rfl)) (by unfold Func.isWrapper; first | (rw [if_pos (by decide +kernel)]; kernel_rfl) | (rw [if_neg (by decide +kernel)]; exact ⟨rfl, rfl⟩))
    (fun os started H enc _ => lifted os started H enc)

/-- The statement. -/
theorem proved : Rows.WeighDoubleSaid :=
  over
#print axioms proved

end Go.Proofs.Ytajdhcanajbgoaa.weighDouble
