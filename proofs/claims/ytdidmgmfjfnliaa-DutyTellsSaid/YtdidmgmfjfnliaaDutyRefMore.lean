/-
  The contracts of Total, Weight, Proposer of the given package marigoldref05.
-/
import Derived.Test.YtdidmgmfjfnliaaDutyRef
namespace Go.Proofs.Ytdidmgmfjfnliaa
open Go.ChangeShapes Go.WideShapes Go.ChangeAt Go.RowKit

set_option maxRecDepth 100000 in
set_option maxHeartbeats 1600000 in
theorem refTotal_any (A : Option Addr) (c : Nat) (k : Cf) (w : World) (hn : k.ws.length ≤ 1000) (hA : CellsAt w w.heap.size A (intCells k.ws)) :
    Calls Try.prog 20 #[.agg #[.slice A k.ws.length c, .int .u64 k.seed, .int .i64 k.ep, .int .i64 k.nu, .int .i64 k.de]] w fun e w' => e = .returned (.int .i64 (totalC k)) ∧ Kept w w' := by
  obtain ⟨hC, hA', hK⟩ := conf_box (c := c) hA
  have HC := Lib.hid hC
  have HA := Lib.hid hA'
  have HK := Lib.hid hK
  clear hC hA' hK hA
  cases hm : mayC k with
  | false =>
    have HM := Lib.hid hm
    have HT := Lib.hid (totalC_no hm)
    clear hm
    go_enter Try.func20, Try.ntmps20
    go_wp2_with fail
    refine (refMay5_any A c k _ hn HA.out).mono ?_
    rintro e W ⟨rfl, k1⟩
    rw [HM.out]
    have HK1 := Lib.hid (HK.out.trans k1)
    have HC1 := Lib.hid (HC.out.kept k1)
    obtain ⟨c0, c1, c2, c3, c4⟩ := HC1.out.five
    clear k1 HC HA HK
    go_wp2_with fail
    go_loop [3, 5] (fun s i => s = .int .i64 0 ∧ i = .int .i64 0) (fun _ _ => 0)
    case atStart => exact ⟨rfl, rfl⟩
    case round =>
      obtain ⟨rfl, rfl⟩ := hrel
      by_cases h0 : 0 < k.ws.length
      · go_wp2_with fail
        go_ret
        exact ⟨by rw [HT.out]; rfl, HK1.out⟩
      · have h1 : k.ws.length = 0 := by omega
        have h2 : decide ((0 : Int) < (k.ws.length : Int)) = false := decide_eq_false (by omega)
        clear h1
        go_wp2_with fail
        go_ret
        exact ⟨by rw [HT.out]; rfl, HK1.out⟩
  | true =>
    have HM := Lib.hid hm
    have HT := Lib.hid (totalC_yes hm)
    have HF := Lib.hid (mayC_yes hm).2.2.1
    have hn12 := (mayC_yes hm).2.1
    clear hm
    go_enter Try.func20, Try.ntmps20
    go_wp2_with fail
    refine (refMay5_any A c k _ hn HA.out).mono ?_
    rintro e W ⟨rfl, k1⟩
    rw [HM.out]
    have HK1 := Lib.hid (HK.out.trans k1)
    have HC1 := Lib.hid (HC.out.kept k1)
    have HA1 := Lib.hid (HA.out.kept k1)
    obtain ⟨c0, c1, c2, c3, c4⟩ := HC1.out.five
    clear k1 HC HA HK
    go_wp2_with fail
    go_loop [3, 5] (fun s i => ∃ j : Nat, j ≤ k.ws.length ∧ i = .int .i64 (j : Nat) ∧ s = .int .i64 (weighTo (fun _ => true) k.ws j)) (fun _ i => k.ws.length - (intOf i).toNat)
    case atStart => exact ⟨0, by omega, rfl, rfl⟩
    case round =>
      obtain ⟨j, hj, rfl, rfl⟩ := hrel
      have hs := weighTo_bounds (p := fun _ => true) HF.out j
      by_cases hlt : j < k.ws.length
      · obtain ⟨ad, rfl, hb, hcell⟩ := ints_cell HA1.out hlt
        have hx := weight_at HF.out j
        have HN := Lib.hid (show weighTo (fun _ => true) k.ws (j + 1) = weighTo (fun _ => true) k.ws j + wAt k.ws j by simp [weighTo])
        generalize weighTo (fun _ => true) k.ws j = S at *
        generalize wAt k.ws j = x at *
        go_wp2_with fail
        go_round
        case rel => exact ⟨j + 1, by omega, by go_num, by rw [HN.out]⟩
        case measure => simp [intOf]; omega
      · have hjl : j = k.ws.length := by omega
        subst hjl
        go_wp2_with fail
        go_ret
        exact ⟨by rw [HT.out]; rfl, HK1.out⟩

set_option maxRecDepth 100000 in
set_option maxHeartbeats 1600000 in
theorem refWeight_any (A : Option Addr) (c : Nat) (k : Cf) (B : Option Addr) (l : List Int) (cb : Nat) (w : World) (hn : k.ws.length ≤ 1000) (hl : l.length ≤ 1000000) (hA : CellsAt w w.heap.size A (intCells k.ws)) (hB : CellsAt w w.heap.size B (intCells l)) :
    Calls Try.prog 18 #[.agg #[.slice A k.ws.length c, .int .u64 k.seed, .int .i64 k.ep, .int .i64 k.nu, .int .i64 k.de], .slice B l.length cb] w fun e w' => e = .returned (.int .i64 (weightC k l)) ∧ Kept w w' := by
  obtain ⟨hC, hA', hK⟩ := conf_box (c := c) hA
  have HC := Lib.hid hC
  have HA := Lib.hid hA'
  have HK := Lib.hid hK
  have HB := Lib.hid hB
  clear hC hA' hK hA hB
  cases hm : mayC k with
  | false =>
    have HM := Lib.hid hm
    have HT := Lib.hid (weightC_no l hm)
    clear hm
    go_enter Try.func18, Try.ntmps18
    go_wp2_with fail
    refine (refMay5_any A c k _ hn HA.out).mono ?_
    rintro e W ⟨rfl, k1⟩
    rw [HM.out]
    have HK1 := Lib.hid (HK.out.trans k1)
    have HC1 := Lib.hid (HC.out.kept k1)
    obtain ⟨c0, c1, c2, c3, c4⟩ := HC1.out.five
    clear k1 HC HA HK
    go_wp2_with fail
    go_loop [5, 7] (fun s i => s = .int .i64 0 ∧ i = .int .i64 0) (fun _ _ => 0)
    case atStart => exact ⟨rfl, rfl⟩
    case round =>
      obtain ⟨rfl, rfl⟩ := hrel
      by_cases h0 : 0 < k.ws.length
      · go_wp2_with fail
        go_ret
        exact ⟨by rw [HT.out]; rfl, HK1.out⟩
      · have h2 : decide ((0 : Int) < (k.ws.length : Int)) = false := decide_eq_false (by omega)
        go_wp2_with fail
        go_ret
        exact ⟨by rw [HT.out]; rfl, HK1.out⟩
  | true =>
    have HM := Lib.hid hm
    have HT := Lib.hid (weightC_yes l hm)
    have HF := Lib.hid (mayC_yes hm).2.2.1
    have hn12 := (mayC_yes hm).2.1
    clear hm
    go_enter Try.func18, Try.ntmps18
    go_wp2_with fail
    refine (refMay5_any A c k _ hn HA.out).mono ?_
    rintro e W ⟨rfl, k1⟩
    rw [HM.out]
    have HK1 := Lib.hid (HK.out.trans k1)
    have HC1 := Lib.hid (HC.out.kept k1)
    have HA1 := Lib.hid (HA.out.kept k1)
    have HB1 := Lib.hid (HB.out.kept HK1.out)
    obtain ⟨c0, c1, c2, c3, c4⟩ := HC1.out.five
    clear k1 HC HA HK HB
    go_wp2_with fail
    go_loop [5, 7] (fun s i => ∃ j : Nat, j ≤ k.ws.length ∧ i = .int .i64 (j : Nat) ∧ s = .int .i64 (weighTo (inList l) k.ws j)) (fun _ i => k.ws.length - (intOf i).toNat)
    case atStart => exact ⟨0, by omega, rfl, rfl⟩
    case round =>
      obtain ⟨j, hj, rfl, rfl⟩ := hrel
      have hs := weighTo_bounds (p := inList l) HF.out j
      by_cases hlt : j < k.ws.length
      · obtain ⟨ad, rfl, hb, hcell⟩ := ints_cell HA1.out hlt
        have hx := weight_at HF.out j
        have HHas := Lib.hid (refHas_any B cb l (j : Int) W hl HB1.out)
        have HI := Lib.hid (show hasI l (j : Int) = inList l j from rfl)
        have HN := Lib.hid (show weighTo (inList l) k.ws (j + 1) = weighTo (inList l) k.ws j + (if inList l j = true then wAt k.ws j else 0) from rfl)
        generalize weighTo (inList l) k.ws j = S at *
        generalize wAt k.ws j = x at *
        go_wp2_with fail
        refine HHas.out.mono ?_
        rintro e w' ⟨rfl, rfl⟩
        rw [HI.out]
        cases hi : inList l j with
        | true =>
          rw [hi, if_pos rfl] at HN
          go_wp2_with fail
          go_round
          case rel => exact ⟨j + 1, by omega, by go_num, by rw [HN.out]⟩
          case measure => simp [intOf]; omega
        | false =>
          rw [hi, if_neg (by decide), Int.add_zero] at HN
          go_wp2_with fail
          go_round
          case rel => exact ⟨j + 1, by omega, by go_num, by rw [HN.out]⟩
          case measure => simp [intOf]; omega
      · have hjl : j = k.ws.length := by omega
        subst hjl
        go_wp2_with fail
        go_ret
        exact ⟨by rw [HT.out]; rfl, HK1.out⟩

set_option maxHeartbeats 1600000 in
theorem refProp_any (A : Option Addr) (c : Nat) (k : Cf) (slot : Int) (w : World) (hn : k.ws.length ≤ 1000) (hA : CellsAt w w.heap.size A (intCells k.ws)) (hsd : k.seed < 18446744073709551616) :
    Calls Try.prog 23 #[.agg #[.slice A k.ws.length c, .int .u64 k.seed, .int .i64 k.ep, .int .i64 k.nu, .int .i64 k.de], .int .i64 slot] w fun e w' => e = .returned (.int .i64 (propC k slot)) ∧ Kept w w' := by
  obtain ⟨hC, hA', hK⟩ := conf_box (c := c) hA
  have HC := Lib.hid hC
  have HA := Lib.hid hA'
  have HK := Lib.hid hK
  clear hC hA' hK hA
  cases hm : mayC k with
  | false =>
    have HM := Lib.hid hm
    have HR := Lib.hid (propC_no (dutyC_may (slot := slot) hm))
    clear hm
    generalize hsl : decide (1 ≤ slot ∧ slot ≤ 1048576) = b at *
    have HS := Lib.hid (fun w' => hsl ▸ slots_any slot w')
    clear hsl
    go_enter Try.func23, Try.ntmps23
    go_wp2_with fail
    refine (refMay5_any A c k _ hn HA.out).mono ?_
    rintro e W ⟨rfl, k1⟩
    rw [HM.out]
    have HK1 := Lib.hid (HK.out.trans k1)
    clear k1 HC HA HK
    go_wp2_with fail
    refine (HS.out _).mono ?_
    rintro e w' ⟨rfl, rfl⟩
    go_wp2_with fail
    go_ret
    exact ⟨by rw [HR.out]; rfl, HK1.out⟩
  | true =>
    cases hsl : decide (1 ≤ slot ∧ slot ≤ 1048576) with
    | false =>
      have HM := Lib.hid hm
      have HR := Lib.hid (propC_no ((dutyC_slot hm).trans hsl))
      have HS := Lib.hid (fun w' => hsl ▸ slots_any slot w')
      clear hm hsl
      go_enter Try.func23, Try.ntmps23
      go_wp2_with fail
      refine (refMay5_any A c k _ hn HA.out).mono ?_
      rintro e W ⟨rfl, k1⟩
      rw [HM.out]
      have HK1 := Lib.hid (HK.out.trans k1)
      clear k1 HC HA HK
      go_wp2_with fail
      refine (HS.out _).mono ?_
      rintro e w' ⟨rfl, rfl⟩
      go_wp2_with fail
      go_ret
      exact ⟨by rw [HR.out]; rfl, HK1.out⟩
    | true =>
      have HM := Lib.hid hm
      have hd := (dutyC_slot hm).trans hsl
      have HS := Lib.hid (fun w' => hsl ▸ slots_any slot w')
      obtain ⟨E, s, he, hs, h1, h2, h3, h4, h5, h6⟩ := duty_nats hd
      have HR := Lib.hid (show propC k slot = ((stepN (stepN k.seed 4294967296) s % k.ws.length : Nat) : Int) by unfold propC propN; rw [if_pos hd, hs, Int.toNat_natCast])
      have hsw : IntKind.u64.wrap slot = (s : Int) := by rw [hs, IntKind.wrap_u64]; omega
      have hnw : IntKind.u64.wrap (k.ws.length : Int) = (k.ws.length : Int) := by rw [IntKind.wrap_u64]; omega
      have HS1 := Lib.hid (fun w' => refStep_any k.seed 4294967296 hsd (by omega) w')
      have HS2 := Lib.hid (fun w' => refStep_any (stepN k.seed 4294967296) s (stepN_lt _ _) (by omega) w')
      have htm : ((stepN (stepN k.seed 4294967296) s : Nat) : Int).tmod (k.ws.length : Int) = ((stepN (stepN k.seed 4294967296) s % k.ws.length : Nat) : Int) := (Int.ofNat_tmod _ _).symm
      have hlt : stepN (stepN k.seed 4294967296) s % k.ws.length < k.ws.length := Nat.mod_lt _ (by omega)
      have hnz : ¬ k.ws.length = 0 := by omega
      generalize stepN (stepN k.seed 4294967296) s % k.ws.length = x at *
      generalize stepN (stepN k.seed 4294967296) s = y at *
      generalize stepN k.seed 4294967296 = y1 at *
      clear hd he hs hm hsl
      go_enter Try.func23, Try.ntmps23
      go_wp2_with fail
      refine (refMay5_any A c k _ hn HA.out).mono ?_
      rintro e W ⟨rfl, k1⟩
      rw [HM.out]
      have HK1 := Lib.hid (HK.out.trans k1)
      have HC1 := Lib.hid (HC.out.kept k1)
      obtain ⟨c0, c1, c2, c3, c4⟩ := HC1.out.five
      clear k1 HC HA HK
      go_wp2_with fail
      refine (HS.out _).mono ?_
      rintro e w' ⟨rfl, rfl⟩
      go_wp2_with fail
      refine (HS1.out _).mono ?_
      rintro e w' ⟨rfl, rfl⟩
      go_wp2_with fail
      refine (HS2.out _).mono ?_
      rintro e w' ⟨rfl, rfl⟩
      go_wp2_with fail
      go_ret
      exact ⟨by rw [HR.out]; rfl, HK1.out⟩

end Go.Proofs.Ytdidmgmfjfnliaa
