/-
  The contract of Has of the given package marigoldref05.
  The contracts of the calls of the given package marigoldref05.
  The contracts of Total, Weight, Proposer of the given package marigoldref05.
  The contracts of Committee and In of the given package marigoldref05.
-/
import Derived.Test.YtpojiijgahcidaaGreatDutyG
import Derived.Test.YtpojiijgahcidaaGreatShufRef
namespace Go.Proofs.YtpojiijgahcidaaGreat
set_option maxRecDepth 100000
set_option linter.unusedVariables false
set_option linter.unusedSimpArgs false
section
open Go.ChangeShapes Go.WideShapes Go.ChangeAt Go.RowKit

def hasI (l : List Int) (n : Int) : Bool := decide (n ∈ l)
theorem take_miss {l : List Int} {j : Nat} {n : Int} (hj : j < l.length) (h : n ∉ l.take j) (hx : ¬ wAt l j = n) : n ∉ l.take (j + 1) := by
  rw [take_snoc hj]
  simp
  exact ⟨h, fun e => hx e.symm⟩
set_option maxHeartbeats 800000 in
theorem refHas_any (A : Option Addr) (c : Nat) (l : List Int) (n : Int) (w : World) (hl : l.length ≤ 1000000) (hA : CellsAt w w.heap.size A (intCells l)) :
    Calls Tryz.prog 24 #[.slice A l.length c, .int .i64 n] w fun e w' => e = .returned (.bool (hasI l n)) ∧ w' = w := by
  have HA := Lib.hid hA
  clear hA
  go_enter Tryz.func24, Tryz.ntmps24
  go_wp2_with fail
  go_loop [5] (fun i => ∃ j : Nat, j ≤ l.length ∧ i = .int .i64 (j : Nat) ∧ n ∉ l.take j) (fun i => l.length - (intOf i).toNat)
  case atStart => exact ⟨0, by omega, rfl, by simp⟩
  case round =>
    obtain ⟨j, hj, rfl, hno⟩ := hrel
    have HN := Lib.hid hno
    clear hno
    by_cases hlt : j < l.length
    · obtain ⟨ad, rfl, hb, hcell⟩ := ints_cell HA.out hlt
      by_cases hx : wAt l j = n
      · have HH := Lib.hid (show hasI l n = true from decide_eq_true (by rw [← hx]; exact wAt_mem hlt))
        rw [hx] at hcell
        clear hx
        go_wp2_with fail
        go_ret
        exact ⟨by rw [HH.out]; rfl, rfl⟩
      · have HM := Lib.hid (take_miss hlt HN.out hx)
        have hxb : (wAt l j == n) = false := by simpa using hx
        clear hx
        generalize wAt l j = x at *
        go_wp2_with fail
        go_round
        case rel => exact ⟨j + 1, by omega, by go_num, HM.out⟩
        case measure => simp [intOf]; omega
    · have hjl : j = l.length := by omega
      subst hjl
      have HH := Lib.hid (show hasI l n = false from decide_eq_false (by have := HN.out; rwa [List.take_length] at this))
      go_wp2_with fail
      go_ret
      exact ⟨by rw [HH.out]; rfl, rfl⟩
end

section
open Go.ChangeShapes Go.WideShapes Go.ChangeAt Go.RowKit

theorem mayC_no {k : Cf} (h : ¬ (1 ≤ k.ws.length ∧ k.ws.length ≤ 12 ∧ 1 ≤ k.ep ∧ k.ep ≤ 8 ∧ 0 ≤ k.nu ∧ k.nu ≤ k.de ∧ 1 ≤ k.de ∧ k.de ≤ 1000)) : mayC k = false :=
  decide_eq_false fun ⟨h1, h2, _, h4, h5, h6, h7, h8, h9⟩ => h ⟨h1, h2, h4, h5, h8, h9, h6, h7⟩
theorem mayC_bad {k : Cf} {j : Nat} (hj : j < k.ws.length) (h : ¬ (0 ≤ wAt k.ws j ∧ wAt k.ws j ≤ 1099511627776)) : mayC k = false := decide_eq_false fun hm => h (hm.2.2.1 _ (wAt_mem hj))

set_option maxRecDepth 100000 in
set_option maxHeartbeats 3200000 in
theorem refMay5_any (A : Option Addr) (c : Nat) (k : Cf) (w : World) (hn : k.ws.length ≤ 1000) (hA : CellsAt w w.heap.size A (intCells k.ws)) :
    Calls Tryz.prog 49 #[.agg #[.slice A k.ws.length c, .int .u64 k.seed, .int .i64 k.ep, .int .i64 k.nu, .int .i64 k.de]] w fun e w' => e = .returned (.bool (mayC k)) ∧ Kept w w' := by
  obtain ⟨hC, hA', hK⟩ := conf_box (c := c) hA
  have HC := Lib.hid hC
  have HA := Lib.hid hA'
  have HK := Lib.hid hK
  clear hC hA' hK hA
  go_enter Tryz.func49, Tryz.ntmps49
  go_wp2_with fail
  generalize w.alloc (.cells #[.slice A k.ws.length c, .int .u64 k.seed, .int .i64 k.ep, .int .i64 k.nu, .int .i64 k.de] 25) = W at *
  generalize w.heap.size = z at *
  obtain ⟨c0, c1, c2, c3, c4⟩ := HC.out.five
  go_loop [4] (fun i => ∃ j : Nat, j ≤ k.ws.length ∧ i = .int .i64 (j : Nat) ∧ ∀ x ∈ k.ws.take j, 0 ≤ x ∧ x ≤ 1099511627776) (fun i => k.ws.length - (intOf i).toNat)
  case atStart => exact ⟨0, by omega, rfl, by simp⟩
  case round =>
    obtain ⟨j, hj, rfl, hfine⟩ := hrel
    have HF := Lib.hid hfine
    clear hfine
    by_cases hlt : j < k.ws.length
    · obtain ⟨ad, rfl, hb, hcell⟩ := ints_cell HA.out hlt
      by_cases c5 : wAt k.ws j < 0
      · have HM := Lib.hid (mayC_bad hlt (by omega))
        generalize wAt k.ws j = x at *
        go_wp2_with fail
        go_ret
        exact ⟨by rw [HM.out]; rfl, HK.out⟩
      · by_cases c6 : wAt k.ws j > 1099511627776
        · have HM := Lib.hid (mayC_bad hlt (by omega))
          generalize wAt k.ws j = x at *
          go_wp2_with fail
          go_ret
          exact ⟨by rw [HM.out]; rfl, HK.out⟩
        · have HS := Lib.hid (show ∀ x ∈ k.ws.take (j + 1), 0 ≤ x ∧ x ≤ 1099511627776 from fun x hx => by
            rw [take_snoc hlt] at hx
            rcases List.mem_append.1 hx with hx | hx
            · exact HF.out x hx
            · simp at hx; subst hx; omega)
          generalize wAt k.ws j = x at *
          go_wp2_with fail
          go_round
          case rel => exact ⟨j + 1, by omega, by go_num, HS.out⟩
          case measure => simp [intOf]; omega
    · have hjl : j = k.ws.length := by omega
      subst hjl
      have HW := Lib.hid (show ∀ x ∈ k.ws, 0 ≤ x ∧ x ≤ 1099511627776 from by have := HF.out; rwa [List.take_length] at this)
      by_cases g0 : 1 ≤ k.ws.length
      · skip
        by_cases g1 : k.ws.length ≤ 12
        · skip
          by_cases g2 : 1 ≤ k.ep
          · skip
            by_cases g3 : k.ep ≤ 8
            · skip
              by_cases g4 : 0 ≤ k.nu
              · skip
                by_cases g5 : k.nu ≤ k.de
                · skip
                  by_cases g6 : 1 ≤ k.de
                  · skip
                    by_cases g7 : k.de ≤ 1000
                    · skip
                      have HM := Lib.hid (show mayC k = true from decide_eq_true ⟨g0, g1, HW.out, g2, g3, g6, g7, g4, g5⟩)
                      go_wp2_with fail
                      go_ret
                      exact ⟨by rw [HM.out]; first | rfl | (simp; done) | (simp; omega), HK.out⟩
                    · have HM := Lib.hid (mayC_no (k := k) (by omega))
                      go_wp2_with fail
                      go_ret
                      exact ⟨by rw [HM.out]; first | rfl | (simp; done) | (simp; omega), HK.out⟩
                  · have HM := Lib.hid (mayC_no (k := k) (by omega))
                    go_wp2_with fail
                    go_ret
                    exact ⟨by rw [HM.out]; first | rfl | (simp; done) | (simp; omega), HK.out⟩
                · have HM := Lib.hid (mayC_no (k := k) (by omega))
                  go_wp2_with fail
                  go_ret
                  exact ⟨by rw [HM.out]; first | rfl | (simp; done) | (simp; omega), HK.out⟩
              · have HM := Lib.hid (mayC_no (k := k) (by omega))
                go_wp2_with fail
                go_ret
                exact ⟨by rw [HM.out]; first | rfl | (simp; done) | (simp; omega), HK.out⟩
            · have HM := Lib.hid (mayC_no (k := k) (by omega))
              go_wp2_with fail
              go_ret
              exact ⟨by rw [HM.out]; first | rfl | (simp; done) | (simp; omega), HK.out⟩
          · have HM := Lib.hid (mayC_no (k := k) (by omega))
            go_wp2_with fail
            go_ret
            exact ⟨by rw [HM.out]; first | rfl | (simp; done) | (simp; omega), HK.out⟩
        · have HM := Lib.hid (mayC_no (k := k) (by omega))
          go_wp2_with fail
          go_ret
          exact ⟨by rw [HM.out]; first | rfl | (simp; done) | (simp; omega), HK.out⟩
      · have HM := Lib.hid (mayC_no (k := k) (by omega))
        go_wp2_with fail
        go_ret
        exact ⟨by rw [HM.out]; first | rfl | (simp; done) | (simp; omega), HK.out⟩

set_option maxHeartbeats 400000 in
theorem slots_any (slot : Int) (w : World) : Calls Tryz.prog 50 #[.int .i64 slot] w fun e w' => e = .returned (.bool (decide (1 ≤ slot ∧ slot ≤ 1048576))) ∧ w' = w := by
  by_cases h1 : 1 ≤ slot
  · by_cases h2 : slot ≤ 1048576
    · have HD := Lib.hid (show decide (1 ≤ slot ∧ slot ≤ 1048576) = true from decide_eq_true ⟨h1, h2⟩)
      rw [HD.out]
      go_enter Tryz.func50, Tryz.ntmps50
      go_wp2
      go_ret
      exact ⟨rfl, rfl⟩
    · have HD := Lib.hid (show decide (1 ≤ slot ∧ slot ≤ 1048576) = false from decide_eq_false (by omega))
      rw [HD.out]
      go_enter Tryz.func50, Tryz.ntmps50
      go_wp2
      go_ret
      exact ⟨by first | rfl | (simp; done) | (simp; omega), rfl⟩
  · have HD := Lib.hid (show decide (1 ≤ slot ∧ slot ≤ 1048576) = false from decide_eq_false (by omega))
    rw [HD.out]
    go_enter Tryz.func50, Tryz.ntmps50
    go_wp2
    go_ret
    exact ⟨by first | rfl | (simp; done) | (simp; omega), rfl⟩
end

section
open Go.ChangeShapes Go.WideShapes Go.ChangeAt Go.RowKit

set_option maxRecDepth 100000 in
set_option maxHeartbeats 1600000 in
theorem refWeight_any (A : Option Addr) (c : Nat) (k : Cf) (B : Option Addr) (l : List Int) (cb : Nat) (w : World) (hn : k.ws.length ≤ 1000) (hl : l.length ≤ 1000000) (hA : CellsAt w w.heap.size A (intCells k.ws)) (hB : CellsAt w w.heap.size B (intCells l)) :
    Calls Tryz.prog 27 #[.agg #[.slice A k.ws.length c, .int .u64 k.seed, .int .i64 k.ep, .int .i64 k.nu, .int .i64 k.de], .slice B l.length cb] w fun e w' => e = .returned (.int .i64 (weightC k l)) ∧ Kept w w' := by
  obtain ⟨hC, hA', hK⟩ := conf_box (c := c) hA
  have HC := Lib.hid hC
  have HA := Lib.hid hA'
  have HK := Lib.hid hK
  have HB := Lib.hid hB
  clear hC hA' hK hA hB
  cases hm : mayC k with
  | false =>
    have HM := Lib.hid hm
    have HT := Lib.hid (weightC_no l hm)
    clear hm
    go_enter Tryz.func27, Tryz.ntmps27
    go_wp2_with fail
    refine (refMay5_any A c k _ hn HA.out).mono ?_
    rintro e W ⟨rfl, k1⟩
    rw [HM.out]
    have HK1 := Lib.hid (HK.out.trans k1)
    have HC1 := Lib.hid (HC.out.kept k1)
    obtain ⟨c0, c1, c2, c3, c4⟩ := HC1.out.five
    clear k1 HC HA HK
    go_wp2_with fail
    go_loop [5, 7] (fun s i => s = .int .i64 0 ∧ i = .int .i64 0) (fun _ _ => 0)
    case atStart => exact ⟨rfl, rfl⟩
    case round =>
      obtain ⟨rfl, rfl⟩ := hrel
      by_cases h0 : 0 < k.ws.length
      · go_wp2_with fail
        go_ret
        exact ⟨by rw [HT.out]; rfl, HK1.out⟩
      · have h2 : decide ((0 : Int) < (k.ws.length : Int)) = false := decide_eq_false (by omega)
        go_wp2_with fail
        go_ret
        exact ⟨by rw [HT.out]; rfl, HK1.out⟩
  | true =>
    have HM := Lib.hid hm
    have HT := Lib.hid (weightC_yes l hm)
    have HF := Lib.hid (mayC_yes hm).2.2.1
    have hn12 := (mayC_yes hm).2.1
    clear hm
    go_enter Tryz.func27, Tryz.ntmps27
    go_wp2_with fail
    refine (refMay5_any A c k _ hn HA.out).mono ?_
    rintro e W ⟨rfl, k1⟩
    rw [HM.out]
    have HK1 := Lib.hid (HK.out.trans k1)
    have HC1 := Lib.hid (HC.out.kept k1)
    have HA1 := Lib.hid (HA.out.kept k1)
    have HB1 := Lib.hid (HB.out.kept HK1.out)
    obtain ⟨c0, c1, c2, c3, c4⟩ := HC1.out.five
    clear k1 HC HA HK HB
    go_wp2_with fail
    go_loop [5, 7] (fun s i => ∃ j : Nat, j ≤ k.ws.length ∧ i = .int .i64 (j : Nat) ∧ s = .int .i64 (weighTo (inList l) k.ws j)) (fun _ i => k.ws.length - (intOf i).toNat)
    case atStart => exact ⟨0, by omega, rfl, rfl⟩
    case round =>
      obtain ⟨j, hj, rfl, rfl⟩ := hrel
      have hs := weighTo_bounds (p := inList l) HF.out j
      by_cases hlt : j < k.ws.length
      · obtain ⟨ad, rfl, hb, hcell⟩ := ints_cell HA1.out hlt
        have hx := weight_at HF.out j
        have HHas := Lib.hid (refHas_any B cb l (j : Int) W hl HB1.out)
        have HI := Lib.hid (show hasI l (j : Int) = inList l j from rfl)
        have HN := Lib.hid (show weighTo (inList l) k.ws (j + 1) = weighTo (inList l) k.ws j + (if inList l j = true then wAt k.ws j else 0) from rfl)
        generalize weighTo (inList l) k.ws j = S at *
        generalize wAt k.ws j = x at *
        go_wp2_with fail
        refine HHas.out.mono ?_
        rintro e w' ⟨rfl, rfl⟩
        rw [HI.out]
        cases hi : inList l j with
        | true =>
          rw [hi, if_pos rfl] at HN
          go_wp2_with fail
          go_round
          case rel => exact ⟨j + 1, by omega, by go_num, by rw [HN.out]⟩
          case measure => simp [intOf]; omega
        | false =>
          rw [hi, if_neg (by decide), Int.add_zero] at HN
          go_wp2_with fail
          go_round
          case rel => exact ⟨j + 1, by omega, by go_num, by rw [HN.out]⟩
          case measure => simp [intOf]; omega
      · have hjl : j = k.ws.length := by omega
        subst hjl
        go_wp2_with fail
        go_ret
        exact ⟨by rw [HT.out]; rfl, HK1.out⟩
end

section
open Go.ChangeShapes Go.WideShapes Go.ChangeAt Go.RowKit

set_option maxHeartbeats 1600000 in
theorem refComm_no (A : Option Addr) (c : Nat) (k : Cf) (slot : Int) (w : World) (hn : k.ws.length ≤ 1000) (hA : CellsAt w w.heap.size A (intCells k.ws)) (hd : dutyC k slot = false) :
    Calls Tryz.prog 28 #[.agg #[.slice A k.ws.length c, .int .u64 k.seed, .int .i64 k.ep, .int .i64 k.nu, .int .i64 k.de], .int .i64 slot] w fun e w' => ∃ A' c', e = .returned (.slice A' (commC k slot).length c') ∧ CellsAt w' w'.heap.size A' (intCells (commC k slot)) ∧ Kept w w' := by
  obtain ⟨hC, hA', hK⟩ := conf_box (c := c) hA
  have HC := Lib.hid hC
  have HA := Lib.hid hA'
  have HK := Lib.hid hK
  have HR := Lib.hid (commC_no hd)
  clear hC hA' hK hA
  cases hm : mayC k with
  | false =>
    have HM := Lib.hid hm
    clear hm hd
    generalize hsl : decide (1 ≤ slot ∧ slot ≤ 1048576) = b at *
    have HS := Lib.hid (fun w' => hsl ▸ slots_any slot w')
    clear hsl
    go_enter Tryz.func28, Tryz.ntmps28
    go_wp2_with fail
    refine (refMay5_any A c k _ hn HA.out).mono ?_
    rintro e W ⟨rfl, k1⟩
    rw [HM.out]
    have HK1 := Lib.hid (HK.out.trans k1)
    clear k1 HC HA HK
    go_wp2_with fail
    refine (HS.out _).mono ?_
    rintro e w' ⟨rfl, rfl⟩
    go_wp2_with fail
    go_ret
    exact ⟨none, 0, by rw [HR.out]; rfl, by rw [HR.out]; exact CellsAt.nil, HK1.out⟩
  | true =>
    have HM := Lib.hid hm
    have hsl : decide (1 ≤ slot ∧ slot ≤ 1048576) = false := (dutyC_slot hm).symm.trans hd
    have HS := Lib.hid (fun w' => hsl ▸ slots_any slot w')
    clear hm hd hsl
    go_enter Tryz.func28, Tryz.ntmps28
    go_wp2_with fail
    refine (refMay5_any A c k _ hn HA.out).mono ?_
    rintro e W ⟨rfl, k1⟩
    rw [HM.out]
    have HK1 := Lib.hid (HK.out.trans k1)
    clear k1 HC HA HK
    go_wp2_with fail
    refine (HS.out _).mono ?_
    rintro e w' ⟨rfl, rfl⟩
    go_wp2_with fail
    go_ret
    exact ⟨none, 0, by rw [HR.out]; rfl, by rw [HR.out]; exact CellsAt.nil, HK1.out⟩

set_option maxRecDepth 100000 in
set_option maxHeartbeats 3200000 in
theorem refComm_nat (A : Option Addr) (c : Nat) (k : Cf) (s E : Nat) (w : World) (hn : k.ws.length ≤ 1000) (hA : CellsAt w w.heap.size A (intCells k.ws)) (hsd : k.seed < 18446744073709551616)
    (hm : mayC k = true) (hep : k.ep = (E : Int)) (hE : 1 ≤ E) (hE8 : E ≤ 8) (hs1 : 1 ≤ s) (hs : s ≤ 1048576) :
    Calls Tryz.prog 28 #[.agg #[.slice A k.ws.length c, .int .u64 k.seed, .int .i64 k.ep, .int .i64 k.nu, .int .i64 k.de], .int .i64 (s : Int)] w fun e w' => ∃ A' c', e = .returned (.slice A' (commTo (memN k.seed k.ws.length E s) k.ws.length).length c') ∧
      CellsAt w' w'.heap.size A' (intCells (commTo (memN k.seed k.ws.length E s) k.ws.length)) ∧ Kept w w' := by
  obtain ⟨hC, hA', hK⟩ := conf_box (c := c) hA
  have HC := Lib.hid hC
  have HA := Lib.hid hA'
  have HK := Lib.hid hK
  have HM := Lib.hid hm
  have hn1 := (mayC_yes hm).1
  have hsl : decide (1 ≤ (s : Int) ∧ (s : Int) ≤ 1048576) = true := decide_eq_true (by omega)
  have HS := Lib.hid (fun w' => hsl ▸ slots_any (s : Int) w')
  clear hsl
  have hEz : ¬ E = 0 := by omega
  have hq : (s : Int).tdiv (E : Int) = ((s / E : Nat) : Int) := (Int.ofNat_tdiv s E).symm
  have hql : s / E ≤ s := Nat.div_le_self s E
  have HP := Lib.hid (fun who => show memN k.seed k.ws.length E s who = decide (atN (stepN k.seed (s / E)) k.ws.length who % E = s % E) from rfl)
  have hr : (s : Int).tmod (E : Int) = ((s % E : Nat) : Int) := (Int.ofNat_tmod s E).symm
  generalize s / E = q at *
  have hqw : IntKind.u64.wrap (q : Int) = (q : Int) := by rw [IntKind.wrap_u64]; omega
  have hqi : IntKind.i64.wrap (q : Int) = (q : Int) := by rw [IntKind.wrap_i64]; omega
  have hdl := stepN_lt k.seed q
  have HST := Lib.hid (fun w' => refStep_any k.seed q hsd (by omega) w')
  generalize stepN k.seed q = d at *
  have HAT := Lib.hid (fun i (hi : i < k.ws.length) w' => refAt_yes d k.ws.length i w' hdl hn1 hn hi)
  generalize memN k.seed k.ws.length E s = p at *
  have HEP := Lib.hid hep
  clear hC hA' hK hA hm hep
  go_enter Tryz.func28, Tryz.ntmps28
  go_wp2_with fail
  refine (refMay5_any A c k _ hn HA.out).mono ?_
  rintro e W ⟨rfl, k1⟩
  rw [HM.out]
  have HK1 := Lib.hid (HK.out.trans k1)
  have HC1 := Lib.hid (HC.out.kept k1)
  obtain ⟨c0, c1, c2, c3, c4⟩ := HC1.out.five
  have hz := HC1.out.1
  clear k1 HC HA HK
  rw [HEP.out] at c2
  go_wp2_with fail
  refine (HS.out _).mono ?_
  rintro e W2 ⟨rfl, rfl⟩
  go_wp2_with fail
  generalize w.heap.size = z at *
  go_region_held3 (fun w' => w'.cell? ⟨z, 0, none⟩ = some (.slice A k.ws.length c) ∧ w'.cell? ⟨z, 1, none⟩ = some (.int .u64 k.seed) ∧ w'.cell? ⟨z, 2, none⟩ = some (.int .i64 (E : Int)) ∧ Kept W2 w')
    (first | exact ⟨c0, c1, c2, Kept.refl _⟩ | exact ⟨c0, c1, c2, (Kept.refl _).drew⟩ | assumption | exact three_keep hz (by assumption) (by assumption))
    (first
      | (go_at_call 51; ((with_reducible refine (HST.out _).mono ?_); rintro e w' ⟨rfl, rfl⟩)))
  rename_i hh
  obtain ⟨d0, d1, d2, dk⟩ := hh
  clear c0 c1 c2 c3 c4
  have HD := Lib.hid (show ∀ w', Kept W2 w' → w'.cell? ⟨z, 0, none⟩ = some (.slice A k.ws.length c) ∧ w'.cell? ⟨z, 1, none⟩ = some (.int .u64 k.seed) ∧ w'.cell? ⟨z, 2, none⟩ = some (.int .i64 (E : Int)) from fun w' hk => by
    obtain ⟨c0, c1, c2, _, _⟩ := (HC1.out.kept hk).five
    exact ⟨c0, c1, by rw [← HEP.out]; exact c2⟩)
  have HI0 := Lib.hid (show Ints W2 [] (.slice none 0 0) W2.drew from ⟨World.ownsRow_nil _ _ _ _, (Kept.refl _).drew⟩)
  clear d0 d1 d2 dk
  go_wp2_with fail
  go_loopw [8, 9] (fun v i w' => ∃ j : Nat, j ≤ k.ws.length ∧ i = .int .i64 (j : Nat) ∧ Ints W2 (commTo p j) v w') (fun _ i _ => k.ws.length - (intOf i).toNat)
  case atStart => exact ⟨0, by omega, rfl, HI0.out⟩
  case round =>
    obtain ⟨j, hj, rfl, hI⟩ := hrel
    have HI := Lib.hid hI
    clear hI
    obtain ⟨c0, c1, c2⟩ := HD.out wr HI.out.2
    have hzr : z < wr.heap.size := Nat.lt_of_lt_of_le hz HI.out.2.size_le
    by_cases hlt : j < k.ws.length
    · have HA1 := Lib.hid (HAT.out j hlt)
      have hmj : ((atN d k.ws.length j : Nat) : Int).tmod (E : Int) = ((atN d k.ws.length j % E : Nat) : Int) := (Int.ofNat_tmod _ E).symm
      have HPj := Lib.hid (HP.out j)
      have HL := Lib.hid (commTo_length p j)
      generalize atN d k.ws.length j = a at *
      generalize a % E = x at *
      generalize s % E = y at *
      have HE := Lib.hid (show decide (x = y) = ((x : Int) == (y : Int)) by rw [Bool.eq_iff_iff]; simp; omega)
      go_wp2_with fail
      go_region_held3 (fun w' => w'.cell? ⟨z, 0, none⟩ = some (.slice A k.ws.length c) ∧ w'.cell? ⟨z, 1, none⟩ = some (.int .u64 k.seed) ∧ w'.cell? ⟨z, 2, none⟩ = some (.int .i64 (E : Int)) ∧ Kept wr w')
        (first | exact ⟨c0, c1, c2, Kept.refl _⟩ | exact ⟨c0, c1, c2, (Kept.refl _).drew⟩ | assumption | exact three_keep hzr (by assumption) (by assumption))
        (first
          | (go_at_call 52; ((with_reducible refine (HA1.out _).mono ?_); rintro e w' ⟨rfl, rfl⟩)))
      rename_i hh
      have HI2 := Lib.hid (HI.out.kept hh.2.2.2)
      clear hh c0 c1 c2
      cases hpj : p j with
      | true =>
        have hxy : ((x : Int) == (y : Int)) = true := by rw [← HE.out, ← HPj.out]; exact hpj
        have HN := Lib.hid (commTo_hit hpj)
        clear hpj
        go_wp2_with (refine wpList_ints _ rfl _ _ rfl W2 (commTo p j) _ rfl (HI2.out.alloc _) _ _ 1 1 [(j : Int)] rfl rfl (CellsAt.one _ _ _ _ rfl) (by have := HL.out; omega) ?_; intro v' w' HI'; rw [← HN.out] at HI')
        go_roundw
        case rel => exact ⟨j + 1, by omega, by go_num, by assumption⟩
        case measure => simp [intOf]; omega
      | false =>
        have hxy : ((x : Int) == (y : Int)) = false := by rw [← HE.out, ← HPj.out]; exact hpj
        have HN := Lib.hid (commTo_miss hpj)
        clear hpj
        go_wp2_with fail
        go_roundw
        case rel => exact ⟨j + 1, by omega, by go_num, by rw [HN.out]; exact HI2.out⟩
        case measure => simp [intOf]; omega
    · have hjl : j = k.ws.length := by omega
      subst hjl
      obtain ⟨A', c', rfl⟩ := row_slice HI.out.1
      go_wp2_with fail
      go_ret
      exact ⟨A', c', rfl, CellsAt.of_own HI.out.1, HK1.out.trans HI.out.2⟩

theorem refComm_any (A : Option Addr) (c : Nat) (k : Cf) (slot : Int) (w : World) (hn : k.ws.length ≤ 1000) (hA : CellsAt w w.heap.size A (intCells k.ws)) (hsd : k.seed < 18446744073709551616) :
    Calls Tryz.prog 28 #[.agg #[.slice A k.ws.length c, .int .u64 k.seed, .int .i64 k.ep, .int .i64 k.nu, .int .i64 k.de], .int .i64 slot] w fun e w' => ∃ A' c', e = .returned (.slice A' (commC k slot).length c') ∧ CellsAt w' w'.heap.size A' (intCells (commC k slot)) ∧ Kept w w' := by
  cases hd : dutyC k slot with
  | false => exact refComm_no A c k slot w hn hA hd
  | true =>
    obtain ⟨E, s, he, rfl, h1, h2, h3, h4, h5, h6⟩ := duty_nats hd
    have h := refComm_nat A c k s E w hn hA hsd (dutyC_yes hd).1 he h1 h2 h3 h4
    rw [commC_yes hd]
    unfold memC
    rw [show k.ep.toNat = E by omega, Int.toNat_natCast]
    exact h

theorem inC_has (k : Cf) (slot who : Int) : hasI (commC k slot) who = inC k slot who := by
  unfold hasI
  cases hd : dutyC k slot with
  | false => rw [commC_no hd, inC_no hd]; simp
  | true =>
    rw [commC_yes hd]
    cases hv : validC k who with
    | false =>
      rw [inC_out hv]
      refine decide_eq_false fun hm => ?_
      obtain ⟨i, hi, _, rfl⟩ := mem_commTo.1 hm
      exact of_decide_eq_false hv ⟨by omega, by omega⟩
    | true =>
      rw [inC_yes hd hv]
      have hv' := of_decide_eq_true hv
      obtain ⟨j, rfl⟩ : ∃ j : Nat, who = (j : Int) := ⟨who.toNat, by omega⟩
      rw [Int.toNat_natCast]
      exact inList_comm j (by omega)
end

end Go.Proofs.YtpojiijgahcidaaGreat
