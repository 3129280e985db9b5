/-
  The contract of Has of the given package marigoldref05.
  The contracts of the calls of the given package marigoldref05.
  The contracts of Total, Weight, Proposer of the given package marigoldref05.
  The contracts of Committee and In of the given package marigoldref05.
-/
import Derived.Test.YteamjjkmcomabaaDutyG
import Derived.Test.YteamjjkmcomabaaMixG
import Derived.Test.YteamjjkmcomabaaGround
import Derived.Test.YteamjjkmcomabaaMixRefG
namespace Go.Proofs.Yteamjjkmcomabaa
set_option maxRecDepth 100000
set_option linter.unusedVariables false
set_option linter.unusedSimpArgs false
section
open Go.ChangeShapes Go.WideShapes Go.ChangeAt Go.RowKit

def hasI (l : List Int) (n : Int) : Bool := decide (n ∈ l)
theorem take_miss {l : List Int} {j : Nat} {n : Int} (hj : j < l.length) (h : n ∉ l.take j) (hx : ¬ wAt l j = n) : n ∉ l.take (j + 1) := by
  rw [take_snoc hj]
  simp
  exact ⟨h, fun e => hx e.symm⟩
set_option maxHeartbeats 800000 in
theorem refHas_any (A : Option Addr) (c : Nat) (l : List Int) (n : Int) (w : World) (hl : l.length ≤ 1000000) (hA : CellsAt w w.heap.size A (intCells l)) :
    Calls Try.prog 104 #[.slice A l.length c, .int .i64 n] w fun e w' => e = .returned (.bool (hasI l n)) ∧ w' = w := by
  have HA := Lib.hid hA
  clear hA
  go_enter Try.func104, Try.ntmps104
  go_wp2_with fail
  go_loop [5] (fun i => ∃ j : Nat, j ≤ l.length ∧ i = .int .i64 (j : Nat) ∧ n ∉ l.take j) (fun i => l.length - (intOf i).toNat)
  case atStart => exact ⟨0, by omega, rfl, by simp⟩
  case round =>
    obtain ⟨j, hj, rfl, hno⟩ := hrel
    have HN := Lib.hid hno
    clear hno
    by_cases hlt : j < l.length
    · obtain ⟨ad, rfl, hb, hcell⟩ := ints_cell HA.out hlt
      by_cases hx : wAt l j = n
      · have HH := Lib.hid (show hasI l n = true from decide_eq_true (by rw [← hx]; exact wAt_mem hlt))
        rw [hx] at hcell
        clear hx
        go_wp2_with fail
        go_ret
        exact ⟨by rw [HH.out]; rfl, rfl⟩
      · have HM := Lib.hid (take_miss hlt HN.out hx)
        have hxb : (wAt l j == n) = false := by simpa using hx
        clear hx
        generalize wAt l j = x at *
        go_wp2_with fail
        go_round
        case rel => exact ⟨j + 1, by omega, by go_num, HM.out⟩
        case measure => simp [intOf]; omega
    · have hjl : j = l.length := by omega
      subst hjl
      have HH := Lib.hid (show hasI l n = false from decide_eq_false (by have := HN.out; rwa [List.take_length] at this))
      go_wp2_with fail
      go_ret
      exact ⟨by rw [HH.out]; rfl, rfl⟩
end

section
open Go.ChangeShapes Go.WideShapes Go.ChangeAt Go.RowKit

theorem mayC_no {k : Cf} (h : ¬ (1 ≤ k.ws.length ∧ k.ws.length ≤ 12 ∧ 1 ≤ k.ep ∧ k.ep ≤ 8 ∧ 0 ≤ k.nu ∧ k.nu ≤ k.de ∧ 1 ≤ k.de ∧ k.de ≤ 1000)) : mayC k = false :=
  decide_eq_false fun ⟨h1, h2, _, h4, h5, h6, h7, h8, h9⟩ => h ⟨h1, h2, h4, h5, h8, h9, h6, h7⟩
theorem mayC_bad {k : Cf} {j : Nat} (hj : j < k.ws.length) (h : ¬ (0 ≤ wAt k.ws j ∧ wAt k.ws j ≤ 1099511627776)) : mayC k = false := decide_eq_false fun hm => h (hm.2.2.1 _ (wAt_mem hj))

set_option maxRecDepth 100000 in
set_option maxHeartbeats 3200000 in
theorem refMay5_any (A : Option Addr) (c : Nat) (k : Cf) (w : World) (hn : k.ws.length ≤ 1000) (hA : CellsAt w w.heap.size A (intCells k.ws)) :
    Calls Try.prog 31 #[.agg #[.slice A k.ws.length c, .int .u64 k.seed, .int .i64 k.ep, .int .i64 k.nu, .int .i64 k.de]] w fun e w' => e = .returned (.bool (mayC k)) ∧ Kept w w' := by
  obtain ⟨hC, hA', hK⟩ := conf_box (c := c) hA
  have HC := Lib.hid hC
  have HA := Lib.hid hA'
  have HK := Lib.hid hK
  clear hC hA' hK hA
  go_enter Try.func31, Try.ntmps31
  go_wp2_with fail
  generalize w.alloc (.cells #[.slice A k.ws.length c, .int .u64 k.seed, .int .i64 k.ep, .int .i64 k.nu, .int .i64 k.de] 25) = W at *
  generalize w.heap.size = z at *
  obtain ⟨c0, c1, c2, c3, c4⟩ := HC.out.five
  go_loop [4] (fun i => ∃ j : Nat, j ≤ k.ws.length ∧ i = .int .i64 (j : Nat) ∧ ∀ x ∈ k.ws.take j, 0 ≤ x ∧ x ≤ 1099511627776) (fun i => k.ws.length - (intOf i).toNat)
  case atStart => exact ⟨0, by omega, rfl, by simp⟩
  case round =>
    obtain ⟨j, hj, rfl, hfine⟩ := hrel
    have HF := Lib.hid hfine
    clear hfine
    by_cases hlt : j < k.ws.length
    · obtain ⟨ad, rfl, hb, hcell⟩ := ints_cell HA.out hlt
      by_cases c5 : wAt k.ws j < 0
      · have HM := Lib.hid (mayC_bad hlt (by omega))
        generalize wAt k.ws j = x at *
        go_wp2_with fail
        go_ret
        exact ⟨by rw [HM.out]; rfl, HK.out⟩
      · by_cases c6 : wAt k.ws j > 1099511627776
        · have HM := Lib.hid (mayC_bad hlt (by omega))
          generalize wAt k.ws j = x at *
          go_wp2_with fail
          go_ret
          exact ⟨by rw [HM.out]; rfl, HK.out⟩
        · have HS := Lib.hid (show ∀ x ∈ k.ws.take (j + 1), 0 ≤ x ∧ x ≤ 1099511627776 from fun x hx => by
            rw [take_snoc hlt] at hx
            rcases List.mem_append.1 hx with hx | hx
            · exact HF.out x hx
            · simp at hx; subst hx; omega)
          generalize wAt k.ws j = x at *
          go_wp2_with fail
          go_round
          case rel => exact ⟨j + 1, by omega, by go_num, HS.out⟩
          case measure => simp [intOf]; omega
    · have hjl : j = k.ws.length := by omega
      subst hjl
      have HW := Lib.hid (show ∀ x ∈ k.ws, 0 ≤ x ∧ x ≤ 1099511627776 from by have := HF.out; rwa [List.take_length] at this)
      by_cases g0 : 1 ≤ k.ws.length
      · skip
        by_cases g1 : k.ws.length ≤ 12
        · skip
          by_cases g2 : 1 ≤ k.ep
          · skip
            by_cases g3 : k.ep ≤ 8
            · skip
              by_cases g4 : 0 ≤ k.nu
              · skip
                by_cases g5 : k.nu ≤ k.de
                · skip
                  by_cases g6 : 1 ≤ k.de
                  · skip
                    by_cases g7 : k.de ≤ 1000
                    · skip
                      have HM := Lib.hid (show mayC k = true from decide_eq_true ⟨g0, g1, HW.out, g2, g3, g6, g7, g4, g5⟩)
                      go_wp2_with fail
                      go_ret
                      exact ⟨by rw [HM.out]; first | rfl | (simp; done) | (simp; omega), HK.out⟩
                    · have HM := Lib.hid (mayC_no (k := k) (by omega))
                      go_wp2_with fail
                      go_ret
                      exact ⟨by rw [HM.out]; first | rfl | (simp; done) | (simp; omega), HK.out⟩
                  · have HM := Lib.hid (mayC_no (k := k) (by omega))
                    go_wp2_with fail
                    go_ret
                    exact ⟨by rw [HM.out]; first | rfl | (simp; done) | (simp; omega), HK.out⟩
                · have HM := Lib.hid (mayC_no (k := k) (by omega))
                  go_wp2_with fail
                  go_ret
                  exact ⟨by rw [HM.out]; first | rfl | (simp; done) | (simp; omega), HK.out⟩
              · have HM := Lib.hid (mayC_no (k := k) (by omega))
                go_wp2_with fail
                go_ret
                exact ⟨by rw [HM.out]; first | rfl | (simp; done) | (simp; omega), HK.out⟩
            · have HM := Lib.hid (mayC_no (k := k) (by omega))
              go_wp2_with fail
              go_ret
              exact ⟨by rw [HM.out]; first | rfl | (simp; done) | (simp; omega), HK.out⟩
          · have HM := Lib.hid (mayC_no (k := k) (by omega))
            go_wp2_with fail
            go_ret
            exact ⟨by rw [HM.out]; first | rfl | (simp; done) | (simp; omega), HK.out⟩
        · have HM := Lib.hid (mayC_no (k := k) (by omega))
          go_wp2_with fail
          go_ret
          exact ⟨by rw [HM.out]; first | rfl | (simp; done) | (simp; omega), HK.out⟩
      · have HM := Lib.hid (mayC_no (k := k) (by omega))
        go_wp2_with fail
        go_ret
        exact ⟨by rw [HM.out]; first | rfl | (simp; done) | (simp; omega), HK.out⟩
end

section
open Go.ChangeShapes Go.WideShapes Go.ChangeAt Go.RowKit

set_option maxRecDepth 100000 in
set_option maxHeartbeats 1600000 in
theorem refTotal_any (A : Option Addr) (c : Nat) (k : Cf) (w : World) (hn : k.ws.length ≤ 1000) (hA : CellsAt w w.heap.size A (intCells k.ws)) :
    Calls Try.prog 32 #[.agg #[.slice A k.ws.length c, .int .u64 k.seed, .int .i64 k.ep, .int .i64 k.nu, .int .i64 k.de]] w fun e w' => e = .returned (.int .i64 (totalC k)) ∧ Kept w w' := by
  obtain ⟨hC, hA', hK⟩ := conf_box (c := c) hA
  have HC := Lib.hid hC
  have HA := Lib.hid hA'
  have HK := Lib.hid hK
  clear hC hA' hK hA
  cases hm : mayC k with
  | false =>
    have HM := Lib.hid hm
    have HT := Lib.hid (totalC_no hm)
    clear hm
    go_enter Try.func32, Try.ntmps32
    go_wp2_with fail
    refine (refMay5_any A c k _ hn HA.out).mono ?_
    rintro e W ⟨rfl, k1⟩
    rw [HM.out]
    have HK1 := Lib.hid (HK.out.trans k1)
    have HC1 := Lib.hid (HC.out.kept k1)
    obtain ⟨c0, c1, c2, c3, c4⟩ := HC1.out.five
    clear k1 HC HA HK
    go_wp2_with fail
    go_loop [3, 5] (fun s i => s = .int .i64 0 ∧ i = .int .i64 0) (fun _ _ => 0)
    case atStart => exact ⟨rfl, rfl⟩
    case round =>
      obtain ⟨rfl, rfl⟩ := hrel
      by_cases h0 : 0 < k.ws.length
      · go_wp2_with fail
        go_ret
        exact ⟨by rw [HT.out]; rfl, HK1.out⟩
      · have h1 : k.ws.length = 0 := by omega
        have h2 : decide ((0 : Int) < (k.ws.length : Int)) = false := decide_eq_false (by omega)
        clear h1
        go_wp2_with fail
        go_ret
        exact ⟨by rw [HT.out]; rfl, HK1.out⟩
  | true =>
    have HM := Lib.hid hm
    have HT := Lib.hid (totalC_yes hm)
    have HF := Lib.hid (mayC_yes hm).2.2.1
    have hn12 := (mayC_yes hm).2.1
    clear hm
    go_enter Try.func32, Try.ntmps32
    go_wp2_with fail
    refine (refMay5_any A c k _ hn HA.out).mono ?_
    rintro e W ⟨rfl, k1⟩
    rw [HM.out]
    have HK1 := Lib.hid (HK.out.trans k1)
    have HC1 := Lib.hid (HC.out.kept k1)
    have HA1 := Lib.hid (HA.out.kept k1)
    obtain ⟨c0, c1, c2, c3, c4⟩ := HC1.out.five
    clear k1 HC HA HK
    go_wp2_with fail
    go_loop [3, 5] (fun s i => ∃ j : Nat, j ≤ k.ws.length ∧ i = .int .i64 (j : Nat) ∧ s = .int .i64 (weighTo (fun _ => true) k.ws j)) (fun _ i => k.ws.length - (intOf i).toNat)
    case atStart => exact ⟨0, by omega, rfl, rfl⟩
    case round =>
      obtain ⟨j, hj, rfl, rfl⟩ := hrel
      have hs := weighTo_bounds (p := fun _ => true) HF.out j
      by_cases hlt : j < k.ws.length
      · obtain ⟨ad, rfl, hb, hcell⟩ := ints_cell HA1.out hlt
        have hx := weight_at HF.out j
        have HN := Lib.hid (show weighTo (fun _ => true) k.ws (j + 1) = weighTo (fun _ => true) k.ws j + wAt k.ws j by simp [weighTo])
        generalize weighTo (fun _ => true) k.ws j = S at *
        generalize wAt k.ws j = x at *
        go_wp2_with fail
        go_round
        case rel => exact ⟨j + 1, by omega, by go_num, by rw [HN.out]⟩
        case measure => simp [intOf]; omega
      · have hjl : j = k.ws.length := by omega
        subst hjl
        go_wp2_with fail
        go_ret
        exact ⟨by rw [HT.out]; rfl, HK1.out⟩

set_option maxRecDepth 100000 in
set_option maxHeartbeats 1600000 in
theorem refWeight_any (A : Option Addr) (c : Nat) (k : Cf) (B : Option Addr) (l : List Int) (cb : Nat) (w : World) (hn : k.ws.length ≤ 1000) (hl : l.length ≤ 1000000) (hA : CellsAt w w.heap.size A (intCells k.ws)) (hB : CellsAt w w.heap.size B (intCells l)) :
    Calls Try.prog 90 #[.agg #[.slice A k.ws.length c, .int .u64 k.seed, .int .i64 k.ep, .int .i64 k.nu, .int .i64 k.de], .slice B l.length cb] w fun e w' => e = .returned (.int .i64 (weightC k l)) ∧ Kept w w' := by
  obtain ⟨hC, hA', hK⟩ := conf_box (c := c) hA
  have HC := Lib.hid hC
  have HA := Lib.hid hA'
  have HK := Lib.hid hK
  have HB := Lib.hid hB
  clear hC hA' hK hA hB
  cases hm : mayC k with
  | false =>
    have HM := Lib.hid hm
    have HT := Lib.hid (weightC_no l hm)
    clear hm
    go_enter Try.func90, Try.ntmps90
    go_wp2_with fail
    refine (refMay5_any A c k _ hn HA.out).mono ?_
    rintro e W ⟨rfl, k1⟩
    rw [HM.out]
    have HK1 := Lib.hid (HK.out.trans k1)
    have HC1 := Lib.hid (HC.out.kept k1)
    obtain ⟨c0, c1, c2, c3, c4⟩ := HC1.out.five
    clear k1 HC HA HK
    go_wp2_with fail
    go_loop [5, 7] (fun s i => s = .int .i64 0 ∧ i = .int .i64 0) (fun _ _ => 0)
    case atStart => exact ⟨rfl, rfl⟩
    case round =>
      obtain ⟨rfl, rfl⟩ := hrel
      by_cases h0 : 0 < k.ws.length
      · go_wp2_with fail
        go_ret
        exact ⟨by rw [HT.out]; rfl, HK1.out⟩
      · have h2 : decide ((0 : Int) < (k.ws.length : Int)) = false := decide_eq_false (by omega)
        go_wp2_with fail
        go_ret
        exact ⟨by rw [HT.out]; rfl, HK1.out⟩
  | true =>
    have HM := Lib.hid hm
    have HT := Lib.hid (weightC_yes l hm)
    have HF := Lib.hid (mayC_yes hm).2.2.1
    have hn12 := (mayC_yes hm).2.1
    clear hm
    go_enter Try.func90, Try.ntmps90
    go_wp2_with fail
    refine (refMay5_any A c k _ hn HA.out).mono ?_
    rintro e W ⟨rfl, k1⟩
    rw [HM.out]
    have HK1 := Lib.hid (HK.out.trans k1)
    have HC1 := Lib.hid (HC.out.kept k1)
    have HA1 := Lib.hid (HA.out.kept k1)
    have HB1 := Lib.hid (HB.out.kept HK1.out)
    obtain ⟨c0, c1, c2, c3, c4⟩ := HC1.out.five
    clear k1 HC HA HK HB
    go_wp2_with fail
    go_loop [5, 7] (fun s i => ∃ j : Nat, j ≤ k.ws.length ∧ i = .int .i64 (j : Nat) ∧ s = .int .i64 (weighTo (inList l) k.ws j)) (fun _ i => k.ws.length - (intOf i).toNat)
    case atStart => exact ⟨0, by omega, rfl, rfl⟩
    case round =>
      obtain ⟨j, hj, rfl, rfl⟩ := hrel
      have hs := weighTo_bounds (p := inList l) HF.out j
      by_cases hlt : j < k.ws.length
      · obtain ⟨ad, rfl, hb, hcell⟩ := ints_cell HA1.out hlt
        have hx := weight_at HF.out j
        have HHas := Lib.hid (refHas_any B cb l (j : Int) W hl HB1.out)
        have HI := Lib.hid (show hasI l (j : Int) = inList l j from rfl)
        have HN := Lib.hid (show weighTo (inList l) k.ws (j + 1) = weighTo (inList l) k.ws j + (if inList l j = true then wAt k.ws j else 0) from rfl)
        generalize weighTo (inList l) k.ws j = S at *
        generalize wAt k.ws j = x at *
        go_wp2_with fail
        refine HHas.out.mono ?_
        rintro e w' ⟨rfl, rfl⟩
        rw [HI.out]
        cases hi : inList l j with
        | true =>
          rw [hi, if_pos rfl] at HN
          go_wp2_with fail
          go_round
          case rel => exact ⟨j + 1, by omega, by go_num, by rw [HN.out]⟩
          case measure => simp [intOf]; omega
        | false =>
          rw [hi, if_neg (by decide), Int.add_zero] at HN
          go_wp2_with fail
          go_round
          case rel => exact ⟨j + 1, by omega, by go_num, by rw [HN.out]⟩
          case measure => simp [intOf]; omega
      · have hjl : j = k.ws.length := by omega
        subst hjl
        go_wp2_with fail
        go_ret
        exact ⟨by rw [HT.out]; rfl, HK1.out⟩
end

section
open Go.ChangeShapes Go.WideShapes Go.ChangeAt Go.RowKit

theorem inC_has (k : Cf) (slot who : Int) : hasI (commC k slot) who = inC k slot who := by
  unfold hasI
  cases hd : dutyC k slot with
  | false => rw [commC_no hd, inC_no hd]; simp
  | true =>
    rw [commC_yes hd]
    cases hv : validC k who with
    | false =>
      rw [inC_out hv]
      refine decide_eq_false fun hm => ?_
      obtain ⟨i, hi, _, rfl⟩ := mem_commTo.1 hm
      exact of_decide_eq_false hv ⟨by omega, by omega⟩
    | true =>
      rw [inC_yes hd hv]
      have hv' := of_decide_eq_true hv
      obtain ⟨j, rfl⟩ : ∃ j : Nat, who = (j : Int) := ⟨who.toNat, by omega⟩
      rw [Int.toNat_natCast]
      exact inList_comm j (by omega)
end

end Go.Proofs.Yteamjjkmcomabaa
