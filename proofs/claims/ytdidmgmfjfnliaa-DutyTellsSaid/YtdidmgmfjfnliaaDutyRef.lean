/-
  The contracts of the calls of the given package marigoldref05.
-/
import Derived.Test.YtdidmgmfjfnliaaDutyRefHas
import Derived.Test.YtdidmgmfjfnliaaShufRef
namespace Go.Proofs.Ytdidmgmfjfnliaa
open Go.ChangeShapes Go.WideShapes Go.ChangeAt Go.RowKit

theorem mayC_no {k : Cf} (h : ¬ (1 ≤ k.ws.length ∧ k.ws.length ≤ 12 ∧ 1 ≤ k.ep ∧ k.ep ≤ 8 ∧ 0 ≤ k.nu ∧ k.nu ≤ k.de ∧ 1 ≤ k.de ∧ k.de ≤ 1000)) : mayC k = false :=
  decide_eq_false fun ⟨h1, h2, _, h4, h5, h6, h7, h8, h9⟩ => h ⟨h1, h2, h4, h5, h8, h9, h6, h7⟩
theorem mayC_bad {k : Cf} {j : Nat} (hj : j < k.ws.length) (h : ¬ (0 ≤ wAt k.ws j ∧ wAt k.ws j ≤ 1099511627776)) : mayC k = false := decide_eq_false fun hm => h (hm.2.2.1 _ (wAt_mem hj))

set_option maxRecDepth 100000 in
set_option maxHeartbeats 3200000 in
theorem refMay5_any (A : Option Addr) (c : Nat) (k : Cf) (w : World) (hn : k.ws.length ≤ 1000) (hA : CellsAt w w.heap.size A (intCells k.ws)) :
    Calls Try.prog 11 #[.agg #[.slice A k.ws.length c, .int .u64 k.seed, .int .i64 k.ep, .int .i64 k.nu, .int .i64 k.de]] w fun e w' => e = .returned (.bool (mayC k)) ∧ Kept w w' := by
  obtain ⟨hC, hA', hK⟩ := conf_box (c := c) hA
  have HC := Lib.hid hC
  have HA := Lib.hid hA'
  have HK := Lib.hid hK
  clear hC hA' hK hA
  go_enter Try.func11, Try.ntmps11
  go_wp2_with fail
  generalize w.alloc (.cells #[.slice A k.ws.length c, .int .u64 k.seed, .int .i64 k.ep, .int .i64 k.nu, .int .i64 k.de] 25) = W at *
  generalize w.heap.size = z at *
  obtain ⟨c0, c1, c2, c3, c4⟩ := HC.out.five
  go_loop [4] (fun i => ∃ j : Nat, j ≤ k.ws.length ∧ i = .int .i64 (j : Nat) ∧ ∀ x ∈ k.ws.take j, 0 ≤ x ∧ x ≤ 1099511627776) (fun i => k.ws.length - (intOf i).toNat)
  case atStart => exact ⟨0, by omega, rfl, by simp⟩
  case round =>
    obtain ⟨j, hj, rfl, hfine⟩ := hrel
    have HF := Lib.hid hfine
    clear hfine
    by_cases hlt : j < k.ws.length
    · obtain ⟨ad, rfl, hb, hcell⟩ := ints_cell HA.out hlt
      by_cases c5 : wAt k.ws j < 0
      · have HM := Lib.hid (mayC_bad hlt (by omega))
        generalize wAt k.ws j = x at *
        go_wp2_with fail
        go_ret
        exact ⟨by rw [HM.out]; rfl, HK.out⟩
      · by_cases c6 : wAt k.ws j > 1099511627776
        · have HM := Lib.hid (mayC_bad hlt (by omega))
          generalize wAt k.ws j = x at *
          go_wp2_with fail
          go_ret
          exact ⟨by rw [HM.out]; rfl, HK.out⟩
        · have HS := Lib.hid (show ∀ x ∈ k.ws.take (j + 1), 0 ≤ x ∧ x ≤ 1099511627776 from fun x hx => by
            rw [take_snoc hlt] at hx
            rcases List.mem_append.1 hx with hx | hx
            · exact HF.out x hx
            · simp at hx; subst hx; omega)
          generalize wAt k.ws j = x at *
          go_wp2_with fail
          go_round
          case rel => exact ⟨j + 1, by omega, by go_num, HS.out⟩
          case measure => simp [intOf]; omega
    · have hjl : j = k.ws.length := by omega
      subst hjl
      have HW := Lib.hid (show ∀ x ∈ k.ws, 0 ≤ x ∧ x ≤ 1099511627776 from by have := HF.out; rwa [List.take_length] at this)
      by_cases g0 : 1 ≤ k.ws.length
      · skip
        by_cases g1 : k.ws.length ≤ 12
        · skip
          by_cases g2 : 1 ≤ k.ep
          · skip
            by_cases g3 : k.ep ≤ 8
            · skip
              by_cases g4 : 0 ≤ k.nu
              · skip
                by_cases g5 : k.nu ≤ k.de
                · skip
                  by_cases g6 : 1 ≤ k.de
                  · skip
                    by_cases g7 : k.de ≤ 1000
                    · skip
                      have HM := Lib.hid (show mayC k = true from decide_eq_true ⟨g0, g1, HW.out, g2, g3, g6, g7, g4, g5⟩)
                      go_wp2_with fail
                      go_ret
                      exact ⟨by rw [HM.out]; first | rfl | (simp; done) | (simp; omega), HK.out⟩
                    · have HM := Lib.hid (mayC_no (k := k) (by omega))
                      go_wp2_with fail
                      go_ret
                      exact ⟨by rw [HM.out]; first | rfl | (simp; done) | (simp; omega), HK.out⟩
                  · have HM := Lib.hid (mayC_no (k := k) (by omega))
                    go_wp2_with fail
                    go_ret
                    exact ⟨by rw [HM.out]; first | rfl | (simp; done) | (simp; omega), HK.out⟩
                · have HM := Lib.hid (mayC_no (k := k) (by omega))
                  go_wp2_with fail
                  go_ret
                  exact ⟨by rw [HM.out]; first | rfl | (simp; done) | (simp; omega), HK.out⟩
              · have HM := Lib.hid (mayC_no (k := k) (by omega))
                go_wp2_with fail
                go_ret
                exact ⟨by rw [HM.out]; first | rfl | (simp; done) | (simp; omega), HK.out⟩
            · have HM := Lib.hid (mayC_no (k := k) (by omega))
              go_wp2_with fail
              go_ret
              exact ⟨by rw [HM.out]; first | rfl | (simp; done) | (simp; omega), HK.out⟩
          · have HM := Lib.hid (mayC_no (k := k) (by omega))
            go_wp2_with fail
            go_ret
            exact ⟨by rw [HM.out]; first | rfl | (simp; done) | (simp; omega), HK.out⟩
        · have HM := Lib.hid (mayC_no (k := k) (by omega))
          go_wp2_with fail
          go_ret
          exact ⟨by rw [HM.out]; first | rfl | (simp; done) | (simp; omega), HK.out⟩
      · have HM := Lib.hid (mayC_no (k := k) (by omega))
        go_wp2_with fail
        go_ret
        exact ⟨by rw [HM.out]; first | rfl | (simp; done) | (simp; omega), HK.out⟩

set_option maxHeartbeats 400000 in
theorem slots_any (slot : Int) (w : World) : Calls Try.prog 28 #[.int .i64 slot] w fun e w' => e = .returned (.bool (decide (1 ≤ slot ∧ slot ≤ 1048576))) ∧ w' = w := by
  by_cases h1 : 1 ≤ slot
  · by_cases h2 : slot ≤ 1048576
    · have HD := Lib.hid (show decide (1 ≤ slot ∧ slot ≤ 1048576) = true from decide_eq_true ⟨h1, h2⟩)
      rw [HD.out]
      go_enter Try.func28, Try.ntmps28
      go_wp2
      go_ret
      exact ⟨rfl, rfl⟩
    · have HD := Lib.hid (show decide (1 ≤ slot ∧ slot ≤ 1048576) = false from decide_eq_false (by omega))
      rw [HD.out]
      go_enter Try.func28, Try.ntmps28
      go_wp2
      go_ret
      exact ⟨by first | rfl | (simp; done) | (simp; omega), rfl⟩
  · have HD := Lib.hid (show decide (1 ≤ slot ∧ slot ≤ 1048576) = false from decide_eq_false (by omega))
    rw [HD.out]
    go_enter Try.func28, Try.ntmps28
    go_wp2
    go_ret
    exact ⟨by first | rfl | (simp; done) | (simp; omega), rfl⟩

end Go.Proofs.Ytdidmgmfjfnliaa
