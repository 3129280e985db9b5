/-
  For all lists of blocks l and ids i and low marigoldlaw06.TreeNone returns true and leaves its arguments as they were: no further condition.
-/
import Derived.Test.YtepgbnojbomicaaTreeAwake
import Derived.Test.YtepgbnojbomicaaTreeOpen
import Derived.Test.YtepgbnojbomicaaTreeFacts
namespace Go.Proofs.Ytepgbnojbomicaa.treeNone
open Go.ChangeShapes Go.WideShapes Go.ChangeAt Go.RowKit
set_option linter.unusedVariables false

/-! ### The walk: the call returns true, and of what was there nothing has changed. -/
attribute [local go_sem high] eqIdN eqIdZ in
set_option maxRecDepth 100000 in
set_option maxHeartbeats 1600000 in
theorem walk (w : World) (lA : Option Addr) (lc : Nat) (l : List Bk) (lhm : l.length ≤ maxLen) (lhc : l.length ≤ lc) (lhw : WfL l) (lhl : CellsAt w w.heap.size lA (blockCells l)) (i : Nat × Nat) (hi1 : i.1 < 18446744073709551616) (hi2 : i.2 < 18446744073709551616) (low : Nat × Nat) (hlow1 : low.1 < 18446744073709551616) (hlow2 : low.2 < 18446744073709551616) :
    Calls Try.prog 9 #[.slice lA l.length lc, .agg #[.int .u64 i.1, .int .u64 i.2], .agg #[.int .u64 low.1, .int .u64 low.2]] w fun e w' => e = .returned (.bool true) ∧ Kept w w' := by
  by_cases h40 : l.length ≤ 40
  · have hl6 : l.length ≤ 1000000 := by omega
    cases hm : mayB l with
    | false =>
      have hno : mayB l = true → standsB l i = false := fun h => by rw [hm] at h; cases h
      have HS := Lib.hid (none_slot hno)
      have HF := Lib.hid (none_find hno)
      have HC := Lib.hid (none_chain hno)
      have HU := Lib.hid (none_under low hno)
      have HM := Lib.hid hm
      clear hno hm
      go_enter Try.func9, Try.ntmps9
      go_wp2_with fail
      have HK0 := Lib.hid (((Kept.refl w).alloc (.cells #[.int .u64 i.1, .int .u64 i.2] 25)).alloc (.cells #[.int .u64 low.1, .int .u64 low.2] 25))
      have HA0 := Lib.hid (lhl.kept HK0.out)
      have HB0_0 := Lib.hid ((HasCells.new w #[.int .u64 i.1, .int .u64 i.2] 25 (w.heap.size) (by simp)).alloc (.cells #[.int .u64 low.1, .int .u64 low.2] 25))
      have HB1_0 := Lib.hid (HasCells.new (w.alloc (.cells #[.int .u64 i.1, .int .u64 i.2] 25)) #[.int .u64 low.1, .int .u64 low.2] 25 (w.heap.size + 1) (by simp))
      generalize ((w.alloc (.cells #[.int .u64 i.1, .int .u64 i.2] 25)).alloc (.cells #[.int .u64 low.1, .int .u64 low.2] 25)) = W0 at *
      generalize w.heap.size + 1 = z1 at *
      generalize w.heap.size = z0 at *
      clear lhl
      refine (treeAwake W0).mono ?_
      rintro e W1 ⟨rfl, k⟩
      have HK1 := Lib.hid (HK0.out.trans k)
      have HA1 := Lib.hid (HA0.out.kept k)
      have HB0_1 := Lib.hid (HB0_0.out.kept k)
      have HB1_1 := Lib.hid (HB1_0.out.kept k)
      clear k HK0 HA0 HB0_0 HB1_0
      obtain ⟨b00, b01⟩ := HB0_1.out.two
      have bz0 := HB0_1.out.1
      obtain ⟨b10, b11⟩ := HB1_1.out.two
      have bz1 := HB1_1.out.1
      go_wp2_with fail
      clear b00 b01 bz0 b10 b11 bz1
      refine (may_any lA lc l hl6 lhw W1 HA1.out).mono ?_
      rintro e W2 ⟨rfl, k⟩
      have HK2 := Lib.hid (HK1.out.trans k)
      have HA2 := Lib.hid (HA1.out.kept k)
      have HB0_2 := Lib.hid (HB0_1.out.kept k)
      have HB1_2 := Lib.hid (HB1_1.out.kept k)
      clear k HK1 HA1 HB0_1 HB1_1
      rw [HM.out]
      obtain ⟨b00, b01⟩ := HB0_2.out.two
      have bz0 := HB0_2.out.1
      obtain ⟨b10, b11⟩ := HB1_2.out.two
      have bz1 := HB1_2.out.1
      go_wp2_with fail
      clear b00 b01 bz0 b10 b11 bz1
      refine (slot_any lA lc l hl6 lhw i ⟨hi1, hi2⟩ W2 HA2.out).mono ?_
      rintro e W3 ⟨rfl, k⟩
      have HK3 := Lib.hid (HK2.out.trans k)
      have HA3 := Lib.hid (HA2.out.kept k)
      have HB0_3 := Lib.hid (HB0_2.out.kept k)
      have HB1_3 := Lib.hid (HB1_2.out.kept k)
      clear k HK2 HA2 HB0_2 HB1_2
      rw [HS.out]
      unfold slotPV
      obtain ⟨b00, b01⟩ := HB0_3.out.two
      have bz0 := HB0_3.out.1
      obtain ⟨b10, b11⟩ := HB1_3.out.two
      have bz1 := HB1_3.out.1
      go_wp2_with fail
      clear b00 b01 bz0 b10 b11 bz1
      refine (find_any lA lc l hl6 lhw i ⟨hi1, hi2⟩ W3 HA3.out).mono ?_
      rintro e W4 ⟨rfl, k⟩
      have HK4 := Lib.hid (HK3.out.trans k)
      have HA4 := Lib.hid (HA3.out.kept k)
      have HB0_4 := Lib.hid (HB0_3.out.kept k)
      have HB1_4 := Lib.hid (HB1_3.out.kept k)
      clear k HK3 HA3 HB0_3 HB1_3
      rw [HF.out]
      obtain ⟨b00, b01⟩ := HB0_4.out.two
      have bz0 := HB0_4.out.1
      obtain ⟨b10, b11⟩ := HB1_4.out.two
      have bz1 := HB1_4.out.1
      go_wp2_with fail
      clear b00 b01 bz0 b10 b11 bz1
      refine (chain_any lA lc l hl6 lhw i ⟨hi1, hi2⟩ W4 HA4.out).mono ?_
      rintro e W5 ⟨A', c', rfl, _, _, k⟩
      have HK5 := Lib.hid (HK4.out.trans k)
      have HA5 := Lib.hid (HA4.out.kept k)
      have HB0_5 := Lib.hid (HB0_4.out.kept k)
      have HB1_5 := Lib.hid (HB1_4.out.kept k)
      clear k HK4 HA4 HB0_4 HB1_4
      rw [HC.out]
      obtain ⟨b00, b01⟩ := HB0_5.out.two
      have bz0 := HB0_5.out.1
      obtain ⟨b10, b11⟩ := HB1_5.out.two
      have bz1 := HB1_5.out.1
      go_wp2_with fail
      clear b00 b01 bz0 b10 b11 bz1
      refine (under_any lA lc l hl6 lhw low i ⟨hi1, hi2⟩ W5 HA5.out).mono ?_
      rintro e W6 ⟨rfl, k⟩
      have HK6 := Lib.hid (HK5.out.trans k)
      have HA6 := Lib.hid (HA5.out.kept k)
      have HB0_6 := Lib.hid (HB0_5.out.kept k)
      have HB1_6 := Lib.hid (HB1_5.out.kept k)
      clear k HK5 HA5 HB0_5 HB1_5
      rw [HU.out]
      obtain ⟨b00, b01⟩ := HB0_6.out.two
      have bz0 := HB0_6.out.1
      obtain ⟨b10, b11⟩ := HB1_6.out.two
      have bz1 := HB1_6.out.1
      go_wp2_with fail
      clear b00 b01 bz0 b10 b11 bz1
      go_ret
      exact ⟨by first | rfl | (simp; done), HK6.out⟩
    | true =>
      cases q : posB l i with
      | some j =>
        have HM := Lib.hid hm
        have HF := Lib.hid (findC_hit hm q)
        clear hm q
        go_enter Try.func9, Try.ntmps9
        go_wp2_with fail
        have HK0 := Lib.hid (((Kept.refl w).alloc (.cells #[.int .u64 i.1, .int .u64 i.2] 25)).alloc (.cells #[.int .u64 low.1, .int .u64 low.2] 25))
        have HA0 := Lib.hid (lhl.kept HK0.out)
        have HB0_0 := Lib.hid ((HasCells.new w #[.int .u64 i.1, .int .u64 i.2] 25 (w.heap.size) (by simp)).alloc (.cells #[.int .u64 low.1, .int .u64 low.2] 25))
        have HB1_0 := Lib.hid (HasCells.new (w.alloc (.cells #[.int .u64 i.1, .int .u64 i.2] 25)) #[.int .u64 low.1, .int .u64 low.2] 25 (w.heap.size + 1) (by simp))
        generalize ((w.alloc (.cells #[.int .u64 i.1, .int .u64 i.2] 25)).alloc (.cells #[.int .u64 low.1, .int .u64 low.2] 25)) = W0 at *
        generalize w.heap.size + 1 = z1 at *
        generalize w.heap.size = z0 at *
        clear lhl
        refine (treeAwake W0).mono ?_
        rintro e W1 ⟨rfl, k⟩
        have HK1 := Lib.hid (HK0.out.trans k)
        have HA1 := Lib.hid (HA0.out.kept k)
        have HB0_1 := Lib.hid (HB0_0.out.kept k)
        have HB1_1 := Lib.hid (HB1_0.out.kept k)
        clear k HK0 HA0 HB0_0 HB1_0
        obtain ⟨b00, b01⟩ := HB0_1.out.two
        have bz0 := HB0_1.out.1
        obtain ⟨b10, b11⟩ := HB1_1.out.two
        have bz1 := HB1_1.out.1
        go_wp2_with fail
        clear b00 b01 bz0 b10 b11 bz1
        refine (may_any lA lc l hl6 lhw W1 HA1.out).mono ?_
        rintro e W2 ⟨rfl, k⟩
        have HK2 := Lib.hid (HK1.out.trans k)
        have HA2 := Lib.hid (HA1.out.kept k)
        have HB0_2 := Lib.hid (HB0_1.out.kept k)
        have HB1_2 := Lib.hid (HB1_1.out.kept k)
        clear k HK1 HA1 HB0_1 HB1_1
        rw [HM.out]
        obtain ⟨b00, b01⟩ := HB0_2.out.two
        have bz0 := HB0_2.out.1
        obtain ⟨b10, b11⟩ := HB1_2.out.two
        have bz1 := HB1_2.out.1
        go_wp2_with fail
        clear b00 b01 bz0 b10 b11 bz1
        refine (find_any lA lc l hl6 lhw i ⟨hi1, hi2⟩ W2 HA2.out).mono ?_
        rintro e W3 ⟨rfl, k⟩
        have HK3 := Lib.hid (HK2.out.trans k)
        have HA3 := Lib.hid (HA2.out.kept k)
        have HB0_3 := Lib.hid (HB0_2.out.kept k)
        have HB1_3 := Lib.hid (HB1_2.out.kept k)
        clear k HK2 HA2 HB0_2 HB1_2
        rw [HF.out]
        obtain ⟨b00, b01⟩ := HB0_3.out.two
        have bz0 := HB0_3.out.1
        obtain ⟨b10, b11⟩ := HB1_3.out.two
        have bz1 := HB1_3.out.1
        go_wp2_with fail
        clear b00 b01 bz0 b10 b11 bz1
        go_ret
        exact ⟨by first | rfl | (simp; done), HK3.out⟩
      | none =>
        by_cases hz : i = zid
        · have HM := Lib.hid hm
          have HF := Lib.hid (findC_miss hm q)
          have hz1 : isZ i = true := decide_eq_true hz
          clear hm q hz
          go_enter Try.func9, Try.ntmps9
          go_wp2_with fail
          have HK0 := Lib.hid (((Kept.refl w).alloc (.cells #[.int .u64 i.1, .int .u64 i.2] 25)).alloc (.cells #[.int .u64 low.1, .int .u64 low.2] 25))
          have HA0 := Lib.hid (lhl.kept HK0.out)
          have HB0_0 := Lib.hid ((HasCells.new w #[.int .u64 i.1, .int .u64 i.2] 25 (w.heap.size) (by simp)).alloc (.cells #[.int .u64 low.1, .int .u64 low.2] 25))
          have HB1_0 := Lib.hid (HasCells.new (w.alloc (.cells #[.int .u64 i.1, .int .u64 i.2] 25)) #[.int .u64 low.1, .int .u64 low.2] 25 (w.heap.size + 1) (by simp))
          generalize ((w.alloc (.cells #[.int .u64 i.1, .int .u64 i.2] 25)).alloc (.cells #[.int .u64 low.1, .int .u64 low.2] 25)) = W0 at *
          generalize w.heap.size + 1 = z1 at *
          generalize w.heap.size = z0 at *
          clear lhl
          refine (treeAwake W0).mono ?_
          rintro e W1 ⟨rfl, k⟩
          have HK1 := Lib.hid (HK0.out.trans k)
          have HA1 := Lib.hid (HA0.out.kept k)
          have HB0_1 := Lib.hid (HB0_0.out.kept k)
          have HB1_1 := Lib.hid (HB1_0.out.kept k)
          clear k HK0 HA0 HB0_0 HB1_0
          obtain ⟨b00, b01⟩ := HB0_1.out.two
          have bz0 := HB0_1.out.1
          obtain ⟨b10, b11⟩ := HB1_1.out.two
          have bz1 := HB1_1.out.1
          go_wp2_with fail
          clear b00 b01 bz0 b10 b11 bz1
          refine (may_any lA lc l hl6 lhw W1 HA1.out).mono ?_
          rintro e W2 ⟨rfl, k⟩
          have HK2 := Lib.hid (HK1.out.trans k)
          have HA2 := Lib.hid (HA1.out.kept k)
          have HB0_2 := Lib.hid (HB0_1.out.kept k)
          have HB1_2 := Lib.hid (HB1_1.out.kept k)
          clear k HK1 HA1 HB0_1 HB1_1
          rw [HM.out]
          obtain ⟨b00, b01⟩ := HB0_2.out.two
          have bz0 := HB0_2.out.1
          obtain ⟨b10, b11⟩ := HB1_2.out.two
          have bz1 := HB1_2.out.1
          go_wp2_with fail
          clear b00 b01 bz0 b10 b11 bz1
          refine (find_any lA lc l hl6 lhw i ⟨hi1, hi2⟩ W2 HA2.out).mono ?_
          rintro e W3 ⟨rfl, k⟩
          have HK3 := Lib.hid (HK2.out.trans k)
          have HA3 := Lib.hid (HA2.out.kept k)
          have HB0_3 := Lib.hid (HB0_2.out.kept k)
          have HB1_3 := Lib.hid (HB1_2.out.kept k)
          clear k HK2 HA2 HB0_2 HB1_2
          rw [HF.out]
          obtain ⟨b00, b01⟩ := HB0_3.out.two
          have bz0 := HB0_3.out.1
          obtain ⟨b10, b11⟩ := HB1_3.out.two
          have bz1 := HB1_3.out.1
          go_wp2_with fail
          clear b00 b01 bz0 b10 b11 bz1
          go_ret
          exact ⟨by first | rfl | (simp; done), HK3.out⟩
        · have hno : mayB l = true → standsB l i = false := fun _ => by unfold standsB; rw [q, decide_eq_false hz]; rfl
          have HS := Lib.hid (none_slot hno)
          have HF := Lib.hid (none_find hno)
          have HC := Lib.hid (none_chain hno)
          have HU := Lib.hid (none_under low hno)
          have HM := Lib.hid hm
          have hz1 : isZ i = false := decide_eq_false hz
          clear hno hm q hz
          go_enter Try.func9, Try.ntmps9
          go_wp2_with fail
          have HK0 := Lib.hid (((Kept.refl w).alloc (.cells #[.int .u64 i.1, .int .u64 i.2] 25)).alloc (.cells #[.int .u64 low.1, .int .u64 low.2] 25))
          have HA0 := Lib.hid (lhl.kept HK0.out)
          have HB0_0 := Lib.hid ((HasCells.new w #[.int .u64 i.1, .int .u64 i.2] 25 (w.heap.size) (by simp)).alloc (.cells #[.int .u64 low.1, .int .u64 low.2] 25))
          have HB1_0 := Lib.hid (HasCells.new (w.alloc (.cells #[.int .u64 i.1, .int .u64 i.2] 25)) #[.int .u64 low.1, .int .u64 low.2] 25 (w.heap.size + 1) (by simp))
          generalize ((w.alloc (.cells #[.int .u64 i.1, .int .u64 i.2] 25)).alloc (.cells #[.int .u64 low.1, .int .u64 low.2] 25)) = W0 at *
          generalize w.heap.size + 1 = z1 at *
          generalize w.heap.size = z0 at *
          clear lhl
          refine (treeAwake W0).mono ?_
          rintro e W1 ⟨rfl, k⟩
          have HK1 := Lib.hid (HK0.out.trans k)
          have HA1 := Lib.hid (HA0.out.kept k)
          have HB0_1 := Lib.hid (HB0_0.out.kept k)
          have HB1_1 := Lib.hid (HB1_0.out.kept k)
          clear k HK0 HA0 HB0_0 HB1_0
          obtain ⟨b00, b01⟩ := HB0_1.out.two
          have bz0 := HB0_1.out.1
          obtain ⟨b10, b11⟩ := HB1_1.out.two
          have bz1 := HB1_1.out.1
          go_wp2_with fail
          clear b00 b01 bz0 b10 b11 bz1
          refine (may_any lA lc l hl6 lhw W1 HA1.out).mono ?_
          rintro e W2 ⟨rfl, k⟩
          have HK2 := Lib.hid (HK1.out.trans k)
          have HA2 := Lib.hid (HA1.out.kept k)
          have HB0_2 := Lib.hid (HB0_1.out.kept k)
          have HB1_2 := Lib.hid (HB1_1.out.kept k)
          clear k HK1 HA1 HB0_1 HB1_1
          rw [HM.out]
          obtain ⟨b00, b01⟩ := HB0_2.out.two
          have bz0 := HB0_2.out.1
          obtain ⟨b10, b11⟩ := HB1_2.out.two
          have bz1 := HB1_2.out.1
          go_wp2_with fail
          clear b00 b01 bz0 b10 b11 bz1
          refine (find_any lA lc l hl6 lhw i ⟨hi1, hi2⟩ W2 HA2.out).mono ?_
          rintro e W3 ⟨rfl, k⟩
          have HK3 := Lib.hid (HK2.out.trans k)
          have HA3 := Lib.hid (HA2.out.kept k)
          have HB0_3 := Lib.hid (HB0_2.out.kept k)
          have HB1_3 := Lib.hid (HB1_2.out.kept k)
          clear k HK2 HA2 HB0_2 HB1_2
          rw [HF.out]
          obtain ⟨b00, b01⟩ := HB0_3.out.two
          have bz0 := HB0_3.out.1
          obtain ⟨b10, b11⟩ := HB1_3.out.two
          have bz1 := HB1_3.out.1
          go_wp2_with fail
          clear b00 b01 bz0 b10 b11 bz1
          refine (slot_any lA lc l hl6 lhw i ⟨hi1, hi2⟩ W3 HA3.out).mono ?_
          rintro e W4 ⟨rfl, k⟩
          have HK4 := Lib.hid (HK3.out.trans k)
          have HA4 := Lib.hid (HA3.out.kept k)
          have HB0_4 := Lib.hid (HB0_3.out.kept k)
          have HB1_4 := Lib.hid (HB1_3.out.kept k)
          clear k HK3 HA3 HB0_3 HB1_3
          rw [HS.out]
          unfold slotPV
          obtain ⟨b00, b01⟩ := HB0_4.out.two
          have bz0 := HB0_4.out.1
          obtain ⟨b10, b11⟩ := HB1_4.out.two
          have bz1 := HB1_4.out.1
          go_wp2_with fail
          clear b00 b01 bz0 b10 b11 bz1
          refine (find_any lA lc l hl6 lhw i ⟨hi1, hi2⟩ W4 HA4.out).mono ?_
          rintro e W5 ⟨rfl, k⟩
          have HK5 := Lib.hid (HK4.out.trans k)
          have HA5 := Lib.hid (HA4.out.kept k)
          have HB0_5 := Lib.hid (HB0_4.out.kept k)
          have HB1_5 := Lib.hid (HB1_4.out.kept k)
          clear k HK4 HA4 HB0_4 HB1_4
          rw [HF.out]
          obtain ⟨b00, b01⟩ := HB0_5.out.two
          have bz0 := HB0_5.out.1
          obtain ⟨b10, b11⟩ := HB1_5.out.two
          have bz1 := HB1_5.out.1
          go_wp2_with fail
          clear b00 b01 bz0 b10 b11 bz1
          refine (chain_any lA lc l hl6 lhw i ⟨hi1, hi2⟩ W5 HA5.out).mono ?_
          rintro e W6 ⟨A', c', rfl, _, _, k⟩
          have HK6 := Lib.hid (HK5.out.trans k)
          have HA6 := Lib.hid (HA5.out.kept k)
          have HB0_6 := Lib.hid (HB0_5.out.kept k)
          have HB1_6 := Lib.hid (HB1_5.out.kept k)
          clear k HK5 HA5 HB0_5 HB1_5
          rw [HC.out]
          obtain ⟨b00, b01⟩ := HB0_6.out.two
          have bz0 := HB0_6.out.1
          obtain ⟨b10, b11⟩ := HB1_6.out.two
          have bz1 := HB1_6.out.1
          go_wp2_with fail
          clear b00 b01 bz0 b10 b11 bz1
          refine (under_any lA lc l hl6 lhw low i ⟨hi1, hi2⟩ W6 HA6.out).mono ?_
          rintro e W7 ⟨rfl, k⟩
          have HK7 := Lib.hid (HK6.out.trans k)
          have HA7 := Lib.hid (HA6.out.kept k)
          have HB0_7 := Lib.hid (HB0_6.out.kept k)
          have HB1_7 := Lib.hid (HB1_6.out.kept k)
          clear k HK6 HA6 HB0_6 HB1_6
          rw [HU.out]
          obtain ⟨b00, b01⟩ := HB0_7.out.two
          have bz0 := HB0_7.out.1
          obtain ⟨b10, b11⟩ := HB1_7.out.two
          have bz1 := HB1_7.out.1
          go_wp2_with fail
          clear b00 b01 bz0 b10 b11 bz1
          go_ret
          exact ⟨by first | rfl | (simp; done), HK7.out⟩
  · go_enter Try.func9, Try.ntmps9
    go_wp2_with fail
    have HK0 := Lib.hid (((Kept.refl w).alloc (.cells #[.int .u64 i.1, .int .u64 i.2] 25)).alloc (.cells #[.int .u64 low.1, .int .u64 low.2] 25))
    have HA0 := Lib.hid (lhl.kept HK0.out)
    have HB0_0 := Lib.hid ((HasCells.new w #[.int .u64 i.1, .int .u64 i.2] 25 (w.heap.size) (by simp)).alloc (.cells #[.int .u64 low.1, .int .u64 low.2] 25))
    have HB1_0 := Lib.hid (HasCells.new (w.alloc (.cells #[.int .u64 i.1, .int .u64 i.2] 25)) #[.int .u64 low.1, .int .u64 low.2] 25 (w.heap.size + 1) (by simp))
    generalize ((w.alloc (.cells #[.int .u64 i.1, .int .u64 i.2] 25)).alloc (.cells #[.int .u64 low.1, .int .u64 low.2] 25)) = W0 at *
    generalize w.heap.size + 1 = z1 at *
    generalize w.heap.size = z0 at *
    clear lhl
    refine (treeAwake W0).mono ?_
    rintro e W1 ⟨rfl, k⟩
    have HK1 := Lib.hid (HK0.out.trans k)
    have HA1 := Lib.hid (HA0.out.kept k)
    have HB0_1 := Lib.hid (HB0_0.out.kept k)
    have HB1_1 := Lib.hid (HB1_0.out.kept k)
    clear k HK0 HA0 HB0_0 HB1_0
    obtain ⟨b00, b01⟩ := HB0_1.out.two
    have bz0 := HB0_1.out.1
    obtain ⟨b10, b11⟩ := HB1_1.out.two
    have bz1 := HB1_1.out.1
    go_wp2_with fail
    clear b00 b01 bz0 b10 b11 bz1
    go_ret
    exact ⟨by first | rfl | (simp; done), HK1.out⟩

/-! ### The row's step -/
set_option maxRecDepth 100000 in
theorem lifted (os : Os) (started : os.Started) (H : Type) (enc : TypeId × Value → H) :
    ReturnsInHanded {} Try.checked os 9 .any (Rows.treeNoneSpec.pre6 enc Try.prog Try.f9 Rows.treeNoneRow.domain false) (Rows.treeNoneSpec.post enc Try.prog Try.f9 false true false false) := by
  refine returnsInHanded_of_change (C := Try.checked) own started (by kernel_rfl) Try.func9
    (ChangeSpec.witness6 (enc := enc) (C := Try.checked) false ⟨#[], #[.slice none 0 0, .agg #[.int .u64 0, .int .u64 0], .agg #[.int .u64 0, .int .u64 0]], []⟩ 8 (by kernel_rfl) (by kernel_rfl) (by kernel_rfl) (by kernel_rfl)) ?_
  intro W base args ds gs before hval0 hW hcnd _
  have hval : ∀ (j : Nat) t v, Try.f9.params[j]? = some t → args[j]? = some v → Value.okWide Try.prog W .any base t v := hval0
  have hW' := hW
  obtain ⟨p, q, hA0, hV, rfl, hfz, hnd⟩ := hW
  have hA : DataW.TrodAll enc Try.prog W 0 (fun _ => true) true Try.f9.params.toList args.toList ds p := hA0
  rw [Try.params9] at hA hval
  obtain ⟨v0, vs0, d0, ds0, p0, q0, hargs, rfl, rfl, h0, r0⟩ := trodAll_cons hA
  obtain ⟨v1, vs1, d1, ds1, p1, q1, rfl, rfl, rfl, h1, r1⟩ := trodAll_cons r0
  obtain ⟨v2, vs2, d2, ds2, p2, q2, rfl, rfl, rfl, h2, r2⟩ := trodAll_cons r1
  obtain ⟨rfl, rfl, rfl⟩ := trodAll_nil r2
  obtain rfl : args = #[v0, v1, v2] := by cases args; simp_all
  obtain ⟨rfl, rfl⟩ := trodVars_none hV
  obtain ⟨lA, lc, l, rfl, lhm, lhc, lhw, lhl⟩ := open_blocks (hval 0 _ v0 rfl rfl) h0
  obtain ⟨i, rfl, hi1, hi2⟩ := open_id (hval 1 _ v1 rfl rfl) h1
  obtain ⟨low, rfl, hlow1, hlow2⟩ := open_id (hval 2 _ v2 rfl rfl) h2
  clear hA0 hval0
  refine (walk W lA lc l lhm lhc lhw lhl i hi1 hi2 low hlow1 hlow2).mono fun e W' ⟨he, hb⟩ => ?_
  subst he
  exact ⟨_, rfl, law_post rfl (by kernel_rfl) rfl hW' rfl hb⟩

theorem over : Rows.treeNoneRow.holds Try.pinned (OpenSpec.ofChange Rows.treeNoneSpec) :=
  OpenClaim.holds_of_wide 9 Try.f9 rfl rfl rfl rfl rfl rfl rfl ⟨rfl, rfl, rfl, rfl, rfl⟩ rfl rfl rfl rfl rfl (by kernel_rfl) Try.func9 (by kernel_rfl)
    (of_decide_eq_true (by kernel_rfl)) (by unfold Func.isWrapper; first | (rw [if_pos (by decide +kernel)]; kernel_rfl) | (rw [if_neg (by decide +kernel)]; exact ⟨rfl, rfl⟩))
    (fun os started H enc _ => lifted os started H enc)

/-- The statement. -/
theorem proved : Rows.TreeNoneSaid :=
  over
#print axioms proved
end Go.Proofs.Ytepgbnojbomicaa.treeNone
