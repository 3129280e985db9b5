/-
  For all lists of blocks l and ids a, b and c marigoldlaw06.TreeUnder returns true and leaves its arguments as they were: no further condition.
-/
import Derived.Test.YtepgbnojbomicaaTreeAwake
import Derived.Test.YtepgbnojbomicaaTreeOpen
import Derived.Test.YtepgbnojbomicaaTreeFacts
namespace Go.Proofs.Ytepgbnojbomicaa.treeUnder
open Go.ChangeShapes Go.WideShapes Go.ChangeAt Go.RowKit
set_option linter.unusedVariables false

/-! ### The walk: the call returns true, and of what was there nothing has changed. -/
attribute [local go_sem high] eqIdN eqIdZ in
set_option maxRecDepth 100000 in
set_option maxHeartbeats 1600000 in
theorem walk (w : World) (lA : Option Addr) (lc : Nat) (l : List Bk) (lhm : l.length ≤ maxLen) (lhc : l.length ≤ lc) (lhw : WfL l) (lhl : CellsAt w w.heap.size lA (blockCells l)) (a : Nat × Nat) (ha1 : a.1 < 18446744073709551616) (ha2 : a.2 < 18446744073709551616) (b : Nat × Nat) (hb1 : b.1 < 18446744073709551616) (hb2 : b.2 < 18446744073709551616) (c : Nat × Nat) (hc1 : c.1 < 18446744073709551616) (hc2 : c.2 < 18446744073709551616) :
    Calls Try.prog 5 #[.slice lA l.length lc, .agg #[.int .u64 a.1, .int .u64 a.2], .agg #[.int .u64 b.1, .int .u64 b.2], .agg #[.int .u64 c.1, .int .u64 c.2]] w fun e w' => e = .returned (.bool true) ∧ Kept w w' := by
  by_cases h40 : l.length ≤ 40
  · have hl6 : l.length ≤ 1000000 := by omega
    by_cases hn : chainC l a = []
    · have HC := Lib.hid hn
      have H1 := Lib.hid (show ∀ x, underC l x a = false from fun x => by unfold underC; rw [hn]; rfl)
      clear hn
      go_enter Try.func5, Try.ntmps5
      go_wp2_with fail
      have HK0 := Lib.hid ((((Kept.refl w).alloc (.cells #[.int .u64 a.1, .int .u64 a.2] 25)).alloc (.cells #[.int .u64 b.1, .int .u64 b.2] 25)).alloc (.cells #[.int .u64 c.1, .int .u64 c.2] 25))
      have HA0 := Lib.hid (lhl.kept HK0.out)
      have HB0_0 := Lib.hid (((HasCells.new w #[.int .u64 a.1, .int .u64 a.2] 25 (w.heap.size) (by simp)).alloc (.cells #[.int .u64 b.1, .int .u64 b.2] 25)).alloc (.cells #[.int .u64 c.1, .int .u64 c.2] 25))
      have HB1_0 := Lib.hid ((HasCells.new (w.alloc (.cells #[.int .u64 a.1, .int .u64 a.2] 25)) #[.int .u64 b.1, .int .u64 b.2] 25 (w.heap.size + 1) (by simp)).alloc (.cells #[.int .u64 c.1, .int .u64 c.2] 25))
      have HB2_0 := Lib.hid (HasCells.new ((w.alloc (.cells #[.int .u64 a.1, .int .u64 a.2] 25)).alloc (.cells #[.int .u64 b.1, .int .u64 b.2] 25)) #[.int .u64 c.1, .int .u64 c.2] 25 (w.heap.size + 1 + 1) (by simp))
      generalize (((w.alloc (.cells #[.int .u64 a.1, .int .u64 a.2] 25)).alloc (.cells #[.int .u64 b.1, .int .u64 b.2] 25)).alloc (.cells #[.int .u64 c.1, .int .u64 c.2] 25)) = W0 at *
      generalize w.heap.size + 1 + 1 = z2 at *
      generalize w.heap.size + 1 = z1 at *
      generalize w.heap.size = z0 at *
      clear lhl
      refine (treeAwake W0).mono ?_
      rintro e W1 ⟨rfl, k⟩
      have HK1 := Lib.hid (HK0.out.trans k)
      have HA1 := Lib.hid (HA0.out.kept k)
      have HB0_1 := Lib.hid (HB0_0.out.kept k)
      have HB1_1 := Lib.hid (HB1_0.out.kept k)
      have HB2_1 := Lib.hid (HB2_0.out.kept k)
      clear k HK0 HA0 HB0_0 HB1_0 HB2_0
      obtain ⟨b00, b01⟩ := HB0_1.out.two
      have bz0 := HB0_1.out.1
      obtain ⟨b10, b11⟩ := HB1_1.out.two
      have bz1 := HB1_1.out.1
      obtain ⟨b20, b21⟩ := HB2_1.out.two
      have bz2 := HB2_1.out.1
      go_wp2_with fail
      clear b00 b01 bz0 b10 b11 bz1 b20 b21 bz2
      refine (chain_any lA lc l hl6 lhw a ⟨ha1, ha2⟩ W1 HA1.out).mono ?_
      rintro e W2 ⟨A', c', rfl, _, _, k⟩
      have HK2 := Lib.hid (HK1.out.trans k)
      have HA2 := Lib.hid (HA1.out.kept k)
      have HB0_2 := Lib.hid (HB0_1.out.kept k)
      have HB1_2 := Lib.hid (HB1_1.out.kept k)
      have HB2_2 := Lib.hid (HB2_1.out.kept k)
      clear k HK1 HA1 HB0_1 HB1_1 HB2_1
      rw [HC.out]
      obtain ⟨b00, b01⟩ := HB0_2.out.two
      have bz0 := HB0_2.out.1
      obtain ⟨b10, b11⟩ := HB1_2.out.two
      have bz1 := HB1_2.out.1
      obtain ⟨b20, b21⟩ := HB2_2.out.two
      have bz2 := HB2_2.out.1
      go_wp2_with fail
      clear b00 b01 bz0 b10 b11 bz1 b20 b21 bz2
      refine (under_any lA lc l hl6 lhw a a ⟨ha1, ha2⟩ W2 HA2.out).mono ?_
      rintro e W3 ⟨rfl, k⟩
      have HK3 := Lib.hid (HK2.out.trans k)
      have HA3 := Lib.hid (HA2.out.kept k)
      have HB0_3 := Lib.hid (HB0_2.out.kept k)
      have HB1_3 := Lib.hid (HB1_2.out.kept k)
      have HB2_3 := Lib.hid (HB2_2.out.kept k)
      clear k HK2 HA2 HB0_2 HB1_2 HB2_2
      rw [H1.out]
      obtain ⟨b00, b01⟩ := HB0_3.out.two
      have bz0 := HB0_3.out.1
      obtain ⟨b10, b11⟩ := HB1_3.out.two
      have bz1 := HB1_3.out.1
      obtain ⟨b20, b21⟩ := HB2_3.out.two
      have bz2 := HB2_3.out.1
      go_wp2_with fail
      clear b00 b01 bz0 b10 b11 bz1 b20 b21 bz2
      refine (under_any lA lc l hl6 lhw b a ⟨ha1, ha2⟩ W3 HA3.out).mono ?_
      rintro e W4 ⟨rfl, k⟩
      have HK4 := Lib.hid (HK3.out.trans k)
      have HA4 := Lib.hid (HA3.out.kept k)
      have HB0_4 := Lib.hid (HB0_3.out.kept k)
      have HB1_4 := Lib.hid (HB1_3.out.kept k)
      have HB2_4 := Lib.hid (HB2_3.out.kept k)
      clear k HK3 HA3 HB0_3 HB1_3 HB2_3
      rw [H1.out]
      obtain ⟨b00, b01⟩ := HB0_4.out.two
      have bz0 := HB0_4.out.1
      obtain ⟨b10, b11⟩ := HB1_4.out.two
      have bz1 := HB1_4.out.1
      obtain ⟨b20, b21⟩ := HB2_4.out.two
      have bz2 := HB2_4.out.1
      go_wp2_with fail
      clear b00 b01 bz0 b10 b11 bz1 b20 b21 bz2
      go_ret
      exact ⟨by first | rfl | (simp; done), HK4.out⟩
    · have hc0 : 0 < (chainC l a).length := List.length_pos_iff.2 hn
      have Haa := Lib.hid (under_self hc0)
      have H0a := Lib.hid (under_zero hc0)
      have HN := Lib.hid hc0
      clear hn hc0
      go_enter Try.func5, Try.ntmps5
      go_wp2_with fail
      have HK0 := Lib.hid ((((Kept.refl w).alloc (.cells #[.int .u64 a.1, .int .u64 a.2] 25)).alloc (.cells #[.int .u64 b.1, .int .u64 b.2] 25)).alloc (.cells #[.int .u64 c.1, .int .u64 c.2] 25))
      have HA0 := Lib.hid (lhl.kept HK0.out)
      have HB0_0 := Lib.hid (((HasCells.new w #[.int .u64 a.1, .int .u64 a.2] 25 (w.heap.size) (by simp)).alloc (.cells #[.int .u64 b.1, .int .u64 b.2] 25)).alloc (.cells #[.int .u64 c.1, .int .u64 c.2] 25))
      have HB1_0 := Lib.hid ((HasCells.new (w.alloc (.cells #[.int .u64 a.1, .int .u64 a.2] 25)) #[.int .u64 b.1, .int .u64 b.2] 25 (w.heap.size + 1) (by simp)).alloc (.cells #[.int .u64 c.1, .int .u64 c.2] 25))
      have HB2_0 := Lib.hid (HasCells.new ((w.alloc (.cells #[.int .u64 a.1, .int .u64 a.2] 25)).alloc (.cells #[.int .u64 b.1, .int .u64 b.2] 25)) #[.int .u64 c.1, .int .u64 c.2] 25 (w.heap.size + 1 + 1) (by simp))
      generalize (((w.alloc (.cells #[.int .u64 a.1, .int .u64 a.2] 25)).alloc (.cells #[.int .u64 b.1, .int .u64 b.2] 25)).alloc (.cells #[.int .u64 c.1, .int .u64 c.2] 25)) = W0 at *
      generalize w.heap.size + 1 + 1 = z2 at *
      generalize w.heap.size + 1 = z1 at *
      generalize w.heap.size = z0 at *
      clear lhl
      refine (treeAwake W0).mono ?_
      rintro e W1 ⟨rfl, k⟩
      have HK1 := Lib.hid (HK0.out.trans k)
      have HA1 := Lib.hid (HA0.out.kept k)
      have HB0_1 := Lib.hid (HB0_0.out.kept k)
      have HB1_1 := Lib.hid (HB1_0.out.kept k)
      have HB2_1 := Lib.hid (HB2_0.out.kept k)
      clear k HK0 HA0 HB0_0 HB1_0 HB2_0
      obtain ⟨b00, b01⟩ := HB0_1.out.two
      have bz0 := HB0_1.out.1
      obtain ⟨b10, b11⟩ := HB1_1.out.two
      have bz1 := HB1_1.out.1
      obtain ⟨b20, b21⟩ := HB2_1.out.two
      have bz2 := HB2_1.out.1
      go_wp2_with fail
      clear b00 b01 bz0 b10 b11 bz1 b20 b21 bz2
      refine (chain_any lA lc l hl6 lhw a ⟨ha1, ha2⟩ W1 HA1.out).mono ?_
      rintro e W2 ⟨A', c', rfl, _, _, k⟩
      have HK2 := Lib.hid (HK1.out.trans k)
      have HA2 := Lib.hid (HA1.out.kept k)
      have HB0_2 := Lib.hid (HB0_1.out.kept k)
      have HB1_2 := Lib.hid (HB1_1.out.kept k)
      have HB2_2 := Lib.hid (HB2_1.out.kept k)
      clear k HK1 HA1 HB0_1 HB1_1 HB2_1
      have hq := HN.out
      generalize (chainC l a).length = N at *
      have hq1 : ((N : Int) == 0) = false := by simp; omega
      have hq2 : ¬ N = 0 := by omega
      obtain ⟨b00, b01⟩ := HB0_2.out.two
      have bz0 := HB0_2.out.1
      obtain ⟨b10, b11⟩ := HB1_2.out.two
      have bz1 := HB1_2.out.1
      obtain ⟨b20, b21⟩ := HB2_2.out.two
      have bz2 := HB2_2.out.1
      go_wp2_with fail
      clear b00 b01 bz0 b10 b11 bz1 b20 b21 bz2
      refine (under_any lA lc l hl6 lhw a a ⟨ha1, ha2⟩ W2 HA2.out).mono ?_
      rintro e W3 ⟨rfl, k⟩
      have HK3 := Lib.hid (HK2.out.trans k)
      have HA3 := Lib.hid (HA2.out.kept k)
      have HB0_3 := Lib.hid (HB0_2.out.kept k)
      have HB1_3 := Lib.hid (HB1_2.out.kept k)
      have HB2_3 := Lib.hid (HB2_2.out.kept k)
      clear k HK2 HA2 HB0_2 HB1_2 HB2_2
      rw [Haa.out]
      obtain ⟨b00, b01⟩ := HB0_3.out.two
      have bz0 := HB0_3.out.1
      obtain ⟨b10, b11⟩ := HB1_3.out.two
      have bz1 := HB1_3.out.1
      obtain ⟨b20, b21⟩ := HB2_3.out.two
      have bz2 := HB2_3.out.1
      go_wp2_with fail
      clear b00 b01 bz0 b10 b11 bz1 b20 b21 bz2
      refine (under_low0 lA lc l hl6 lhw W3 HA3.out a ⟨ha1, ha2⟩).mono ?_
      rintro e W4 ⟨rfl, k⟩
      have HK4 := Lib.hid (HK3.out.trans k)
      have HA4 := Lib.hid (HA3.out.kept k)
      have HB0_4 := Lib.hid (HB0_3.out.kept k)
      have HB1_4 := Lib.hid (HB1_3.out.kept k)
      have HB2_4 := Lib.hid (HB2_3.out.kept k)
      clear k HK3 HA3 HB0_3 HB1_3 HB2_3
      rw [H0a.out]
      obtain ⟨b00, b01⟩ := HB0_4.out.two
      have bz0 := HB0_4.out.1
      obtain ⟨b10, b11⟩ := HB1_4.out.two
      have bz1 := HB1_4.out.1
      obtain ⟨b20, b21⟩ := HB2_4.out.two
      have bz2 := HB2_4.out.1
      go_wp2_with fail
      clear b00 b01 bz0 b10 b11 bz1 b20 b21 bz2
      refine (under_any lA lc l hl6 lhw a b ⟨hb1, hb2⟩ W4 HA4.out).mono ?_
      rintro e W5 ⟨rfl, k⟩
      have HK5 := Lib.hid (HK4.out.trans k)
      have HA5 := Lib.hid (HA4.out.kept k)
      have HB0_5 := Lib.hid (HB0_4.out.kept k)
      have HB1_5 := Lib.hid (HB1_4.out.kept k)
      have HB2_5 := Lib.hid (HB2_4.out.kept k)
      clear k HK4 HA4 HB0_4 HB1_4 HB2_4
      cases h : underC l a b with
      | false =>
        have Hab := Lib.hid h
        clear h
        obtain ⟨b00, b01⟩ := HB0_5.out.two
        have bz0 := HB0_5.out.1
        obtain ⟨b10, b11⟩ := HB1_5.out.two
        have bz1 := HB1_5.out.1
        obtain ⟨b20, b21⟩ := HB2_5.out.two
        have bz2 := HB2_5.out.1
        go_wp2_with fail
        clear b00 b01 bz0 b10 b11 bz1 b20 b21 bz2
        refine (under_any lA lc l hl6 lhw a c ⟨hc1, hc2⟩ W5 HA5.out).mono ?_
        rintro e W6 ⟨rfl, k⟩
        have HK6 := Lib.hid (HK5.out.trans k)
        have HA6 := Lib.hid (HA5.out.kept k)
        have HB0_6 := Lib.hid (HB0_5.out.kept k)
        have HB1_6 := Lib.hid (HB1_5.out.kept k)
        have HB2_6 := Lib.hid (HB2_5.out.kept k)
        clear k HK5 HA5 HB0_5 HB1_5 HB2_5
        cases h : underC l a c with
        | false =>
          have Hac := Lib.hid h
          clear h
          obtain ⟨b00, b01⟩ := HB0_6.out.two
          have bz0 := HB0_6.out.1
          obtain ⟨b10, b11⟩ := HB1_6.out.two
          have bz1 := HB1_6.out.1
          obtain ⟨b20, b21⟩ := HB2_6.out.two
          have bz2 := HB2_6.out.1
          go_wp2_with fail
          clear b00 b01 bz0 b10 b11 bz1 b20 b21 bz2
          refine (under_any lA lc l hl6 lhw a b ⟨hb1, hb2⟩ W6 HA6.out).mono ?_
          rintro e W7 ⟨rfl, k⟩
          have HK7 := Lib.hid (HK6.out.trans k)
          have HA7 := Lib.hid (HA6.out.kept k)
          have HB0_7 := Lib.hid (HB0_6.out.kept k)
          have HB1_7 := Lib.hid (HB1_6.out.kept k)
          have HB2_7 := Lib.hid (HB2_6.out.kept k)
          clear k HK6 HA6 HB0_6 HB1_6 HB2_6
          rw [Hab.out]
          obtain ⟨b00, b01⟩ := HB0_7.out.two
          have bz0 := HB0_7.out.1
          obtain ⟨b10, b11⟩ := HB1_7.out.two
          have bz1 := HB1_7.out.1
          obtain ⟨b20, b21⟩ := HB2_7.out.two
          have bz2 := HB2_7.out.1
          go_wp2_with fail
          clear b00 b01 bz0 b10 b11 bz1 b20 b21 bz2
          go_ret
          exact ⟨by first | rfl | (simp; done), HK7.out⟩
        | true =>
          have Hac := Lib.hid h
          clear h
          obtain ⟨b00, b01⟩ := HB0_6.out.two
          have bz0 := HB0_6.out.1
          obtain ⟨b10, b11⟩ := HB1_6.out.two
          have bz1 := HB1_6.out.1
          obtain ⟨b20, b21⟩ := HB2_6.out.two
          have bz2 := HB2_6.out.1
          go_wp2_with fail
          clear b00 b01 bz0 b10 b11 bz1 b20 b21 bz2
          refine (under_any lA lc l hl6 lhw b c ⟨hc1, hc2⟩ W6 HA6.out).mono ?_
          rintro e W7 ⟨rfl, k⟩
          have HK7 := Lib.hid (HK6.out.trans k)
          have HA7 := Lib.hid (HA6.out.kept k)
          have HB0_7 := Lib.hid (HB0_6.out.kept k)
          have HB1_7 := Lib.hid (HB1_6.out.kept k)
          have HB2_7 := Lib.hid (HB2_6.out.kept k)
          clear k HK6 HA6 HB0_6 HB1_6 HB2_6
          cases h : underC l b c with
          | false =>
            have Hbc := Lib.hid h
            clear h
            obtain ⟨b00, b01⟩ := HB0_7.out.two
            have bz0 := HB0_7.out.1
            obtain ⟨b10, b11⟩ := HB1_7.out.two
            have bz1 := HB1_7.out.1
            obtain ⟨b20, b21⟩ := HB2_7.out.two
            have bz2 := HB2_7.out.1
            go_wp2_with fail
            clear b00 b01 bz0 b10 b11 bz1 b20 b21 bz2
            refine (under_any lA lc l hl6 lhw a b ⟨hb1, hb2⟩ W7 HA7.out).mono ?_
            rintro e W8 ⟨rfl, k⟩
            have HK8 := Lib.hid (HK7.out.trans k)
            have HA8 := Lib.hid (HA7.out.kept k)
            have HB0_8 := Lib.hid (HB0_7.out.kept k)
            have HB1_8 := Lib.hid (HB1_7.out.kept k)
            have HB2_8 := Lib.hid (HB2_7.out.kept k)
            clear k HK7 HA7 HB0_7 HB1_7 HB2_7
            rw [Hab.out]
            obtain ⟨b00, b01⟩ := HB0_8.out.two
            have bz0 := HB0_8.out.1
            obtain ⟨b10, b11⟩ := HB1_8.out.two
            have bz1 := HB1_8.out.1
            obtain ⟨b20, b21⟩ := HB2_8.out.two
            have bz2 := HB2_8.out.1
            go_wp2_with fail
            clear b00 b01 bz0 b10 b11 bz1 b20 b21 bz2
            go_ret
            exact ⟨by first | rfl | (simp; done), HK8.out⟩
          | true =>
            have Hbc := Lib.hid h
            clear h
            obtain ⟨b00, b01⟩ := HB0_7.out.two
            have bz0 := HB0_7.out.1
            obtain ⟨b10, b11⟩ := HB1_7.out.two
            have bz1 := HB1_7.out.1
            obtain ⟨b20, b21⟩ := HB2_7.out.two
            have bz2 := HB2_7.out.1
            go_wp2_with fail
            clear b00 b01 bz0 b10 b11 bz1 b20 b21 bz2
            refine (under_any lA lc l hl6 lhw a b ⟨hb1, hb2⟩ W7 HA7.out).mono ?_
            rintro e W8 ⟨rfl, k⟩
            have HK8 := Lib.hid (HK7.out.trans k)
            have HA8 := Lib.hid (HA7.out.kept k)
            have HB0_8 := Lib.hid (HB0_7.out.kept k)
            have HB1_8 := Lib.hid (HB1_7.out.kept k)
            have HB2_8 := Lib.hid (HB2_7.out.kept k)
            clear k HK7 HA7 HB0_7 HB1_7 HB2_7
            rw [Hab.out]
            obtain ⟨b00, b01⟩ := HB0_8.out.two
            have bz0 := HB0_8.out.1
            obtain ⟨b10, b11⟩ := HB1_8.out.two
            have bz1 := HB1_8.out.1
            obtain ⟨b20, b21⟩ := HB2_8.out.two
            have bz2 := HB2_8.out.1
            go_wp2_with fail
            clear b00 b01 bz0 b10 b11 bz1 b20 b21 bz2
            refine (under_any lA lc l hl6 lhw b a ⟨ha1, ha2⟩ W8 HA8.out).mono ?_
            rintro e W9 ⟨rfl, k⟩
            have HK9 := Lib.hid (HK8.out.trans k)
            have HA9 := Lib.hid (HA8.out.kept k)
            have HB0_9 := Lib.hid (HB0_8.out.kept k)
            have HB1_9 := Lib.hid (HB1_8.out.kept k)
            have HB2_9 := Lib.hid (HB2_8.out.kept k)
            clear k HK8 HA8 HB0_8 HB1_8 HB2_8
            cases h : underC l b a with
            | false =>
              have Hba := Lib.hid h
              clear h
              rcases under_both Hac.out Hbc.out with e1 | e1
              · rw [Hab.out] at e1; cases e1
              · rw [Hba.out] at e1; cases e1
            | true =>
              have Hba := Lib.hid h
              clear h
              obtain ⟨b00, b01⟩ := HB0_9.out.two
              have bz0 := HB0_9.out.1
              obtain ⟨b10, b11⟩ := HB1_9.out.two
              have bz1 := HB1_9.out.1
              obtain ⟨b20, b21⟩ := HB2_9.out.two
              have bz2 := HB2_9.out.1
              go_wp2_with fail
              clear b00 b01 bz0 b10 b11 bz1 b20 b21 bz2
              refine (under_any lA lc l hl6 lhw a b ⟨hb1, hb2⟩ W9 HA9.out).mono ?_
              rintro e W10 ⟨rfl, k⟩
              have HK10 := Lib.hid (HK9.out.trans k)
              have HA10 := Lib.hid (HA9.out.kept k)
              have HB0_10 := Lib.hid (HB0_9.out.kept k)
              have HB1_10 := Lib.hid (HB1_9.out.kept k)
              have HB2_10 := Lib.hid (HB2_9.out.kept k)
              clear k HK9 HA9 HB0_9 HB1_9 HB2_9
              rw [Hab.out]
              obtain ⟨b00, b01⟩ := HB0_10.out.two
              have bz0 := HB0_10.out.1
              obtain ⟨b10, b11⟩ := HB1_10.out.two
              have bz1 := HB1_10.out.1
              obtain ⟨b20, b21⟩ := HB2_10.out.two
              have bz2 := HB2_10.out.1
              go_wp2_with fail
              clear b00 b01 bz0 b10 b11 bz1 b20 b21 bz2
              go_ret
              exact ⟨by first | rfl | (simp; done), HK10.out⟩
      | true =>
        have Hab := Lib.hid h
        clear h
        obtain ⟨b00, b01⟩ := HB0_5.out.two
        have bz0 := HB0_5.out.1
        obtain ⟨b10, b11⟩ := HB1_5.out.two
        have bz1 := HB1_5.out.1
        obtain ⟨b20, b21⟩ := HB2_5.out.two
        have bz2 := HB2_5.out.1
        go_wp2_with fail
        clear b00 b01 bz0 b10 b11 bz1 b20 b21 bz2
        refine (under_any lA lc l hl6 lhw b c ⟨hc1, hc2⟩ W5 HA5.out).mono ?_
        rintro e W6 ⟨rfl, k⟩
        have HK6 := Lib.hid (HK5.out.trans k)
        have HA6 := Lib.hid (HA5.out.kept k)
        have HB0_6 := Lib.hid (HB0_5.out.kept k)
        have HB1_6 := Lib.hid (HB1_5.out.kept k)
        have HB2_6 := Lib.hid (HB2_5.out.kept k)
        clear k HK5 HA5 HB0_5 HB1_5 HB2_5
        cases h : underC l b c with
        | false =>
          have Hbc := Lib.hid h
          clear h
          obtain ⟨b00, b01⟩ := HB0_6.out.two
          have bz0 := HB0_6.out.1
          obtain ⟨b10, b11⟩ := HB1_6.out.two
          have bz1 := HB1_6.out.1
          obtain ⟨b20, b21⟩ := HB2_6.out.two
          have bz2 := HB2_6.out.1
          go_wp2_with fail
          clear b00 b01 bz0 b10 b11 bz1 b20 b21 bz2
          refine (under_any lA lc l hl6 lhw a c ⟨hc1, hc2⟩ W6 HA6.out).mono ?_
          rintro e W7 ⟨rfl, k⟩
          have HK7 := Lib.hid (HK6.out.trans k)
          have HA7 := Lib.hid (HA6.out.kept k)
          have HB0_7 := Lib.hid (HB0_6.out.kept k)
          have HB1_7 := Lib.hid (HB1_6.out.kept k)
          have HB2_7 := Lib.hid (HB2_6.out.kept k)
          clear k HK6 HA6 HB0_6 HB1_6 HB2_6
          cases h : underC l a c with
          | false =>
            have Hac := Lib.hid h
            clear h
            obtain ⟨b00, b01⟩ := HB0_7.out.two
            have bz0 := HB0_7.out.1
            obtain ⟨b10, b11⟩ := HB1_7.out.two
            have bz1 := HB1_7.out.1
            obtain ⟨b20, b21⟩ := HB2_7.out.two
            have bz2 := HB2_7.out.1
            go_wp2_with fail
            clear b00 b01 bz0 b10 b11 bz1 b20 b21 bz2
            refine (under_any lA lc l hl6 lhw a b ⟨hb1, hb2⟩ W7 HA7.out).mono ?_
            rintro e W8 ⟨rfl, k⟩
            have HK8 := Lib.hid (HK7.out.trans k)
            have HA8 := Lib.hid (HA7.out.kept k)
            have HB0_8 := Lib.hid (HB0_7.out.kept k)
            have HB1_8 := Lib.hid (HB1_7.out.kept k)
            have HB2_8 := Lib.hid (HB2_7.out.kept k)
            clear k HK7 HA7 HB0_7 HB1_7 HB2_7
            rw [Hab.out]
            obtain ⟨b00, b01⟩ := HB0_8.out.two
            have bz0 := HB0_8.out.1
            obtain ⟨b10, b11⟩ := HB1_8.out.two
            have bz1 := HB1_8.out.1
            obtain ⟨b20, b21⟩ := HB2_8.out.two
            have bz2 := HB2_8.out.1
            go_wp2_with fail
            clear b00 b01 bz0 b10 b11 bz1 b20 b21 bz2
            refine (under_any lA lc l hl6 lhw b a ⟨ha1, ha2⟩ W8 HA8.out).mono ?_
            rintro e W9 ⟨rfl, k⟩
            have HK9 := Lib.hid (HK8.out.trans k)
            have HA9 := Lib.hid (HA8.out.kept k)
            have HB0_9 := Lib.hid (HB0_8.out.kept k)
            have HB1_9 := Lib.hid (HB1_8.out.kept k)
            have HB2_9 := Lib.hid (HB2_8.out.kept k)
            clear k HK8 HA8 HB0_8 HB1_8 HB2_8
            cases h : underC l b a with
            | false =>
              have Hba := Lib.hid h
              clear h
              obtain ⟨b00, b01⟩ := HB0_9.out.two
              have bz0 := HB0_9.out.1
              obtain ⟨b10, b11⟩ := HB1_9.out.two
              have bz1 := HB1_9.out.1
              obtain ⟨b20, b21⟩ := HB2_9.out.two
              have bz2 := HB2_9.out.1
              go_wp2_with fail
              clear b00 b01 bz0 b10 b11 bz1 b20 b21 bz2
              go_ret
              exact ⟨by first | rfl | (simp; done), HK9.out⟩
            | true =>
              have Hba := Lib.hid h
              clear h
              have hs := sameI_yes (under_anti Hab.out Hba.out)
              obtain ⟨b00, b01⟩ := HB0_9.out.two
              have bz0 := HB0_9.out.1
              obtain ⟨b10, b11⟩ := HB1_9.out.two
              have bz1 := HB1_9.out.1
              obtain ⟨b20, b21⟩ := HB2_9.out.two
              have bz2 := HB2_9.out.1
              go_wp2_with fail
              clear b00 b01 bz0 b10 b11 bz1 b20 b21 bz2
              go_ret
              exact ⟨by first | rfl | (simp; done), HK9.out⟩
          | true =>
            have Hac := Lib.hid h
            clear h
            obtain ⟨b00, b01⟩ := HB0_7.out.two
            have bz0 := HB0_7.out.1
            obtain ⟨b10, b11⟩ := HB1_7.out.two
            have bz1 := HB1_7.out.1
            obtain ⟨b20, b21⟩ := HB2_7.out.two
            have bz2 := HB2_7.out.1
            go_wp2_with fail
            clear b00 b01 bz0 b10 b11 bz1 b20 b21 bz2
            refine (under_any lA lc l hl6 lhw b c ⟨hc1, hc2⟩ W7 HA7.out).mono ?_
            rintro e W8 ⟨rfl, k⟩
            have HK8 := Lib.hid (HK7.out.trans k)
            have HA8 := Lib.hid (HA7.out.kept k)
            have HB0_8 := Lib.hid (HB0_7.out.kept k)
            have HB1_8 := Lib.hid (HB1_7.out.kept k)
            have HB2_8 := Lib.hid (HB2_7.out.kept k)
            clear k HK7 HA7 HB0_7 HB1_7 HB2_7
            rw [Hbc.out]
            obtain ⟨b00, b01⟩ := HB0_8.out.two
            have bz0 := HB0_8.out.1
            obtain ⟨b10, b11⟩ := HB1_8.out.two
            have bz1 := HB1_8.out.1
            obtain ⟨b20, b21⟩ := HB2_8.out.two
            have bz2 := HB2_8.out.1
            go_wp2_with fail
            clear b00 b01 bz0 b10 b11 bz1 b20 b21 bz2
            refine (under_any lA lc l hl6 lhw a b ⟨hb1, hb2⟩ W8 HA8.out).mono ?_
            rintro e W9 ⟨rfl, k⟩
            have HK9 := Lib.hid (HK8.out.trans k)
            have HA9 := Lib.hid (HA8.out.kept k)
            have HB0_9 := Lib.hid (HB0_8.out.kept k)
            have HB1_9 := Lib.hid (HB1_8.out.kept k)
            have HB2_9 := Lib.hid (HB2_8.out.kept k)
            clear k HK8 HA8 HB0_8 HB1_8 HB2_8
            rw [Hab.out]
            obtain ⟨b00, b01⟩ := HB0_9.out.two
            have bz0 := HB0_9.out.1
            obtain ⟨b10, b11⟩ := HB1_9.out.two
            have bz1 := HB1_9.out.1
            obtain ⟨b20, b21⟩ := HB2_9.out.two
            have bz2 := HB2_9.out.1
            go_wp2_with fail
            clear b00 b01 bz0 b10 b11 bz1 b20 b21 bz2
            refine (under_any lA lc l hl6 lhw b a ⟨ha1, ha2⟩ W9 HA9.out).mono ?_
            rintro e W10 ⟨rfl, k⟩
            have HK10 := Lib.hid (HK9.out.trans k)
            have HA10 := Lib.hid (HA9.out.kept k)
            have HB0_10 := Lib.hid (HB0_9.out.kept k)
            have HB1_10 := Lib.hid (HB1_9.out.kept k)
            have HB2_10 := Lib.hid (HB2_9.out.kept k)
            clear k HK9 HA9 HB0_9 HB1_9 HB2_9
            cases h : underC l b a with
            | false =>
              have Hba := Lib.hid h
              clear h
              obtain ⟨b00, b01⟩ := HB0_10.out.two
              have bz0 := HB0_10.out.1
              obtain ⟨b10, b11⟩ := HB1_10.out.two
              have bz1 := HB1_10.out.1
              obtain ⟨b20, b21⟩ := HB2_10.out.two
              have bz2 := HB2_10.out.1
              go_wp2_with fail
              clear b00 b01 bz0 b10 b11 bz1 b20 b21 bz2
              go_ret
              exact ⟨by first | rfl | (simp; done), HK10.out⟩
            | true =>
              have Hba := Lib.hid h
              clear h
              have hs := sameI_yes (under_anti Hab.out Hba.out)
              obtain ⟨b00, b01⟩ := HB0_10.out.two
              have bz0 := HB0_10.out.1
              obtain ⟨b10, b11⟩ := HB1_10.out.two
              have bz1 := HB1_10.out.1
              obtain ⟨b20, b21⟩ := HB2_10.out.two
              have bz2 := HB2_10.out.1
              go_wp2_with fail
              clear b00 b01 bz0 b10 b11 bz1 b20 b21 bz2
              go_ret
              exact ⟨by first | rfl | (simp; done), HK10.out⟩
        | true =>
          have Hbc := Lib.hid h
          clear h
          obtain ⟨b00, b01⟩ := HB0_6.out.two
          have bz0 := HB0_6.out.1
          obtain ⟨b10, b11⟩ := HB1_6.out.two
          have bz1 := HB1_6.out.1
          obtain ⟨b20, b21⟩ := HB2_6.out.two
          have bz2 := HB2_6.out.1
          go_wp2_with fail
          clear b00 b01 bz0 b10 b11 bz1 b20 b21 bz2
          refine (under_any lA lc l hl6 lhw a c ⟨hc1, hc2⟩ W6 HA6.out).mono ?_
          rintro e W7 ⟨rfl, k⟩
          have HK7 := Lib.hid (HK6.out.trans k)
          have HA7 := Lib.hid (HA6.out.kept k)
          have HB0_7 := Lib.hid (HB0_6.out.kept k)
          have HB1_7 := Lib.hid (HB1_6.out.kept k)
          have HB2_7 := Lib.hid (HB2_6.out.kept k)
          clear k HK6 HA6 HB0_6 HB1_6 HB2_6
          cases h : underC l a c with
          | false =>
            have Hac := Lib.hid h
            clear h
            have e1 := under_trans Hab.out Hbc.out
            rw [Hac.out] at e1
            cases e1
          | true =>
            have Hac := Lib.hid h
            clear h
            obtain ⟨b00, b01⟩ := HB0_7.out.two
            have bz0 := HB0_7.out.1
            obtain ⟨b10, b11⟩ := HB1_7.out.two
            have bz1 := HB1_7.out.1
            obtain ⟨b20, b21⟩ := HB2_7.out.two
            have bz2 := HB2_7.out.1
            go_wp2_with fail
            clear b00 b01 bz0 b10 b11 bz1 b20 b21 bz2
            refine (under_any lA lc l hl6 lhw a c ⟨hc1, hc2⟩ W7 HA7.out).mono ?_
            rintro e W8 ⟨rfl, k⟩
            have HK8 := Lib.hid (HK7.out.trans k)
            have HA8 := Lib.hid (HA7.out.kept k)
            have HB0_8 := Lib.hid (HB0_7.out.kept k)
            have HB1_8 := Lib.hid (HB1_7.out.kept k)
            have HB2_8 := Lib.hid (HB2_7.out.kept k)
            clear k HK7 HA7 HB0_7 HB1_7 HB2_7
            rw [Hac.out]
            obtain ⟨b00, b01⟩ := HB0_8.out.two
            have bz0 := HB0_8.out.1
            obtain ⟨b10, b11⟩ := HB1_8.out.two
            have bz1 := HB1_8.out.1
            obtain ⟨b20, b21⟩ := HB2_8.out.two
            have bz2 := HB2_8.out.1
            go_wp2_with fail
            clear b00 b01 bz0 b10 b11 bz1 b20 b21 bz2
            refine (under_any lA lc l hl6 lhw b c ⟨hc1, hc2⟩ W8 HA8.out).mono ?_
            rintro e W9 ⟨rfl, k⟩
            have HK9 := Lib.hid (HK8.out.trans k)
            have HA9 := Lib.hid (HA8.out.kept k)
            have HB0_9 := Lib.hid (HB0_8.out.kept k)
            have HB1_9 := Lib.hid (HB1_8.out.kept k)
            have HB2_9 := Lib.hid (HB2_8.out.kept k)
            clear k HK8 HA8 HB0_8 HB1_8 HB2_8
            rw [Hbc.out]
            obtain ⟨b00, b01⟩ := HB0_9.out.two
            have bz0 := HB0_9.out.1
            obtain ⟨b10, b11⟩ := HB1_9.out.two
            have bz1 := HB1_9.out.1
            obtain ⟨b20, b21⟩ := HB2_9.out.two
            have bz2 := HB2_9.out.1
            go_wp2_with fail
            clear b00 b01 bz0 b10 b11 bz1 b20 b21 bz2
            refine (under_any lA lc l hl6 lhw a b ⟨hb1, hb2⟩ W9 HA9.out).mono ?_
            rintro e W10 ⟨rfl, k⟩
            have HK10 := Lib.hid (HK9.out.trans k)
            have HA10 := Lib.hid (HA9.out.kept k)
            have HB0_10 := Lib.hid (HB0_9.out.kept k)
            have HB1_10 := Lib.hid (HB1_9.out.kept k)
            have HB2_10 := Lib.hid (HB2_9.out.kept k)
            clear k HK9 HA9 HB0_9 HB1_9 HB2_9
            rw [Hab.out]
            obtain ⟨b00, b01⟩ := HB0_10.out.two
            have bz0 := HB0_10.out.1
            obtain ⟨b10, b11⟩ := HB1_10.out.two
            have bz1 := HB1_10.out.1
            obtain ⟨b20, b21⟩ := HB2_10.out.two
            have bz2 := HB2_10.out.1
            go_wp2_with fail
            clear b00 b01 bz0 b10 b11 bz1 b20 b21 bz2
            refine (under_any lA lc l hl6 lhw a b ⟨hb1, hb2⟩ W10 HA10.out).mono ?_
            rintro e W11 ⟨rfl, k⟩
            have HK11 := Lib.hid (HK10.out.trans k)
            have HA11 := Lib.hid (HA10.out.kept k)
            have HB0_11 := Lib.hid (HB0_10.out.kept k)
            have HB1_11 := Lib.hid (HB1_10.out.kept k)
            have HB2_11 := Lib.hid (HB2_10.out.kept k)
            clear k HK10 HA10 HB0_10 HB1_10 HB2_10
            rw [Hab.out]
            obtain ⟨b00, b01⟩ := HB0_11.out.two
            have bz0 := HB0_11.out.1
            obtain ⟨b10, b11⟩ := HB1_11.out.two
            have bz1 := HB1_11.out.1
            obtain ⟨b20, b21⟩ := HB2_11.out.two
            have bz2 := HB2_11.out.1
            go_wp2_with fail
            clear b00 b01 bz0 b10 b11 bz1 b20 b21 bz2
            refine (under_any lA lc l hl6 lhw b a ⟨ha1, ha2⟩ W11 HA11.out).mono ?_
            rintro e W12 ⟨rfl, k⟩
            have HK12 := Lib.hid (HK11.out.trans k)
            have HA12 := Lib.hid (HA11.out.kept k)
            have HB0_12 := Lib.hid (HB0_11.out.kept k)
            have HB1_12 := Lib.hid (HB1_11.out.kept k)
            have HB2_12 := Lib.hid (HB2_11.out.kept k)
            clear k HK11 HA11 HB0_11 HB1_11 HB2_11
            cases h : underC l b a with
            | false =>
              have Hba := Lib.hid h
              clear h
              obtain ⟨b00, b01⟩ := HB0_12.out.two
              have bz0 := HB0_12.out.1
              obtain ⟨b10, b11⟩ := HB1_12.out.two
              have bz1 := HB1_12.out.1
              obtain ⟨b20, b21⟩ := HB2_12.out.two
              have bz2 := HB2_12.out.1
              go_wp2_with fail
              clear b00 b01 bz0 b10 b11 bz1 b20 b21 bz2
              go_ret
              exact ⟨by first | rfl | (simp; done), HK12.out⟩
            | true =>
              have Hba := Lib.hid h
              clear h
              have hs := sameI_yes (under_anti Hab.out Hba.out)
              obtain ⟨b00, b01⟩ := HB0_12.out.two
              have bz0 := HB0_12.out.1
              obtain ⟨b10, b11⟩ := HB1_12.out.two
              have bz1 := HB1_12.out.1
              obtain ⟨b20, b21⟩ := HB2_12.out.two
              have bz2 := HB2_12.out.1
              go_wp2_with fail
              clear b00 b01 bz0 b10 b11 bz1 b20 b21 bz2
              go_ret
              exact ⟨by first | rfl | (simp; done), HK12.out⟩
  · go_enter Try.func5, Try.ntmps5
    go_wp2_with fail
    have HK0 := Lib.hid ((((Kept.refl w).alloc (.cells #[.int .u64 a.1, .int .u64 a.2] 25)).alloc (.cells #[.int .u64 b.1, .int .u64 b.2] 25)).alloc (.cells #[.int .u64 c.1, .int .u64 c.2] 25))
    have HA0 := Lib.hid (lhl.kept HK0.out)
    have HB0_0 := Lib.hid (((HasCells.new w #[.int .u64 a.1, .int .u64 a.2] 25 (w.heap.size) (by simp)).alloc (.cells #[.int .u64 b.1, .int .u64 b.2] 25)).alloc (.cells #[.int .u64 c.1, .int .u64 c.2] 25))
    have HB1_0 := Lib.hid ((HasCells.new (w.alloc (.cells #[.int .u64 a.1, .int .u64 a.2] 25)) #[.int .u64 b.1, .int .u64 b.2] 25 (w.heap.size + 1) (by simp)).alloc (.cells #[.int .u64 c.1, .int .u64 c.2] 25))
    have HB2_0 := Lib.hid (HasCells.new ((w.alloc (.cells #[.int .u64 a.1, .int .u64 a.2] 25)).alloc (.cells #[.int .u64 b.1, .int .u64 b.2] 25)) #[.int .u64 c.1, .int .u64 c.2] 25 (w.heap.size + 1 + 1) (by simp))
    generalize (((w.alloc (.cells #[.int .u64 a.1, .int .u64 a.2] 25)).alloc (.cells #[.int .u64 b.1, .int .u64 b.2] 25)).alloc (.cells #[.int .u64 c.1, .int .u64 c.2] 25)) = W0 at *
    generalize w.heap.size + 1 + 1 = z2 at *
    generalize w.heap.size + 1 = z1 at *
    generalize w.heap.size = z0 at *
    clear lhl
    refine (treeAwake W0).mono ?_
    rintro e W1 ⟨rfl, k⟩
    have HK1 := Lib.hid (HK0.out.trans k)
    have HA1 := Lib.hid (HA0.out.kept k)
    have HB0_1 := Lib.hid (HB0_0.out.kept k)
    have HB1_1 := Lib.hid (HB1_0.out.kept k)
    have HB2_1 := Lib.hid (HB2_0.out.kept k)
    clear k HK0 HA0 HB0_0 HB1_0 HB2_0
    obtain ⟨b00, b01⟩ := HB0_1.out.two
    have bz0 := HB0_1.out.1
    obtain ⟨b10, b11⟩ := HB1_1.out.two
    have bz1 := HB1_1.out.1
    obtain ⟨b20, b21⟩ := HB2_1.out.two
    have bz2 := HB2_1.out.1
    go_wp2_with fail
    clear b00 b01 bz0 b10 b11 bz1 b20 b21 bz2
    go_ret
    exact ⟨by first | rfl | (simp; done), HK1.out⟩

/-! ### The row's step -/
set_option maxRecDepth 100000 in
theorem lifted (os : Os) (started : os.Started) (H : Type) (enc : TypeId × Value → H) :
    ReturnsInHanded {} Try.checked os 5 .any (Rows.treeUnderSpec.pre6 enc Try.prog Try.f5 Rows.treeUnderRow.domain false) (Rows.treeUnderSpec.post enc Try.prog Try.f5 false true false false) := by
  refine returnsInHanded_of_change (C := Try.checked) own started (by kernel_rfl) Try.func5
    (ChangeSpec.witness6 (enc := enc) (C := Try.checked) false ⟨#[], #[.slice none 0 0, .agg #[.int .u64 0, .int .u64 0], .agg #[.int .u64 0, .int .u64 0], .agg #[.int .u64 0, .int .u64 0]], []⟩ 8 (by kernel_rfl) (by kernel_rfl) (by kernel_rfl) (by kernel_rfl)) ?_
  intro W base args ds gs before hval0 hW hcnd _
  have hval : ∀ (j : Nat) t v, Try.f5.params[j]? = some t → args[j]? = some v → Value.okWide Try.prog W .any base t v := hval0
  have hW' := hW
  obtain ⟨p, q, hA0, hV, rfl, hfz, hnd⟩ := hW
  have hA : DataW.TrodAll enc Try.prog W 0 (fun _ => true) true Try.f5.params.toList args.toList ds p := hA0
  rw [Try.params5] at hA hval
  obtain ⟨v0, vs0, d0, ds0, p0, q0, hargs, rfl, rfl, h0, r0⟩ := trodAll_cons hA
  obtain ⟨v1, vs1, d1, ds1, p1, q1, rfl, rfl, rfl, h1, r1⟩ := trodAll_cons r0
  obtain ⟨v2, vs2, d2, ds2, p2, q2, rfl, rfl, rfl, h2, r2⟩ := trodAll_cons r1
  obtain ⟨v3, vs3, d3, ds3, p3, q3, rfl, rfl, rfl, h3, r3⟩ := trodAll_cons r2
  obtain ⟨rfl, rfl, rfl⟩ := trodAll_nil r3
  obtain rfl : args = #[v0, v1, v2, v3] := by cases args; simp_all
  obtain ⟨rfl, rfl⟩ := trodVars_none hV
  obtain ⟨lA, lc, l, rfl, lhm, lhc, lhw, lhl⟩ := open_blocks (hval 0 _ v0 rfl rfl) h0
  obtain ⟨a, rfl, ha1, ha2⟩ := open_id (hval 1 _ v1 rfl rfl) h1
  obtain ⟨b, rfl, hb1, hb2⟩ := open_id (hval 2 _ v2 rfl rfl) h2
  obtain ⟨c, rfl, hc1, hc2⟩ := open_id (hval 3 _ v3 rfl rfl) h3
  clear hA0 hval0
  refine (walk W lA lc l lhm lhc lhw lhl a ha1 ha2 b hb1 hb2 c hc1 hc2).mono fun e W' ⟨he, hb⟩ => ?_
  subst he
  exact ⟨_, rfl, law_post rfl (by kernel_rfl) rfl hW' rfl hb⟩

theorem over : Rows.treeUnderRow.holds Try.pinned (OpenSpec.ofChange Rows.treeUnderSpec) :=
  OpenClaim.holds_of_wide 5 Try.f5 rfl rfl rfl rfl rfl rfl rfl ⟨rfl, rfl, rfl, rfl, rfl⟩ rfl rfl rfl rfl rfl (by kernel_rfl) Try.func5 (by kernel_rfl)
    (of_decide_eq_true (by kernel_rfl)) (by unfold Func.isWrapper; first | (rw [if_pos (by decide +kernel)]; kernel_rfl) | (rw [if_neg (by decide +kernel)]; exact ⟨rfl, rfl⟩))
    (fun os started H enc _ => lifted os started H enc)

/-- The statement. -/
theorem proved : Rows.TreeUnderSaid :=
  over
#print axioms proved
end Go.Proofs.Ytepgbnojbomicaa.treeUnder
