/-
  For all lists of blocks l, blocks b, numbers x and ids low and i marigoldlaw06.TreeMore returns true and leaves its arguments as they were: no further condition.
-/
import Derived.Test.YtepgbnojbomicaaTreeAwake
import Derived.Test.YtepgbnojbomicaaTreeOpen
import Derived.Test.YtepgbnojbomicaaTreeFacts
import Derived.Test.YtepgbnojbomicaaBkRow
namespace Go.Proofs.Ytepgbnojbomicaa.treeMore
open Go.ChangeShapes Go.WideShapes Go.ChangeAt Go.RowKit
set_option linter.unusedVariables false

theorem wf_snoc {l : List Bk} {b : Bk} (h : WfL l) (hb : WfB b) : WfL (l ++ [b]) := fun x hx => by
  rcases List.mem_append.1 hx with h1 | h1
  · exact h x h1
  · simp at h1; subst h1; exact hb
theorem may_take (lA : Option Addr) (lc : Nat) (l : List Bk) (k : Nat) (hk : k ≤ l.length) (hl6 : l.length ≤ 1000000) (lhw : WfL l) (w : World) (hA : CellsAt w w.heap.size lA (blockCells l)) :
    Calls Try.prog 22 #[.slice lA k lc] w fun e w' => e = .returned (.bool (mayB (l.take k))) ∧ Kept w w' := by
  have h := may_any lA lc (l.take k) (by rw [List.length_take]; omega) (fun x hx => lhw x (List.mem_of_mem_take hx)) w (cells_blocks_take hA k)
  rw [List.length_take, Nat.min_eq_left hk] at h
  exact h
theorem may_more (A : Option Addr) (c : Nat) (l : List Bk) (b : Bk) (hl : (l ++ [b]).length ≤ 1000000) (hw : WfL (l ++ [b])) (w : World) (hA : CellsAt w w.heap.size A (blockCells (l ++ [b]))) :
    Calls Try.prog 22 #[.slice A (l.length + 1) c] w fun e w' => e = .returned (.bool (mayB (l ++ [b]))) ∧ Kept w w' := by
  have h := may_any A c (l ++ [b]) hl hw w hA
  rw [show (l ++ [b]).length = l.length + 1 by simp] at h
  exact h
theorem under_m (A : Option Addr) (c : Nat) (l : List Bk) (b : Bk) (hl : (l ++ [b]).length ≤ 1000000) (hw : WfL (l ++ [b])) (low x : Id2) (hx : WfI x) (w : World) (hA : CellsAt w w.heap.size A (blockCells (l ++ [b]))) :
    Calls Try.prog 23 #[.slice A (l.length + 1) c, .agg #[.int .u64 low.1, .int .u64 low.2], .agg #[.int .u64 x.1, .int .u64 x.2]] w fun e w' => e = .returned (.bool (underC (l ++ [b]) low x)) ∧ Kept w w' := by
  have h := under_any A c (l ++ [b]) hl hw low x hx w hA
  rw [show (l ++ [b]).length = l.length + 1 by simp] at h
  exact h
attribute [local go_sem high] eqIdN eqIdZ in
set_option maxRecDepth 100000 in
set_option maxHeartbeats 3200000 in
theorem way_none (w : World) (lA : Option Addr) (lc : Nat) (l : List Bk) (hl6 : l.length ≤ 1000000) (h40 : l.length ≤ 40) (lhc : l.length ≤ lc) (lhw : WfL l) (lhl : CellsAt w w.heap.size lA (blockCells l)) (b : Bk) (hb : WfB b) (at' : Nat) (hat : at' ≤ l.length) (low : Id2) (i : Id2) (hi : WfI i) (n : Id2) (hn : WfI n) (hN : ∀ w : World, Calls Try.prog 20 #[.agg #[.int .i64 b.s, .int .i64 b.f, .int .u64 b.p.1, .int .u64 b.p.2, .int .u64 b.t]] w fun e w' => e = .returned (.agg #[.int .u64 n.1, .int .u64 n.2]) ∧ Kept w w') (hm : mayB l = true) (hT : mayB (l.take at') = true) (hM : mayB (l ++ [b]) = false) (hS : slotC l b.p = (0, false)) :
    Calls Try.prog 6 #[.slice lA l.length lc, .agg #[.int .i64 b.s, .int .i64 b.f, .int .u64 b.p.1, .int .u64 b.p.2, .int .u64 b.t], .int .i64 at', .agg #[.int .u64 low.1, .int .u64 low.2], .agg #[.int .u64 i.1, .int .u64 i.2]] w fun e w' => e = .returned (.bool true) ∧ Kept w w' := by
  have XN := Lib.hid hN
  have Xm := Lib.hid hm
  have XT := Lib.hid hT
  have XM := Lib.hid hM
  have XS := Lib.hid hS
  clear hN hm hT hM hS
  go_enter Try.func6, Try.ntmps6
  go_wp2_with fail
  have HK0 := Lib.hid ((((Kept.refl w).alloc (.cells #[.int .i64 b.s, .int .i64 b.f, .int .u64 b.p.1, .int .u64 b.p.2, .int .u64 b.t] 36)).alloc (.cells #[.int .u64 low.1, .int .u64 low.2] 25)).alloc (.cells #[.int .u64 i.1, .int .u64 i.2] 25))
  have HA0 := Lib.hid (lhl.kept HK0.out)
  have HB0_0 := Lib.hid (((HasCells.new w #[.int .i64 b.s, .int .i64 b.f, .int .u64 b.p.1, .int .u64 b.p.2, .int .u64 b.t] 36 (w.heap.size) (by simp)).alloc (.cells #[.int .u64 low.1, .int .u64 low.2] 25)).alloc (.cells #[.int .u64 i.1, .int .u64 i.2] 25))
  have HB1_0 := Lib.hid ((HasCells.new (w.alloc (.cells #[.int .i64 b.s, .int .i64 b.f, .int .u64 b.p.1, .int .u64 b.p.2, .int .u64 b.t] 36)) #[.int .u64 low.1, .int .u64 low.2] 25 (w.heap.size + 1) (by simp)).alloc (.cells #[.int .u64 i.1, .int .u64 i.2] 25))
  have HB2_0 := Lib.hid (HasCells.new ((w.alloc (.cells #[.int .i64 b.s, .int .i64 b.f, .int .u64 b.p.1, .int .u64 b.p.2, .int .u64 b.t] 36)).alloc (.cells #[.int .u64 low.1, .int .u64 low.2] 25)) #[.int .u64 i.1, .int .u64 i.2] 25 (w.heap.size + 1 + 1) (by simp))
  generalize (((w.alloc (.cells #[.int .i64 b.s, .int .i64 b.f, .int .u64 b.p.1, .int .u64 b.p.2, .int .u64 b.t] 36)).alloc (.cells #[.int .u64 low.1, .int .u64 low.2] 25)).alloc (.cells #[.int .u64 i.1, .int .u64 i.2] 25)) = W0 at *
  generalize w.heap.size + 1 + 1 = z2 at *
  generalize w.heap.size + 1 = z1 at *
  generalize w.heap.size = z0 at *
  clear lhl
  refine (treeAwake W0).mono ?_
  rintro e W1 ⟨rfl, k⟩
  have HK1 := Lib.hid (HK0.out.trans k)
  have HA1 := Lib.hid (HA0.out.kept k)
  have HB0_1 := Lib.hid (HB0_0.out.kept k)
  have HB1_1 := Lib.hid (HB1_0.out.kept k)
  have HB2_1 := Lib.hid (HB2_0.out.kept k)
  clear k HK0 HA0 HB0_0 HB1_0 HB2_0
  obtain ⟨b00, b01, b02, b03, b04⟩ := HB0_1.out.five
  have bz0 := HB0_1.out.1
  obtain ⟨b10, b11⟩ := HB1_1.out.two
  have bz1 := HB1_1.out.1
  obtain ⟨b20, b21⟩ := HB2_1.out.two
  have bz2 := HB2_1.out.1
  go_wp2_with fail
  clear b00 b01 b02 b03 b04 bz0 b10 b11 bz1 b20 b21 bz2
  refine (may_any lA lc l hl6 lhw W1 HA1.out).mono ?_
  rintro e W2 ⟨rfl, k⟩
  have HK2 := Lib.hid (HK1.out.trans k)
  have HA2 := Lib.hid (HA1.out.kept k)
  have HB0_2 := Lib.hid (HB0_1.out.kept k)
  have HB1_2 := Lib.hid (HB1_1.out.kept k)
  have HB2_2 := Lib.hid (HB2_1.out.kept k)
  clear k HK1 HA1 HB0_1 HB1_1 HB2_1
  rw [Xm.out]
  have hat0 : (0 : Int) ≤ (at' : Int) := by omega
  have hat1 : (at' : Int) ≤ (l.length : Int) := by omega
  have hat2 : ¬ (at' : Int) < 0 := by omega
  have hat3 : ¬ (l.length : Int) < (at' : Int) := by omega
  obtain ⟨b00, b01, b02, b03, b04⟩ := HB0_2.out.five
  have bz0 := HB0_2.out.1
  obtain ⟨b10, b11⟩ := HB1_2.out.two
  have bz1 := HB1_2.out.1
  obtain ⟨b20, b21⟩ := HB2_2.out.two
  have bz2 := HB2_2.out.1
  go_wp2_with fail
  clear b00 b01 b02 b03 b04 bz0 b10 b11 bz1 b20 b21 bz2
  obtain ⟨c0, c1, c2, c3, c4⟩ := HB0_2.out.five
  have hz0 := HB0_2.out.1
  have hlen : l.length + 1 ≤ 1000000 := by omega
  have hq := (⟨c0, c1, c2, c3, c4, Kept.refl W2⟩ : _ ∧ _ ∧ _ ∧ _ ∧ _ ∧ _)
  go_region_held3 (fun w' => w'.cell? ⟨z0, 0, none⟩ = some (.int .i64 b.s) ∧ w'.cell? ⟨z0, 1, none⟩ = some (.int .i64 b.f) ∧ w'.cell? ⟨z0, 2, none⟩ = some (.int .u64 b.p.1) ∧ w'.cell? ⟨z0, 3, none⟩ = some (.int .u64 b.p.2) ∧ w'.cell? ⟨z0, 4, none⟩ = some (.int .u64 b.t) ∧ Kept W2 w')
    (first | exact hq | exact ⟨c0, c1, c2, c3, c4, (Kept.refl _).drew⟩ | assumption | exact keep5 hz0 hq (Kept.trans (Kept.drew (Kept.refl _)) b2.2) | exact keep5 hz0 hq (Kept.trans (Kept.drew (Kept.alloc (Kept.refl _) _)) b2.2) | exact keep5 hz0 hq (Kept.trans (Kept.drew (Kept.refl _)) b1.2) | exact keep5 hz0 hq (Kept.trans (Kept.drew (Kept.alloc (Kept.refl _) _)) b1.2) | exact keep5 hz0 hq (Kept.drew (Kept.alloc (Kept.refl _) _)) | exact keep5 hz0 (by assumption) ((Kept.refl _).alloc _) | exact keep5 hz0 (by assumption) (by assumption))
    (first
      | (refine step_bnil _ (by rfl) (.tmp 41) (by rfl) _ lA l.length lc l (by rfl) rfl (HA2.out.kept (Kept.refl _).drew) (by omega) ?_; intro A1 d1 w1 b1)
      | (refine step_bnil _ (by rfl) (.tmp 41) (by rfl) _ lA l.length lc l (by rfl) rfl (HA2.out.kept (Kept.drew (Kept.alloc (Kept.refl _) _))) (by omega) ?_; intro A1 d1 w1 b1)
      | (refine step_bks _ (by rfl) (.tmp 42) (.tmp 44) (by rfl) _ l _ (by rfl) (b1.alloc _) _ _ 1 1 [b] (by rfl) rfl (blocks_one _ _ _ _ rfl) hlen ?_; intro A2 d2 w2 b2)
      | (refine step_bks _ (by rfl) (.tmp 42) (.tmp 44) (by rfl) _ l _ (by rfl) b1 _ _ 1 1 [b] (by rfl) rfl (((blocks_one W2 _ _ _ rfl).kept (Kept.drew (Kept.refl _))).kept b1.2) hlen ?_; intro A2 d2 w2 b2))
  all_goals
    rename_i hh
    have k := hh.2.2.2.2.2
    have XB := Lib.hid (b2.cells (by simp))
    clear hh hq b1 b2 c0 c1 c2 c3 c4 hz0
    have HK3 := Lib.hid (HK2.out.trans k)
    have HA3 := Lib.hid (HA2.out.kept k)
    have HB0_3 := Lib.hid (HB0_2.out.kept k)
    have HB1_3 := Lib.hid (HB1_2.out.kept k)
    have HB2_3 := Lib.hid (HB2_2.out.kept k)
    clear k HK2 HA2 HB0_2 HB1_2 HB2_2
    generalize w2 = W3 at *
    have HM_3 := XB
    clear XB
    have hml : (l ++ [b]).length ≤ 1000000 := by simp; omega
    have hmw : WfL (l ++ [b]) := wf_snoc lhw hb
    obtain ⟨b00, b01, b02, b03, b04⟩ := HB0_3.out.five
    have bz0 := HB0_3.out.1
    obtain ⟨b10, b11⟩ := HB1_3.out.two
    have bz1 := HB1_3.out.1
    obtain ⟨b20, b21⟩ := HB2_3.out.two
    have bz2 := HB2_3.out.1
    go_wp2_with fail
    clear b00 b01 b02 b03 b04 bz0 b10 b11 bz1 b20 b21 bz2
    refine (slot_any lA lc l hl6 lhw b.p hb.1 W3 HA3.out).mono ?_
    rintro e W4 ⟨rfl, k⟩
    have HK4 := Lib.hid (HK3.out.trans k)
    have HA4 := Lib.hid (HA3.out.kept k)
    have HB0_4 := Lib.hid (HB0_3.out.kept k)
    have HB1_4 := Lib.hid (HB1_3.out.kept k)
    have HB2_4 := Lib.hid (HB2_3.out.kept k)
    have HM_4 := Lib.hid (HM_3.out.kept k)
    clear k HK3 HA3 HB0_3 HB1_3 HB2_3 HM_3
    rw [XS.out]
    unfold slotPV
    obtain ⟨b00, b01, b02, b03, b04⟩ := HB0_4.out.five
    have bz0 := HB0_4.out.1
    obtain ⟨b10, b11⟩ := HB1_4.out.two
    have bz1 := HB1_4.out.1
    obtain ⟨b20, b21⟩ := HB2_4.out.two
    have bz2 := HB2_4.out.1
    go_wp2_with fail
    clear b00 b01 b02 b03 b04 bz0 b10 b11 bz1 b20 b21 bz2
    refine (XN.out W4).mono ?_
    rintro e W5 ⟨rfl, k⟩
    have HK5 := Lib.hid (HK4.out.trans k)
    have HA5 := Lib.hid (HA4.out.kept k)
    have HB0_5 := Lib.hid (HB0_4.out.kept k)
    have HB1_5 := Lib.hid (HB1_4.out.kept k)
    have HB2_5 := Lib.hid (HB2_4.out.kept k)
    have HM_5 := Lib.hid (HM_4.out.kept k)
    clear k HK4 HA4 HB0_4 HB1_4 HB2_4 HM_4
    obtain ⟨b00, b01, b02, b03, b04⟩ := HB0_5.out.five
    have bz0 := HB0_5.out.1
    obtain ⟨b10, b11⟩ := HB1_5.out.two
    have bz1 := HB1_5.out.1
    obtain ⟨b20, b21⟩ := HB2_5.out.two
    have bz2 := HB2_5.out.1
    go_wp2_with fail
    clear b00 b01 b02 b03 b04 bz0 b10 b11 bz1 b20 b21 bz2
    have k := (Kept.refl W5).alloc (.cells #[.int .u64 n.1, .int .u64 n.2] 25)
    have HX_6 := Lib.hid (HasCells.new W5 #[.int .u64 n.1, .int .u64 n.2] 25 W5.heap.size rfl)
    have HK6 := Lib.hid (HK5.out.trans k)
    have HA6 := Lib.hid (HA5.out.kept k)
    have HB0_6 := Lib.hid (HB0_5.out.kept k)
    have HB1_6 := Lib.hid (HB1_5.out.kept k)
    have HB2_6 := Lib.hid (HB2_5.out.kept k)
    have HM_6 := Lib.hid (HM_5.out.kept k)
    clear k HK5 HA5 HB0_5 HB1_5 HB2_5 HM_5
    generalize W5.alloc (.cells #[.int .u64 n.1, .int .u64 n.2] 25) = W6 at *
    generalize W5.heap.size = zx at *
    refine (may_take lA lc l at' hat hl6 lhw W6 HA6.out).mono ?_
    rintro e W7 ⟨rfl, k⟩
    have HK7 := Lib.hid (HK6.out.trans k)
    have HA7 := Lib.hid (HA6.out.kept k)
    have HB0_7 := Lib.hid (HB0_6.out.kept k)
    have HB1_7 := Lib.hid (HB1_6.out.kept k)
    have HB2_7 := Lib.hid (HB2_6.out.kept k)
    have HM_7 := Lib.hid (HM_6.out.kept k)
    have HX_7 := Lib.hid (HX_6.out.kept k)
    clear k HK6 HA6 HB0_6 HB1_6 HB2_6 HM_6 HX_6
    rw [XT.out]
    obtain ⟨b00, b01, b02, b03, b04⟩ := HB0_7.out.five
    have bz0 := HB0_7.out.1
    obtain ⟨b10, b11⟩ := HB1_7.out.two
    have bz1 := HB1_7.out.1
    obtain ⟨b20, b21⟩ := HB2_7.out.two
    have bz2 := HB2_7.out.1
    go_wp2_with fail
    clear b00 b01 b02 b03 b04 bz0 b10 b11 bz1 b20 b21 bz2
    refine (may_more A2 d2 l b hml hmw W7 HM_7.out).mono ?_
    rintro e W8 ⟨rfl, k⟩
    have HK8 := Lib.hid (HK7.out.trans k)
    have HA8 := Lib.hid (HA7.out.kept k)
    have HB0_8 := Lib.hid (HB0_7.out.kept k)
    have HB1_8 := Lib.hid (HB1_7.out.kept k)
    have HB2_8 := Lib.hid (HB2_7.out.kept k)
    have HM_8 := Lib.hid (HM_7.out.kept k)
    have HX_8 := Lib.hid (HX_7.out.kept k)
    clear k HK7 HA7 HB0_7 HB1_7 HB2_7 HM_7 HX_7
    rw [XM.out]
    obtain ⟨b00, b01, b02, b03, b04⟩ := HB0_8.out.five
    have bz0 := HB0_8.out.1
    obtain ⟨b10, b11⟩ := HB1_8.out.two
    have bz1 := HB1_8.out.1
    obtain ⟨b20, b21⟩ := HB2_8.out.two
    have bz2 := HB2_8.out.1
    go_wp2_with fail
    clear b00 b01 b02 b03 b04 bz0 b10 b11 bz1 b20 b21 bz2
    go_quiet (fail)
    go_wp2_with fail
    go_ret
    exact ⟨by first | rfl | (simp; done), HK8.out.drewN _⟩
attribute [local go_sem high] eqIdN eqIdZ in
set_option maxRecDepth 100000 in
set_option maxHeartbeats 3200000 in
theorem way_less (w : World) (lA : Option Addr) (lc : Nat) (l : List Bk) (hl6 : l.length ≤ 1000000) (h40 : l.length ≤ 40) (lhc : l.length ≤ lc) (lhw : WfL l) (lhl : CellsAt w w.heap.size lA (blockCells l)) (b : Bk) (hb : WfB b) (at' : Nat) (hat : at' ≤ l.length) (low : Id2) (i : Id2) (hi : WfI i) (n : Id2) (hn : WfI n) (hN : ∀ w : World, Calls Try.prog 20 #[.agg #[.int .i64 b.s, .int .i64 b.f, .int .u64 b.p.1, .int .u64 b.p.2, .int .u64 b.t]] w fun e w' => e = .returned (.agg #[.int .u64 n.1, .int .u64 n.2]) ∧ Kept w w') (hm : mayB l = true) (hT : mayB (l.take at') = true) (hM : mayB (l ++ [b]) = false) (s : Int) (hS : slotC l b.p = (s, true)) (hlt : ¬ s < b.s) :
    Calls Try.prog 6 #[.slice lA l.length lc, .agg #[.int .i64 b.s, .int .i64 b.f, .int .u64 b.p.1, .int .u64 b.p.2, .int .u64 b.t], .int .i64 at', .agg #[.int .u64 low.1, .int .u64 low.2], .agg #[.int .u64 i.1, .int .u64 i.2]] w fun e w' => e = .returned (.bool true) ∧ Kept w w' := by
  have XN := Lib.hid hN
  have Xm := Lib.hid hm
  have XT := Lib.hid hT
  have XM := Lib.hid hM
  have XS := Lib.hid hS
  clear hN hm hT hM hS
  go_enter Try.func6, Try.ntmps6
  go_wp2_with fail
  have HK0 := Lib.hid ((((Kept.refl w).alloc (.cells #[.int .i64 b.s, .int .i64 b.f, .int .u64 b.p.1, .int .u64 b.p.2, .int .u64 b.t] 36)).alloc (.cells #[.int .u64 low.1, .int .u64 low.2] 25)).alloc (.cells #[.int .u64 i.1, .int .u64 i.2] 25))
  have HA0 := Lib.hid (lhl.kept HK0.out)
  have HB0_0 := Lib.hid (((HasCells.new w #[.int .i64 b.s, .int .i64 b.f, .int .u64 b.p.1, .int .u64 b.p.2, .int .u64 b.t] 36 (w.heap.size) (by simp)).alloc (.cells #[.int .u64 low.1, .int .u64 low.2] 25)).alloc (.cells #[.int .u64 i.1, .int .u64 i.2] 25))
  have HB1_0 := Lib.hid ((HasCells.new (w.alloc (.cells #[.int .i64 b.s, .int .i64 b.f, .int .u64 b.p.1, .int .u64 b.p.2, .int .u64 b.t] 36)) #[.int .u64 low.1, .int .u64 low.2] 25 (w.heap.size + 1) (by simp)).alloc (.cells #[.int .u64 i.1, .int .u64 i.2] 25))
  have HB2_0 := Lib.hid (HasCells.new ((w.alloc (.cells #[.int .i64 b.s, .int .i64 b.f, .int .u64 b.p.1, .int .u64 b.p.2, .int .u64 b.t] 36)).alloc (.cells #[.int .u64 low.1, .int .u64 low.2] 25)) #[.int .u64 i.1, .int .u64 i.2] 25 (w.heap.size + 1 + 1) (by simp))
  generalize (((w.alloc (.cells #[.int .i64 b.s, .int .i64 b.f, .int .u64 b.p.1, .int .u64 b.p.2, .int .u64 b.t] 36)).alloc (.cells #[.int .u64 low.1, .int .u64 low.2] 25)).alloc (.cells #[.int .u64 i.1, .int .u64 i.2] 25)) = W0 at *
  generalize w.heap.size + 1 + 1 = z2 at *
  generalize w.heap.size + 1 = z1 at *
  generalize w.heap.size = z0 at *
  clear lhl
  refine (treeAwake W0).mono ?_
  rintro e W1 ⟨rfl, k⟩
  have HK1 := Lib.hid (HK0.out.trans k)
  have HA1 := Lib.hid (HA0.out.kept k)
  have HB0_1 := Lib.hid (HB0_0.out.kept k)
  have HB1_1 := Lib.hid (HB1_0.out.kept k)
  have HB2_1 := Lib.hid (HB2_0.out.kept k)
  clear k HK0 HA0 HB0_0 HB1_0 HB2_0
  obtain ⟨b00, b01, b02, b03, b04⟩ := HB0_1.out.five
  have bz0 := HB0_1.out.1
  obtain ⟨b10, b11⟩ := HB1_1.out.two
  have bz1 := HB1_1.out.1
  obtain ⟨b20, b21⟩ := HB2_1.out.two
  have bz2 := HB2_1.out.1
  go_wp2_with fail
  clear b00 b01 b02 b03 b04 bz0 b10 b11 bz1 b20 b21 bz2
  refine (may_any lA lc l hl6 lhw W1 HA1.out).mono ?_
  rintro e W2 ⟨rfl, k⟩
  have HK2 := Lib.hid (HK1.out.trans k)
  have HA2 := Lib.hid (HA1.out.kept k)
  have HB0_2 := Lib.hid (HB0_1.out.kept k)
  have HB1_2 := Lib.hid (HB1_1.out.kept k)
  have HB2_2 := Lib.hid (HB2_1.out.kept k)
  clear k HK1 HA1 HB0_1 HB1_1 HB2_1
  rw [Xm.out]
  have hat0 : (0 : Int) ≤ (at' : Int) := by omega
  have hat1 : (at' : Int) ≤ (l.length : Int) := by omega
  have hat2 : ¬ (at' : Int) < 0 := by omega
  have hat3 : ¬ (l.length : Int) < (at' : Int) := by omega
  obtain ⟨b00, b01, b02, b03, b04⟩ := HB0_2.out.five
  have bz0 := HB0_2.out.1
  obtain ⟨b10, b11⟩ := HB1_2.out.two
  have bz1 := HB1_2.out.1
  obtain ⟨b20, b21⟩ := HB2_2.out.two
  have bz2 := HB2_2.out.1
  go_wp2_with fail
  clear b00 b01 b02 b03 b04 bz0 b10 b11 bz1 b20 b21 bz2
  obtain ⟨c0, c1, c2, c3, c4⟩ := HB0_2.out.five
  have hz0 := HB0_2.out.1
  have hlen : l.length + 1 ≤ 1000000 := by omega
  have hq := (⟨c0, c1, c2, c3, c4, Kept.refl W2⟩ : _ ∧ _ ∧ _ ∧ _ ∧ _ ∧ _)
  go_region_held3 (fun w' => w'.cell? ⟨z0, 0, none⟩ = some (.int .i64 b.s) ∧ w'.cell? ⟨z0, 1, none⟩ = some (.int .i64 b.f) ∧ w'.cell? ⟨z0, 2, none⟩ = some (.int .u64 b.p.1) ∧ w'.cell? ⟨z0, 3, none⟩ = some (.int .u64 b.p.2) ∧ w'.cell? ⟨z0, 4, none⟩ = some (.int .u64 b.t) ∧ Kept W2 w')
    (first | exact hq | exact ⟨c0, c1, c2, c3, c4, (Kept.refl _).drew⟩ | assumption | exact keep5 hz0 hq (Kept.trans (Kept.drew (Kept.refl _)) b2.2) | exact keep5 hz0 hq (Kept.trans (Kept.drew (Kept.alloc (Kept.refl _) _)) b2.2) | exact keep5 hz0 hq (Kept.trans (Kept.drew (Kept.refl _)) b1.2) | exact keep5 hz0 hq (Kept.trans (Kept.drew (Kept.alloc (Kept.refl _) _)) b1.2) | exact keep5 hz0 hq (Kept.drew (Kept.alloc (Kept.refl _) _)) | exact keep5 hz0 (by assumption) ((Kept.refl _).alloc _) | exact keep5 hz0 (by assumption) (by assumption))
    (first
      | (refine step_bnil _ (by rfl) (.tmp 41) (by rfl) _ lA l.length lc l (by rfl) rfl (HA2.out.kept (Kept.refl _).drew) (by omega) ?_; intro A1 d1 w1 b1)
      | (refine step_bnil _ (by rfl) (.tmp 41) (by rfl) _ lA l.length lc l (by rfl) rfl (HA2.out.kept (Kept.drew (Kept.alloc (Kept.refl _) _))) (by omega) ?_; intro A1 d1 w1 b1)
      | (refine step_bks _ (by rfl) (.tmp 42) (.tmp 44) (by rfl) _ l _ (by rfl) (b1.alloc _) _ _ 1 1 [b] (by rfl) rfl (blocks_one _ _ _ _ rfl) hlen ?_; intro A2 d2 w2 b2)
      | (refine step_bks _ (by rfl) (.tmp 42) (.tmp 44) (by rfl) _ l _ (by rfl) b1 _ _ 1 1 [b] (by rfl) rfl (((blocks_one W2 _ _ _ rfl).kept (Kept.drew (Kept.refl _))).kept b1.2) hlen ?_; intro A2 d2 w2 b2))
  all_goals
    rename_i hh
    have k := hh.2.2.2.2.2
    have XB := Lib.hid (b2.cells (by simp))
    clear hh hq b1 b2 c0 c1 c2 c3 c4 hz0
    have HK3 := Lib.hid (HK2.out.trans k)
    have HA3 := Lib.hid (HA2.out.kept k)
    have HB0_3 := Lib.hid (HB0_2.out.kept k)
    have HB1_3 := Lib.hid (HB1_2.out.kept k)
    have HB2_3 := Lib.hid (HB2_2.out.kept k)
    clear k HK2 HA2 HB0_2 HB1_2 HB2_2
    generalize w2 = W3 at *
    have HM_3 := XB
    clear XB
    have hml : (l ++ [b]).length ≤ 1000000 := by simp; omega
    have hmw : WfL (l ++ [b]) := wf_snoc lhw hb
    obtain ⟨b00, b01, b02, b03, b04⟩ := HB0_3.out.five
    have bz0 := HB0_3.out.1
    obtain ⟨b10, b11⟩ := HB1_3.out.two
    have bz1 := HB1_3.out.1
    obtain ⟨b20, b21⟩ := HB2_3.out.two
    have bz2 := HB2_3.out.1
    go_wp2_with fail
    clear b00 b01 b02 b03 b04 bz0 b10 b11 bz1 b20 b21 bz2
    refine (slot_any lA lc l hl6 lhw b.p hb.1 W3 HA3.out).mono ?_
    rintro e W4 ⟨rfl, k⟩
    have HK4 := Lib.hid (HK3.out.trans k)
    have HA4 := Lib.hid (HA3.out.kept k)
    have HB0_4 := Lib.hid (HB0_3.out.kept k)
    have HB1_4 := Lib.hid (HB1_3.out.kept k)
    have HB2_4 := Lib.hid (HB2_3.out.kept k)
    have HM_4 := Lib.hid (HM_3.out.kept k)
    clear k HK3 HA3 HB0_3 HB1_3 HB2_3 HM_3
    rw [XS.out]
    unfold slotPV
    obtain ⟨b00, b01, b02, b03, b04⟩ := HB0_4.out.five
    have bz0 := HB0_4.out.1
    obtain ⟨b10, b11⟩ := HB1_4.out.two
    have bz1 := HB1_4.out.1
    obtain ⟨b20, b21⟩ := HB2_4.out.two
    have bz2 := HB2_4.out.1
    go_wp2_with fail
    clear b00 b01 b02 b03 b04 bz0 b10 b11 bz1 b20 b21 bz2
    refine (XN.out W4).mono ?_
    rintro e W5 ⟨rfl, k⟩
    have HK5 := Lib.hid (HK4.out.trans k)
    have HA5 := Lib.hid (HA4.out.kept k)
    have HB0_5 := Lib.hid (HB0_4.out.kept k)
    have HB1_5 := Lib.hid (HB1_4.out.kept k)
    have HB2_5 := Lib.hid (HB2_4.out.kept k)
    have HM_5 := Lib.hid (HM_4.out.kept k)
    clear k HK4 HA4 HB0_4 HB1_4 HB2_4 HM_4
    obtain ⟨b00, b01, b02, b03, b04⟩ := HB0_5.out.five
    have bz0 := HB0_5.out.1
    obtain ⟨b10, b11⟩ := HB1_5.out.two
    have bz1 := HB1_5.out.1
    obtain ⟨b20, b21⟩ := HB2_5.out.two
    have bz2 := HB2_5.out.1
    go_wp2_with fail
    clear b00 b01 b02 b03 b04 bz0 b10 b11 bz1 b20 b21 bz2
    have k := (Kept.refl W5).alloc (.cells #[.int .u64 n.1, .int .u64 n.2] 25)
    have HX_6 := Lib.hid (HasCells.new W5 #[.int .u64 n.1, .int .u64 n.2] 25 W5.heap.size rfl)
    have HK6 := Lib.hid (HK5.out.trans k)
    have HA6 := Lib.hid (HA5.out.kept k)
    have HB0_6 := Lib.hid (HB0_5.out.kept k)
    have HB1_6 := Lib.hid (HB1_5.out.kept k)
    have HB2_6 := Lib.hid (HB2_5.out.kept k)
    have HM_6 := Lib.hid (HM_5.out.kept k)
    clear k HK5 HA5 HB0_5 HB1_5 HB2_5 HM_5
    generalize W5.alloc (.cells #[.int .u64 n.1, .int .u64 n.2] 25) = W6 at *
    generalize W5.heap.size = zx at *
    refine (may_take lA lc l at' hat hl6 lhw W6 HA6.out).mono ?_
    rintro e W7 ⟨rfl, k⟩
    have HK7 := Lib.hid (HK6.out.trans k)
    have HA7 := Lib.hid (HA6.out.kept k)
    have HB0_7 := Lib.hid (HB0_6.out.kept k)
    have HB1_7 := Lib.hid (HB1_6.out.kept k)
    have HB2_7 := Lib.hid (HB2_6.out.kept k)
    have HM_7 := Lib.hid (HM_6.out.kept k)
    have HX_7 := Lib.hid (HX_6.out.kept k)
    clear k HK6 HA6 HB0_6 HB1_6 HB2_6 HM_6 HX_6
    rw [XT.out]
    obtain ⟨b00, b01, b02, b03, b04⟩ := HB0_7.out.five
    have bz0 := HB0_7.out.1
    obtain ⟨b10, b11⟩ := HB1_7.out.two
    have bz1 := HB1_7.out.1
    obtain ⟨b20, b21⟩ := HB2_7.out.two
    have bz2 := HB2_7.out.1
    go_wp2_with fail
    clear b00 b01 b02 b03 b04 bz0 b10 b11 bz1 b20 b21 bz2
    refine (may_more A2 d2 l b hml hmw W7 HM_7.out).mono ?_
    rintro e W8 ⟨rfl, k⟩
    have HK8 := Lib.hid (HK7.out.trans k)
    have HA8 := Lib.hid (HA7.out.kept k)
    have HB0_8 := Lib.hid (HB0_7.out.kept k)
    have HB1_8 := Lib.hid (HB1_7.out.kept k)
    have HB2_8 := Lib.hid (HB2_7.out.kept k)
    have HM_8 := Lib.hid (HM_7.out.kept k)
    have HX_8 := Lib.hid (HX_7.out.kept k)
    clear k HK7 HA7 HB0_7 HB1_7 HB2_7 HM_7 HX_7
    rw [XM.out]
    obtain ⟨b00, b01, b02, b03, b04⟩ := HB0_8.out.five
    have bz0 := HB0_8.out.1
    obtain ⟨b10, b11⟩ := HB1_8.out.two
    have bz1 := HB1_8.out.1
    obtain ⟨b20, b21⟩ := HB2_8.out.two
    have bz2 := HB2_8.out.1
    go_wp2_with fail
    clear b00 b01 b02 b03 b04 bz0 b10 b11 bz1 b20 b21 bz2
    go_quiet (fail)
    go_wp2_with fail
    go_ret
    exact ⟨by first | rfl | (simp; done), HK8.out.drewN _⟩
attribute [local go_sem high] eqIdN eqIdZ in
set_option maxRecDepth 100000 in
set_option maxHeartbeats 3200000 in
theorem way_zero (w : World) (lA : Option Addr) (lc : Nat) (l : List Bk) (hl6 : l.length ≤ 1000000) (h40 : l.length ≤ 40) (lhc : l.length ≤ lc) (lhw : WfL l) (lhl : CellsAt w w.heap.size lA (blockCells l)) (b : Bk) (hb : WfB b) (at' : Nat) (hat : at' ≤ l.length) (low : Id2) (i : Id2) (hi : WfI i) (n : Id2) (hn : WfI n) (hN : ∀ w : World, Calls Try.prog 20 #[.agg #[.int .i64 b.s, .int .i64 b.f, .int .u64 b.p.1, .int .u64 b.p.2, .int .u64 b.t]] w fun e w' => e = .returned (.agg #[.int .u64 n.1, .int .u64 n.2]) ∧ Kept w w') (hm : mayB l = true) (hT : mayB (l.take at') = true) (hM : mayB (l ++ [b]) = false) (s : Int) (hS : slotC l b.p = (s, true)) (hlt : s < b.s) (hz : isZ n = true) :
    Calls Try.prog 6 #[.slice lA l.length lc, .agg #[.int .i64 b.s, .int .i64 b.f, .int .u64 b.p.1, .int .u64 b.p.2, .int .u64 b.t], .int .i64 at', .agg #[.int .u64 low.1, .int .u64 low.2], .agg #[.int .u64 i.1, .int .u64 i.2]] w fun e w' => e = .returned (.bool true) ∧ Kept w w' := by
  have XN := Lib.hid hN
  have Xm := Lib.hid hm
  have XT := Lib.hid hT
  have XM := Lib.hid hM
  have XS := Lib.hid hS
  clear hN hm hT hM hS
  go_enter Try.func6, Try.ntmps6
  go_wp2_with fail
  have HK0 := Lib.hid ((((Kept.refl w).alloc (.cells #[.int .i64 b.s, .int .i64 b.f, .int .u64 b.p.1, .int .u64 b.p.2, .int .u64 b.t] 36)).alloc (.cells #[.int .u64 low.1, .int .u64 low.2] 25)).alloc (.cells #[.int .u64 i.1, .int .u64 i.2] 25))
  have HA0 := Lib.hid (lhl.kept HK0.out)
  have HB0_0 := Lib.hid (((HasCells.new w #[.int .i64 b.s, .int .i64 b.f, .int .u64 b.p.1, .int .u64 b.p.2, .int .u64 b.t] 36 (w.heap.size) (by simp)).alloc (.cells #[.int .u64 low.1, .int .u64 low.2] 25)).alloc (.cells #[.int .u64 i.1, .int .u64 i.2] 25))
  have HB1_0 := Lib.hid ((HasCells.new (w.alloc (.cells #[.int .i64 b.s, .int .i64 b.f, .int .u64 b.p.1, .int .u64 b.p.2, .int .u64 b.t] 36)) #[.int .u64 low.1, .int .u64 low.2] 25 (w.heap.size + 1) (by simp)).alloc (.cells #[.int .u64 i.1, .int .u64 i.2] 25))
  have HB2_0 := Lib.hid (HasCells.new ((w.alloc (.cells #[.int .i64 b.s, .int .i64 b.f, .int .u64 b.p.1, .int .u64 b.p.2, .int .u64 b.t] 36)).alloc (.cells #[.int .u64 low.1, .int .u64 low.2] 25)) #[.int .u64 i.1, .int .u64 i.2] 25 (w.heap.size + 1 + 1) (by simp))
  generalize (((w.alloc (.cells #[.int .i64 b.s, .int .i64 b.f, .int .u64 b.p.1, .int .u64 b.p.2, .int .u64 b.t] 36)).alloc (.cells #[.int .u64 low.1, .int .u64 low.2] 25)).alloc (.cells #[.int .u64 i.1, .int .u64 i.2] 25)) = W0 at *
  generalize w.heap.size + 1 + 1 = z2 at *
  generalize w.heap.size + 1 = z1 at *
  generalize w.heap.size = z0 at *
  clear lhl
  refine (treeAwake W0).mono ?_
  rintro e W1 ⟨rfl, k⟩
  have HK1 := Lib.hid (HK0.out.trans k)
  have HA1 := Lib.hid (HA0.out.kept k)
  have HB0_1 := Lib.hid (HB0_0.out.kept k)
  have HB1_1 := Lib.hid (HB1_0.out.kept k)
  have HB2_1 := Lib.hid (HB2_0.out.kept k)
  clear k HK0 HA0 HB0_0 HB1_0 HB2_0
  obtain ⟨b00, b01, b02, b03, b04⟩ := HB0_1.out.five
  have bz0 := HB0_1.out.1
  obtain ⟨b10, b11⟩ := HB1_1.out.two
  have bz1 := HB1_1.out.1
  obtain ⟨b20, b21⟩ := HB2_1.out.two
  have bz2 := HB2_1.out.1
  go_wp2_with fail
  clear b00 b01 b02 b03 b04 bz0 b10 b11 bz1 b20 b21 bz2
  refine (may_any lA lc l hl6 lhw W1 HA1.out).mono ?_
  rintro e W2 ⟨rfl, k⟩
  have HK2 := Lib.hid (HK1.out.trans k)
  have HA2 := Lib.hid (HA1.out.kept k)
  have HB0_2 := Lib.hid (HB0_1.out.kept k)
  have HB1_2 := Lib.hid (HB1_1.out.kept k)
  have HB2_2 := Lib.hid (HB2_1.out.kept k)
  clear k HK1 HA1 HB0_1 HB1_1 HB2_1
  rw [Xm.out]
  have hat0 : (0 : Int) ≤ (at' : Int) := by omega
  have hat1 : (at' : Int) ≤ (l.length : Int) := by omega
  have hat2 : ¬ (at' : Int) < 0 := by omega
  have hat3 : ¬ (l.length : Int) < (at' : Int) := by omega
  obtain ⟨b00, b01, b02, b03, b04⟩ := HB0_2.out.five
  have bz0 := HB0_2.out.1
  obtain ⟨b10, b11⟩ := HB1_2.out.two
  have bz1 := HB1_2.out.1
  obtain ⟨b20, b21⟩ := HB2_2.out.two
  have bz2 := HB2_2.out.1
  go_wp2_with fail
  clear b00 b01 b02 b03 b04 bz0 b10 b11 bz1 b20 b21 bz2
  obtain ⟨c0, c1, c2, c3, c4⟩ := HB0_2.out.five
  have hz0 := HB0_2.out.1
  have hlen : l.length + 1 ≤ 1000000 := by omega
  have hq := (⟨c0, c1, c2, c3, c4, Kept.refl W2⟩ : _ ∧ _ ∧ _ ∧ _ ∧ _ ∧ _)
  go_region_held3 (fun w' => w'.cell? ⟨z0, 0, none⟩ = some (.int .i64 b.s) ∧ w'.cell? ⟨z0, 1, none⟩ = some (.int .i64 b.f) ∧ w'.cell? ⟨z0, 2, none⟩ = some (.int .u64 b.p.1) ∧ w'.cell? ⟨z0, 3, none⟩ = some (.int .u64 b.p.2) ∧ w'.cell? ⟨z0, 4, none⟩ = some (.int .u64 b.t) ∧ Kept W2 w')
    (first | exact hq | exact ⟨c0, c1, c2, c3, c4, (Kept.refl _).drew⟩ | assumption | exact keep5 hz0 hq (Kept.trans (Kept.drew (Kept.refl _)) b2.2) | exact keep5 hz0 hq (Kept.trans (Kept.drew (Kept.alloc (Kept.refl _) _)) b2.2) | exact keep5 hz0 hq (Kept.trans (Kept.drew (Kept.refl _)) b1.2) | exact keep5 hz0 hq (Kept.trans (Kept.drew (Kept.alloc (Kept.refl _) _)) b1.2) | exact keep5 hz0 hq (Kept.drew (Kept.alloc (Kept.refl _) _)) | exact keep5 hz0 (by assumption) ((Kept.refl _).alloc _) | exact keep5 hz0 (by assumption) (by assumption))
    (first
      | (refine step_bnil _ (by rfl) (.tmp 41) (by rfl) _ lA l.length lc l (by rfl) rfl (HA2.out.kept (Kept.refl _).drew) (by omega) ?_; intro A1 d1 w1 b1)
      | (refine step_bnil _ (by rfl) (.tmp 41) (by rfl) _ lA l.length lc l (by rfl) rfl (HA2.out.kept (Kept.drew (Kept.alloc (Kept.refl _) _))) (by omega) ?_; intro A1 d1 w1 b1)
      | (refine step_bks _ (by rfl) (.tmp 42) (.tmp 44) (by rfl) _ l _ (by rfl) (b1.alloc _) _ _ 1 1 [b] (by rfl) rfl (blocks_one _ _ _ _ rfl) hlen ?_; intro A2 d2 w2 b2)
      | (refine step_bks _ (by rfl) (.tmp 42) (.tmp 44) (by rfl) _ l _ (by rfl) b1 _ _ 1 1 [b] (by rfl) rfl (((blocks_one W2 _ _ _ rfl).kept (Kept.drew (Kept.refl _))).kept b1.2) hlen ?_; intro A2 d2 w2 b2))
  all_goals
    rename_i hh
    have k := hh.2.2.2.2.2
    have XB := Lib.hid (b2.cells (by simp))
    clear hh hq b1 b2 c0 c1 c2 c3 c4 hz0
    have HK3 := Lib.hid (HK2.out.trans k)
    have HA3 := Lib.hid (HA2.out.kept k)
    have HB0_3 := Lib.hid (HB0_2.out.kept k)
    have HB1_3 := Lib.hid (HB1_2.out.kept k)
    have HB2_3 := Lib.hid (HB2_2.out.kept k)
    clear k HK2 HA2 HB0_2 HB1_2 HB2_2
    generalize w2 = W3 at *
    have HM_3 := XB
    clear XB
    have hml : (l ++ [b]).length ≤ 1000000 := by simp; omega
    have hmw : WfL (l ++ [b]) := wf_snoc lhw hb
    obtain ⟨b00, b01, b02, b03, b04⟩ := HB0_3.out.five
    have bz0 := HB0_3.out.1
    obtain ⟨b10, b11⟩ := HB1_3.out.two
    have bz1 := HB1_3.out.1
    obtain ⟨b20, b21⟩ := HB2_3.out.two
    have bz2 := HB2_3.out.1
    go_wp2_with fail
    clear b00 b01 b02 b03 b04 bz0 b10 b11 bz1 b20 b21 bz2
    refine (slot_any lA lc l hl6 lhw b.p hb.1 W3 HA3.out).mono ?_
    rintro e W4 ⟨rfl, k⟩
    have HK4 := Lib.hid (HK3.out.trans k)
    have HA4 := Lib.hid (HA3.out.kept k)
    have HB0_4 := Lib.hid (HB0_3.out.kept k)
    have HB1_4 := Lib.hid (HB1_3.out.kept k)
    have HB2_4 := Lib.hid (HB2_3.out.kept k)
    have HM_4 := Lib.hid (HM_3.out.kept k)
    clear k HK3 HA3 HB0_3 HB1_3 HB2_3 HM_3
    rw [XS.out]
    unfold slotPV
    obtain ⟨b00, b01, b02, b03, b04⟩ := HB0_4.out.five
    have bz0 := HB0_4.out.1
    obtain ⟨b10, b11⟩ := HB1_4.out.two
    have bz1 := HB1_4.out.1
    obtain ⟨b20, b21⟩ := HB2_4.out.two
    have bz2 := HB2_4.out.1
    go_wp2_with fail
    clear b00 b01 b02 b03 b04 bz0 b10 b11 bz1 b20 b21 bz2
    refine (XN.out W4).mono ?_
    rintro e W5 ⟨rfl, k⟩
    have HK5 := Lib.hid (HK4.out.trans k)
    have HA5 := Lib.hid (HA4.out.kept k)
    have HB0_5 := Lib.hid (HB0_4.out.kept k)
    have HB1_5 := Lib.hid (HB1_4.out.kept k)
    have HB2_5 := Lib.hid (HB2_4.out.kept k)
    have HM_5 := Lib.hid (HM_4.out.kept k)
    clear k HK4 HA4 HB0_4 HB1_4 HB2_4 HM_4
    obtain ⟨b00, b01, b02, b03, b04⟩ := HB0_5.out.five
    have bz0 := HB0_5.out.1
    obtain ⟨b10, b11⟩ := HB1_5.out.two
    have bz1 := HB1_5.out.1
    obtain ⟨b20, b21⟩ := HB2_5.out.two
    have bz2 := HB2_5.out.1
    go_wp2_with fail
    clear b00 b01 b02 b03 b04 bz0 b10 b11 bz1 b20 b21 bz2
    have k := (Kept.refl W5).alloc (.cells #[.int .u64 n.1, .int .u64 n.2] 25)
    have HX_6 := Lib.hid (HasCells.new W5 #[.int .u64 n.1, .int .u64 n.2] 25 W5.heap.size rfl)
    have HK6 := Lib.hid (HK5.out.trans k)
    have HA6 := Lib.hid (HA5.out.kept k)
    have HB0_6 := Lib.hid (HB0_5.out.kept k)
    have HB1_6 := Lib.hid (HB1_5.out.kept k)
    have HB2_6 := Lib.hid (HB2_5.out.kept k)
    have HM_6 := Lib.hid (HM_5.out.kept k)
    clear k HK5 HA5 HB0_5 HB1_5 HB2_5 HM_5
    generalize W5.alloc (.cells #[.int .u64 n.1, .int .u64 n.2] 25) = W6 at *
    generalize W5.heap.size = zx at *
    refine (may_take lA lc l at' hat hl6 lhw W6 HA6.out).mono ?_
    rintro e W7 ⟨rfl, k⟩
    have HK7 := Lib.hid (HK6.out.trans k)
    have HA7 := Lib.hid (HA6.out.kept k)
    have HB0_7 := Lib.hid (HB0_6.out.kept k)
    have HB1_7 := Lib.hid (HB1_6.out.kept k)
    have HB2_7 := Lib.hid (HB2_6.out.kept k)
    have HM_7 := Lib.hid (HM_6.out.kept k)
    have HX_7 := Lib.hid (HX_6.out.kept k)
    clear k HK6 HA6 HB0_6 HB1_6 HB2_6 HM_6 HX_6
    rw [XT.out]
    obtain ⟨b00, b01, b02, b03, b04⟩ := HB0_7.out.five
    have bz0 := HB0_7.out.1
    obtain ⟨b10, b11⟩ := HB1_7.out.two
    have bz1 := HB1_7.out.1
    obtain ⟨b20, b21⟩ := HB2_7.out.two
    have bz2 := HB2_7.out.1
    go_wp2_with fail
    clear b00 b01 b02 b03 b04 bz0 b10 b11 bz1 b20 b21 bz2
    refine (may_more A2 d2 l b hml hmw W7 HM_7.out).mono ?_
    rintro e W8 ⟨rfl, k⟩
    have HK8 := Lib.hid (HK7.out.trans k)
    have HA8 := Lib.hid (HA7.out.kept k)
    have HB0_8 := Lib.hid (HB0_7.out.kept k)
    have HB1_8 := Lib.hid (HB1_7.out.kept k)
    have HB2_8 := Lib.hid (HB2_7.out.kept k)
    have HM_8 := Lib.hid (HM_7.out.kept k)
    have HX_8 := Lib.hid (HX_7.out.kept k)
    clear k HK7 HA7 HB0_7 HB1_7 HB2_7 HM_7 HX_7
    rw [XM.out]
    obtain ⟨b00, b01, b02, b03, b04⟩ := HB0_8.out.five
    have bz0 := HB0_8.out.1
    obtain ⟨b10, b11⟩ := HB1_8.out.two
    have bz1 := HB1_8.out.1
    obtain ⟨b20, b21⟩ := HB2_8.out.two
    have bz2 := HB2_8.out.1
    go_wp2_with fail
    clear b00 b01 b02 b03 b04 bz0 b10 b11 bz1 b20 b21 bz2
    go_quiet (fail)
    go_wp2_with fail
    go_ret
    exact ⟨by first | rfl | (simp; done), HK8.out.drewN _⟩
attribute [local go_sem high] eqIdN eqIdZ in
set_option maxRecDepth 100000 in
set_option maxHeartbeats 3200000 in
theorem way_there (w : World) (lA : Option Addr) (lc : Nat) (l : List Bk) (hl6 : l.length ≤ 1000000) (h40 : l.length ≤ 40) (lhc : l.length ≤ lc) (lhw : WfL l) (lhl : CellsAt w w.heap.size lA (blockCells l)) (b : Bk) (hb : WfB b) (at' : Nat) (hat : at' ≤ l.length) (low : Id2) (i : Id2) (hi : WfI i) (n : Id2) (hn : WfI n) (hN : ∀ w : World, Calls Try.prog 20 #[.agg #[.int .i64 b.s, .int .i64 b.f, .int .u64 b.p.1, .int .u64 b.p.2, .int .u64 b.t]] w fun e w' => e = .returned (.agg #[.int .u64 n.1, .int .u64 n.2]) ∧ Kept w w') (hm : mayB l = true) (hT : mayB (l.take at') = true) (hM : mayB (l ++ [b]) = false) (s : Int) (hS : slotC l b.p = (s, true)) (hlt : s < b.s) (hz : isZ n = false) (J : Int) (hJ : ¬ J < 0) (hJ2 : decide (J < 0) = false) (hF : findC l n = J) :
    Calls Try.prog 6 #[.slice lA l.length lc, .agg #[.int .i64 b.s, .int .i64 b.f, .int .u64 b.p.1, .int .u64 b.p.2, .int .u64 b.t], .int .i64 at', .agg #[.int .u64 low.1, .int .u64 low.2], .agg #[.int .u64 i.1, .int .u64 i.2]] w fun e w' => e = .returned (.bool true) ∧ Kept w w' := by
  have XN := Lib.hid hN
  have Xm := Lib.hid hm
  have XT := Lib.hid hT
  have XM := Lib.hid hM
  have XS := Lib.hid hS
  have XF := Lib.hid hF
  clear hN hm hT hM hS hF
  go_enter Try.func6, Try.ntmps6
  go_wp2_with fail
  have HK0 := Lib.hid ((((Kept.refl w).alloc (.cells #[.int .i64 b.s, .int .i64 b.f, .int .u64 b.p.1, .int .u64 b.p.2, .int .u64 b.t] 36)).alloc (.cells #[.int .u64 low.1, .int .u64 low.2] 25)).alloc (.cells #[.int .u64 i.1, .int .u64 i.2] 25))
  have HA0 := Lib.hid (lhl.kept HK0.out)
  have HB0_0 := Lib.hid (((HasCells.new w #[.int .i64 b.s, .int .i64 b.f, .int .u64 b.p.1, .int .u64 b.p.2, .int .u64 b.t] 36 (w.heap.size) (by simp)).alloc (.cells #[.int .u64 low.1, .int .u64 low.2] 25)).alloc (.cells #[.int .u64 i.1, .int .u64 i.2] 25))
  have HB1_0 := Lib.hid ((HasCells.new (w.alloc (.cells #[.int .i64 b.s, .int .i64 b.f, .int .u64 b.p.1, .int .u64 b.p.2, .int .u64 b.t] 36)) #[.int .u64 low.1, .int .u64 low.2] 25 (w.heap.size + 1) (by simp)).alloc (.cells #[.int .u64 i.1, .int .u64 i.2] 25))
  have HB2_0 := Lib.hid (HasCells.new ((w.alloc (.cells #[.int .i64 b.s, .int .i64 b.f, .int .u64 b.p.1, .int .u64 b.p.2, .int .u64 b.t] 36)).alloc (.cells #[.int .u64 low.1, .int .u64 low.2] 25)) #[.int .u64 i.1, .int .u64 i.2] 25 (w.heap.size + 1 + 1) (by simp))
  generalize (((w.alloc (.cells #[.int .i64 b.s, .int .i64 b.f, .int .u64 b.p.1, .int .u64 b.p.2, .int .u64 b.t] 36)).alloc (.cells #[.int .u64 low.1, .int .u64 low.2] 25)).alloc (.cells #[.int .u64 i.1, .int .u64 i.2] 25)) = W0 at *
  generalize w.heap.size + 1 + 1 = z2 at *
  generalize w.heap.size + 1 = z1 at *
  generalize w.heap.size = z0 at *
  clear lhl
  refine (treeAwake W0).mono ?_
  rintro e W1 ⟨rfl, k⟩
  have HK1 := Lib.hid (HK0.out.trans k)
  have HA1 := Lib.hid (HA0.out.kept k)
  have HB0_1 := Lib.hid (HB0_0.out.kept k)
  have HB1_1 := Lib.hid (HB1_0.out.kept k)
  have HB2_1 := Lib.hid (HB2_0.out.kept k)
  clear k HK0 HA0 HB0_0 HB1_0 HB2_0
  obtain ⟨b00, b01, b02, b03, b04⟩ := HB0_1.out.five
  have bz0 := HB0_1.out.1
  obtain ⟨b10, b11⟩ := HB1_1.out.two
  have bz1 := HB1_1.out.1
  obtain ⟨b20, b21⟩ := HB2_1.out.two
  have bz2 := HB2_1.out.1
  go_wp2_with fail
  clear b00 b01 b02 b03 b04 bz0 b10 b11 bz1 b20 b21 bz2
  refine (may_any lA lc l hl6 lhw W1 HA1.out).mono ?_
  rintro e W2 ⟨rfl, k⟩
  have HK2 := Lib.hid (HK1.out.trans k)
  have HA2 := Lib.hid (HA1.out.kept k)
  have HB0_2 := Lib.hid (HB0_1.out.kept k)
  have HB1_2 := Lib.hid (HB1_1.out.kept k)
  have HB2_2 := Lib.hid (HB2_1.out.kept k)
  clear k HK1 HA1 HB0_1 HB1_1 HB2_1
  rw [Xm.out]
  have hat0 : (0 : Int) ≤ (at' : Int) := by omega
  have hat1 : (at' : Int) ≤ (l.length : Int) := by omega
  have hat2 : ¬ (at' : Int) < 0 := by omega
  have hat3 : ¬ (l.length : Int) < (at' : Int) := by omega
  obtain ⟨b00, b01, b02, b03, b04⟩ := HB0_2.out.five
  have bz0 := HB0_2.out.1
  obtain ⟨b10, b11⟩ := HB1_2.out.two
  have bz1 := HB1_2.out.1
  obtain ⟨b20, b21⟩ := HB2_2.out.two
  have bz2 := HB2_2.out.1
  go_wp2_with fail
  clear b00 b01 b02 b03 b04 bz0 b10 b11 bz1 b20 b21 bz2
  obtain ⟨c0, c1, c2, c3, c4⟩ := HB0_2.out.five
  have hz0 := HB0_2.out.1
  have hlen : l.length + 1 ≤ 1000000 := by omega
  have hq := (⟨c0, c1, c2, c3, c4, Kept.refl W2⟩ : _ ∧ _ ∧ _ ∧ _ ∧ _ ∧ _)
  go_region_held3 (fun w' => w'.cell? ⟨z0, 0, none⟩ = some (.int .i64 b.s) ∧ w'.cell? ⟨z0, 1, none⟩ = some (.int .i64 b.f) ∧ w'.cell? ⟨z0, 2, none⟩ = some (.int .u64 b.p.1) ∧ w'.cell? ⟨z0, 3, none⟩ = some (.int .u64 b.p.2) ∧ w'.cell? ⟨z0, 4, none⟩ = some (.int .u64 b.t) ∧ Kept W2 w')
    (first | exact hq | exact ⟨c0, c1, c2, c3, c4, (Kept.refl _).drew⟩ | assumption | exact keep5 hz0 hq (Kept.trans (Kept.drew (Kept.refl _)) b2.2) | exact keep5 hz0 hq (Kept.trans (Kept.drew (Kept.alloc (Kept.refl _) _)) b2.2) | exact keep5 hz0 hq (Kept.trans (Kept.drew (Kept.refl _)) b1.2) | exact keep5 hz0 hq (Kept.trans (Kept.drew (Kept.alloc (Kept.refl _) _)) b1.2) | exact keep5 hz0 hq (Kept.drew (Kept.alloc (Kept.refl _) _)) | exact keep5 hz0 (by assumption) ((Kept.refl _).alloc _) | exact keep5 hz0 (by assumption) (by assumption))
    (first
      | (refine step_bnil _ (by rfl) (.tmp 41) (by rfl) _ lA l.length lc l (by rfl) rfl (HA2.out.kept (Kept.refl _).drew) (by omega) ?_; intro A1 d1 w1 b1)
      | (refine step_bnil _ (by rfl) (.tmp 41) (by rfl) _ lA l.length lc l (by rfl) rfl (HA2.out.kept (Kept.drew (Kept.alloc (Kept.refl _) _))) (by omega) ?_; intro A1 d1 w1 b1)
      | (refine step_bks _ (by rfl) (.tmp 42) (.tmp 44) (by rfl) _ l _ (by rfl) (b1.alloc _) _ _ 1 1 [b] (by rfl) rfl (blocks_one _ _ _ _ rfl) hlen ?_; intro A2 d2 w2 b2)
      | (refine step_bks _ (by rfl) (.tmp 42) (.tmp 44) (by rfl) _ l _ (by rfl) b1 _ _ 1 1 [b] (by rfl) rfl (((blocks_one W2 _ _ _ rfl).kept (Kept.drew (Kept.refl _))).kept b1.2) hlen ?_; intro A2 d2 w2 b2))
  all_goals
    rename_i hh
    have k := hh.2.2.2.2.2
    have XB := Lib.hid (b2.cells (by simp))
    clear hh hq b1 b2 c0 c1 c2 c3 c4 hz0
    have HK3 := Lib.hid (HK2.out.trans k)
    have HA3 := Lib.hid (HA2.out.kept k)
    have HB0_3 := Lib.hid (HB0_2.out.kept k)
    have HB1_3 := Lib.hid (HB1_2.out.kept k)
    have HB2_3 := Lib.hid (HB2_2.out.kept k)
    clear k HK2 HA2 HB0_2 HB1_2 HB2_2
    generalize w2 = W3 at *
    have HM_3 := XB
    clear XB
    have hml : (l ++ [b]).length ≤ 1000000 := by simp; omega
    have hmw : WfL (l ++ [b]) := wf_snoc lhw hb
    obtain ⟨b00, b01, b02, b03, b04⟩ := HB0_3.out.five
    have bz0 := HB0_3.out.1
    obtain ⟨b10, b11⟩ := HB1_3.out.two
    have bz1 := HB1_3.out.1
    obtain ⟨b20, b21⟩ := HB2_3.out.two
    have bz2 := HB2_3.out.1
    go_wp2_with fail
    clear b00 b01 b02 b03 b04 bz0 b10 b11 bz1 b20 b21 bz2
    refine (slot_any lA lc l hl6 lhw b.p hb.1 W3 HA3.out).mono ?_
    rintro e W4 ⟨rfl, k⟩
    have HK4 := Lib.hid (HK3.out.trans k)
    have HA4 := Lib.hid (HA3.out.kept k)
    have HB0_4 := Lib.hid (HB0_3.out.kept k)
    have HB1_4 := Lib.hid (HB1_3.out.kept k)
    have HB2_4 := Lib.hid (HB2_3.out.kept k)
    have HM_4 := Lib.hid (HM_3.out.kept k)
    clear k HK3 HA3 HB0_3 HB1_3 HB2_3 HM_3
    rw [XS.out]
    unfold slotPV
    obtain ⟨b00, b01, b02, b03, b04⟩ := HB0_4.out.five
    have bz0 := HB0_4.out.1
    obtain ⟨b10, b11⟩ := HB1_4.out.two
    have bz1 := HB1_4.out.1
    obtain ⟨b20, b21⟩ := HB2_4.out.two
    have bz2 := HB2_4.out.1
    go_wp2_with fail
    clear b00 b01 b02 b03 b04 bz0 b10 b11 bz1 b20 b21 bz2
    refine (XN.out W4).mono ?_
    rintro e W5 ⟨rfl, k⟩
    have HK5 := Lib.hid (HK4.out.trans k)
    have HA5 := Lib.hid (HA4.out.kept k)
    have HB0_5 := Lib.hid (HB0_4.out.kept k)
    have HB1_5 := Lib.hid (HB1_4.out.kept k)
    have HB2_5 := Lib.hid (HB2_4.out.kept k)
    have HM_5 := Lib.hid (HM_4.out.kept k)
    clear k HK4 HA4 HB0_4 HB1_4 HB2_4 HM_4
    obtain ⟨b00, b01, b02, b03, b04⟩ := HB0_5.out.five
    have bz0 := HB0_5.out.1
    obtain ⟨b10, b11⟩ := HB1_5.out.two
    have bz1 := HB1_5.out.1
    obtain ⟨b20, b21⟩ := HB2_5.out.two
    have bz2 := HB2_5.out.1
    go_wp2_with fail
    clear b00 b01 b02 b03 b04 bz0 b10 b11 bz1 b20 b21 bz2
    have k := (Kept.refl W5).alloc (.cells #[.int .u64 n.1, .int .u64 n.2] 25)
    have HX_6 := Lib.hid (HasCells.new W5 #[.int .u64 n.1, .int .u64 n.2] 25 W5.heap.size rfl)
    have HK6 := Lib.hid (HK5.out.trans k)
    have HA6 := Lib.hid (HA5.out.kept k)
    have HB0_6 := Lib.hid (HB0_5.out.kept k)
    have HB1_6 := Lib.hid (HB1_5.out.kept k)
    have HB2_6 := Lib.hid (HB2_5.out.kept k)
    have HM_6 := Lib.hid (HM_5.out.kept k)
    clear k HK5 HA5 HB0_5 HB1_5 HB2_5 HM_5
    generalize W5.alloc (.cells #[.int .u64 n.1, .int .u64 n.2] 25) = W6 at *
    generalize W5.heap.size = zx at *
    refine (find_any lA lc l hl6 lhw n hn W6 HA6.out).mono ?_
    rintro e W7 ⟨rfl, k⟩
    have HK7 := Lib.hid (HK6.out.trans k)
    have HA7 := Lib.hid (HA6.out.kept k)
    have HB0_7 := Lib.hid (HB0_6.out.kept k)
    have HB1_7 := Lib.hid (HB1_6.out.kept k)
    have HB2_7 := Lib.hid (HB2_6.out.kept k)
    have HM_7 := Lib.hid (HM_6.out.kept k)
    have HX_7 := Lib.hid (HX_6.out.kept k)
    clear k HK6 HA6 HB0_6 HB1_6 HB2_6 HM_6 HX_6
    rw [XF.out]
    have hup := upto_blocks lA l.length lc at' (by omega) W7
    obtain ⟨b00, b01, b02, b03, b04⟩ := HB0_7.out.five
    have bz0 := HB0_7.out.1
    obtain ⟨b10, b11⟩ := HB1_7.out.two
    have bz1 := HB1_7.out.1
    obtain ⟨b20, b21⟩ := HB2_7.out.two
    have bz2 := HB2_7.out.1
    go_wp2_with fail
    clear b00 b01 b02 b03 b04 bz0 b10 b11 bz1 b20 b21 bz2
    clear hup
    refine (may_take lA lc l at' hat hl6 lhw W7 HA7.out).mono ?_
    rintro e W8 ⟨rfl, k⟩
    have HK8 := Lib.hid (HK7.out.trans k)
    have HA8 := Lib.hid (HA7.out.kept k)
    have HB0_8 := Lib.hid (HB0_7.out.kept k)
    have HB1_8 := Lib.hid (HB1_7.out.kept k)
    have HB2_8 := Lib.hid (HB2_7.out.kept k)
    have HM_8 := Lib.hid (HM_7.out.kept k)
    have HX_8 := Lib.hid (HX_7.out.kept k)
    clear k HK7 HA7 HB0_7 HB1_7 HB2_7 HM_7 HX_7
    rw [XT.out]
    obtain ⟨b00, b01, b02, b03, b04⟩ := HB0_8.out.five
    have bz0 := HB0_8.out.1
    obtain ⟨b10, b11⟩ := HB1_8.out.two
    have bz1 := HB1_8.out.1
    obtain ⟨b20, b21⟩ := HB2_8.out.two
    have bz2 := HB2_8.out.1
    go_wp2_with fail
    clear b00 b01 b02 b03 b04 bz0 b10 b11 bz1 b20 b21 bz2
    refine (may_more A2 d2 l b hml hmw W8 HM_8.out).mono ?_
    rintro e W9 ⟨rfl, k⟩
    have HK9 := Lib.hid (HK8.out.trans k)
    have HA9 := Lib.hid (HA8.out.kept k)
    have HB0_9 := Lib.hid (HB0_8.out.kept k)
    have HB1_9 := Lib.hid (HB1_8.out.kept k)
    have HB2_9 := Lib.hid (HB2_8.out.kept k)
    have HM_9 := Lib.hid (HM_8.out.kept k)
    have HX_9 := Lib.hid (HX_8.out.kept k)
    clear k HK8 HA8 HB0_8 HB1_8 HB2_8 HM_8 HX_8
    rw [XM.out]
    obtain ⟨b00, b01, b02, b03, b04⟩ := HB0_9.out.five
    have bz0 := HB0_9.out.1
    obtain ⟨b10, b11⟩ := HB1_9.out.two
    have bz1 := HB1_9.out.1
    obtain ⟨b20, b21⟩ := HB2_9.out.two
    have bz2 := HB2_9.out.1
    go_wp2_with fail
    clear b00 b01 b02 b03 b04 bz0 b10 b11 bz1 b20 b21 bz2
    go_quiet (fail)
    go_wp2_with fail
    go_ret
    exact ⟨by first | rfl | (simp; done), HK9.out.drewN _⟩
attribute [local go_sem high] eqIdN eqIdZ in
set_option maxRecDepth 100000 in
set_option maxHeartbeats 3200000 in
theorem way_off (w : World) (lA : Option Addr) (lc : Nat) (l : List Bk) (hl6 : l.length ≤ 1000000) (h40 : l.length ≤ 40) (lhc : l.length ≤ lc) (lhw : WfL l) (lhl : CellsAt w w.heap.size lA (blockCells l)) (b : Bk) (hb : WfB b) (at' : Nat) (hat : at' ≤ l.length) (low : Id2) (i : Id2) (hi : WfI i) (n : Id2) (hn : WfI n) (hN : ∀ w : World, Calls Try.prog 20 #[.agg #[.int .i64 b.s, .int .i64 b.f, .int .u64 b.p.1, .int .u64 b.p.2, .int .u64 b.t]] w fun e w' => e = .returned (.agg #[.int .u64 n.1, .int .u64 n.2]) ∧ Kept w w') (hm : mayB l = true) (hT : mayB (l.take at') = true) (hM : mayB (l ++ [b]) = true) (s : Int) (hS : slotC l b.p = (s, true)) (hlt : s < b.s) (hz : isZ n = false) (hF : findC l n = -1) (hC : chainC l i = []) :
    Calls Try.prog 6 #[.slice lA l.length lc, .agg #[.int .i64 b.s, .int .i64 b.f, .int .u64 b.p.1, .int .u64 b.p.2, .int .u64 b.t], .int .i64 at', .agg #[.int .u64 low.1, .int .u64 low.2], .agg #[.int .u64 i.1, .int .u64 i.2]] w fun e w' => e = .returned (.bool true) ∧ Kept w w' := by
  have XN := Lib.hid hN
  have Xm := Lib.hid hm
  have XT := Lib.hid hT
  have XM := Lib.hid hM
  have XS := Lib.hid hS
  have XF := Lib.hid hF
  have XC := Lib.hid hC
  clear hN hm hT hM hS hF hC
  go_enter Try.func6, Try.ntmps6
  go_wp2_with fail
  have HK0 := Lib.hid ((((Kept.refl w).alloc (.cells #[.int .i64 b.s, .int .i64 b.f, .int .u64 b.p.1, .int .u64 b.p.2, .int .u64 b.t] 36)).alloc (.cells #[.int .u64 low.1, .int .u64 low.2] 25)).alloc (.cells #[.int .u64 i.1, .int .u64 i.2] 25))
  have HA0 := Lib.hid (lhl.kept HK0.out)
  have HB0_0 := Lib.hid (((HasCells.new w #[.int .i64 b.s, .int .i64 b.f, .int .u64 b.p.1, .int .u64 b.p.2, .int .u64 b.t] 36 (w.heap.size) (by simp)).alloc (.cells #[.int .u64 low.1, .int .u64 low.2] 25)).alloc (.cells #[.int .u64 i.1, .int .u64 i.2] 25))
  have HB1_0 := Lib.hid ((HasCells.new (w.alloc (.cells #[.int .i64 b.s, .int .i64 b.f, .int .u64 b.p.1, .int .u64 b.p.2, .int .u64 b.t] 36)) #[.int .u64 low.1, .int .u64 low.2] 25 (w.heap.size + 1) (by simp)).alloc (.cells #[.int .u64 i.1, .int .u64 i.2] 25))
  have HB2_0 := Lib.hid (HasCells.new ((w.alloc (.cells #[.int .i64 b.s, .int .i64 b.f, .int .u64 b.p.1, .int .u64 b.p.2, .int .u64 b.t] 36)).alloc (.cells #[.int .u64 low.1, .int .u64 low.2] 25)) #[.int .u64 i.1, .int .u64 i.2] 25 (w.heap.size + 1 + 1) (by simp))
  generalize (((w.alloc (.cells #[.int .i64 b.s, .int .i64 b.f, .int .u64 b.p.1, .int .u64 b.p.2, .int .u64 b.t] 36)).alloc (.cells #[.int .u64 low.1, .int .u64 low.2] 25)).alloc (.cells #[.int .u64 i.1, .int .u64 i.2] 25)) = W0 at *
  generalize w.heap.size + 1 + 1 = z2 at *
  generalize w.heap.size + 1 = z1 at *
  generalize w.heap.size = z0 at *
  clear lhl
  refine (treeAwake W0).mono ?_
  rintro e W1 ⟨rfl, k⟩
  have HK1 := Lib.hid (HK0.out.trans k)
  have HA1 := Lib.hid (HA0.out.kept k)
  have HB0_1 := Lib.hid (HB0_0.out.kept k)
  have HB1_1 := Lib.hid (HB1_0.out.kept k)
  have HB2_1 := Lib.hid (HB2_0.out.kept k)
  clear k HK0 HA0 HB0_0 HB1_0 HB2_0
  obtain ⟨b00, b01, b02, b03, b04⟩ := HB0_1.out.five
  have bz0 := HB0_1.out.1
  obtain ⟨b10, b11⟩ := HB1_1.out.two
  have bz1 := HB1_1.out.1
  obtain ⟨b20, b21⟩ := HB2_1.out.two
  have bz2 := HB2_1.out.1
  go_wp2_with fail
  clear b00 b01 b02 b03 b04 bz0 b10 b11 bz1 b20 b21 bz2
  refine (may_any lA lc l hl6 lhw W1 HA1.out).mono ?_
  rintro e W2 ⟨rfl, k⟩
  have HK2 := Lib.hid (HK1.out.trans k)
  have HA2 := Lib.hid (HA1.out.kept k)
  have HB0_2 := Lib.hid (HB0_1.out.kept k)
  have HB1_2 := Lib.hid (HB1_1.out.kept k)
  have HB2_2 := Lib.hid (HB2_1.out.kept k)
  clear k HK1 HA1 HB0_1 HB1_1 HB2_1
  rw [Xm.out]
  have hat0 : (0 : Int) ≤ (at' : Int) := by omega
  have hat1 : (at' : Int) ≤ (l.length : Int) := by omega
  have hat2 : ¬ (at' : Int) < 0 := by omega
  have hat3 : ¬ (l.length : Int) < (at' : Int) := by omega
  obtain ⟨b00, b01, b02, b03, b04⟩ := HB0_2.out.five
  have bz0 := HB0_2.out.1
  obtain ⟨b10, b11⟩ := HB1_2.out.two
  have bz1 := HB1_2.out.1
  obtain ⟨b20, b21⟩ := HB2_2.out.two
  have bz2 := HB2_2.out.1
  go_wp2_with fail
  clear b00 b01 b02 b03 b04 bz0 b10 b11 bz1 b20 b21 bz2
  obtain ⟨c0, c1, c2, c3, c4⟩ := HB0_2.out.five
  have hz0 := HB0_2.out.1
  have hlen : l.length + 1 ≤ 1000000 := by omega
  have hq := (⟨c0, c1, c2, c3, c4, Kept.refl W2⟩ : _ ∧ _ ∧ _ ∧ _ ∧ _ ∧ _)
  go_region_held3 (fun w' => w'.cell? ⟨z0, 0, none⟩ = some (.int .i64 b.s) ∧ w'.cell? ⟨z0, 1, none⟩ = some (.int .i64 b.f) ∧ w'.cell? ⟨z0, 2, none⟩ = some (.int .u64 b.p.1) ∧ w'.cell? ⟨z0, 3, none⟩ = some (.int .u64 b.p.2) ∧ w'.cell? ⟨z0, 4, none⟩ = some (.int .u64 b.t) ∧ Kept W2 w')
    (first | exact hq | exact ⟨c0, c1, c2, c3, c4, (Kept.refl _).drew⟩ | assumption | exact keep5 hz0 hq (Kept.trans (Kept.drew (Kept.refl _)) b2.2) | exact keep5 hz0 hq (Kept.trans (Kept.drew (Kept.alloc (Kept.refl _) _)) b2.2) | exact keep5 hz0 hq (Kept.trans (Kept.drew (Kept.refl _)) b1.2) | exact keep5 hz0 hq (Kept.trans (Kept.drew (Kept.alloc (Kept.refl _) _)) b1.2) | exact keep5 hz0 hq (Kept.drew (Kept.alloc (Kept.refl _) _)) | exact keep5 hz0 (by assumption) ((Kept.refl _).alloc _) | exact keep5 hz0 (by assumption) (by assumption))
    (first
      | (refine step_bnil _ (by rfl) (.tmp 41) (by rfl) _ lA l.length lc l (by rfl) rfl (HA2.out.kept (Kept.refl _).drew) (by omega) ?_; intro A1 d1 w1 b1)
      | (refine step_bnil _ (by rfl) (.tmp 41) (by rfl) _ lA l.length lc l (by rfl) rfl (HA2.out.kept (Kept.drew (Kept.alloc (Kept.refl _) _))) (by omega) ?_; intro A1 d1 w1 b1)
      | (refine step_bks _ (by rfl) (.tmp 42) (.tmp 44) (by rfl) _ l _ (by rfl) (b1.alloc _) _ _ 1 1 [b] (by rfl) rfl (blocks_one _ _ _ _ rfl) hlen ?_; intro A2 d2 w2 b2)
      | (refine step_bks _ (by rfl) (.tmp 42) (.tmp 44) (by rfl) _ l _ (by rfl) b1 _ _ 1 1 [b] (by rfl) rfl (((blocks_one W2 _ _ _ rfl).kept (Kept.drew (Kept.refl _))).kept b1.2) hlen ?_; intro A2 d2 w2 b2))
  all_goals
    rename_i hh
    have k := hh.2.2.2.2.2
    have XB := Lib.hid (b2.cells (by simp))
    clear hh hq b1 b2 c0 c1 c2 c3 c4 hz0
    have HK3 := Lib.hid (HK2.out.trans k)
    have HA3 := Lib.hid (HA2.out.kept k)
    have HB0_3 := Lib.hid (HB0_2.out.kept k)
    have HB1_3 := Lib.hid (HB1_2.out.kept k)
    have HB2_3 := Lib.hid (HB2_2.out.kept k)
    clear k HK2 HA2 HB0_2 HB1_2 HB2_2
    generalize w2 = W3 at *
    have HM_3 := XB
    clear XB
    have hml : (l ++ [b]).length ≤ 1000000 := by simp; omega
    have hmw : WfL (l ++ [b]) := wf_snoc lhw hb
    obtain ⟨b00, b01, b02, b03, b04⟩ := HB0_3.out.five
    have bz0 := HB0_3.out.1
    obtain ⟨b10, b11⟩ := HB1_3.out.two
    have bz1 := HB1_3.out.1
    obtain ⟨b20, b21⟩ := HB2_3.out.two
    have bz2 := HB2_3.out.1
    go_wp2_with fail
    clear b00 b01 b02 b03 b04 bz0 b10 b11 bz1 b20 b21 bz2
    refine (slot_any lA lc l hl6 lhw b.p hb.1 W3 HA3.out).mono ?_
    rintro e W4 ⟨rfl, k⟩
    have HK4 := Lib.hid (HK3.out.trans k)
    have HA4 := Lib.hid (HA3.out.kept k)
    have HB0_4 := Lib.hid (HB0_3.out.kept k)
    have HB1_4 := Lib.hid (HB1_3.out.kept k)
    have HB2_4 := Lib.hid (HB2_3.out.kept k)
    have HM_4 := Lib.hid (HM_3.out.kept k)
    clear k HK3 HA3 HB0_3 HB1_3 HB2_3 HM_3
    rw [XS.out]
    unfold slotPV
    obtain ⟨b00, b01, b02, b03, b04⟩ := HB0_4.out.five
    have bz0 := HB0_4.out.1
    obtain ⟨b10, b11⟩ := HB1_4.out.two
    have bz1 := HB1_4.out.1
    obtain ⟨b20, b21⟩ := HB2_4.out.two
    have bz2 := HB2_4.out.1
    go_wp2_with fail
    clear b00 b01 b02 b03 b04 bz0 b10 b11 bz1 b20 b21 bz2
    refine (XN.out W4).mono ?_
    rintro e W5 ⟨rfl, k⟩
    have HK5 := Lib.hid (HK4.out.trans k)
    have HA5 := Lib.hid (HA4.out.kept k)
    have HB0_5 := Lib.hid (HB0_4.out.kept k)
    have HB1_5 := Lib.hid (HB1_4.out.kept k)
    have HB2_5 := Lib.hid (HB2_4.out.kept k)
    have HM_5 := Lib.hid (HM_4.out.kept k)
    clear k HK4 HA4 HB0_4 HB1_4 HB2_4 HM_4
    obtain ⟨b00, b01, b02, b03, b04⟩ := HB0_5.out.five
    have bz0 := HB0_5.out.1
    obtain ⟨b10, b11⟩ := HB1_5.out.two
    have bz1 := HB1_5.out.1
    obtain ⟨b20, b21⟩ := HB2_5.out.two
    have bz2 := HB2_5.out.1
    go_wp2_with fail
    clear b00 b01 b02 b03 b04 bz0 b10 b11 bz1 b20 b21 bz2
    have k := (Kept.refl W5).alloc (.cells #[.int .u64 n.1, .int .u64 n.2] 25)
    have HX_6 := Lib.hid (HasCells.new W5 #[.int .u64 n.1, .int .u64 n.2] 25 W5.heap.size rfl)
    have HK6 := Lib.hid (HK5.out.trans k)
    have HA6 := Lib.hid (HA5.out.kept k)
    have HB0_6 := Lib.hid (HB0_5.out.kept k)
    have HB1_6 := Lib.hid (HB1_5.out.kept k)
    have HB2_6 := Lib.hid (HB2_5.out.kept k)
    have HM_6 := Lib.hid (HM_5.out.kept k)
    clear k HK5 HA5 HB0_5 HB1_5 HB2_5 HM_5
    generalize W5.alloc (.cells #[.int .u64 n.1, .int .u64 n.2] 25) = W6 at *
    generalize W5.heap.size = zx at *
    refine (find_any lA lc l hl6 lhw n hn W6 HA6.out).mono ?_
    rintro e W7 ⟨rfl, k⟩
    have HK7 := Lib.hid (HK6.out.trans k)
    have HA7 := Lib.hid (HA6.out.kept k)
    have HB0_7 := Lib.hid (HB0_6.out.kept k)
    have HB1_7 := Lib.hid (HB1_6.out.kept k)
    have HB2_7 := Lib.hid (HB2_6.out.kept k)
    have HM_7 := Lib.hid (HM_6.out.kept k)
    have HX_7 := Lib.hid (HX_6.out.kept k)
    clear k HK6 HA6 HB0_6 HB1_6 HB2_6 HM_6 HX_6
    rw [XF.out]
    have hup := upto_blocks lA l.length lc at' (by omega) W7
    obtain ⟨b00, b01, b02, b03, b04⟩ := HB0_7.out.five
    have bz0 := HB0_7.out.1
    obtain ⟨b10, b11⟩ := HB1_7.out.two
    have bz1 := HB1_7.out.1
    obtain ⟨b20, b21⟩ := HB2_7.out.two
    have bz2 := HB2_7.out.1
    go_wp2_with fail
    clear b00 b01 b02 b03 b04 bz0 b10 b11 bz1 b20 b21 bz2
    clear hup
    refine (may_take lA lc l at' hat hl6 lhw W7 HA7.out).mono ?_
    rintro e W8 ⟨rfl, k⟩
    have HK8 := Lib.hid (HK7.out.trans k)
    have HA8 := Lib.hid (HA7.out.kept k)
    have HB0_8 := Lib.hid (HB0_7.out.kept k)
    have HB1_8 := Lib.hid (HB1_7.out.kept k)
    have HB2_8 := Lib.hid (HB2_7.out.kept k)
    have HM_8 := Lib.hid (HM_7.out.kept k)
    have HX_8 := Lib.hid (HX_7.out.kept k)
    clear k HK7 HA7 HB0_7 HB1_7 HB2_7 HM_7 HX_7
    rw [XT.out]
    obtain ⟨b00, b01, b02, b03, b04⟩ := HB0_8.out.five
    have bz0 := HB0_8.out.1
    obtain ⟨b10, b11⟩ := HB1_8.out.two
    have bz1 := HB1_8.out.1
    obtain ⟨b20, b21⟩ := HB2_8.out.two
    have bz2 := HB2_8.out.1
    go_wp2_with fail
    clear b00 b01 b02 b03 b04 bz0 b10 b11 bz1 b20 b21 bz2
    refine (may_more A2 d2 l b hml hmw W8 HM_8.out).mono ?_
    rintro e W9 ⟨rfl, k⟩
    have HK9 := Lib.hid (HK8.out.trans k)
    have HA9 := Lib.hid (HA8.out.kept k)
    have HB0_9 := Lib.hid (HB0_8.out.kept k)
    have HB1_9 := Lib.hid (HB1_8.out.kept k)
    have HB2_9 := Lib.hid (HB2_8.out.kept k)
    have HM_9 := Lib.hid (HM_8.out.kept k)
    have HX_9 := Lib.hid (HX_8.out.kept k)
    clear k HK8 HA8 HB0_8 HB1_8 HB2_8 HM_8 HX_8
    rw [XM.out]
    obtain ⟨b00, b01, b02, b03, b04⟩ := HB0_9.out.five
    have bz0 := HB0_9.out.1
    obtain ⟨b10, b11⟩ := HB1_9.out.two
    have bz1 := HB1_9.out.1
    obtain ⟨b20, b21⟩ := HB2_9.out.two
    have bz2 := HB2_9.out.1
    go_wp2_with fail
    have XCh := Lib.hid (fun w' (h : Kept W9 w') => chain_any lA lc l hl6 lhw i hi w' (HA9.out.kept h))
    rw [XC.out] at XCh
    refine wp_region_noPanic ?_
    refine wp_region_held_drew (S := (fun w' => w'.cell? ⟨z1, 0, none⟩ = some (.int .u64 low.1) ∧ w'.cell? ⟨z1, 1, none⟩ = some (.int .u64 low.2) ∧ w'.cell? ⟨z2, 0, none⟩ = some (.int .u64 i.1) ∧ w'.cell? ⟨z2, 1, none⟩ = some (.int .u64 i.2) ∧ Kept W9 w')) (by kernel_rfl) ?_ (fun hHeld => ?_)
    · exact ⟨b10, b11, b20, b21, (Kept.refl _).drew⟩
    refine wpAnyH_take (i := 0) (v := ?_) (by simp only [List.getElem?_toArray, List.getElem?_cons_succ, List.getElem?_cons_zero]; rfl) (by kernel_rfl) (by kernel_rfl) (by kernel_rfl) (fun _ _ _ h => h) (Or.inl ⟨by rfl, ?_⟩) (by assumption) ?_
    rotate_left
    · intro w hSw
      (try dsimp only at hSw)
      go_simp
      (try with_reducible rfl)
    simp only [Act.put, List.setIfInBounds_toArray, List.set_cons_zero, List.set_cons_succ]
    refine wpAnyH_take (i := 1) (v := ?_) (by simp only [List.getElem?_toArray, List.getElem?_cons_succ, List.getElem?_cons_zero]; rfl) (by kernel_rfl) (by kernel_rfl) (by kernel_rfl) (fun _ _ _ h => h) (Or.inl ⟨by rfl, ?_⟩) (by assumption) ?_
    rotate_left
    · intro w hSw
      (try dsimp only at hSw)
      go_simp
      (try with_reducible rfl)
    simp only [Act.put, List.setIfInBounds_toArray, List.set_cons_zero, List.set_cons_succ]
    refine wpAnyH_take (i := 2) (v := ?_) (by simp only [List.getElem?_toArray, List.getElem?_cons_succ, List.getElem?_cons_zero]; rfl) (by kernel_rfl) (by kernel_rfl) (by kernel_rfl) (fun _ _ _ h => h) (Or.inl ⟨by rfl, ?_⟩) (by assumption) ?_
    rotate_left
    · intro w hSw
      (try dsimp only at hSw)
      go_simp
      (try with_reducible rfl)
    simp only [Act.put, List.setIfInBounds_toArray, List.set_cons_zero, List.set_cons_succ]
    refine wpAnyH_take (i := 3) (v := ?_) (by simp only [List.getElem?_toArray, List.getElem?_cons_succ, List.getElem?_cons_zero]; rfl) (by kernel_rfl) (by kernel_rfl) (by kernel_rfl) (fun _ _ _ h => h) (Or.inl ⟨by rfl, ?_⟩) (by assumption) ?_
    rotate_left
    · intro w hSw
      (try dsimp only at hSw)
      go_simp
      (try with_reducible rfl)
    simp only [Act.put, List.setIfInBounds_toArray, List.set_cons_zero, List.set_cons_succ]
    refine wpAnyH_take (i := 4) (v := ?_) (by simp only [List.getElem?_toArray, List.getElem?_cons_succ, List.getElem?_cons_zero]; rfl) (by kernel_rfl) (by kernel_rfl) (by kernel_rfl) (fun _ _ _ h => h) (Or.inl ⟨by rfl, ?_⟩) (by assumption) ?_
    rotate_left
    · intro w hSw
      (try dsimp only at hSw)
      go_simp
      (try with_reducible rfl)
    simp only [Act.put, List.setIfInBounds_toArray, List.set_cons_zero, List.set_cons_succ]
    refine wpAnyH_ready (rs := [5]) (by kernel_rfl) (by simp) ?_
    refine AllReadyH.cons (by simp only [List.getElem?_toArray, List.getElem?_cons_succ, List.getElem?_cons_zero]; rfl) (fun K hK => ?_) AllReadyH.nil
    go_simp
    go_at_call 17; with_reducible refine (XCh.out _ hHeld.2.2.2.2).mono ?_
    rintro e w' ⟨A', c', rfl, _, _, kk⟩
    try go_wp2_with fail
    refine hK.out _ _ ?_ (fun hHeld2 => ?_)
    · exact keep2 bz1 bz2 hHeld kk
    clear hK K hHeld
    have hHeld := hHeld2
    clear hHeld2
    try simp only [Act.put, List.setIfInBounds_toArray, List.set_cons_zero, List.set_cons_succ]
    refine wpAnyH_take (i := 6) (v := ?_) (by simp only [List.getElem?_toArray, List.getElem?_cons_succ, List.getElem?_cons_zero]; rfl) (by kernel_rfl) (by kernel_rfl) (by kernel_rfl) (fun _ _ _ h => h) (Or.inl ⟨by rfl, ?_⟩) (by assumption) ?_
    rotate_left
    · intro w hSw
      (try dsimp only at hSw)
      go_simp
      (try with_reducible rfl)
    simp only [Act.put, List.setIfInBounds_toArray, List.set_cons_zero, List.set_cons_succ]
    refine wpAnyH_take (i := 7) (v := ?_) (by simp only [List.getElem?_toArray, List.getElem?_cons_succ, List.getElem?_cons_zero]; rfl) (by kernel_rfl) (by kernel_rfl) (by kernel_rfl) (fun _ _ _ h => h) (Or.inl ⟨by rfl, ?_⟩) (by assumption) ?_
    rotate_left
    · intro w hSw
      (try dsimp only at hSw)
      go_simp
      (try with_reducible rfl)
    simp only [Act.put, List.setIfInBounds_toArray, List.set_cons_zero, List.set_cons_succ]
    refine wpAnyH_take (i := 8) (v := ?_) (by simp only [List.getElem?_toArray, List.getElem?_cons_succ, List.getElem?_cons_zero]; rfl) (by kernel_rfl) (by kernel_rfl) (by kernel_rfl) (fun _ _ _ h => h) (Or.inl ⟨by rfl, ?_⟩) (by assumption) ?_
    rotate_left
    · intro w hSw
      (try dsimp only at hSw)
      go_simp
      (try with_reducible rfl)
    simp only [Act.put, List.setIfInBounds_toArray, List.set_cons_zero, List.set_cons_succ]
    refine wpAnyH_take (i := 9) (v := ?_) (by simp only [List.getElem?_toArray, List.getElem?_cons_succ, List.getElem?_cons_zero]; rfl) (by kernel_rfl) (by kernel_rfl) (by kernel_rfl) (fun _ _ _ h => h) (Or.inl ⟨by rfl, ?_⟩) (by assumption) ?_
    rotate_left
    · intro w hSw
      (try dsimp only at hSw)
      go_simp
      (try with_reducible rfl)
    simp only [Act.put, List.setIfInBounds_toArray, List.set_cons_zero, List.set_cons_succ]
    refine wpAnyH_take (i := 10) (v := undef) (by simp only [List.getElem?_toArray, List.getElem?_cons_succ, List.getElem?_cons_zero]; rfl) (by kernel_rfl) (by kernel_rfl) (by kernel_rfl) (fun _ _ _ h => h) (Or.inr ⟨by rfl, rfl⟩) (by assumption) ?_
    simp only [Act.put, List.setIfInBounds_toArray, List.set_cons_zero, List.set_cons_succ]
    refine wpAnyH_take (i := 11) (v := undef) (by simp only [List.getElem?_toArray, List.getElem?_cons_succ, List.getElem?_cons_zero]; rfl) (by kernel_rfl) (by kernel_rfl) (by kernel_rfl) (fun _ _ _ h => h) (Or.inr ⟨by rfl, rfl⟩) (by assumption) ?_
    simp only [Act.put, List.setIfInBounds_toArray, List.set_cons_zero, List.set_cons_succ]
    refine wpAnyH_take (i := 12) (v := undef) (by simp only [List.getElem?_toArray, List.getElem?_cons_succ, List.getElem?_cons_zero]; rfl) (by kernel_rfl) (by kernel_rfl) (by kernel_rfl) (fun _ _ _ h => h) (Or.inr ⟨by rfl, rfl⟩) (by assumption) ?_
    simp only [Act.put, List.setIfInBounds_toArray, List.set_cons_zero, List.set_cons_succ]
    refine wpAnyH_take (i := 13) (v := undef) (by simp only [List.getElem?_toArray, List.getElem?_cons_succ, List.getElem?_cons_zero]; rfl) (by kernel_rfl) (by kernel_rfl) (by kernel_rfl) (fun _ _ _ h => h) (Or.inr ⟨by rfl, rfl⟩) (by assumption) ?_
    simp only [Act.put, List.setIfInBounds_toArray, List.set_cons_zero, List.set_cons_succ]
    refine wpAnyH_take (i := 14) (v := undef) (by simp only [List.getElem?_toArray, List.getElem?_cons_succ, List.getElem?_cons_zero]; rfl) (by kernel_rfl) (by kernel_rfl) (by kernel_rfl) (fun _ _ _ h => h) (Or.inr ⟨by rfl, rfl⟩) (by assumption) ?_
    simp only [Act.put, List.setIfInBounds_toArray, List.set_cons_zero, List.set_cons_succ]
    refine wpAnyH_take (i := 15) (v := undef) (by simp only [List.getElem?_toArray, List.getElem?_cons_succ, List.getElem?_cons_zero]; rfl) (by kernel_rfl) (by kernel_rfl) (by kernel_rfl) (fun _ _ _ h => h) (Or.inr ⟨by rfl, rfl⟩) (by assumption) ?_
    simp only [Act.put, List.setIfInBounds_toArray, List.set_cons_zero, List.set_cons_succ]
    refine wpAnyH_take (i := 16) (v := undef) (by simp only [List.getElem?_toArray, List.getElem?_cons_succ, List.getElem?_cons_zero]; rfl) (by kernel_rfl) (by kernel_rfl) (by kernel_rfl) (fun _ _ _ h => h) (Or.inr ⟨by rfl, rfl⟩) (by assumption) ?_
    simp only [Act.put, List.setIfInBounds_toArray, List.set_cons_zero, List.set_cons_succ]
    refine wpAnyH_take (i := 17) (v := undef) (by simp only [List.getElem?_toArray, List.getElem?_cons_succ, List.getElem?_cons_zero]; rfl) (by kernel_rfl) (by kernel_rfl) (by kernel_rfl) (fun _ _ _ h => h) (Or.inr ⟨by rfl, rfl⟩) (by assumption) ?_
    simp only [Act.put, List.setIfInBounds_toArray, List.set_cons_zero, List.set_cons_succ]
    refine wpAnyH_take (i := 18) (v := undef) (by simp only [List.getElem?_toArray, List.getElem?_cons_succ, List.getElem?_cons_zero]; rfl) (by kernel_rfl) (by kernel_rfl) (by kernel_rfl) (fun _ _ _ h => h) (Or.inr ⟨by rfl, rfl⟩) (by assumption) ?_
    simp only [Act.put, List.setIfInBounds_toArray, List.set_cons_zero, List.set_cons_succ]
    refine wpAnyH_take (i := 19) (v := ?_) (by simp only [List.getElem?_toArray, List.getElem?_cons_succ, List.getElem?_cons_zero]; rfl) (by kernel_rfl) (by kernel_rfl) (by kernel_rfl) (fun _ _ _ h => h) (Or.inl ⟨by rfl, ?_⟩) (by assumption) ?_
    rotate_left
    · intro w hSw
      (try dsimp only at hSw)
      go_simp
      (try with_reducible rfl)
    simp only [Act.put, List.setIfInBounds_toArray, List.set_cons_zero, List.set_cons_succ]
    refine wpAnyH_take (i := 20) (v := ?_) (by simp only [List.getElem?_toArray, List.getElem?_cons_succ, List.getElem?_cons_zero]; rfl) (by kernel_rfl) (by kernel_rfl) (by kernel_rfl) (fun _ _ _ h => h) (Or.inl ⟨by rfl, ?_⟩) (by assumption) ?_
    rotate_left
    · intro w hSw
      (try dsimp only at hSw)
      go_simp
      (try with_reducible rfl)
    simp only [Act.put, List.setIfInBounds_toArray, List.set_cons_zero, List.set_cons_succ]
    refine wpAnyH_done (by kernel_rfl) ?_ _
    refine NoPanic.normal ?_
    have hk := Lib.hid (HK9.out.trans hHeld.2.2.2.2)
    go_wp2_with fail
    go_ret
    exact ⟨by first | rfl | (simp; done), hk.out⟩
attribute [local go_sem high] eqIdN eqIdZ in
set_option maxRecDepth 100000 in
set_option maxHeartbeats 3200000 in
theorem way_on (w : World) (lA : Option Addr) (lc : Nat) (l : List Bk) (hl6 : l.length ≤ 1000000) (h40 : l.length ≤ 40) (lhc : l.length ≤ lc) (lhw : WfL l) (lhl : CellsAt w w.heap.size lA (blockCells l)) (b : Bk) (hb : WfB b) (at' : Nat) (hat : at' ≤ l.length) (low : Id2) (i : Id2) (hi : WfI i) (n : Id2) (hn : WfI n) (hN : ∀ w : World, Calls Try.prog 20 #[.agg #[.int .i64 b.s, .int .i64 b.f, .int .u64 b.p.1, .int .u64 b.p.2, .int .u64 b.t]] w fun e w' => e = .returned (.agg #[.int .u64 n.1, .int .u64 n.2]) ∧ Kept w w') (hm : mayB l = true) (hT : mayB (l.take at') = true) (hM : mayB (l ++ [b]) = true) (s : Int) (hS : slotC l b.p = (s, true)) (hlt : s < b.s) (hz : isZ n = false) (hF : findC l n = -1) (hC : 0 < (chainC l i).length) (hU : underC (l ++ [b]) low i = underC l low i) :
    Calls Try.prog 6 #[.slice lA l.length lc, .agg #[.int .i64 b.s, .int .i64 b.f, .int .u64 b.p.1, .int .u64 b.p.2, .int .u64 b.t], .int .i64 at', .agg #[.int .u64 low.1, .int .u64 low.2], .agg #[.int .u64 i.1, .int .u64 i.2]] w fun e w' => e = .returned (.bool true) ∧ Kept w w' := by
  have XN := Lib.hid hN
  have Xm := Lib.hid hm
  have XT := Lib.hid hT
  have XM := Lib.hid hM
  have XS := Lib.hid hS
  have XF := Lib.hid hF
  have XC := Lib.hid hC
  have XU := Lib.hid hU
  clear hN hm hT hM hS hF hC hU
  go_enter Try.func6, Try.ntmps6
  go_wp2_with fail
  have HK0 := Lib.hid ((((Kept.refl w).alloc (.cells #[.int .i64 b.s, .int .i64 b.f, .int .u64 b.p.1, .int .u64 b.p.2, .int .u64 b.t] 36)).alloc (.cells #[.int .u64 low.1, .int .u64 low.2] 25)).alloc (.cells #[.int .u64 i.1, .int .u64 i.2] 25))
  have HA0 := Lib.hid (lhl.kept HK0.out)
  have HB0_0 := Lib.hid (((HasCells.new w #[.int .i64 b.s, .int .i64 b.f, .int .u64 b.p.1, .int .u64 b.p.2, .int .u64 b.t] 36 (w.heap.size) (by simp)).alloc (.cells #[.int .u64 low.1, .int .u64 low.2] 25)).alloc (.cells #[.int .u64 i.1, .int .u64 i.2] 25))
  have HB1_0 := Lib.hid ((HasCells.new (w.alloc (.cells #[.int .i64 b.s, .int .i64 b.f, .int .u64 b.p.1, .int .u64 b.p.2, .int .u64 b.t] 36)) #[.int .u64 low.1, .int .u64 low.2] 25 (w.heap.size + 1) (by simp)).alloc (.cells #[.int .u64 i.1, .int .u64 i.2] 25))
  have HB2_0 := Lib.hid (HasCells.new ((w.alloc (.cells #[.int .i64 b.s, .int .i64 b.f, .int .u64 b.p.1, .int .u64 b.p.2, .int .u64 b.t] 36)).alloc (.cells #[.int .u64 low.1, .int .u64 low.2] 25)) #[.int .u64 i.1, .int .u64 i.2] 25 (w.heap.size + 1 + 1) (by simp))
  generalize (((w.alloc (.cells #[.int .i64 b.s, .int .i64 b.f, .int .u64 b.p.1, .int .u64 b.p.2, .int .u64 b.t] 36)).alloc (.cells #[.int .u64 low.1, .int .u64 low.2] 25)).alloc (.cells #[.int .u64 i.1, .int .u64 i.2] 25)) = W0 at *
  generalize w.heap.size + 1 + 1 = z2 at *
  generalize w.heap.size + 1 = z1 at *
  generalize w.heap.size = z0 at *
  clear lhl
  refine (treeAwake W0).mono ?_
  rintro e W1 ⟨rfl, k⟩
  have HK1 := Lib.hid (HK0.out.trans k)
  have HA1 := Lib.hid (HA0.out.kept k)
  have HB0_1 := Lib.hid (HB0_0.out.kept k)
  have HB1_1 := Lib.hid (HB1_0.out.kept k)
  have HB2_1 := Lib.hid (HB2_0.out.kept k)
  clear k HK0 HA0 HB0_0 HB1_0 HB2_0
  obtain ⟨b00, b01, b02, b03, b04⟩ := HB0_1.out.five
  have bz0 := HB0_1.out.1
  obtain ⟨b10, b11⟩ := HB1_1.out.two
  have bz1 := HB1_1.out.1
  obtain ⟨b20, b21⟩ := HB2_1.out.two
  have bz2 := HB2_1.out.1
  go_wp2_with fail
  clear b00 b01 b02 b03 b04 bz0 b10 b11 bz1 b20 b21 bz2
  refine (may_any lA lc l hl6 lhw W1 HA1.out).mono ?_
  rintro e W2 ⟨rfl, k⟩
  have HK2 := Lib.hid (HK1.out.trans k)
  have HA2 := Lib.hid (HA1.out.kept k)
  have HB0_2 := Lib.hid (HB0_1.out.kept k)
  have HB1_2 := Lib.hid (HB1_1.out.kept k)
  have HB2_2 := Lib.hid (HB2_1.out.kept k)
  clear k HK1 HA1 HB0_1 HB1_1 HB2_1
  rw [Xm.out]
  have hat0 : (0 : Int) ≤ (at' : Int) := by omega
  have hat1 : (at' : Int) ≤ (l.length : Int) := by omega
  have hat2 : ¬ (at' : Int) < 0 := by omega
  have hat3 : ¬ (l.length : Int) < (at' : Int) := by omega
  obtain ⟨b00, b01, b02, b03, b04⟩ := HB0_2.out.five
  have bz0 := HB0_2.out.1
  obtain ⟨b10, b11⟩ := HB1_2.out.two
  have bz1 := HB1_2.out.1
  obtain ⟨b20, b21⟩ := HB2_2.out.two
  have bz2 := HB2_2.out.1
  go_wp2_with fail
  clear b00 b01 b02 b03 b04 bz0 b10 b11 bz1 b20 b21 bz2
  obtain ⟨c0, c1, c2, c3, c4⟩ := HB0_2.out.five
  have hz0 := HB0_2.out.1
  have hlen : l.length + 1 ≤ 1000000 := by omega
  have hq := (⟨c0, c1, c2, c3, c4, Kept.refl W2⟩ : _ ∧ _ ∧ _ ∧ _ ∧ _ ∧ _)
  go_region_held3 (fun w' => w'.cell? ⟨z0, 0, none⟩ = some (.int .i64 b.s) ∧ w'.cell? ⟨z0, 1, none⟩ = some (.int .i64 b.f) ∧ w'.cell? ⟨z0, 2, none⟩ = some (.int .u64 b.p.1) ∧ w'.cell? ⟨z0, 3, none⟩ = some (.int .u64 b.p.2) ∧ w'.cell? ⟨z0, 4, none⟩ = some (.int .u64 b.t) ∧ Kept W2 w')
    (first | exact hq | exact ⟨c0, c1, c2, c3, c4, (Kept.refl _).drew⟩ | assumption | exact keep5 hz0 hq (Kept.trans (Kept.drew (Kept.refl _)) b2.2) | exact keep5 hz0 hq (Kept.trans (Kept.drew (Kept.alloc (Kept.refl _) _)) b2.2) | exact keep5 hz0 hq (Kept.trans (Kept.drew (Kept.refl _)) b1.2) | exact keep5 hz0 hq (Kept.trans (Kept.drew (Kept.alloc (Kept.refl _) _)) b1.2) | exact keep5 hz0 hq (Kept.drew (Kept.alloc (Kept.refl _) _)) | exact keep5 hz0 (by assumption) ((Kept.refl _).alloc _) | exact keep5 hz0 (by assumption) (by assumption))
    (first
      | (refine step_bnil _ (by rfl) (.tmp 41) (by rfl) _ lA l.length lc l (by rfl) rfl (HA2.out.kept (Kept.refl _).drew) (by omega) ?_; intro A1 d1 w1 b1)
      | (refine step_bnil _ (by rfl) (.tmp 41) (by rfl) _ lA l.length lc l (by rfl) rfl (HA2.out.kept (Kept.drew (Kept.alloc (Kept.refl _) _))) (by omega) ?_; intro A1 d1 w1 b1)
      | (refine step_bks _ (by rfl) (.tmp 42) (.tmp 44) (by rfl) _ l _ (by rfl) (b1.alloc _) _ _ 1 1 [b] (by rfl) rfl (blocks_one _ _ _ _ rfl) hlen ?_; intro A2 d2 w2 b2)
      | (refine step_bks _ (by rfl) (.tmp 42) (.tmp 44) (by rfl) _ l _ (by rfl) b1 _ _ 1 1 [b] (by rfl) rfl (((blocks_one W2 _ _ _ rfl).kept (Kept.drew (Kept.refl _))).kept b1.2) hlen ?_; intro A2 d2 w2 b2))
  all_goals
    rename_i hh
    have k := hh.2.2.2.2.2
    have XB := Lib.hid (b2.cells (by simp))
    clear hh hq b1 b2 c0 c1 c2 c3 c4 hz0
    have HK3 := Lib.hid (HK2.out.trans k)
    have HA3 := Lib.hid (HA2.out.kept k)
    have HB0_3 := Lib.hid (HB0_2.out.kept k)
    have HB1_3 := Lib.hid (HB1_2.out.kept k)
    have HB2_3 := Lib.hid (HB2_2.out.kept k)
    clear k HK2 HA2 HB0_2 HB1_2 HB2_2
    generalize w2 = W3 at *
    have HM_3 := XB
    clear XB
    have hml : (l ++ [b]).length ≤ 1000000 := by simp; omega
    have hmw : WfL (l ++ [b]) := wf_snoc lhw hb
    obtain ⟨b00, b01, b02, b03, b04⟩ := HB0_3.out.five
    have bz0 := HB0_3.out.1
    obtain ⟨b10, b11⟩ := HB1_3.out.two
    have bz1 := HB1_3.out.1
    obtain ⟨b20, b21⟩ := HB2_3.out.two
    have bz2 := HB2_3.out.1
    go_wp2_with fail
    clear b00 b01 b02 b03 b04 bz0 b10 b11 bz1 b20 b21 bz2
    refine (slot_any lA lc l hl6 lhw b.p hb.1 W3 HA3.out).mono ?_
    rintro e W4 ⟨rfl, k⟩
    have HK4 := Lib.hid (HK3.out.trans k)
    have HA4 := Lib.hid (HA3.out.kept k)
    have HB0_4 := Lib.hid (HB0_3.out.kept k)
    have HB1_4 := Lib.hid (HB1_3.out.kept k)
    have HB2_4 := Lib.hid (HB2_3.out.kept k)
    have HM_4 := Lib.hid (HM_3.out.kept k)
    clear k HK3 HA3 HB0_3 HB1_3 HB2_3 HM_3
    rw [XS.out]
    unfold slotPV
    obtain ⟨b00, b01, b02, b03, b04⟩ := HB0_4.out.five
    have bz0 := HB0_4.out.1
    obtain ⟨b10, b11⟩ := HB1_4.out.two
    have bz1 := HB1_4.out.1
    obtain ⟨b20, b21⟩ := HB2_4.out.two
    have bz2 := HB2_4.out.1
    go_wp2_with fail
    clear b00 b01 b02 b03 b04 bz0 b10 b11 bz1 b20 b21 bz2
    refine (XN.out W4).mono ?_
    rintro e W5 ⟨rfl, k⟩
    have HK5 := Lib.hid (HK4.out.trans k)
    have HA5 := Lib.hid (HA4.out.kept k)
    have HB0_5 := Lib.hid (HB0_4.out.kept k)
    have HB1_5 := Lib.hid (HB1_4.out.kept k)
    have HB2_5 := Lib.hid (HB2_4.out.kept k)
    have HM_5 := Lib.hid (HM_4.out.kept k)
    clear k HK4 HA4 HB0_4 HB1_4 HB2_4 HM_4
    obtain ⟨b00, b01, b02, b03, b04⟩ := HB0_5.out.five
    have bz0 := HB0_5.out.1
    obtain ⟨b10, b11⟩ := HB1_5.out.two
    have bz1 := HB1_5.out.1
    obtain ⟨b20, b21⟩ := HB2_5.out.two
    have bz2 := HB2_5.out.1
    go_wp2_with fail
    clear b00 b01 b02 b03 b04 bz0 b10 b11 bz1 b20 b21 bz2
    have k := (Kept.refl W5).alloc (.cells #[.int .u64 n.1, .int .u64 n.2] 25)
    have HX_6 := Lib.hid (HasCells.new W5 #[.int .u64 n.1, .int .u64 n.2] 25 W5.heap.size rfl)
    have HK6 := Lib.hid (HK5.out.trans k)
    have HA6 := Lib.hid (HA5.out.kept k)
    have HB0_6 := Lib.hid (HB0_5.out.kept k)
    have HB1_6 := Lib.hid (HB1_5.out.kept k)
    have HB2_6 := Lib.hid (HB2_5.out.kept k)
    have HM_6 := Lib.hid (HM_5.out.kept k)
    clear k HK5 HA5 HB0_5 HB1_5 HB2_5 HM_5
    generalize W5.alloc (.cells #[.int .u64 n.1, .int .u64 n.2] 25) = W6 at *
    generalize W5.heap.size = zx at *
    refine (find_any lA lc l hl6 lhw n hn W6 HA6.out).mono ?_
    rintro e W7 ⟨rfl, k⟩
    have HK7 := Lib.hid (HK6.out.trans k)
    have HA7 := Lib.hid (HA6.out.kept k)
    have HB0_7 := Lib.hid (HB0_6.out.kept k)
    have HB1_7 := Lib.hid (HB1_6.out.kept k)
    have HB2_7 := Lib.hid (HB2_6.out.kept k)
    have HM_7 := Lib.hid (HM_6.out.kept k)
    have HX_7 := Lib.hid (HX_6.out.kept k)
    clear k HK6 HA6 HB0_6 HB1_6 HB2_6 HM_6 HX_6
    rw [XF.out]
    have hup := upto_blocks lA l.length lc at' (by omega) W7
    obtain ⟨b00, b01, b02, b03, b04⟩ := HB0_7.out.five
    have bz0 := HB0_7.out.1
    obtain ⟨b10, b11⟩ := HB1_7.out.two
    have bz1 := HB1_7.out.1
    obtain ⟨b20, b21⟩ := HB2_7.out.two
    have bz2 := HB2_7.out.1
    go_wp2_with fail
    clear b00 b01 b02 b03 b04 bz0 b10 b11 bz1 b20 b21 bz2
    clear hup
    refine (may_take lA lc l at' hat hl6 lhw W7 HA7.out).mono ?_
    rintro e W8 ⟨rfl, k⟩
    have HK8 := Lib.hid (HK7.out.trans k)
    have HA8 := Lib.hid (HA7.out.kept k)
    have HB0_8 := Lib.hid (HB0_7.out.kept k)
    have HB1_8 := Lib.hid (HB1_7.out.kept k)
    have HB2_8 := Lib.hid (HB2_7.out.kept k)
    have HM_8 := Lib.hid (HM_7.out.kept k)
    have HX_8 := Lib.hid (HX_7.out.kept k)
    clear k HK7 HA7 HB0_7 HB1_7 HB2_7 HM_7 HX_7
    rw [XT.out]
    obtain ⟨b00, b01, b02, b03, b04⟩ := HB0_8.out.five
    have bz0 := HB0_8.out.1
    obtain ⟨b10, b11⟩ := HB1_8.out.two
    have bz1 := HB1_8.out.1
    obtain ⟨b20, b21⟩ := HB2_8.out.two
    have bz2 := HB2_8.out.1
    go_wp2_with fail
    clear b00 b01 b02 b03 b04 bz0 b10 b11 bz1 b20 b21 bz2
    refine (may_more A2 d2 l b hml hmw W8 HM_8.out).mono ?_
    rintro e W9 ⟨rfl, k⟩
    have HK9 := Lib.hid (HK8.out.trans k)
    have HA9 := Lib.hid (HA8.out.kept k)
    have HB0_9 := Lib.hid (HB0_8.out.kept k)
    have HB1_9 := Lib.hid (HB1_8.out.kept k)
    have HB2_9 := Lib.hid (HB2_8.out.kept k)
    have HM_9 := Lib.hid (HM_8.out.kept k)
    have HX_9 := Lib.hid (HX_8.out.kept k)
    clear k HK8 HA8 HB0_8 HB1_8 HB2_8 HM_8 HX_8
    rw [XM.out]
    obtain ⟨b00, b01, b02, b03, b04⟩ := HB0_9.out.five
    have bz0 := HB0_9.out.1
    obtain ⟨b10, b11⟩ := HB1_9.out.two
    have bz1 := HB1_9.out.1
    obtain ⟨b20, b21⟩ := HB2_9.out.two
    have bz2 := HB2_9.out.1
    go_wp2_with fail
    have XCh := Lib.hid (fun w' (h : Kept W9 w') => chain_any lA lc l hl6 lhw i hi w' (HA9.out.kept h))
    have XUm := Lib.hid (fun w' (h : Kept W9 w') => under_m A2 d2 l b hml hmw low i hi w' (HM_9.out.kept h))
    rw [XU.out] at XUm
    have XUl := Lib.hid (fun w' (h : Kept W9 w') => under_any lA lc l hl6 lhw low i hi w' (HA9.out.kept h))
    have XCh2 := Lib.hid (fun w' (h : Kept W9 w') => (XCh.out w' h).mono (fun e w2 (q : IdsNew (chainC l i) w' e w2) => (show ∃ A c, e = .returned (.slice A (chainC l i).length c) ∧ Kept w' w2 from ⟨_, _, q.choose_spec.choose_spec.1, q.choose_spec.choose_spec.2.2.2⟩)))
    clear XCh
    have hcl := XC.out
    clear XC
    generalize (chainC l i).length = N at *
    have hcz : ((N : Int) == 0) = false := by simp; omega
    have hcz2 : ¬ N = 0 := by omega
    clear hcl
    clear XU
    generalize underC l low i = u at *
    go_region_held3 (fun w' => w'.cell? ⟨z1, 0, none⟩ = some (.int .u64 low.1) ∧ w'.cell? ⟨z1, 1, none⟩ = some (.int .u64 low.2) ∧ w'.cell? ⟨z2, 0, none⟩ = some (.int .u64 i.1) ∧ w'.cell? ⟨z2, 1, none⟩ = some (.int .u64 i.2) ∧ Kept W9 w')
      (first | exact ⟨b10, b11, b20, b21, (Kept.refl _).drew⟩ | assumption | exact keep2 bz1 bz2 (by assumption) (by assumption))
      (first
        | (go_at_call 17; ((with_reducible refine (XCh2.out _ ((by assumption : _ ∧ _ ∧ _ ∧ _ ∧ Kept W9 _).2.2.2.2)).mono ?_); rintro e w' ⟨A', c', rfl, kk⟩))
        | (go_at_call 23; ((with_reducible refine (XUm.out _ ((by assumption : _ ∧ _ ∧ _ ∧ _ ∧ Kept W9 _).2.2.2.2)).mono ?_); rintro e w' ⟨rfl, kk⟩))
        | (go_at_call 23; ((with_reducible refine (XUl.out _ ((by assumption : _ ∧ _ ∧ _ ∧ _ ∧ Kept W9 _).2.2.2.2)).mono ?_); rintro e w' ⟨rfl, kk⟩)))
    rename_i hh
    have hk := Lib.hid (HK9.out.trans hh.2.2.2.2)
    clear hh
    go_wp2_with fail
    go_ret
    exact ⟨by first | rfl | (simp; done), hk.out⟩

/-! ### The walk: the call returns true, and of what was there nothing has changed. -/
attribute [local go_sem high] eqIdN eqIdZ in
set_option maxRecDepth 100000 in
set_option maxHeartbeats 3200000 in
theorem walk (w : World) (lA : Option Addr) (lc : Nat) (l : List Bk) (lhm : l.length ≤ maxLen) (lhc : l.length ≤ lc) (lhw : WfL l) (lhl : CellsAt w w.heap.size lA (blockCells l)) (b : Bk) (hb : WfB b) (x : Int) (hx1 : -9223372036854775808 ≤ x) (hx2 : x ≤ 9223372036854775807) (low : Nat × Nat) (hlow1 : low.1 < 18446744073709551616) (hlow2 : low.2 < 18446744073709551616) (i : Nat × Nat) (hi1 : i.1 < 18446744073709551616) (hi2 : i.2 < 18446744073709551616) :
    Calls Try.prog 6 #[.slice lA l.length lc, .agg #[.int .i64 b.s, .int .i64 b.f, .int .u64 b.p.1, .int .u64 b.p.2, .int .u64 b.t], .int .i64 x, .agg #[.int .u64 low.1, .int .u64 low.2], .agg #[.int .u64 i.1, .int .u64 i.2]] w fun e w' => e = .returned (.bool true) ∧ Kept w w' := by
  by_cases h40 : l.length ≤ 40
  · have hl6 : l.length ≤ 1000000 := by omega
    cases hm : mayB l with
    | false =>
      have XM := Lib.hid hm
      clear hm
      go_enter Try.func6, Try.ntmps6
      go_wp2_with fail
      have HK0 := Lib.hid ((((Kept.refl w).alloc (.cells #[.int .i64 b.s, .int .i64 b.f, .int .u64 b.p.1, .int .u64 b.p.2, .int .u64 b.t] 36)).alloc (.cells #[.int .u64 low.1, .int .u64 low.2] 25)).alloc (.cells #[.int .u64 i.1, .int .u64 i.2] 25))
      have HA0 := Lib.hid (lhl.kept HK0.out)
      have HB0_0 := Lib.hid (((HasCells.new w #[.int .i64 b.s, .int .i64 b.f, .int .u64 b.p.1, .int .u64 b.p.2, .int .u64 b.t] 36 (w.heap.size) (by simp)).alloc (.cells #[.int .u64 low.1, .int .u64 low.2] 25)).alloc (.cells #[.int .u64 i.1, .int .u64 i.2] 25))
      have HB1_0 := Lib.hid ((HasCells.new (w.alloc (.cells #[.int .i64 b.s, .int .i64 b.f, .int .u64 b.p.1, .int .u64 b.p.2, .int .u64 b.t] 36)) #[.int .u64 low.1, .int .u64 low.2] 25 (w.heap.size + 1) (by simp)).alloc (.cells #[.int .u64 i.1, .int .u64 i.2] 25))
      have HB2_0 := Lib.hid (HasCells.new ((w.alloc (.cells #[.int .i64 b.s, .int .i64 b.f, .int .u64 b.p.1, .int .u64 b.p.2, .int .u64 b.t] 36)).alloc (.cells #[.int .u64 low.1, .int .u64 low.2] 25)) #[.int .u64 i.1, .int .u64 i.2] 25 (w.heap.size + 1 + 1) (by simp))
      generalize (((w.alloc (.cells #[.int .i64 b.s, .int .i64 b.f, .int .u64 b.p.1, .int .u64 b.p.2, .int .u64 b.t] 36)).alloc (.cells #[.int .u64 low.1, .int .u64 low.2] 25)).alloc (.cells #[.int .u64 i.1, .int .u64 i.2] 25)) = W0 at *
      generalize w.heap.size + 1 + 1 = z2 at *
      generalize w.heap.size + 1 = z1 at *
      generalize w.heap.size = z0 at *
      clear lhl
      refine (treeAwake W0).mono ?_
      rintro e W1 ⟨rfl, k⟩
      have HK1 := Lib.hid (HK0.out.trans k)
      have HA1 := Lib.hid (HA0.out.kept k)
      have HB0_1 := Lib.hid (HB0_0.out.kept k)
      have HB1_1 := Lib.hid (HB1_0.out.kept k)
      have HB2_1 := Lib.hid (HB2_0.out.kept k)
      clear k HK0 HA0 HB0_0 HB1_0 HB2_0
      obtain ⟨b00, b01, b02, b03, b04⟩ := HB0_1.out.five
      have bz0 := HB0_1.out.1
      obtain ⟨b10, b11⟩ := HB1_1.out.two
      have bz1 := HB1_1.out.1
      obtain ⟨b20, b21⟩ := HB2_1.out.two
      have bz2 := HB2_1.out.1
      go_wp2_with fail
      clear b00 b01 b02 b03 b04 bz0 b10 b11 bz1 b20 b21 bz2
      refine (may_any lA lc l hl6 lhw W1 HA1.out).mono ?_
      rintro e W2 ⟨rfl, k⟩
      have HK2 := Lib.hid (HK1.out.trans k)
      have HA2 := Lib.hid (HA1.out.kept k)
      have HB0_2 := Lib.hid (HB0_1.out.kept k)
      have HB1_2 := Lib.hid (HB1_1.out.kept k)
      have HB2_2 := Lib.hid (HB2_1.out.kept k)
      clear k HK1 HA1 HB0_1 HB1_1 HB2_1
      rw [XM.out]
      obtain ⟨b00, b01, b02, b03, b04⟩ := HB0_2.out.five
      have bz0 := HB0_2.out.1
      obtain ⟨b10, b11⟩ := HB1_2.out.two
      have bz1 := HB1_2.out.1
      obtain ⟨b20, b21⟩ := HB2_2.out.two
      have bz2 := HB2_2.out.1
      go_wp2_with fail
      clear b00 b01 b02 b03 b04 bz0 b10 b11 bz1 b20 b21 bz2
      go_ret
      exact ⟨by first | rfl | (simp; done), HK2.out⟩
    | true =>
      by_cases h0 : x < 0
      · have XM := Lib.hid hm
        clear hm
        go_enter Try.func6, Try.ntmps6
        go_wp2_with fail
        have HK0 := Lib.hid ((((Kept.refl w).alloc (.cells #[.int .i64 b.s, .int .i64 b.f, .int .u64 b.p.1, .int .u64 b.p.2, .int .u64 b.t] 36)).alloc (.cells #[.int .u64 low.1, .int .u64 low.2] 25)).alloc (.cells #[.int .u64 i.1, .int .u64 i.2] 25))
        have HA0 := Lib.hid (lhl.kept HK0.out)
        have HB0_0 := Lib.hid (((HasCells.new w #[.int .i64 b.s, .int .i64 b.f, .int .u64 b.p.1, .int .u64 b.p.2, .int .u64 b.t] 36 (w.heap.size) (by simp)).alloc (.cells #[.int .u64 low.1, .int .u64 low.2] 25)).alloc (.cells #[.int .u64 i.1, .int .u64 i.2] 25))
        have HB1_0 := Lib.hid ((HasCells.new (w.alloc (.cells #[.int .i64 b.s, .int .i64 b.f, .int .u64 b.p.1, .int .u64 b.p.2, .int .u64 b.t] 36)) #[.int .u64 low.1, .int .u64 low.2] 25 (w.heap.size + 1) (by simp)).alloc (.cells #[.int .u64 i.1, .int .u64 i.2] 25))
        have HB2_0 := Lib.hid (HasCells.new ((w.alloc (.cells #[.int .i64 b.s, .int .i64 b.f, .int .u64 b.p.1, .int .u64 b.p.2, .int .u64 b.t] 36)).alloc (.cells #[.int .u64 low.1, .int .u64 low.2] 25)) #[.int .u64 i.1, .int .u64 i.2] 25 (w.heap.size + 1 + 1) (by simp))
        generalize (((w.alloc (.cells #[.int .i64 b.s, .int .i64 b.f, .int .u64 b.p.1, .int .u64 b.p.2, .int .u64 b.t] 36)).alloc (.cells #[.int .u64 low.1, .int .u64 low.2] 25)).alloc (.cells #[.int .u64 i.1, .int .u64 i.2] 25)) = W0 at *
        generalize w.heap.size + 1 + 1 = z2 at *
        generalize w.heap.size + 1 = z1 at *
        generalize w.heap.size = z0 at *
        clear lhl
        refine (treeAwake W0).mono ?_
        rintro e W1 ⟨rfl, k⟩
        have HK1 := Lib.hid (HK0.out.trans k)
        have HA1 := Lib.hid (HA0.out.kept k)
        have HB0_1 := Lib.hid (HB0_0.out.kept k)
        have HB1_1 := Lib.hid (HB1_0.out.kept k)
        have HB2_1 := Lib.hid (HB2_0.out.kept k)
        clear k HK0 HA0 HB0_0 HB1_0 HB2_0
        obtain ⟨b00, b01, b02, b03, b04⟩ := HB0_1.out.five
        have bz0 := HB0_1.out.1
        obtain ⟨b10, b11⟩ := HB1_1.out.two
        have bz1 := HB1_1.out.1
        obtain ⟨b20, b21⟩ := HB2_1.out.two
        have bz2 := HB2_1.out.1
        go_wp2_with fail
        clear b00 b01 b02 b03 b04 bz0 b10 b11 bz1 b20 b21 bz2
        refine (may_any lA lc l hl6 lhw W1 HA1.out).mono ?_
        rintro e W2 ⟨rfl, k⟩
        have HK2 := Lib.hid (HK1.out.trans k)
        have HA2 := Lib.hid (HA1.out.kept k)
        have HB0_2 := Lib.hid (HB0_1.out.kept k)
        have HB1_2 := Lib.hid (HB1_1.out.kept k)
        have HB2_2 := Lib.hid (HB2_1.out.kept k)
        clear k HK1 HA1 HB0_1 HB1_1 HB2_1
        rw [XM.out]
        obtain ⟨b00, b01, b02, b03, b04⟩ := HB0_2.out.five
        have bz0 := HB0_2.out.1
        obtain ⟨b10, b11⟩ := HB1_2.out.two
        have bz1 := HB1_2.out.1
        obtain ⟨b20, b21⟩ := HB2_2.out.two
        have bz2 := HB2_2.out.1
        go_wp2_with fail
        clear b00 b01 b02 b03 b04 bz0 b10 b11 bz1 b20 b21 bz2
        go_ret
        exact ⟨by first | rfl | (simp; done), HK2.out⟩
      · by_cases h1 : (l.length : Int) < x
        · have XM := Lib.hid hm
          clear hm
          go_enter Try.func6, Try.ntmps6
          go_wp2_with fail
          have HK0 := Lib.hid ((((Kept.refl w).alloc (.cells #[.int .i64 b.s, .int .i64 b.f, .int .u64 b.p.1, .int .u64 b.p.2, .int .u64 b.t] 36)).alloc (.cells #[.int .u64 low.1, .int .u64 low.2] 25)).alloc (.cells #[.int .u64 i.1, .int .u64 i.2] 25))
          have HA0 := Lib.hid (lhl.kept HK0.out)
          have HB0_0 := Lib.hid (((HasCells.new w #[.int .i64 b.s, .int .i64 b.f, .int .u64 b.p.1, .int .u64 b.p.2, .int .u64 b.t] 36 (w.heap.size) (by simp)).alloc (.cells #[.int .u64 low.1, .int .u64 low.2] 25)).alloc (.cells #[.int .u64 i.1, .int .u64 i.2] 25))
          have HB1_0 := Lib.hid ((HasCells.new (w.alloc (.cells #[.int .i64 b.s, .int .i64 b.f, .int .u64 b.p.1, .int .u64 b.p.2, .int .u64 b.t] 36)) #[.int .u64 low.1, .int .u64 low.2] 25 (w.heap.size + 1) (by simp)).alloc (.cells #[.int .u64 i.1, .int .u64 i.2] 25))
          have HB2_0 := Lib.hid (HasCells.new ((w.alloc (.cells #[.int .i64 b.s, .int .i64 b.f, .int .u64 b.p.1, .int .u64 b.p.2, .int .u64 b.t] 36)).alloc (.cells #[.int .u64 low.1, .int .u64 low.2] 25)) #[.int .u64 i.1, .int .u64 i.2] 25 (w.heap.size + 1 + 1) (by simp))
          generalize (((w.alloc (.cells #[.int .i64 b.s, .int .i64 b.f, .int .u64 b.p.1, .int .u64 b.p.2, .int .u64 b.t] 36)).alloc (.cells #[.int .u64 low.1, .int .u64 low.2] 25)).alloc (.cells #[.int .u64 i.1, .int .u64 i.2] 25)) = W0 at *
          generalize w.heap.size + 1 + 1 = z2 at *
          generalize w.heap.size + 1 = z1 at *
          generalize w.heap.size = z0 at *
          clear lhl
          refine (treeAwake W0).mono ?_
          rintro e W1 ⟨rfl, k⟩
          have HK1 := Lib.hid (HK0.out.trans k)
          have HA1 := Lib.hid (HA0.out.kept k)
          have HB0_1 := Lib.hid (HB0_0.out.kept k)
          have HB1_1 := Lib.hid (HB1_0.out.kept k)
          have HB2_1 := Lib.hid (HB2_0.out.kept k)
          clear k HK0 HA0 HB0_0 HB1_0 HB2_0
          obtain ⟨b00, b01, b02, b03, b04⟩ := HB0_1.out.five
          have bz0 := HB0_1.out.1
          obtain ⟨b10, b11⟩ := HB1_1.out.two
          have bz1 := HB1_1.out.1
          obtain ⟨b20, b21⟩ := HB2_1.out.two
          have bz2 := HB2_1.out.1
          go_wp2_with fail
          clear b00 b01 b02 b03 b04 bz0 b10 b11 bz1 b20 b21 bz2
          refine (may_any lA lc l hl6 lhw W1 HA1.out).mono ?_
          rintro e W2 ⟨rfl, k⟩
          have HK2 := Lib.hid (HK1.out.trans k)
          have HA2 := Lib.hid (HA1.out.kept k)
          have HB0_2 := Lib.hid (HB0_1.out.kept k)
          have HB1_2 := Lib.hid (HB1_1.out.kept k)
          have HB2_2 := Lib.hid (HB2_1.out.kept k)
          clear k HK1 HA1 HB0_1 HB1_1 HB2_1
          rw [XM.out]
          obtain ⟨b00, b01, b02, b03, b04⟩ := HB0_2.out.five
          have bz0 := HB0_2.out.1
          obtain ⟨b10, b11⟩ := HB1_2.out.two
          have bz1 := HB1_2.out.1
          obtain ⟨b20, b21⟩ := HB2_2.out.two
          have bz2 := HB2_2.out.1
          go_wp2_with fail
          clear b00 b01 b02 b03 b04 bz0 b10 b11 bz1 b20 b21 bz2
          go_ret
          exact ⟨by first | rfl | (simp; done), HK2.out⟩
        · obtain ⟨at', rfl⟩ := Int.eq_ofNat_of_zero_le (show 0 ≤ x by omega)
          have hat : at' ≤ l.length := by omega
          have hT := mayB_take hm at' hat
          have hN := fun w => name_any b hb w
          have hM : mayB (l ++ [b]) = okB l b := by rw [mayB_snoc, hm]; rfl
          cases hs : slotB l b.p with
          | none =>
            have hS : slotC l b.p = (0, false) := by unfold slotC; rw [if_pos hm, hs]
            exact way_none w lA lc l hl6 h40 lhc lhw lhl b hb at' hat low i ⟨hi1, hi2⟩ (nameB b) (nameB_lt b) hN hm hT (by rw [hM, okB, rightB_none hs, Bool.and_false]) hS
          | some s =>
            have hS : slotC l b.p = (s, true) := by unfold slotC; rw [if_pos hm, hs]
            by_cases hlt : s < b.s
            · have hR : rightB l b = true := by rw [rightB_some hs]; exact decide_eq_true hlt
              by_cases hz : nameB b = zid
              · exact way_zero w lA lc l hl6 h40 lhc lhw lhl b hb at' hat low i ⟨hi1, hi2⟩ (nameB b) (nameB_lt b) hN hm hT (by rw [hM, okB, standsB_iff.2 (Or.inr hz)]; rfl) s hS hlt (decide_eq_true hz)
              · cases hp : posB l (nameB b) with
                | some j => exact way_there w lA lc l hl6 h40 lhc lhw lhl b hb at' hat low i ⟨hi1, hi2⟩ (nameB b) (nameB_lt b) hN hm hT (by rw [hM, okB, standsB_iff.2 (Or.inl ⟨j, hp⟩)]; rfl) s hS hlt (decide_eq_false hz) (j : Int) (by omega) (decide_eq_false (by omega)) (findC_hit hm hp)
                | none =>
                  have hst : standsB l (nameB b) = false := by unfold standsB; rw [hp, decide_eq_false hz]; rfl
                  have hM2 : mayB (l ++ [b]) = true := by rw [hM, okB, hst, hR]; rfl
                  by_cases hc : 0 < (chainC l i).length
                  · exact way_on w lA lc l hl6 h40 lhc lhw lhl b hb at' hat low i ⟨hi1, hi2⟩ (nameB b) (nameB_lt b) hN hm hT hM2 s hS hlt (decide_eq_false hz) (findC_miss hm hp) hc (under_more hM2 hc)
                  · exact way_off w lA lc l hl6 h40 lhc lhw lhl b hb at' hat low i ⟨hi1, hi2⟩ (nameB b) (nameB_lt b) hN hm hT hM2 s hS hlt (decide_eq_false hz) (findC_miss hm hp) (List.eq_nil_of_length_eq_zero (by omega))
            · exact way_less w lA lc l hl6 h40 lhc lhw lhl b hb at' hat low i ⟨hi1, hi2⟩ (nameB b) (nameB_lt b) hN hm hT (by rw [hM, okB, rightB_some hs, decide_eq_false hlt, Bool.and_false]) s hS hlt
  · go_enter Try.func6, Try.ntmps6
    go_wp2_with fail
    have HK0 := Lib.hid ((((Kept.refl w).alloc (.cells #[.int .i64 b.s, .int .i64 b.f, .int .u64 b.p.1, .int .u64 b.p.2, .int .u64 b.t] 36)).alloc (.cells #[.int .u64 low.1, .int .u64 low.2] 25)).alloc (.cells #[.int .u64 i.1, .int .u64 i.2] 25))
    have HA0 := Lib.hid (lhl.kept HK0.out)
    have HB0_0 := Lib.hid (((HasCells.new w #[.int .i64 b.s, .int .i64 b.f, .int .u64 b.p.1, .int .u64 b.p.2, .int .u64 b.t] 36 (w.heap.size) (by simp)).alloc (.cells #[.int .u64 low.1, .int .u64 low.2] 25)).alloc (.cells #[.int .u64 i.1, .int .u64 i.2] 25))
    have HB1_0 := Lib.hid ((HasCells.new (w.alloc (.cells #[.int .i64 b.s, .int .i64 b.f, .int .u64 b.p.1, .int .u64 b.p.2, .int .u64 b.t] 36)) #[.int .u64 low.1, .int .u64 low.2] 25 (w.heap.size + 1) (by simp)).alloc (.cells #[.int .u64 i.1, .int .u64 i.2] 25))
    have HB2_0 := Lib.hid (HasCells.new ((w.alloc (.cells #[.int .i64 b.s, .int .i64 b.f, .int .u64 b.p.1, .int .u64 b.p.2, .int .u64 b.t] 36)).alloc (.cells #[.int .u64 low.1, .int .u64 low.2] 25)) #[.int .u64 i.1, .int .u64 i.2] 25 (w.heap.size + 1 + 1) (by simp))
    generalize (((w.alloc (.cells #[.int .i64 b.s, .int .i64 b.f, .int .u64 b.p.1, .int .u64 b.p.2, .int .u64 b.t] 36)).alloc (.cells #[.int .u64 low.1, .int .u64 low.2] 25)).alloc (.cells #[.int .u64 i.1, .int .u64 i.2] 25)) = W0 at *
    generalize w.heap.size + 1 + 1 = z2 at *
    generalize w.heap.size + 1 = z1 at *
    generalize w.heap.size = z0 at *
    clear lhl
    refine (treeAwake W0).mono ?_
    rintro e W1 ⟨rfl, k⟩
    have HK1 := Lib.hid (HK0.out.trans k)
    have HA1 := Lib.hid (HA0.out.kept k)
    have HB0_1 := Lib.hid (HB0_0.out.kept k)
    have HB1_1 := Lib.hid (HB1_0.out.kept k)
    have HB2_1 := Lib.hid (HB2_0.out.kept k)
    clear k HK0 HA0 HB0_0 HB1_0 HB2_0
    obtain ⟨b00, b01, b02, b03, b04⟩ := HB0_1.out.five
    have bz0 := HB0_1.out.1
    obtain ⟨b10, b11⟩ := HB1_1.out.two
    have bz1 := HB1_1.out.1
    obtain ⟨b20, b21⟩ := HB2_1.out.two
    have bz2 := HB2_1.out.1
    go_wp2_with fail
    clear b00 b01 b02 b03 b04 bz0 b10 b11 bz1 b20 b21 bz2
    go_ret
    exact ⟨by first | rfl | (simp; done), HK1.out⟩

/-! ### The row's step -/
set_option maxRecDepth 100000 in
theorem lifted (os : Os) (started : os.Started) (H : Type) (enc : TypeId × Value → H) :
    ReturnsInHanded {} Try.checked os 6 .any (Rows.treeMoreSpec.pre6 enc Try.prog Try.f6 Rows.treeMoreRow.domain false) (Rows.treeMoreSpec.post enc Try.prog Try.f6 false true false false) := by
  refine returnsInHanded_of_change (C := Try.checked) own started (by kernel_rfl) Try.func6
    (ChangeSpec.witness6 (enc := enc) (C := Try.checked) false ⟨#[], #[.slice none 0 0, .agg #[.int .i64 0, .int .i64 0, .int .u64 0, .int .u64 0, .int .u64 0], .int .i64 0, .agg #[.int .u64 0, .int .u64 0], .agg #[.int .u64 0, .int .u64 0]], []⟩ 8 (by kernel_rfl) (by kernel_rfl) (by kernel_rfl) (by kernel_rfl)) ?_
  intro W base args ds gs before hval0 hW hcnd _
  have hval : ∀ (j : Nat) t v, Try.f6.params[j]? = some t → args[j]? = some v → Value.okWide Try.prog W .any base t v := hval0
  have hW' := hW
  obtain ⟨p, q, hA0, hV, rfl, hfz, hnd⟩ := hW
  have hA : DataW.TrodAll enc Try.prog W 0 (fun _ => true) true Try.f6.params.toList args.toList ds p := hA0
  rw [Try.params6] at hA hval
  obtain ⟨v0, vs0, d0, ds0, p0, q0, hargs, rfl, rfl, h0, r0⟩ := trodAll_cons hA
  obtain ⟨v1, vs1, d1, ds1, p1, q1, rfl, rfl, rfl, h1, r1⟩ := trodAll_cons r0
  obtain ⟨v2, vs2, d2, ds2, p2, q2, rfl, rfl, rfl, h2, r2⟩ := trodAll_cons r1
  obtain ⟨v3, vs3, d3, ds3, p3, q3, rfl, rfl, rfl, h3, r3⟩ := trodAll_cons r2
  obtain ⟨v4, vs4, d4, ds4, p4, q4, rfl, rfl, rfl, h4, r4⟩ := trodAll_cons r3
  obtain ⟨rfl, rfl, rfl⟩ := trodAll_nil r4
  obtain rfl : args = #[v0, v1, v2, v3, v4] := by cases args; simp_all
  obtain ⟨rfl, rfl⟩ := trodVars_none hV
  obtain ⟨lA, lc, l, rfl, lhm, lhc, lhw, lhl⟩ := open_blocks (hval 0 _ v0 rfl rfl) h0
  obtain ⟨b, rfl, hb⟩ := open_bk (hval 1 _ v1 rfl rfl) h1
  obtain ⟨x, rfl, hx1, hx2⟩ := open_num (hval 2 _ v2 rfl rfl) h2
  obtain ⟨low, rfl, hlow1, hlow2⟩ := open_id (hval 3 _ v3 rfl rfl) h3
  obtain ⟨i, rfl, hi1, hi2⟩ := open_id (hval 4 _ v4 rfl rfl) h4
  clear hA0 hval0
  refine (walk W lA lc l lhm lhc lhw lhl b hb x hx1 hx2 low hlow1 hlow2 i hi1 hi2).mono fun e W' ⟨he, hb⟩ => ?_
  subst he
  exact ⟨_, rfl, law_post rfl (by kernel_rfl) rfl hW' rfl hb⟩

theorem over : Rows.treeMoreRow.holds Try.pinned (OpenSpec.ofChange Rows.treeMoreSpec) :=
  OpenClaim.holds_of_wide 6 Try.f6 rfl rfl rfl rfl rfl rfl rfl ⟨rfl, rfl, rfl, rfl, rfl⟩ rfl rfl rfl rfl rfl (by kernel_rfl) Try.func6 (by kernel_rfl)
    (of_decide_eq_true (by kernel_rfl)) (by unfold Func.isWrapper; first | (rw [if_pos (by decide +kernel)]; kernel_rfl) | (rw [if_neg (by decide +kernel)]; exact ⟨rfl, rfl⟩))
    (fun os started H enc _ => lifted os started H enc)

/-- The statement. -/
theorem proved : Rows.TreeMoreSaid :=
  over
#print axioms proved
end Go.Proofs.Ytepgbnojbomicaa.treeMore
