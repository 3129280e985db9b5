/-
  For all lists of blocks l and ids i and low marigoldlaw06.TreeTells returns true and leaves its arguments as they were: no further condition.
-/
import Derived.Test.YtepgbnojbomicaaTreeOpen
import Derived.Test.YtepgbnojbomicaaTreeRefChain
namespace Go.Proofs.Ytepgbnojbomicaa.treeTells
open Go.ChangeShapes Go.WideShapes Go.ChangeAt Go.RowKit
set_option linter.unusedVariables false

theorem kids_len (l : List Bk) (x : Id2) (h : l.length ≤ 40) : (kidsC l x).length ≤ 10000000 := by
  unfold kidsC
  split
  · have := kidsB_le l x; omega
  · simp
attribute [local go_sem high] eqIdN eqIdZ in
set_option maxRecDepth 100000 in
set_option maxHeartbeats 3200000 in
theorem main (w : World) (lA : Option Addr) (lc : Nat) (l : List Bk) (hl6 : l.length ≤ 1000000) (h40 : l.length ≤ 40) (lhw : WfL l) (lhl : CellsAt w w.heap.size lA (blockCells l)) (i : Id2) (hi : WfI i) (low : Id2) (N : Bk → Id2)
    (hN1 : (∀ (k : Nat) (hk : k < l.length) (w : World), Calls Try.prog 20 #[.agg #[.int .i64 l[k].s, .int .i64 l[k].f, .int .u64 l[k].p.1, .int .u64 l[k].p.2, .int .u64 l[k].t]] w fun e w' => e = .returned (.agg #[.int .u64 (N l[k]).1, .int .u64 (N l[k]).2]) ∧ Kept w w')) (hN2 : (∀ (k : Nat) (hk : k < l.length) (w : World), Calls Try.prog 21 #[.agg #[.int .i64 l[k].s, .int .i64 l[k].f, .int .u64 l[k].p.1, .int .u64 l[k].p.2, .int .u64 l[k].t]] w fun e w' => e = .returned (.agg #[.int .u64 (N l[k]).1, .int .u64 (N l[k]).2]) ∧ Kept w w')) (mb : Bool) (hmb : mayB l = mb) (s1 : Int) (b1 : Bool) (hsl : slotC l i = (s1, b1)) (ks : List Id2) (hks : kidsC l i = ks) (hkl : ks.length ≤ 10000000) (cs : List Id2) (hcs : chainC l i = cs) (hcl : cs.length ≤ 10000000) (u : Bool) (hu : underC l low i = u) (f : Int) (hf : findC l i = f) :
    Calls Try.prog 3 #[.slice lA l.length lc, .agg #[.int .u64 i.1, .int .u64 i.2], .agg #[.int .u64 low.1, .int .u64 low.2]] w fun e w' => e = .returned (.bool true) ∧ Kept w w' := by
  have XN1 := Lib.hid hN1
  have XN2 := Lib.hid hN2
  have XM := Lib.hid hmb
  have XS := Lib.hid hsl
  have XK := Lib.hid hks
  have XC := Lib.hid hcs
  have XU := Lib.hid hu
  have XF := Lib.hid hf
  clear hN1 hN2 hmb hsl hks hcs hu hf
  go_enter Try.func3, Try.ntmps3
  go_wp2_with fail
  have HK0 := Lib.hid (((Kept.refl w).alloc (.cells #[.int .u64 i.1, .int .u64 i.2] 25)).alloc (.cells #[.int .u64 low.1, .int .u64 low.2] 25))
  have HA0 := Lib.hid (lhl.kept HK0.out)
  have HB0_0 := Lib.hid ((HasCells.new w #[.int .u64 i.1, .int .u64 i.2] 25 (w.heap.size) (by simp)).alloc (.cells #[.int .u64 low.1, .int .u64 low.2] 25))
  have HB1_0 := Lib.hid (HasCells.new (w.alloc (.cells #[.int .u64 i.1, .int .u64 i.2] 25)) #[.int .u64 low.1, .int .u64 low.2] 25 (w.heap.size + 1) (by simp))
  generalize ((w.alloc (.cells #[.int .u64 i.1, .int .u64 i.2] 25)).alloc (.cells #[.int .u64 low.1, .int .u64 low.2] 25)) = W0 at *
  generalize w.heap.size + 1 = z1 at *
  generalize w.heap.size = z0 at *
  clear lhl
  refine (treeAwake W0).mono ?_
  rintro e W1 ⟨rfl, k⟩
  have HK1 := Lib.hid (HK0.out.trans k)
  have HA1 := Lib.hid (HA0.out.kept k)
  have HB0_1 := Lib.hid (HB0_0.out.kept k)
  have HB1_1 := Lib.hid (HB1_0.out.kept k)
  clear k HK0 HA0 HB0_0 HB1_0
  obtain ⟨b00, b01⟩ := HB0_1.out.two
  have bz0 := HB0_1.out.1
  obtain ⟨b10, b11⟩ := HB1_1.out.two
  have bz1 := HB1_1.out.1
  go_wp2_with fail
  clear b00 b01 bz0 b10 b11 bz1
  refine (refMay6_any lA lc l hl6 lhw W1 HA1.out).mono ?_
  rintro e W2 ⟨rfl, k⟩
  have HK2 := Lib.hid (HK1.out.trans k)
  have HA2 := Lib.hid (HA1.out.kept k)
  have HB0_2 := Lib.hid (HB0_1.out.kept k)
  have HB1_2 := Lib.hid (HB1_1.out.kept k)
  clear k HK1 HA1 HB0_1 HB1_1
  rw [XM.out]
  obtain ⟨b00, b01⟩ := HB0_2.out.two
  have bz0 := HB0_2.out.1
  obtain ⟨b10, b11⟩ := HB1_2.out.two
  have bz1 := HB1_2.out.1
  go_wp2_with fail
  clear b00 b01 bz0 b10 b11 bz1
  refine (slot_any lA lc l hl6 lhw i hi W2 HA2.out).mono ?_
  rintro e W3 ⟨rfl, k⟩
  have HK3 := Lib.hid (HK2.out.trans k)
  have HA3 := Lib.hid (HA2.out.kept k)
  have HB0_3 := Lib.hid (HB0_2.out.kept k)
  have HB1_3 := Lib.hid (HB1_2.out.kept k)
  clear k HK2 HA2 HB0_2 HB1_2
  rw [XS.out]
  unfold slotPV
  obtain ⟨b00, b01⟩ := HB0_3.out.two
  have bz0 := HB0_3.out.1
  obtain ⟨b10, b11⟩ := HB1_3.out.two
  have bz1 := HB1_3.out.1
  go_wp2_with fail
  clear b00 b01 bz0 b10 b11 bz1
  refine (refSlot_any lA lc l hl6 lhw i W3 HA3.out).mono ?_
  rintro e W4 ⟨rfl, k⟩
  have HK4 := Lib.hid (HK3.out.trans k)
  have HA4 := Lib.hid (HA3.out.kept k)
  have HB0_4 := Lib.hid (HB0_3.out.kept k)
  have HB1_4 := Lib.hid (HB1_3.out.kept k)
  clear k HK3 HA3 HB0_3 HB1_3
  rw [XS.out]
  unfold slotPV
  obtain ⟨b00, b01⟩ := HB0_4.out.two
  have bz0 := HB0_4.out.1
  obtain ⟨b10, b11⟩ := HB1_4.out.two
  have bz1 := HB1_4.out.1
  go_wp2_with fail
  have XA := Lib.hid (fun w' (h : Kept W4 w') => kids_any lA lc l hl6 lhw i w' (HA4.out.kept h))
  rw [XK.out] at XA
  have XB := Lib.hid (fun w' (h : Kept W4 w') => refKids_any lA lc l hl6 lhw i w' (HA4.out.kept h))
  rw [XK.out] at XB
  go_region_held3 (fun w' => w'.cell? ⟨z0, 0, none⟩ = some (.int .u64 i.1) ∧ w'.cell? ⟨z0, 1, none⟩ = some (.int .u64 i.2) ∧ Kept W4 w')
    (first | exact ⟨b00, b01, (Kept.refl _).drew⟩ | assumption | exact keep1 bz0 (by assumption) (by assumption))
    (first
      | (go_at_call 15; ((with_reducible refine (XA.out _ ((by assumption : _ ∧ _ ∧ Kept W4 _).2.2)).mono ?_); rintro e w' ⟨A', c', rfl, hq, _, kk⟩))
      | (go_at_call 16; ((with_reducible refine (XB.out _ ((by assumption : _ ∧ _ ∧ Kept W4 _).2.2)).mono ?_); rintro e w' ⟨A'', c'', rfl, hq2, _, kk⟩; have hq1 := hq.kept kk))
      | (go_at_call 14; ((with_reducible refine (refIDs_same A' c' A'' c'' ks hkl _ hq1 hq2).mono ?_); rintro e w' ⟨rfl, kk⟩)))
  rename_i hh
  have k := hh.2.2
  clear hh hq hq1 hq2 kk XA XB
  clear b00 b01 bz0 b10 b11 bz1
  have HK5 := Lib.hid (HK4.out.trans k)
  have HA5 := Lib.hid (HA4.out.kept k)
  have HB0_5 := Lib.hid (HB0_4.out.kept k)
  have HB1_5 := Lib.hid (HB1_4.out.kept k)
  clear k HK4 HA4 HB0_4 HB1_4
  generalize w' = W5 at *
  obtain ⟨b00, b01⟩ := HB0_5.out.two
  have bz0 := HB0_5.out.1
  obtain ⟨b10, b11⟩ := HB1_5.out.two
  have bz1 := HB1_5.out.1
  go_wp2_with fail
  have XA := Lib.hid (fun w' (h : Kept W5 w') => chain_any lA lc l hl6 lhw i hi w' (HA5.out.kept h))
  rw [XC.out] at XA
  have XB := Lib.hid (fun w' (h : Kept W5 w') => refChain_any lA lc l hl6 lhw i w' (HA5.out.kept h))
  rw [XC.out] at XB
  go_region_held3 (fun w' => w'.cell? ⟨z0, 0, none⟩ = some (.int .u64 i.1) ∧ w'.cell? ⟨z0, 1, none⟩ = some (.int .u64 i.2) ∧ Kept W5 w')
    (first | exact ⟨b00, b01, (Kept.refl _).drew⟩ | assumption | exact keep1 bz0 (by assumption) (by assumption))
    (first
      | (go_at_call 17; ((with_reducible refine (XA.out _ ((by assumption : _ ∧ _ ∧ Kept W5 _).2.2)).mono ?_); rintro e w' ⟨A', c', rfl, hq, _, kk⟩))
      | (go_at_call 18; ((with_reducible refine (XB.out _ ((by assumption : _ ∧ _ ∧ Kept W5 _).2.2)).mono ?_); rintro e w' ⟨A'', c'', rfl, hq2, _, kk⟩; have hq1 := hq.kept kk))
      | (go_at_call 14; ((with_reducible refine (refIDs_same A' c' A'' c'' cs hcl _ hq1 hq2).mono ?_); rintro e w' ⟨rfl, kk⟩)))
  rename_i hh
  have k := hh.2.2
  clear hh hq hq1 hq2 kk XA XB
  clear b00 b01 bz0 b10 b11 bz1
  have HK6 := Lib.hid (HK5.out.trans k)
  have HA6 := Lib.hid (HA5.out.kept k)
  have HB0_6 := Lib.hid (HB0_5.out.kept k)
  have HB1_6 := Lib.hid (HB1_5.out.kept k)
  clear k HK5 HA5 HB0_5 HB1_5
  generalize w' = W6 at *
  obtain ⟨b00, b01⟩ := HB0_6.out.two
  have bz0 := HB0_6.out.1
  obtain ⟨b10, b11⟩ := HB1_6.out.two
  have bz1 := HB1_6.out.1
  go_wp2_with fail
  clear b00 b01 bz0 b10 b11 bz1
  refine (refUnder_any lA lc l hl6 lhw low i W6 HA6.out).mono ?_
  rintro e W7 ⟨rfl, k⟩
  have HK7 := Lib.hid (HK6.out.trans k)
  have HA7 := Lib.hid (HA6.out.kept k)
  have HB0_7 := Lib.hid (HB0_6.out.kept k)
  have HB1_7 := Lib.hid (HB1_6.out.kept k)
  clear k HK6 HA6 HB0_6 HB1_6
  rw [XU.out]
  obtain ⟨b00, b01⟩ := HB0_7.out.two
  have bz0 := HB0_7.out.1
  obtain ⟨b10, b11⟩ := HB1_7.out.two
  have bz1 := HB1_7.out.1
  go_wp2_with fail
  clear b00 b01 bz0 b10 b11 bz1
  go_loopw [16] (fun a w' => ∃ k : Nat, k ≤ l.length ∧ a = .int .i64 k ∧ Kept W7 w') (fun a _ => l.length - (intOf a).toNat)
  case atStart => exact ⟨0, by omega, rfl, Kept.refl _⟩
  case round =>
    obtain ⟨k, hk, rfl, hKr⟩ := hrel
    have HKr := Lib.hid (HK7.out.trans hKr)
    have HAr := Lib.hid (HA7.out.kept hKr)
    have HB0r := Lib.hid (HB0_7.out.kept hKr)
    have HB1r := Lib.hid (HB1_7.out.kept hKr)
    have HRx := Lib.hid (show ∀ w2, Kept wr w2 → Kept W7 w2 from fun w2 k2 => hKr.trans k2)
    clear hKr
    by_cases hlt : k < l.length
    · obtain ⟨z, o, rfl, hb, c0, c1, c2, c3, c4⟩ := block_at HAr.out hlt
      have Y1 := Lib.hid (XN1.out k hlt)
      have Y2 := Lib.hid (XN2.out k hlt)
      have hge : (0 : Int) ≤ (k : Int) := by omega
      have hlk : (k : Int) < (l.length : Int) := by omega
      generalize l[k] = y at *
      generalize N y = id at *
      have hs := sameI_yes (rfl : id = id)
      have HKP := Lib.hid (show ∀ w1 w2 : World, (w1.cell? ⟨z, o + k * 5, none⟩ = some (.int .i64 y.s) ∧ w1.cell? ⟨z, o + k * 5 + 1, none⟩ = some (.int .i64 y.f) ∧ w1.cell? ⟨z, o + k * 5 + 2, none⟩ = some (.int .u64 y.p.1) ∧ w1.cell? ⟨z, o + k * 5 + 3, none⟩ = some (.int .u64 y.p.2) ∧ w1.cell? ⟨z, o + k * 5 + 4, none⟩ = some (.int .u64 y.t) ∧ Kept wr w1) → Kept w1 w2 → (w2.cell? ⟨z, o + k * 5, none⟩ = some (.int .i64 y.s) ∧ w2.cell? ⟨z, o + k * 5 + 1, none⟩ = some (.int .i64 y.f) ∧ w2.cell? ⟨z, o + k * 5 + 2, none⟩ = some (.int .u64 y.p.1) ∧ w2.cell? ⟨z, o + k * 5 + 3, none⟩ = some (.int .u64 y.p.2) ∧ w2.cell? ⟨z, o + k * 5 + 4, none⟩ = some (.int .u64 y.t) ∧ Kept wr w2) from fun w1 w2 h kk => by
        have kp := h.2.2.2.2.2.trans kk
        exact ⟨(kp.cell (p := ⟨z, o + k * 5, none⟩) hb).trans c0, (kp.cell (p := ⟨z, o + k * 5 + 1, none⟩) hb).trans c1, (kp.cell (p := ⟨z, o + k * 5 + 2, none⟩) hb).trans c2, (kp.cell (p := ⟨z, o + k * 5 + 3, none⟩) hb).trans c3, (kp.cell (p := ⟨z, o + k * 5 + 4, none⟩) hb).trans c4, kp⟩)
      go_wp2_with fail
      go_region_held3 (fun w' => w'.cell? ⟨z, o + k * 5, none⟩ = some (.int .i64 y.s) ∧ w'.cell? ⟨z, o + k * 5 + 1, none⟩ = some (.int .i64 y.f) ∧ w'.cell? ⟨z, o + k * 5 + 2, none⟩ = some (.int .u64 y.p.1) ∧ w'.cell? ⟨z, o + k * 5 + 3, none⟩ = some (.int .u64 y.p.2) ∧ w'.cell? ⟨z, o + k * 5 + 4, none⟩ = some (.int .u64 y.t) ∧ Kept wr w')
        (first | exact ⟨c0, c1, c2, c3, c4, (Kept.refl _).drew⟩ | assumption | exact HKP.out _ _ (by assumption) (by assumption))
        (first
          | (go_at_call 20; ((with_reducible refine (Y1.out _).mono ?_); rintro e w' ⟨rfl, kk⟩))
          | (go_at_call 21; ((with_reducible refine (Y2.out _).mono ?_); rintro e w' ⟨rfl, kk⟩)))
      rename_i hh
      have HRe := Lib.hid hh.2.2.2.2.2
      clear hh c0 c1 c2 c3 c4
      go_wp2_with fail
      go_roundw
      case rel => exact ⟨k + 1, by omega, by go_num, HRx.out _ HRe.out⟩
      case measure => simp [intOf]; omega
    · have hkl2 : k = l.length := by omega
      subst hkl2
      obtain ⟨b00, b01⟩ := HB0r.out.two
      obtain ⟨b10, b11⟩ := HB1r.out.two
      have bz0 := HB0r.out.1
      have bz1 := HB1r.out.1
      have Y1 := Lib.hid (fun w' (h : Kept wr w') => may_any lA lc l hl6 lhw w' (HAr.out.kept h))
      rw [XM.out] at Y1
      have Y2 := Lib.hid (fun w' (h : Kept wr w') => under_any lA lc l hl6 lhw low i hi w' (HAr.out.kept h))
      rw [XU.out] at Y2
      have Y3 := Lib.hid (fun w' (h : Kept wr w') => find_any lA lc l hl6 lhw i hi w' (HAr.out.kept h))
      rw [XF.out] at Y3
      have Y4 := Lib.hid (fun w' (h : Kept wr w') => refFind_any lA lc l hl6 lhw i w' (HAr.out.kept h))
      rw [XF.out] at Y4
      have hbb : (mb == mb) = true := by cases mb <;> rfl
      have hbc : (b1 == b1) = true := by cases b1 <;> rfl
      have hbd : (u == u) = true := by cases u <;> rfl
      have hbe : (s1 == s1) = true := by simp
      have hbf : (f == f) = true := by simp
      go_wp2_with fail
      go_region_held3 (fun w' => w'.cell? ⟨z0, 0, none⟩ = some (.int .u64 i.1) ∧ w'.cell? ⟨z0, 1, none⟩ = some (.int .u64 i.2) ∧ w'.cell? ⟨z1, 0, none⟩ = some (.int .u64 low.1) ∧ w'.cell? ⟨z1, 1, none⟩ = some (.int .u64 low.2) ∧ Kept wr w')
        (first | exact ⟨b00, b01, b10, b11, (Kept.refl _).drew⟩ | assumption | exact keep2 bz0 bz1 (by assumption) (by assumption))
        (first
          | (go_at_call 22; ((with_reducible refine (Y1.out _ ((by assumption : _ ∧ _ ∧ _ ∧ _ ∧ Kept wr _).2.2.2.2)).mono ?_); rintro e w' ⟨rfl, kk⟩))
          | (go_at_call 23; ((with_reducible refine (Y2.out _ ((by assumption : _ ∧ _ ∧ _ ∧ _ ∧ Kept wr _).2.2.2.2)).mono ?_); rintro e w' ⟨rfl, kk⟩))
          | (go_at_call 24; ((with_reducible refine (Y3.out _ ((by assumption : _ ∧ _ ∧ _ ∧ _ ∧ Kept wr _).2.2.2.2)).mono ?_); rintro e w' ⟨rfl, kk⟩))
          | (go_at_call 25; ((with_reducible refine (Y4.out _ ((by assumption : _ ∧ _ ∧ _ ∧ _ ∧ Kept wr _).2.2.2.2)).mono ?_); rintro e w' ⟨rfl, kk⟩)))
      rename_i hh
      have hk := Lib.hid (HKr.out.trans hh.2.2.2.2)
      clear hh
      go_wp2_with fail
      go_ret
      exact ⟨by first | rfl | (simp; done), hk.out⟩

/-! ### The walk: the call returns true, and of what was there nothing has changed. -/
attribute [local go_sem high] eqIdN eqIdZ in
set_option maxRecDepth 100000 in
set_option maxHeartbeats 3200000 in
theorem walk (w : World) (lA : Option Addr) (lc : Nat) (l : List Bk) (lhm : l.length ≤ maxLen) (lhc : l.length ≤ lc) (lhw : WfL l) (lhl : CellsAt w w.heap.size lA (blockCells l)) (i : Nat × Nat) (hi1 : i.1 < 18446744073709551616) (hi2 : i.2 < 18446744073709551616) (low : Nat × Nat) (hlow1 : low.1 < 18446744073709551616) (hlow2 : low.2 < 18446744073709551616) :
    Calls Try.prog 3 #[.slice lA l.length lc, .agg #[.int .u64 i.1, .int .u64 i.2], .agg #[.int .u64 low.1, .int .u64 low.2]] w fun e w' => e = .returned (.bool true) ∧ Kept w w' := by
  by_cases h40 : l.length ≤ 40
  · have hl6 : l.length ≤ 1000000 := by omega
    have hc := chainC_length l i
    exact main w lA lc l hl6 h40 lhw lhl i ⟨hi1, hi2⟩ low nameB (fun k hk w => name_any _ (lhw _ (List.getElem_mem hk)) w) (fun k hk w => refName_any _ (lhw _ (List.getElem_mem hk)) w) _ rfl _ _ rfl _ rfl (kids_len l i h40) _ rfl (by omega) _ rfl _ rfl
  · go_enter Try.func3, Try.ntmps3
    go_wp2_with fail
    have HK0 := Lib.hid (((Kept.refl w).alloc (.cells #[.int .u64 i.1, .int .u64 i.2] 25)).alloc (.cells #[.int .u64 low.1, .int .u64 low.2] 25))
    have HA0 := Lib.hid (lhl.kept HK0.out)
    have HB0_0 := Lib.hid ((HasCells.new w #[.int .u64 i.1, .int .u64 i.2] 25 (w.heap.size) (by simp)).alloc (.cells #[.int .u64 low.1, .int .u64 low.2] 25))
    have HB1_0 := Lib.hid (HasCells.new (w.alloc (.cells #[.int .u64 i.1, .int .u64 i.2] 25)) #[.int .u64 low.1, .int .u64 low.2] 25 (w.heap.size + 1) (by simp))
    generalize ((w.alloc (.cells #[.int .u64 i.1, .int .u64 i.2] 25)).alloc (.cells #[.int .u64 low.1, .int .u64 low.2] 25)) = W0 at *
    generalize w.heap.size + 1 = z1 at *
    generalize w.heap.size = z0 at *
    clear lhl
    refine (treeAwake W0).mono ?_
    rintro e W1 ⟨rfl, k⟩
    have HK1 := Lib.hid (HK0.out.trans k)
    have HA1 := Lib.hid (HA0.out.kept k)
    have HB0_1 := Lib.hid (HB0_0.out.kept k)
    have HB1_1 := Lib.hid (HB1_0.out.kept k)
    clear k HK0 HA0 HB0_0 HB1_0
    obtain ⟨b00, b01⟩ := HB0_1.out.two
    have bz0 := HB0_1.out.1
    obtain ⟨b10, b11⟩ := HB1_1.out.two
    have bz1 := HB1_1.out.1
    go_wp2_with fail
    clear b00 b01 bz0 b10 b11 bz1
    go_ret
    exact ⟨by first | rfl | (simp; done), HK1.out⟩

/-! ### The row's step -/
set_option maxRecDepth 100000 in
theorem lifted (os : Os) (started : os.Started) (H : Type) (enc : TypeId × Value → H) :
    ReturnsInHanded {} Try.checked os 3 .any (Rows.treeTellsSpec.pre6 enc Try.prog Try.f3 Rows.treeTellsRow.domain false) (Rows.treeTellsSpec.post enc Try.prog Try.f3 false true false false) := by
  refine returnsInHanded_of_change (C := Try.checked) own started (by kernel_rfl) Try.func3
    (ChangeSpec.witness6 (enc := enc) (C := Try.checked) false ⟨#[], #[.slice none 0 0, .agg #[.int .u64 0, .int .u64 0], .agg #[.int .u64 0, .int .u64 0]], []⟩ 8 (by kernel_rfl) (by kernel_rfl) (by kernel_rfl) (by kernel_rfl)) ?_
  intro W base args ds gs before hval0 hW hcnd _
  have hval : ∀ (j : Nat) t v, Try.f3.params[j]? = some t → args[j]? = some v → Value.okWide Try.prog W .any base t v := hval0
  have hW' := hW
  obtain ⟨p, q, hA0, hV, rfl, hfz, hnd⟩ := hW
  have hA : DataW.TrodAll enc Try.prog W 0 (fun _ => true) true Try.f3.params.toList args.toList ds p := hA0
  rw [Try.params3] at hA hval
  obtain ⟨v0, vs0, d0, ds0, p0, q0, hargs, rfl, rfl, h0, r0⟩ := trodAll_cons hA
  obtain ⟨v1, vs1, d1, ds1, p1, q1, rfl, rfl, rfl, h1, r1⟩ := trodAll_cons r0
  obtain ⟨v2, vs2, d2, ds2, p2, q2, rfl, rfl, rfl, h2, r2⟩ := trodAll_cons r1
  obtain ⟨rfl, rfl, rfl⟩ := trodAll_nil r2
  obtain rfl : args = #[v0, v1, v2] := by cases args; simp_all
  obtain ⟨rfl, rfl⟩ := trodVars_none hV
  obtain ⟨lA, lc, l, rfl, lhm, lhc, lhw, lhl⟩ := open_blocks (hval 0 _ v0 rfl rfl) h0
  obtain ⟨i, rfl, hi1, hi2⟩ := open_id (hval 1 _ v1 rfl rfl) h1
  obtain ⟨low, rfl, hlow1, hlow2⟩ := open_id (hval 2 _ v2 rfl rfl) h2
  clear hA0 hval0
  refine (walk W lA lc l lhm lhc lhw lhl i hi1 hi2 low hlow1 hlow2).mono fun e W' ⟨he, hb⟩ => ?_
  subst he
  exact ⟨_, rfl, law_post rfl (by kernel_rfl) rfl hW' rfl hb⟩

theorem over : Rows.treeTellsRow.holds Try.pinned (OpenSpec.ofChange Rows.treeTellsSpec) :=
  OpenClaim.holds_of_wide 3 Try.f3 rfl rfl rfl rfl rfl rfl rfl ⟨rfl, rfl, rfl, rfl, rfl⟩ rfl rfl rfl rfl rfl (by kernel_rfl) Try.func3 (by kernel_rfl)
    (of_decide_eq_true (by kernel_rfl)) (by unfold Func.isWrapper; first | (rw [if_pos (by decide +kernel)]; kernel_rfl) | (rw [if_neg (by decide +kernel)]; exact ⟨rfl, rfl⟩))
    (fun os started H enc _ => lifted os started H enc)

/-- The statement. -/
theorem proved : Rows.TreeTellsSaid :=
  over
#print axioms proved
end Go.Proofs.Ytepgbnojbomicaa.treeTells
