/-
  For all lists of blocks l marigoldlaw06.TreeKids returns true and leaves its argument as it was: no further condition.
-/
import Derived.Test.YtepgbnojbomicaaTreeAwake
import Derived.Test.YtepgbnojbomicaaTreeOpen
import Derived.Test.YtepgbnojbomicaaTreeFacts
namespace Go.Proofs.Ytepgbnojbomicaa.treeKids
open Go.ChangeShapes Go.WideShapes Go.ChangeAt Go.RowKit
set_option linter.unusedVariables false

theorem cntTo_le {l : List Bk} (k : Nat) : cntTo l k ≤ l.length := by unfold cntTo; exact List.countP_le_length
theorem kids_slot {l : List Bk} (hm : mayB l = true) {k : Nat} (hk : k < l.length) : slotC l (nameB l[k]) = (l[k].s, true) := by
  unfold slotC
  rw [if_pos hm, slotB_hit (may_pos hm hk)]
theorem kids_under {l : List Bk} (hm : mayB l = true) {k : Nat} (hk : k < l.length) : underC l l[k].p (nameB l[k]) = true := by
  rw [underC_true, chainC_yes hm (standsB_iff.2 (Or.inl ⟨k, may_pos hm hk⟩)), chainB_some hm (may_pos hm hk)]
  exact List.mem_cons_of_mem _ (chainB_self _ _)
attribute [local go_sem high] eqIdN eqIdZ in
set_option maxRecDepth 100000 in
set_option maxHeartbeats 3200000 in
theorem main (w : World) (lA : Option Addr) (lc : Nat) (l : List Bk) (hl6 : l.length ≤ 1000000) (h40 : l.length ≤ 40) (lhw : WfL l) (lhl : CellsAt w w.heap.size lA (blockCells l)) (N : Bk → Id2) (hm : mayB l = true)
    (hN : ∀ (k : Nat) (hk : k < l.length) (w : World), Calls Try.prog 20 #[.agg #[.int .i64 l[k].s, .int .i64 l[k].f, .int .u64 l[k].p.1, .int .u64 l[k].p.2, .int .u64 l[k].t]] w fun e w' => e = .returned (.agg #[.int .u64 (N l[k]).1, .int .u64 (N l[k]).2]) ∧ Kept w w')
    (hWf : ∀ (k : Nat) (hk : k < l.length), WfI (N l[k])) (cnt : Nat → Nat) (hc0 : (kidsC l zid).length = cnt 0) (hcs : ∀ (k : Nat) (hk : k < l.length), cnt (k + 1) = cnt k + (kidsC l (N l[k])).length) (hce : cnt l.length = l.length) (hcl : ∀ k, cnt k ≤ l.length)
    (hF : ∀ (k : Nat) (hk : k < l.length), findC l (N l[k]) = (k : Int)) (hS : ∀ (k : Nat) (hk : k < l.length), slotC l (N l[k]) = (l[k].s, true)) (hU : ∀ (k : Nat) (hk : k < l.length), underC l l[k].p (N l[k]) = true) :
    Calls Try.prog 7 #[.slice lA l.length lc] w fun e w' => e = .returned (.bool true) ∧ Kept w w' := by
  have HM := Lib.hid hm
  have HN := Lib.hid hN
  have HWf := Lib.hid hWf
  have HC0 := Lib.hid hc0
  have HCs := Lib.hid hcs
  have HCe := Lib.hid hce
  have HCl := Lib.hid hcl
  have HF := Lib.hid hF
  have HS := Lib.hid hS
  have HU := Lib.hid hU
  have HW := Lib.hid lhw
  have HA0 := Lib.hid lhl
  have HK0 := Lib.hid (Kept.refl w)
  clear hm hN hWf hc0 hcs hce hcl hF hS hU lhl
  go_enter Try.func7, Try.ntmps7
  go_wp2_with fail
  refine (treeAwake w).mono ?_
  rintro e W1 ⟨rfl, k⟩
  have HK1 := Lib.hid (HK0.out.trans k)
  have HA1 := Lib.hid (HA0.out.kept k)
  clear k HK0 HA0
  go_wp2_with fail
  refine (kids_zero lA lc l hl6 lhw W1 HA1.out).mono ?_
  rintro e W2 ⟨A', c', rfl, _, _, k⟩
  have HK2 := Lib.hid (HK1.out.trans k)
  have HA2 := Lib.hid (HA1.out.kept k)
  clear k HK1 HA1
  rw [HC0.out]
  go_wp2_with fail
  refine (may_any lA lc l hl6 lhw W2 HA2.out).mono ?_
  rintro e W3 ⟨rfl, k⟩
  have HK3 := Lib.hid (HK2.out.trans k)
  have HA3 := Lib.hid (HA2.out.kept k)
  clear k HK2 HA2
  rw [HM.out]
  go_wp2_with fail
  go_loopw [4, 5] (fun s i w' => ∃ k : Nat, k ≤ l.length ∧ s = .int .i64 (cnt k : Nat) ∧ i = .int .i64 k ∧ Kept W3 w') (fun _ i _ => l.length - (intOf i).toNat)
  case atStart => exact ⟨0, by omega, rfl, rfl, Kept.refl _⟩
  case round =>
    obtain ⟨k, hk, rfl, rfl, hKr⟩ := hrel
    have HKr := Lib.hid (HK3.out.trans hKr)
    have HRx := Lib.hid (show ∀ w2, Kept wr w2 → Kept W3 w2 from fun w2 k2 => hKr.trans k2)
    have HAr := Lib.hid (HA3.out.kept hKr)
    clear hKr
    by_cases hlt : k < l.length
    · obtain ⟨z, o, rfl, hb, c0, c1, c2, c3, c4⟩ := block_at HAr.out hlt
      have HNk := Lib.hid (HN.out k hlt)
      have HWk := Lib.hid (HWf.out k hlt)
      have HCk := Lib.hid (HCs.out k hlt)
      have HFk := Lib.hid (HF.out k hlt)
      have HSk := Lib.hid (HS.out k hlt)
      have HUk := Lib.hid (HU.out k hlt)
      have hcb1 := HCl.out k
      have hcb2 := HCl.out (k + 1)
      have HBz := Lib.hid (show ∀ w', Kept wr w' → w'.cell? ⟨z, o + k * 5, none⟩ = some (.int .i64 l[k].s) ∧ w'.cell? ⟨z, o + k * 5 + 2, none⟩ = some (.int .u64 l[k].p.1) ∧ w'.cell? ⟨z, o + k * 5 + 3, none⟩ = some (.int .u64 l[k].p.2) from fun w' kk => ⟨(kk.cell (p := ⟨z, o + k * 5, none⟩) hb).trans c0, (kk.cell (p := ⟨z, o + k * 5 + 2, none⟩) hb).trans c2, (kk.cell (p := ⟨z, o + k * 5 + 3, none⟩) hb).trans c3⟩)
      generalize l[k] = y at *
      generalize N y = id at *
      go_wp2_with fail
      refine (HNk.out _).mono ?_
      rintro e V1 ⟨rfl, k1⟩
      clear c0 c1 c2 c3 c4
      go_wp2_with fail
      have HB1 := Lib.hid (HasCells.new V1 #[.int .u64 id.1, .int .u64 id.2] 25 V1.heap.size rfl)
      have HR1 := Lib.hid (k1.alloc (.cells #[.int .u64 id.1, .int .u64 id.2] 25))
      have hb1 := HB1.out.1
      clear k1
      generalize V1.alloc (.cells #[.int .u64 id.1, .int .u64 id.2] 25) = V2 at *
      generalize V1.heap.size = y1 at *
      refine (kids_any _ lc l hl6 lhw id V2 (HAr.out.kept HR1.out)).mono ?_
      rintro e V3 ⟨A', c', rfl, _, _, k3⟩
      have hkl : (kidsC l id).length ≤ 40 := by have := HCk.out; omega
      have hkl2 : cnt k + (kidsC l id).length ≤ 40 := by have := HCk.out; omega
      have HB3 := Lib.hid (HB1.out.kept k3)
      have HR3 := Lib.hid (HR1.out.trans k3)
      obtain ⟨d0, d1⟩ := HB3.out.two
      have hd := HB3.out.1
      clear k3 HB1 HR1 hb1
      generalize hKL : (kidsC l id).length = KL at *
      have HKL := Lib.hid hKL
      clear hKL
      go_wp2_with fail
      refine (slot_any _ lc l hl6 lhw id HWk.out V3 (HAr.out.kept HR3.out)).mono ?_
      rintro e V4 ⟨rfl, k4⟩
      rw [HSk.out]
      unfold slotPV
      have HB4 := Lib.hid (HB3.out.kept k4)
      have HR4 := Lib.hid (HR3.out.trans k4)
      clear k4 HB3 HR3 d0 d1 hd
      obtain ⟨d0, d1⟩ := HB4.out.two
      have hd := HB4.out.1
      obtain ⟨e0, e2, e3⟩ := HBz.out V4 HR4.out
      go_wp2_with fail
      have HFi := Lib.hid (fun w' (h : Kept V4 w') => find_any (some ⟨z, o, none⟩) lc l hl6 lhw id HWk.out w' (HAr.out.kept (HR4.out.trans h)))
      have HUn := Lib.hid (fun w' (h : Kept V4 w') => under_any (some ⟨z, o, none⟩) lc l hl6 lhw y.p id HWk.out w' (HAr.out.kept (HR4.out.trans h)))
      rw [HFk.out] at HFi
      rw [HUk.out] at HUn
      have hge : (0 : Int) ≤ (k : Int) := by omega
      have hlk : (k : Int) < (l.length : Int) := by omega
      have HKP := Lib.hid (show ∀ w1 w2 : World, (w1.cell? ⟨y1, 0, none⟩ = some (.int .u64 id.1) ∧ w1.cell? ⟨y1, 1, none⟩ = some (.int .u64 id.2) ∧ w1.cell? ⟨z, o + k * 5, none⟩ = some (.int .i64 y.s) ∧ w1.cell? ⟨z, o + k * 5 + 2, none⟩ = some (.int .u64 y.p.1) ∧ w1.cell? ⟨z, o + k * 5 + 3, none⟩ = some (.int .u64 y.p.2) ∧ Kept V4 w1) → Kept w1 w2 → (w2.cell? ⟨y1, 0, none⟩ = some (.int .u64 id.1) ∧ w2.cell? ⟨y1, 1, none⟩ = some (.int .u64 id.2) ∧ w2.cell? ⟨z, o + k * 5, none⟩ = some (.int .i64 y.s) ∧ w2.cell? ⟨z, o + k * 5 + 2, none⟩ = some (.int .u64 y.p.1) ∧ w2.cell? ⟨z, o + k * 5 + 3, none⟩ = some (.int .u64 y.p.2) ∧ Kept V4 w2) from fun w1 w2 h kk => by
        have kp := h.2.2.2.2.2.trans kk
        obtain ⟨d0, d1⟩ := (HB4.out.kept kp).two
        obtain ⟨e0, e2, e3⟩ := HBz.out w2 (HR4.out.trans kp)
        exact ⟨d0, d1, e0, e2, e3, kp⟩)
      go_region_held3 (fun w' => w'.cell? ⟨y1, 0, none⟩ = some (.int .u64 id.1) ∧ w'.cell? ⟨y1, 1, none⟩ = some (.int .u64 id.2) ∧ w'.cell? ⟨z, o + k * 5, none⟩ = some (.int .i64 y.s) ∧ w'.cell? ⟨z, o + k * 5 + 2, none⟩ = some (.int .u64 y.p.1) ∧ w'.cell? ⟨z, o + k * 5 + 3, none⟩ = some (.int .u64 y.p.2) ∧ Kept V4 w')
        (first | exact ⟨d0, d1, e0, e2, e3, (Kept.refl _).drew⟩ | assumption | exact HKP.out _ _ (by assumption) (by assumption))
        (first
          | (go_at_call 24; ((with_reducible refine (HFi.out _ (by first | (exact (by assumption : _ ∧ _ ∧ _ ∧ _ ∧ _ ∧ Kept V4 _).2.2.2.2.2))).mono ?_); rintro e w' ⟨rfl, kk⟩))
          | (go_at_call 23; ((with_reducible refine (HUn.out _ (by first | (exact (by assumption : _ ∧ _ ∧ _ ∧ _ ∧ _ ∧ Kept V4 _).2.2.2.2.2))).mono ?_); rintro e w' ⟨rfl, kk⟩)))
      rename_i hh
      have HRe := Lib.hid (HR4.out.trans hh.2.2.2.2.2)
      clear hh d0 d1 e0 e2 e3
      go_wp2_with fail
      go_roundw
      case rel => exact ⟨k + 1, by omega, by rw [HCk.out]; go_num, by go_num, HRx.out _ HRe.out⟩
      case measure => simp [intOf]; omega
    · have hkl : k = l.length := by omega
      subst hkl
      have HE := HCe.out
      rw [HE]
      clear HE
      go_wp2_with fail
      go_ret
      exact ⟨by first | rfl | (simp; done), HKr.out⟩

/-! ### The walk: the call returns true, and of what was there nothing has changed. -/
attribute [local go_sem high] eqIdN eqIdZ in
set_option maxRecDepth 100000 in
set_option maxHeartbeats 3200000 in
theorem walk (w : World) (lA : Option Addr) (lc : Nat) (l : List Bk) (lhm : l.length ≤ maxLen) (lhc : l.length ≤ lc) (lhw : WfL l) (lhl : CellsAt w w.heap.size lA (blockCells l)) :
    Calls Try.prog 7 #[.slice lA l.length lc] w fun e w' => e = .returned (.bool true) ∧ Kept w w' := by
  by_cases h40 : l.length ≤ 40
  · have hl6 : l.length ≤ 1000000 := by omega
    cases hm : mayB l with
    | false =>
      have HM := Lib.hid hm
      have HF := Lib.hid (findC_no (x := zid) hm)
      have HKi := Lib.hid (kidsC_no zid hm)
      clear hm
      have HK0 := Lib.hid (Kept.refl w)
      have HA0 := Lib.hid lhl
      clear lhl
      go_enter Try.func7, Try.ntmps7
      go_wp2_with fail
      refine (treeAwake w).mono ?_
      rintro e W1 ⟨rfl, k⟩
      have HK1 := Lib.hid (HK0.out.trans k)
      have HA1 := Lib.hid (HA0.out.kept k)
      clear k HK0 HA0
      go_wp2_with fail
      refine (kids_zero lA lc l hl6 lhw W1 HA1.out).mono ?_
      rintro e W2 ⟨A', c', rfl, _, _, k⟩
      have HK2 := Lib.hid (HK1.out.trans k)
      have HA2 := Lib.hid (HA1.out.kept k)
      clear k HK1 HA1
      rw [HKi.out]
      go_wp2_with fail
      refine (may_any lA lc l hl6 lhw W2 HA2.out).mono ?_
      rintro e W3 ⟨rfl, k⟩
      have HK3 := Lib.hid (HK2.out.trans k)
      have HA3 := Lib.hid (HA2.out.kept k)
      clear k HK2 HA2
      rw [HM.out]
      go_wp2_with fail
      refine (find_zero lA lc l hl6 lhw W3 HA3.out).mono ?_
      rintro e W4 ⟨rfl, k⟩
      have HK4 := Lib.hid (HK3.out.trans k)
      have HA4 := Lib.hid (HA3.out.kept k)
      clear k HK3 HA3
      rw [HF.out]
      go_wp2_with fail
      go_ret
      exact ⟨by first | rfl | (simp; done), HK4.out⟩
    | true => exact main w lA lc l hl6 h40 lhw lhl nameB hm (fun k hk w => name_any _ (lhw _ (List.getElem_mem hk)) w) (fun k _ => nameB_lt _) (cntTo l) (by rw [kidsC_yes _ hm]; exact cnt_zero hm) (fun k hk => by rw [kidsC_yes _ hm]; exact cnt_succ hm hk) cnt_all cntTo_le (fun k hk => findC_hit hm (may_pos hm hk)) (fun k hk => kids_slot hm hk) (fun k hk => kids_under hm hk)
  · have HK0 := Lib.hid (Kept.refl w)
    have HA0 := Lib.hid lhl
    clear lhl
    go_enter Try.func7, Try.ntmps7
    go_wp2_with fail
    refine (treeAwake w).mono ?_
    rintro e W1 ⟨rfl, k⟩
    have HK1 := Lib.hid (HK0.out.trans k)
    have HA1 := Lib.hid (HA0.out.kept k)
    clear k HK0 HA0
    go_wp2_with fail
    go_ret
    exact ⟨by first | rfl | (simp; done), HK1.out⟩

/-! ### The row's step -/
set_option maxRecDepth 100000 in
theorem lifted (os : Os) (started : os.Started) (H : Type) (enc : TypeId × Value → H) :
    ReturnsInHanded {} Try.checked os 7 .any (Rows.treeKidsSpec.pre6 enc Try.prog Try.f7 Rows.treeKidsRow.domain false) (Rows.treeKidsSpec.post enc Try.prog Try.f7 false true false false) := by
  refine returnsInHanded_of_change (C := Try.checked) own started (by kernel_rfl) Try.func7
    (ChangeSpec.witness6 (enc := enc) (C := Try.checked) false ⟨#[], #[.slice none 0 0], []⟩ 8 (by kernel_rfl) (by kernel_rfl) (by kernel_rfl) (by kernel_rfl)) ?_
  intro W base args ds gs before hval0 hW hcnd _
  have hval : ∀ (j : Nat) t v, Try.f7.params[j]? = some t → args[j]? = some v → Value.okWide Try.prog W .any base t v := hval0
  have hW' := hW
  obtain ⟨p, q, hA0, hV, rfl, hfz, hnd⟩ := hW
  have hA : DataW.TrodAll enc Try.prog W 0 (fun _ => true) true Try.f7.params.toList args.toList ds p := hA0
  rw [Try.params7] at hA hval
  obtain ⟨v0, vs0, d0, ds0, p0, q0, hargs, rfl, rfl, h0, r0⟩ := trodAll_cons hA
  obtain ⟨rfl, rfl, rfl⟩ := trodAll_nil r0
  obtain rfl : args = #[v0] := by cases args; simp_all
  obtain ⟨rfl, rfl⟩ := trodVars_none hV
  obtain ⟨lA, lc, l, rfl, lhm, lhc, lhw, lhl⟩ := open_blocks (hval 0 _ v0 rfl rfl) h0
  clear hA0 hval0
  refine (walk W lA lc l lhm lhc lhw lhl).mono fun e W' ⟨he, hb⟩ => ?_
  subst he
  exact ⟨_, rfl, law_post rfl (by kernel_rfl) rfl hW' rfl hb⟩

theorem over : Rows.treeKidsRow.holds Try.pinned (OpenSpec.ofChange Rows.treeKidsSpec) :=
  OpenClaim.holds_of_wide 7 Try.f7 rfl rfl rfl rfl rfl rfl rfl ⟨rfl, rfl, rfl, rfl, rfl⟩ rfl rfl rfl rfl rfl (by kernel_rfl) Try.func7 (by kernel_rfl)
    (of_decide_eq_true (by kernel_rfl)) (by unfold Func.isWrapper; first | (rw [if_pos (by decide +kernel)]; kernel_rfl) | (rw [if_neg (by decide +kernel)]; exact ⟨rfl, rfl⟩))
    (fun os started H enc _ => lifted os started H enc)

/-- The statement. -/
theorem proved : Rows.TreeKidsSaid :=
  over
#print axioms proved
end Go.Proofs.Ytepgbnojbomicaa.treeKids
