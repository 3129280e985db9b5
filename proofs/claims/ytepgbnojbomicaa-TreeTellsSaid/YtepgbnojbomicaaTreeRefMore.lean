/-
  The contracts of the calls May, Find, Slot and Kids of the given package marigoldref06.
-/
import Derived.Test.YtepgbnojbomicaaTreeRefMay
namespace Go.Proofs.Ytepgbnojbomicaa
open Go.ChangeShapes Go.WideShapes Go.ChangeAt Go.RowKit

set_option maxHeartbeats 800000 in
theorem refMay6_any (A : Option Addr) (c : Nat) (l : List Bk) (hl : l.length ≤ 1000000) (hw : WfL l) (w : World) (hA : CellsAt w w.heap.size A (blockCells l)) :
    Calls Try.prog 11 #[.slice A l.length c] w fun e w' => e = .returned (.bool (mayB l)) ∧ Kept w w' := by
  have HA := Lib.hid hA
  have HW := Lib.hid hw
  clear hA hw
  go_enter Try.func11, Try.ntmps11
  go_wp2_with fail
  refine (refNames_any A c l hl HW.out w HA.out).mono ?_
  rintro e W1 ⟨N, cn, rfl, hN, hcn, _, k1⟩
  have HN := Lib.hid hN
  have K1 := Lib.hid k1
  clear hN k1
  go_wp2_with fail
  refine (refMayIn_any A c l hl N cn (namesB l) rfl hcn W1 (HA.out.kept K1.out) HN.out).mono ?_
  rintro e W2 ⟨rfl, k2⟩
  have K2 := Lib.hid (K1.out.trans k2)
  clear k2
  go_wp2_with fail
  go_ret
  exact ⟨rfl, K2.out⟩

theorem findC_pos {l : List Bk} (x : Id2) (h : mayB l = true) : findC l x = posV (namesB l) x := by unfold findC posV; rw [if_pos h]; rfl
set_option maxHeartbeats 800000 in
theorem refFind_any (A : Option Addr) (c : Nat) (l : List Bk) (hl : l.length ≤ 1000000) (hw : WfL l) (x : Id2) (w : World) (hA : CellsAt w w.heap.size A (blockCells l)) :
    Calls Try.prog 25 #[.slice A l.length c, .agg #[.int .u64 x.1, .int .u64 x.2]] w fun e w' => e = .returned (.int .i64 (findC l x)) ∧ Kept w w' := by
  have HA := Lib.hid (hA.kept ((Kept.refl w).alloc (.cells #[.int .u64 x.1, .int .u64 x.2] 25)))
  have HC := Lib.hid (HasCells.new w #[.int .u64 x.1, .int .u64 x.2] 25 w.heap.size rfl)
  have HW := Lib.hid hw
  clear hA hw
  go_enter Try.func25, Try.ntmps25
  go_wp2_with fail
  have HK := Lib.hid ((Kept.refl w).alloc (.cells #[.int .u64 x.1, .int .u64 x.2] 25))
  generalize w.alloc (.cells #[.int .u64 x.1, .int .u64 x.2] 25) = W at *
  refine (refNames_any A c l hl HW.out W HA.out).mono ?_
  rintro e W1 ⟨N, cn, rfl, hN, hcn, _, k1⟩
  have HN := Lib.hid hN
  have K1 := Lib.hid k1
  have hnl : (namesB l).length ≤ 10000000 := by rw [namesB_length]; omega
  clear hN k1
  go_wp2_with fail
  refine (refMayIn_any A c l hl N cn (namesB l) rfl hcn W1 (HA.out.kept K1.out) HN.out).mono ?_
  rintro e W2 ⟨rfl, k2⟩
  have K2 := Lib.hid (K1.out.trans k2)
  have HN2 := Lib.hid (HN.out.kept k2)
  clear k2
  cases hm : mayB l with
  | false =>
    have HF := Lib.hid (findC_no (x := x) hm)
    clear hm
    go_wp2_with fail
    go_ret
    exact ⟨by rw [HF.out]; rfl, HK.out.trans K2.out⟩
  | true =>
    have HF := Lib.hid (findC_pos x hm)
    obtain ⟨c0, c1⟩ := (HC.out.kept K2.out).two
    clear hm
    go_wp2_with fail
    refine (refAt_any N cn (namesB l) hnl x W2 HN2.out).mono ?_
    rintro e W3 ⟨rfl, k3⟩
    have K3 := Lib.hid (HK.out.trans (K2.out.trans k3))
    clear k3 c0 c1
    go_wp2_with fail
    go_ret
    exact ⟨by rw [HF.out]; rfl, K3.out⟩

theorem slotC_hit {l : List Bk} {x : Id2} {i : Nat} (h : mayB l = true) (q : posB l x = some i) : slotC l x = ((l[i]'(posB_lt q)).s, true) := by
  unfold slotC; rw [if_pos h, slotB_hit q]
theorem slotC_root {l : List Bk} {x : Id2} (h : mayB l = true) (q : posB l x = none) (e : x = zid) : slotC l x = (0, true) := by
  unfold slotC; rw [if_pos h, slotB_miss q, if_pos e]
theorem slotC_miss {l : List Bk} {x : Id2} (h : mayB l = true) (q : posB l x = none) (e : ¬ x = zid) : slotC l x = (0, false) := by
  unfold slotC; rw [if_pos h, slotB_miss q, if_neg e]
attribute [local go_sem high] eqIdZ in
set_option maxHeartbeats 1600000 in
theorem refSlot_any (A : Option Addr) (c : Nat) (l : List Bk) (hl : l.length ≤ 1000000) (hw : WfL l) (x : Id2) (w : World) (hA : CellsAt w w.heap.size A (blockCells l)) :
    Calls Try.prog 13 #[.slice A l.length c, .agg #[.int .u64 x.1, .int .u64 x.2]] w fun e w' => e = .returned (slotPV (slotC l x)) ∧ Kept w w' := by
  have HA := Lib.hid (hA.kept ((Kept.refl w).alloc (.cells #[.int .u64 x.1, .int .u64 x.2] 25)))
  have HC := Lib.hid (HasCells.new w #[.int .u64 x.1, .int .u64 x.2] 25 w.heap.size rfl)
  have HW := Lib.hid hw
  clear hA hw
  go_enter Try.func13, Try.ntmps13
  go_wp2_with fail
  have HK := Lib.hid ((Kept.refl w).alloc (.cells #[.int .u64 x.1, .int .u64 x.2] 25))
  generalize w.alloc (.cells #[.int .u64 x.1, .int .u64 x.2] 25) = W at *
  generalize w.heap.size = z at *
  refine (refMay6_any A c l hl HW.out W HA.out).mono ?_
  rintro e W1 ⟨rfl, k1⟩
  have K1 := Lib.hid k1
  obtain ⟨c0, c1⟩ := (HC.out.kept k1).two
  clear k1
  go_wp2_with fail
  refine (refFind_any A c l hl HW.out x W1 (HA.out.kept K1.out)).mono ?_
  rintro e W2 ⟨rfl, k2⟩
  have K2 := Lib.hid (K1.out.trans k2)
  clear c0 c1
  obtain ⟨c0, c1⟩ := (HC.out.kept K2.out).two
  clear k2
  cases hm : mayB l with
  | false =>
    have HF := Lib.hid (slotC_no x hm)
    clear hm
    go_wp2_with fail
    go_ret2
    exact ⟨by rw [HF.out]; rfl, HK.out.trans K2.out⟩
  | true =>
    cases q : posB l x with
    | some i =>
      have hi := posB_lt q
      have HF := Lib.hid (show slotC l x = (l[i].s, true) from slotC_hit hm q)
      rw [findC_hit hm q]
      obtain ⟨z2, o2, rfl, hb, d0, _⟩ := block_at (HA.out.kept K2.out) hi
      have hi0 : (0 : Int) ≤ (i : Int) := by omega
      have hi2 : ¬ (i : Int) < 0 := by omega
      clear hm q
      generalize l[i].s = s at *
      go_wp2_with fail
      go_ret2
      exact ⟨by rw [HF.out]; rfl, HK.out.trans K2.out⟩
    | none =>
      rw [findC_miss hm q]
      by_cases e : x = zid
      · have HF := Lib.hid (slotC_root hm q e)
        have hz : isZ x = true := decide_eq_true e
        clear hm q e
        go_wp2_with fail
        go_ret2
        exact ⟨by rw [HF.out]; rfl, HK.out.trans K2.out⟩
      · have HF := Lib.hid (slotC_miss hm q e)
        have hz : isZ x = false := decide_eq_false e
        clear hm q e
        go_wp2_with fail
        go_ret2
        exact ⟨by rw [HF.out]; rfl, HK.out.trans K2.out⟩

/-! ### Kids -/
theorem Ids.drewN {W w : World} {l : List Id2} {v : Value} (h : Ids W l v w) (n : Nat) : Ids W l v (w.drewN n) := h.kept ((Kept.refl w).drewN n)
attribute [local go_sem high] eqIdN in
set_option maxRecDepth 100000 in
set_option maxHeartbeats 1600000 in
theorem refKids_any (A : Option Addr) (c : Nat) (l : List Bk) (hl : l.length ≤ 1000000) (hw : WfL l) (x : Id2) (w : World) (hA : CellsAt w w.heap.size A (blockCells l)) :
    Calls Try.prog 16 #[.slice A l.length c, .agg #[.int .u64 x.1, .int .u64 x.2]] w (IdsNew (kidsC l x) w) := by
  have HA := Lib.hid (hA.kept ((Kept.refl w).alloc (.cells #[.int .u64 x.1, .int .u64 x.2] 25)))
  have HC := Lib.hid (HasCells.new w #[.int .u64 x.1, .int .u64 x.2] 25 w.heap.size rfl)
  have HW := Lib.hid hw
  clear hA hw
  go_enter Try.func16, Try.ntmps16
  go_wp2_with fail
  have HK := Lib.hid ((Kept.refl w).alloc (.cells #[.int .u64 x.1, .int .u64 x.2] 25))
  generalize w.alloc (.cells #[.int .u64 x.1, .int .u64 x.2] 25) = W at *
  refine (refNames_any A c l hl HW.out W HA.out).mono ?_
  rintro e W1 ⟨N, cn, rfl, hN, hcn, _, k1⟩
  have HN := Lib.hid hN
  have K1 := Lib.hid k1
  have hnl : (namesB l).length ≤ 10000000 := by rw [namesB_length]; omega
  clear hN k1
  go_wp2_with fail
  refine (refMayIn_any A c l hl N cn (namesB l) rfl hcn W1 (HA.out.kept K1.out) HN.out).mono ?_
  rintro e W2 ⟨rfl, k2⟩
  have K2 := Lib.hid (K1.out.trans k2)
  have HN2 := Lib.hid (HN.out.kept k2)
  have HA2 := Lib.hid (HA.out.kept K2.out)
  have HC2 := Lib.hid (HC.out.kept K2.out)
  have HKW := Lib.hid (HK.out.trans K2.out)
  have HNl := Lib.hid (namesB_length l)
  have HNg := Lib.hid (show ∀ k (hk : k < l.length) (hn : k < (namesB l).length), (namesB l)[k] = nameB l[k] from fun k hk hn => by simp [namesB])
  clear k2 HA HC HN K1 K2 HK
  cases hm : mayB l with
  | false =>
    have HR := Lib.hid (kidsC_no x hm)
    clear hm
    go_wp2_with fail
    go_loopw [5, 8] (fun v i w' => v = .slice none 0 0 ∧ i = .int .i64 0 ∧ w' = W2) (fun _ i _ => l.length - (intOf i).toNat)
    case atStart => exact ⟨rfl, rfl, rfl⟩
    case round =>
      obtain ⟨rfl, rfl, rfl⟩ := hrel
      by_cases h0 : 0 < l.length
      · have h1 : (0 : Int) < (l.length : Int) := by omega
        go_wp2_with fail
        go_ret
        rw [HR.out]
        exact IdsNew.nil HKW.out
      · have h1 : ¬ (0 : Int) < (l.length : Int) := by omega
        go_wp2_with fail
        go_ret
        rw [HR.out]
        exact IdsNew.nil HKW.out
  | true =>
    have HR := Lib.hid (kidsC_yes x hm)
    clear hm
    go_wp2_with fail
    go_loopw [5, 8] (fun v i w' => ∃ k : Nat, k ≤ l.length ∧ i = .int .i64 k ∧ Ids W2 (kidsB (l.take k) x) v w') (fun _ i _ => l.length - (intOf i).toNat)
    case atStart => exact ⟨0, by omega, rfl, Ids.nil W2⟩
    case round =>
      obtain ⟨k, hk, rfl, hI⟩ := hrel
      have HI := Lib.hid hI
      clear hI
      by_cases hlt : k < l.length
      · obtain ⟨z, o, rfl, hb, c0, c1, c2, c3, c4⟩ := block_at (HA2.out.kept HI.out.2) hlt
        have hkn : k < (namesB l).length := by rw [HNl.out]; exact hlt
        obtain ⟨z2, o2, rfl, hb2, f0, f1⟩ := id_at (HN2.out.kept HI.out.2) hkn
        rw [HNg.out k hlt hkn] at f0 f1
        obtain ⟨d0, d1⟩ := (HC2.out.kept HI.out.2).two
        by_cases he : l[k].p = x
        · have hs := sameI_yes he
          have HNk := Lib.hid (kids_hit hlt he)
          have HL := Lib.hid (kidsB_le (l.take k) x)
          have hll : (kidsB (l.take k) x).length + 1 ≤ 10000000 := by have := HL.out; rw [List.length_take] at this; omega
          clear he
          generalize l[k] = y at *
          generalize nameB y = n at *
          generalize namesB l = ns at *
          go_wp2_with fail
          go_quiet (fail)
          go_wp2_with (refine wpList_ids _ rfl _ _ rfl W2 (kidsB (l.take k) x) _ rfl ((HI.out.drewN _).alloc _) _ _ 1 1 [n] rfl rfl (ids_one_at (HasCells.new _ _ _ _ rfl)) hll ?_; intro v' w' HI' _; rw [← HNk.out] at HI')
          go_roundw
          case rel => exact ⟨k + 1, by omega, by go_num, HI'⟩
          case measure => simp [intOf]; omega
        · have hs := sameI_no he
          have HNk := Lib.hid (kids_miss hlt he)
          clear he
          generalize l[k] = y at *
          generalize namesB l = ns at *
          go_wp2_with fail
          go_quiet (fail)
          go_wp2_with fail
          go_roundw
          case rel => exact ⟨k + 1, by omega, by go_num, by rw [HNk.out]; exact HI.out.drewN _⟩
          case measure => simp [intOf]; omega
      · have hkl : k = l.length := by omega
        subst hkl
        have HT := Lib.hid (show l.take l.length = l from List.take_length)
        rw [HT.out] at HI
        obtain ⟨A', c', rfl⟩ := HI.out.slice
        go_wp2_with fail
        go_ret
        rw [HR.out]
        obtain ⟨A3, c3, e3, h3, h4, h5⟩ := HI.out.new
        exact ⟨A3, c3, e3, h3, fun ad h => Nat.le_trans HKW.out.size_le (h4 ad h), HKW.out.trans h5⟩

end Go.Proofs.Ytepgbnojbomicaa
