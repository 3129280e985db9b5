/-
  The contracts of package lmd's calls allKids and Head.
-/
import Derived.Test.YteamjjkmcomabaaLmdBest
import Derived.Test.YteamjjkmcomabaaGhostHead
import Derived.Test.YteamjjkmcomabaaIdBox
namespace Go.Proofs.Yteamjjkmcomabaa
set_option maxRecDepth 100000
set_option linter.unusedVariables false
set_option linter.unusedSimpArgs false
set_option linter.unusedSimpArgs false
set_option linter.unusedVariables false
open Go.ChangeShapes Go.WideShapes Go.ChangeAt Go.RowKit

set_option maxRecDepth 100000 in
set_option maxHeartbeats 3200000 in
theorem lmdKids_any (A : Option Addr) (c : Nat) (l : List Bk) (hl : l.length ≤ 1000000) (hw : WfL l) (w : World) (hA : CellsAt w w.heap.size A (blockCells l)) :
    Calls Try.prog 34 #[.slice A l.length c] w fun e w' => ∃ v, e = .returned v ∧ KidsMap (kidsC l) v w' ∧ Kept w w' := by
  have HP := Lib.hid (may_any A c l hl hw _ hA)
  have HA := Lib.hid hA
  have HW := Lib.hid hw
  have hmm := @run_makeMap Try.prog
  clear hw hA
  go_enter Try.func34, Try.ntmps34
  go_wp2_with fail
  refine HP.out.mono ?_
  rintro e W ⟨rfl, k1⟩
  have HK := Lib.hid k1
  have HA1 := Lib.hid (HA.out.kept k1)
  clear k1 HA HP
  cases hm : mayB l with
  | false =>
    have HR := Lib.hid (fun y => kidsC_no (l := l) y hm)
    clear hm
    go_wp2_with fail
    go_ret
    exact ⟨_, rfl, Or.inl ⟨rfl, HR.out⟩, HK.out⟩
  | true =>
    have HR := Lib.hid (fun y => kidsC_yes (l := l) y hm)
    have HG := Lib.hid (Groups.made W)
    have HK1 := Lib.hid (HK.out.alloc (.map #[] 0))
    have HKW := Lib.hid ((Kept.refl W).alloc (.map #[] 0))
    have hWb := HK.out.size_le
    clear hm
    go_wp2_with fail
    obtain ⟨b, hb⟩ : ∃ b, b = W.heap.size := ⟨_, rfl⟩
    rw [← hb] at HG ⊢
    have HBl := Lib.hid (show w.heap.size ≤ b by rw [hb]; exact hWb)
    have HWl := Lib.hid (show W.heap.size ≤ b by rw [hb]; exact Nat.le_refl _)
    generalize W.alloc (.map #[] 0) = W1 at *
    clear hb hWb
    go_loopw [12] (fun i w' => ∃ j : Nat, j ≤ l.length ∧ i = .int .i64 (j : Nat) ∧ Groups (b + 1) (kidsB (l.take j)) b j w' ∧ Kept W w') (fun i _ => l.length - (intOf i).toNat)
    case atStart => exact ⟨0, by omega, rfl, HG.out, HKW.out⟩
    case round =>
      obtain ⟨j, hj, rfl, hG, hK⟩ := hrel
      have HGr := Lib.hid hG
      have HKr := Lib.hid hK
      clear hG hK HG
      by_cases hlt : j < l.length
      · obtain ⟨z, o, rfl, hbn, c0, c1, c2, c3, c4⟩ := block_at (HA1.out.kept HKr.out) hlt
        have HX := Lib.hid (HW.out l[j] (List.getElem_mem hlt))
        have HNx := Lib.hid (fun y => grow_hit hlt y)
        have HLe := Lib.hid (fun y => Nat.le_trans (kidsB_le (l.take j) y) (by rw [List.length_take]; exact Nat.min_le_left _ _))
        generalize l[j] = y at *
        go_wp2_with fail
        have HN := Lib.hid (fun w' => name_any y HX.out w')
        have HNw := Lib.hid (nameB_lt y)
        generalize nameB y = n at *
        have HGW := Lib.hid (HGr.out.kept ((Kept.refl wr).alloc (.cells #[.int .i64 y.s, .int .i64 y.f, .int .u64 y.p.1, .int .u64 y.p.2, .int .u64 y.t] 51)))
        have HKW1 := Lib.hid (HKr.out.alloc (.cells #[.int .i64 y.s, .int .i64 y.f, .int .u64 y.p.1, .int .u64 y.p.2, .int .u64 y.t] 51))
        have HY := Lib.hid ((HasCells.new wr #[.int .i64 y.s, .int .i64 y.f, .int .u64 y.p.1, .int .u64 y.p.2, .int .u64 y.t] 51 wr.heap.size rfl))
        have HO := Lib.hid (heap_alloc_new wr (.cells #[.int .i64 y.s, .int .i64 y.f, .int .u64 y.p.1, .int .u64 y.p.2, .int .u64 y.t] 51))
        have hyb : some wr.heap.size ≠ some b := fun e => by
          have := HGr.out.lt
          injection e with e
          omega
        have HRow := Lib.hid (show ∀ k, some b = some k → W.heap.size ≤ k from fun k e => by injection e with e; rw [← e]; exact HWl.out)
        have hle := Lib.hid (HLe.out y.p)
        have hjm : j < maxLen := by unfold maxLen; omega
        clear c0 c1 c2 c3 c4 HLe
        generalize wr.alloc (.cells #[.int .i64 y.s, .int .i64 y.f, .int .u64 y.p.1, .int .u64 y.p.2, .int .u64 y.t] 51) = W2 at *
        generalize wr.heap.size = bk at *
        obtain ⟨c0, c1, c2, c3, c4⟩ := HY.out.five
        refine wp_region_noPanic ?_
        refine wp_region_held_drew (S := (fun w' => w'.cell? ⟨bk, 0, none⟩ = some (.int .i64 y.s) ∧ w'.cell? ⟨bk, 1, none⟩ = some (.int .i64 y.f) ∧ w'.cell? ⟨bk, 2, none⟩ = some (.int .u64 y.p.1) ∧ w'.cell? ⟨bk, 3, none⟩ = some (.int .u64 y.p.2) ∧ w'.cell? ⟨bk, 4, none⟩ = some (.int .u64 y.t) ∧ w'.heap[bk]? = some (.cells #[.int .i64 y.s, .int .i64 y.f, .int .u64 y.p.1, .int .u64 y.p.2, .int .u64 y.t] 51) ∧ Kept W w')) (by kernel_rfl) ?_ (fun hHeld => ?_)
        · exact ⟨c0, c1, c2, c3, c4, HO.out, HKW1.out.drew⟩
        refine wpAnyH_take (i := 0) (v := ?_) (by simp only [List.getElem?_toArray, List.getElem?_cons_succ, List.getElem?_cons_zero]; rfl) (by kernel_rfl) (by kernel_rfl) (by kernel_rfl) (fun _ _ _ h => h) (Or.inl ⟨by rfl, ?_⟩) (by assumption) ?_
        rotate_left
        · intro w hSw
          (try dsimp only at hSw)
          go_simp
          (try with_reducible rfl)
        simp only [Act.put, List.setIfInBounds_toArray, List.set_cons_zero, List.set_cons_succ]
        refine wpAnyH_take (i := 1) (v := ?_) (by simp only [List.getElem?_toArray, List.getElem?_cons_succ, List.getElem?_cons_zero]; rfl) (by kernel_rfl) (by kernel_rfl) (by kernel_rfl) (fun _ _ _ h => h) (Or.inl ⟨by rfl, ?_⟩) (by assumption) ?_
        rotate_left
        · intro w hSw
          (try dsimp only at hSw)
          go_simp
          (try with_reducible rfl)
        simp only [Act.put, List.setIfInBounds_toArray, List.set_cons_zero, List.set_cons_succ]
        refine wpAnyH_take (i := 2) (v := ?_) (by simp only [List.getElem?_toArray, List.getElem?_cons_succ, List.getElem?_cons_zero]; rfl) (by kernel_rfl) (by kernel_rfl) (by kernel_rfl) (fun _ _ _ h => h) (Or.inl ⟨by rfl, ?_⟩) (by assumption) ?_
        rotate_left
        · intro w hSw
          (try dsimp only at hSw)
          go_simp
          (try with_reducible rfl)
        simp only [Act.put, List.setIfInBounds_toArray, List.set_cons_zero, List.set_cons_succ]
        refine wpAnyH_take (i := 3) (v := ?_) (by simp only [List.getElem?_toArray, List.getElem?_cons_succ, List.getElem?_cons_zero]; rfl) (by kernel_rfl) (by kernel_rfl) (by kernel_rfl) (fun _ _ _ h => h) (Or.inl ⟨by rfl, ?_⟩) (by assumption) ?_
        rotate_left
        · intro w hSw
          (try dsimp only at hSw)
          go_simp
          (try with_reducible rfl)
        simp only [Act.put, List.setIfInBounds_toArray, List.set_cons_zero, List.set_cons_succ]
        refine wpAnyH_ready (rs := [4]) (by kernel_rfl) (by simp) ?_
        refine AllReadyH.cons (by simp only [List.getElem?_toArray, List.getElem?_cons_succ, List.getElem?_cons_zero]; rfl) (fun K hK => ?_) (AllReadyH.nil)
        go_simp
        go_at_call 25; with_reducible refine (HN.out _).mono ?_
        rintro e w4 ⟨rfl, kk⟩
        have hG4 := HGW.out.kept (Kept.trans (Kept.drew (Kept.refl _)) kk)
        refine hK.out _ _ ?_ (fun hHeld2 => ?_)
        · exact fiveO_kept hHeld kk
        clear hK K hHeld
        have hHeld := hHeld2
        clear hHeld2
        try simp only [Act.put, List.setIfInBounds_toArray, List.set_cons_zero, List.set_cons_succ]
        refine wpAnyH_ready (rs := [5]) (by kernel_rfl) (by simp) ?_
        refine AllReadyH.cons (by simp only [List.getElem?_toArray, List.getElem?_cons_succ, List.getElem?_cons_zero]; rfl) (fun K hK => ?_) (AllReadyH.nil)
        go_simp
        refine hK.out _ _ ?_ (fun hHeld2 => ?_)
        · exact fiveO_kept hHeld ((Kept.refl _).alloc _)
        clear hK K hHeld
        have hHeld := hHeld2
        clear hHeld2
        try simp only [Act.put, List.setIfInBounds_toArray, List.set_cons_zero, List.set_cons_succ]
        refine wpAnyH_ready (rs := [6]) (by kernel_rfl) (by simp) ?_
        refine AllReadyH.cons (by simp only [List.getElem?_toArray, List.getElem?_cons_succ, List.getElem?_cons_zero]; rfl) (fun K hK => ?_) (AllReadyH.nil)
        have hS5 := HasCells.new w4 #[.int .u64 n.1, .int .u64 n.2] 29 w4.heap.size rfl
        have hG5 := hG4.kept ((Kept.refl w4).alloc (.cells #[.int .u64 n.1, .int .u64 n.2] 29))
        have hb5 : some w4.heap.size ≠ some b := fun e => by
          have := hG4.lt
          injection e with e
          omega
        refine step_entry _ (by rfl) (.tmp 16) (.tmp 18) (by rfl) (b + 1) _ b j (by rfl) hG5 hjm y.p (by rfl) HX.out.1 ?_
        intro A6 c6 st w6 hP6 g6
        refine hK.out _ _ ?_ (fun hHeld2 => ?_)
        · exact fiveO_grown hHeld g6 hyb HRow.out
        clear hK K hHeld
        have hHeld := hHeld2
        clear hHeld2
        try simp only [Act.put, List.setIfInBounds_toArray, List.set_cons_zero, List.set_cons_succ]
        refine wpAnyH_take (i := 7) (v := ?_) (by simp only [List.getElem?_toArray, List.getElem?_cons_succ, List.getElem?_cons_zero]; rfl) (by kernel_rfl) (by kernel_rfl) (by kernel_rfl) (fun _ _ _ h => h) (Or.inl ⟨by rfl, ?_⟩) (by assumption) ?_
        rotate_left
        · intro w hSw
          (try dsimp only at hSw)
          go_simp
          (try with_reducible rfl)
        simp only [Act.put, List.setIfInBounds_toArray, List.set_cons_zero, List.set_cons_succ]
        refine wpAnyH_take (i := 9) (v := ?_) (by simp only [List.getElem?_toArray, List.getElem?_cons_succ, List.getElem?_cons_zero]; rfl) (by kernel_rfl) (by kernel_rfl) (by kernel_rfl) (fun _ _ _ h => h) (Or.inl ⟨by rfl, ?_⟩) (by assumption) ?_
        rotate_left
        · intro w hSw
          (try dsimp only at hSw)
          go_simp
          (try with_reducible rfl)
        simp only [Act.put, List.setIfInBounds_toArray, List.set_cons_zero, List.set_cons_succ]
        refine wpAnyH_ready (rs := [8]) (by kernel_rfl) (by simp) ?_
        refine AllReadyH.cons (by simp only [List.getElem?_toArray, List.getElem?_cons_succ, List.getElem?_cons_zero]; rfl) (fun K hK => ?_) (AllReadyH.nil)
        have hS6 := ids_one_at (hS5.grown g6 hb5)
        have hA6 := hP6.apart HX.out.1 hHeld.2.2.2.2.2.1 (by decide)
        refine step_grew _ (by rfl) (.tmp 19) (.tmp 22) (by rfl) (b + 1) _ b j y.p HX.out.1 _ (by rfl) st hP6 _ _ 1 n (by rfl) hS6 (by have := hle.out; omega) ?_
        intro A8 c8 w8 hG8 g8 hB8
        refine hK.out _ _ ?_ (fun hHeld2 => ?_)
        · exact fiveO_grown hHeld g8 hA6 (fun k e => Nat.le_trans HWl.out (Nat.le_trans (Nat.le_succ b) (hB8 k e)))
        clear hK K hHeld
        have hHeld := hHeld2
        clear hHeld2
        try simp only [Act.put, List.setIfInBounds_toArray, List.set_cons_zero, List.set_cons_succ]
        refine wpAnyH_ready (rs := [10]) (by kernel_rfl) (by simp) ?_
        refine AllReadyH.cons (by simp only [List.getElem?_toArray, List.getElem?_cons_succ, List.getElem?_cons_zero]; rfl) (fun K hK => ?_) (AllReadyH.nil)
        refine step_store _ (by rfl) (.tmp 16) (.tmp 25) (.tmp 24) (by rfl) (b + 1) _ b j (by rfl) y.p n HX.out.1 st (by rfl) _ (by rfl) hG8 ?_
        intro w10 hG10 g10
        refine hK.out _ _ ?_ (fun hHeld2 => ?_)
        · exact fiveO_grown hHeld g10 hyb HRow.out
        clear hK K hHeld
        have hHeld := hHeld2
        clear hHeld2
        try simp only [Act.put, List.setIfInBounds_toArray, List.set_cons_zero, List.set_cons_succ]
        refine wpAnyH_done (by kernel_rfl) ?_ _
        refine NoPanic.normal ?_
        have HG10 := Lib.hid hG10
        have HK10 := Lib.hid hHeld.2.2.2.2.2.2
        clear hHeld hG10 g10 hG8 g8 hB8 hP6 g6 hS6 hA6 hS5 hG5 hb5 hG4 kk c0 c1 c2 c3 c4
        go_wp2_with fail
        go_roundw
        case rel => exact ⟨j + 1, by omega, by go_num, HG10.out.congr (fun z _ => (HNx.out z).symm), HK10.out⟩
        case measure => simp [intOf]; omega
      · have hjl : j = l.length := by omega
        subst hjl
        rw [List.take_length] at HGr
        go_wp2_with fail
        go_ret
        exact ⟨_, rfl, Or.inr ⟨b, l.length, b + 1, rfl, HGr.out.congr fun y _ => HR.out y⟩, HK.out.trans HKr.out⟩

set_option maxRecDepth 100000 in
set_option maxHeartbeats 12800000 in
theorem lmdHead_any (kA : Option Addr) (kc : Nat) (k : Cf) (lA : Option Addr) (lc : Nat) (l : List Bk) (vA : Option Addr) (vc : Nat) (v : List Vt) (upto : Int) (bo : Id2) (pct : Int) (w : World)
    (hk : k.ws.length ≤ 1000) (hl : l.length ≤ 10000) (hv : v.length ≤ 10000) (hwl : WfL l) (hwv : WfVs v) (hbo : WfI bo) (hA : CellsAt w w.heap.size kA (intCells k.ws)) (hL : CellsAt w w.heap.size lA (blockCells l)) (hV : CellsAt w w.heap.size vA (votesCells v)) :
    Calls Try.prog 17 #[.agg #[.slice kA k.ws.length kc, .int .u64 k.seed, .int .i64 k.ep, .int .i64 k.nu, .int .i64 k.de], .slice lA l.length lc, .slice vA v.length vc, .int .i64 upto, .agg #[.int .u64 bo.1, .int .u64 bo.2], .int .i64 pct] w fun e w' => ∃ R, Cnts v (upQ upto) R ∧ e = .returned (.agg #[.int .u64 (headG (onB k l R bo pct) l).1, .int .u64 (headG (onB k l R bo pct) l).2]) ∧ Kept w w' := by
  go_enter Try.func17, Try.ntmps17
  go_wp2_with fail
  have K0 := Lib.hid ((((Kept.refl w).alloc (.cells #[.slice kA k.ws.length kc, .int .u64 k.seed, .int .i64 k.ep, .int .i64 k.nu, .int .i64 k.de] 25)).alloc (.cells #[.int .u64 bo.1, .int .u64 bo.2] 29)).alloc (.cells #[.int .u64 0, .int .u64 0] 29))
  have HA := Lib.hid (hA.kept K0.out)
  clear hA
  have HL := Lib.hid (hL.kept K0.out)
  clear hL
  have HV := Lib.hid (hV.kept K0.out)
  clear hV
  have HB0 := Lib.hid (((HasCells.new w #[.slice kA k.ws.length kc, .int .u64 k.seed, .int .i64 k.ep, .int .i64 k.nu, .int .i64 k.de] 25 (w.heap.size) (by simp)).alloc (.cells #[.int .u64 bo.1, .int .u64 bo.2] 29)).alloc (.cells #[.int .u64 0, .int .u64 0] 29))
  have HB1 := Lib.hid ((HasCells.new (w.alloc (.cells #[.slice kA k.ws.length kc, .int .u64 k.seed, .int .i64 k.ep, .int .i64 k.nu, .int .i64 k.de] 25)) #[.int .u64 bo.1, .int .u64 bo.2] 29 (w.heap.size + 1) (by simp)).alloc (.cells #[.int .u64 0, .int .u64 0] 29))
  have HB2 := Lib.hid (HasCells.new ((w.alloc (.cells #[.slice kA k.ws.length kc, .int .u64 k.seed, .int .i64 k.ep, .int .i64 k.nu, .int .i64 k.de] 25)).alloc (.cells #[.int .u64 bo.1, .int .u64 bo.2] 29)) #[.int .u64 0, .int .u64 0] 29 (w.heap.size + 1 + 1) (by simp))
  have HRb := Lib.hid (show AtI (((w.alloc (.cells #[.slice kA k.ws.length kc, .int .u64 k.seed, .int .i64 k.ep, .int .i64 k.nu, .int .i64 k.de] 25)).alloc (.cells #[.int .u64 bo.1, .int .u64 bo.2] 29)).alloc (.cells #[.int .u64 0, .int .u64 0] 29)) (w.heap.size + 1 + 1) zid from AtI.new _ zid _ (by simp))
  have HZ2 := Lib.hid (show w.heap.size ≤ w.heap.size + 1 + 1 by omega)
  generalize (((w.alloc (.cells #[.slice kA k.ws.length kc, .int .u64 k.seed, .int .i64 k.ep, .int .i64 k.nu, .int .i64 k.de] 25)).alloc (.cells #[.int .u64 bo.1, .int .u64 bo.2] 29)).alloc (.cells #[.int .u64 0, .int .u64 0] 29)) = W0 at *
  generalize w.heap.size + 1 + 1 = z2 at *
  generalize w.heap.size + 1 = z1 at *
  generalize hz0 : w.heap.size = z0 at *
  have HZ0 := Lib.hid hz0
  clear hz0
  have KB0 := Lib.hid (Kept.refl W0)
  refine (lmdKids_any lA lc l (by omega) hwl W0 (HL.out.kept KB0.out)).mono ?_
  rintro e W1 ⟨m, rfl, hM, k⟩
  replace HRb := Lib.hid (HRb.out.kept k)
  have KB1 := Lib.hid (KB0.out.trans k)
  clear k
  have hmc : m.oneCell' = true := by
    rcases hM with ⟨rfl, _⟩ | ⟨b, n, B, rfl, _⟩ <;> rfl
  have HM := Lib.hid hM
  clear hM
  obtain ⟨b00, b01, b02, b03, b04⟩ := (HB0.out.kept KB1.out).five
  have bz0 := (HB0.out.kept KB1.out).1
  obtain ⟨b10, b11⟩ := (HB1.out.kept KB1.out).two
  have bz1 := (HB1.out.kept KB1.out).1
  go_wp2_with fail
  clear b00 b01 b02 b03 b04 bz0 b10 b11 bz1
  refine (onBy_any kA kc k lA lc l vA vc v upto bo pct W1 hk hl hv hwl hwv hbo (HA.out.kept KB1.out) (HL.out.kept KB1.out) (HV.out.kept KB1.out)).mono ?_
  rintro e W2 ⟨R, f, cb, hR, rfl, eg, hF, k⟩
  replace HRb := Lib.hid (HRb.out.kept k)
  replace HM := Lib.hid (HM.out.kept k)
  have KB2 := Lib.hid (KB1.out.trans k)
  clear k
  replace HA := Lib.hid (HA.out.kept KB2.out)
  replace HL := Lib.hid (HL.out.kept KB2.out)
  replace HV := Lib.hid (HV.out.kept KB2.out)
  replace HB0 := Lib.hid (HB0.out.kept KB2.out)
  replace HB1 := Lib.hid (HB1.out.kept KB2.out)
  replace HB2 := Lib.hid (HB2.out.kept KB2.out)
  replace K0 := Lib.hid (K0.out.trans KB2.out)
  have KB3 := Lib.hid (Kept.refl W2)
  unfold Enters at eg
  have HR := Lib.hid hR
  obtain ⟨g, hg⟩ : ∃ g, g = onB k l R bo pct := ⟨_, rfl⟩
  rw [← hg] at hF
  have HG := Lib.hid hg
  have HFn := Lib.hid hF
  clear hg hF hR
  go_wp2_with fail
  obtain ⟨zi, hzi⟩ : ∃ zi, zi = W2.heap.size := ⟨_, rfl⟩
  rw [← hzi]
  have HZi := Lib.hid (Nat.le_of_eq hzi.symm)
  have HI0 := Lib.hid (show AtI (W2.alloc (.cells #[.int .u64 0, .int .u64 0] 29)) zi zid from AtI.new _ zid _ hzi)
  clear hzi
  go_loopw [29] (fun _ w' => ∃ cur : Id2, AtI w' zi cur ∧ Kept W2 w' ∧ WfI cur ∧ headGX g l cur = headG g l) (fun _ w' => l.length - rank l (curOf zi w'))
  case atStart => exact ⟨zid, HI0.out, (Kept.refl _).alloc _, WfI.zid, rfl⟩
  case round =>
    obtain ⟨cur, hI, hKr, hcw, hH⟩ := hrel
    clear HI0
    have HI := Lib.hid hI
    have HKr := Lib.hid hKr
    have HH := Lib.hid hH
    have HCu := Lib.hid (curOf_has (show AtB wr zi _ _ from hI).has)
    obtain ⟨Q, cq, hrun, hQ⟩ := KidsMap.look (HM.out.kept hKr) hcw
    have HQ := Lib.hid hQ
    have HNm := Lib.hid (kids_named l cur)
    have HQl := Lib.hid (Nat.le_trans (kids_len l cur) hl)
    have HBn := Lib.hid (fun (h : kidsC l cur = []) => headGX_stop (show bestG g l cur = none by unfold bestG; rw [h]; rfl))
    have HBs := Lib.hid (fun y (h : bestTo g (kidsC l cur) = some y) => (⟨headGX_step (g := g) (x := cur) h, (bestG_rank (g := g) (x := cur) h).1, (bestG_rank (g := g) (x := cur) h).2, bestG_wf (g := g) (x := cur) h⟩ : _ ∧ _ ∧ _ ∧ _))
    clear hI hKr hH hQ hcw
    generalize hq : kidsC l cur = q at *
    clear hq
    have i0 := HI.out.c0
    have i1 := HI.out.c1
    have hbi := HI.out.lt
    by_cases h0 : q.length = 0
    · have hn : q = [] := List.eq_nil_of_length_eq_zero h0
      have HE := Lib.hid (HH.out.symm.trans (HBn.out hn))
      subst hn
      simp only [List.length_nil] at hrun
      have HRn := Lib.hid (HRb.out.kept HKr.out)
      have r0 := HRn.out.c0
      have r1 := HRn.out.c1
      have hbr := HRn.out.lt
      have f0 := HRn.out.fr 0
      have f1 := HRn.out.fr 1
      go_wp2_with fail
      refine bodyPost_ret (v := .agg #[.int .u64 cur.1, .int .u64 cur.2]) (by simp [results, Try.results17, go_sem, r0, r1]) rfl ⟨R, HR.out, by rw [← HG.out, HE.out], ?_⟩
      exact ((K0.out.trans HKr.out).setCell (p := ⟨z2, 0, none⟩) (Nat.le_trans (Nat.le_of_eq HZ0.out) HZ2.out) _).setCell (p := ⟨z2, 1, none⟩) (Nat.le_trans (Nat.le_of_eq HZ0.out) HZ2.out) _
    · have h0p : 0 < q.length := by omega
      have hgt : decide ((0 : Int) < (q.length : Int)) = true := decide_eq_true (by omega)
      have hgt2 : (0 : Int) < (q.length : Int) := by omega
      go_wp2_with fail
      refine (bestL_any f cb g Q cq q wr HQl.out h0p HNm.out HQ.out eg (HFn.out.kept HKr.out)).mono ?_
      rintro e W9 ⟨y, hB, rfl, k9⟩
      obtain ⟨hst, hrk, hrl, hyw⟩ := HBs.out y hB
      have HSt := Lib.hid hst
      have HI9 := Lib.hid (HI.out.kept k9)
      have HK9 := Lib.hid (HKr.out.trans k9)
      have HYw := Lib.hid hyw
      clear hB hst k9 i0 i1 hbi hyw hrun
      have i0 := HI9.out.c0
      have i1 := HI9.out.c1
      have hbi := HI9.out.lt
      have f0 := HI9.out.fr 0
      have f1 := HI9.out.fr 1
      go_wp2_with fail
      go_roundw
      case rel => exact ⟨y, AtI.set2 HI9.out, (HK9.out.setCell (p := ⟨zi, 0, none⟩) HZi.out _).setCell (p := ⟨zi, 1, none⟩) HZi.out _, HYw.out, HSt.out.symm.trans HH.out⟩
      case measure =>
        show l.length - rank l (curOf zi _) < l.length - rank l (curOf zi _)
        rw [curOf_has (show AtB _ zi #[.int .u64 y.1, .int .u64 y.2] _ from AtI.set2 HI9.out).has, HCu.out]
        omega

end Go.Proofs.Yteamjjkmcomabaa
