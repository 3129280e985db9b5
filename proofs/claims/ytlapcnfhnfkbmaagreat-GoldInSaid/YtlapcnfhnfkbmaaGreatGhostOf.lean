/-
  The contract of package ghost's call bestOf.
-/
import Derived.Test.YtlapcnfhnfkbmaaGreatGhost
import Derived.Test.YtlapcnfhnfkbmaaGreatKeepS
namespace Go.Proofs.YtlapcnfhnfkbmaaGreat
set_option maxRecDepth 100000
set_option linter.unusedVariables false
set_option linter.unusedSimpArgs false
set_option linter.unusedSimpArgs false
set_option linter.unusedVariables false
open Go.ChangeShapes Go.WideShapes Go.ChangeAt Go.RowKit

set_option maxRecDepth 100000 in
set_option maxHeartbeats 3200000 in
theorem bestOf_any (A : Option Addr) (c : Nat) (k : Cf) (L : Option Addr) (cl : Nat) (l : List Bk) (V : Option Addr) (cv : Nat) (v : List Vt) (N : Option Addr) (cn : Nat) (q : List Id2) (w : World)
    (hl : l.length ≤ 1000000) (hv : v.length ≤ 100000) (hwl : WfL l) (hwv : WfVs v) (hq : q.length ≤ 1000000) (hn : Named q) (hA : CellsAt w w.heap.size A (intCells k.ws)) (hL : CellsAt w w.heap.size L (blockCells l)) (hV : CellsAt w w.heap.size V (votesCells v)) (hN : CellsAt w w.heap.size N (idsCells q)) :
    Calls Tryz.prog 46 #[.agg #[.slice A k.ws.length c, .int .u64 k.seed, .int .i64 k.ep, .int .i64 k.nu, .int .i64 k.de], .slice L l.length cl, .slice V v.length cv, .slice N q.length cn] w fun e w' =>
      e = .returned (.agg #[.int .i64 (candOf (onC k l v) (bestTo (onC k l v) q)).1, .int .u64 (candOf (onC k l v) (bestTo (onC k l v) q)).2.1, .int .u64 (candOf (onC k l v) (bestTo (onC k l v) q)).2.2]) ∧ Kept w w' := by
  have K0 := Lib.hid (((Kept.refl w).alloc (.cells #[.slice A k.ws.length c, .int .u64 k.seed, .int .i64 k.ep, .int .i64 k.nu, .int .i64 k.de] 25)).alloc (.cells #[.int .i64 0, .int .u64 0, .int .u64 0] 82))
  have HC := Lib.hid ((HasCells.new w #[.slice A k.ws.length c, .int .u64 k.seed, .int .i64 k.ep, .int .i64 k.nu, .int .i64 k.de] 25 w.heap.size rfl).alloc (.cells #[.int .i64 0, .int .u64 0, .int .u64 0] 82))
  have HR := Lib.hid (HasCells.new (w.alloc (.cells #[.slice A k.ws.length c, .int .u64 k.seed, .int .i64 k.ep, .int .i64 k.nu, .int .i64 k.de] 25)) #[.int .i64 0, .int .u64 0, .int .u64 0] 82 (w.heap.size + 1) (by simp))
  have HF := Lib.hid (show ∀ j, ((w.alloc (.cells #[.slice A k.ws.length c, .int .u64 k.seed, .int .i64 k.ep, .int .i64 k.nu, .int .i64 k.de] 25)).alloc (.cells #[.int .i64 0, .int .u64 0, .int .u64 0] 82)).frozen? ⟨w.heap.size + 1, j, none⟩ = false by intro j; simp [go_sem])
  have HA := Lib.hid (hA.kept K0.out)
  have HL := Lib.hid (hL.kept K0.out)
  have HV := Lib.hid (hV.kept K0.out)
  have HN := Lib.hid (hN.kept K0.out)
  have HWL := Lib.hid hwl
  have HWV := Lib.hid hwv
  have HNm := Lib.hid hn
  have hzz : w.heap.size < w.heap.size + 1 := by omega
  have HZ := Lib.hid (show w.heap.size ≤ w.heap.size + 1 by omega)
  clear hA hL hV hN hwl hwv hn
  go_enter Tryz.func46, Tryz.ntmps46
  go_wp2_with fail
  have hWs : ((w.alloc (.cells #[.slice A k.ws.length c, .int .u64 k.seed, .int .i64 k.ep, .int .i64 k.nu, .int .i64 k.de] 25)).alloc (.cells #[.int .i64 0, .int .u64 0, .int .u64 0] 82)).heap.size = w.heap.size + 1 + 1 := by simp
  generalize (w.alloc (.cells #[.slice A k.ws.length c, .int .u64 k.seed, .int .i64 k.ep, .int .i64 k.nu, .int .i64 k.de] 25)).alloc (.cells #[.int .i64 0, .int .u64 0, .int .u64 0] 82) = W at *
  generalize w.heap.size + 1 = y at *
  generalize hze : w.heap.size = z at *
  have HZE := Lib.hid (Nat.le_of_eq hze)
  clear hze
  have HCd := Lib.hid (Cand.new W)
  rw [hWs] at HCd
  generalize y + 1 = x at *
  have HX := Lib.hid hWs
  generalize W.alloc (.cells #[.int .i64 0, .int .u64 0, .int .u64 0] 82) = W0 at *
  clear hWs
  go_loopw [15] (fun i w' => ∃ j : Nat, j ≤ q.length ∧ i = .int .i64 (j : Nat) ∧ Cand W x (candOf (onC k l v) (bestTo (onC k l v) (q.take j))) w') (fun i _ => q.length - (intOf i).toNat)
  case atStart => exact ⟨0, by omega, rfl, HCd.out⟩
  case round =>
    obtain ⟨j, hj, rfl, hCd⟩ := hrel
    have HD := Lib.hid hCd
    clear hCd HCd
    by_cases hlt : j < q.length
    · obtain ⟨zn, on, rfl, hbn, n0, n1⟩ := id_at (HN.out.kept HD.out.kept) hlt
      have HHit := Lib.hid (fun h => cand_hit_take (g := onC k l v) (q := q) hlt h)
      have HMiss := Lib.hid (fun h => cand_miss_take (g := onC k l v) (q := q) hlt (HNm.out _ (List.getElem_mem hlt)).2 (on_bounds k l v q[j]).1 h)
      have HO := Lib.hid (fun w' (kk : Kept wr w') => on_any A c k L cl l V cv v q[j] w' hl hv HWL.out HWV.out (HNm.out _ (List.getElem_mem hlt)).1 (HA.out.kept (HD.out.kept.trans kk)) (HL.out.kept (HD.out.kept.trans kk)) (HV.out.kept (HD.out.kept.trans kk)))
      generalize hcN : candOf (onC k l v) (bestTo (onC k l v) (q.take (j + 1))) = cN at *
      have HCN := Lib.hid hcN
      clear hcN
      generalize candOf (onC k l v) (bestTo (onC k l v) (q.take j)) = cO at *
      generalize onC k l v q[j] = on at *
      generalize q[j] = xj at *
      go_wp2_with fail
      have HNb := Lib.hid (HasCells.new wr #[.int .u64 xj.1, .int .u64 xj.2] 35 wr.heap.size rfl)
      have HKb := Lib.hid ((Kept.refl wr).alloc (.cells #[.int .u64 xj.1, .int .u64 xj.2] 35))
      have HD2 := Lib.hid (HD.out.keep HKb.out)
      have HCz := Lib.hid ((HC.out.kept HD.out.kept).kept HKb.out)
      generalize wr.alloc (.cells #[.int .u64 xj.1, .int .u64 xj.2] 35) = W2 at *
      generalize wr.heap.size = bn at *
      clear n0 n1 hbn
      obtain ⟨c0, c1, c2, c3, c4⟩ := HCz.out.five
      have hzl := HCz.out.1
      obtain ⟨m0, m1⟩ := HNb.out.two
      have hbn2 := HNb.out.1
      refine wp_region_noPanic ?_
      refine wp_region_held_drew (S := (fun w' => w'.cell? ⟨z, 0, none⟩ = some (.slice A k.ws.length c) ∧ w'.cell? ⟨z, 1, none⟩ = some (.int .u64 k.seed) ∧ w'.cell? ⟨z, 2, none⟩ = some (.int .i64 k.ep) ∧ w'.cell? ⟨z, 3, none⟩ = some (.int .i64 k.nu) ∧ w'.cell? ⟨z, 4, none⟩ = some (.int .i64 k.de) ∧ w'.cell? ⟨bn, 0, none⟩ = some (.int .u64 xj.1) ∧ w'.cell? ⟨bn, 1, none⟩ = some (.int .u64 xj.2) ∧ Kept W2 w')) (by kernel_rfl) ?_ (fun hHeld => ?_)
      · exact ⟨c0, c1, c2, c3, c4, m0, m1, (Kept.refl _).drew⟩
      refine wpAnyH_take (i := 0) (v := ?_) (by simp only [List.getElem?_toArray, List.getElem?_cons_succ, List.getElem?_cons_zero]; rfl) (by kernel_rfl) (by kernel_rfl) (by kernel_rfl) (fun _ _ _ h => h) (Or.inl ⟨by rfl, ?_⟩) (by assumption) ?_
      rotate_left
      · intro w hSw
        (try dsimp only at hSw)
        go_simp
        (try with_reducible rfl)
      simp only [Act.put, List.setIfInBounds_toArray, List.set_cons_zero, List.set_cons_succ]
      refine wpAnyH_take (i := 1) (v := ?_) (by simp only [List.getElem?_toArray, List.getElem?_cons_succ, List.getElem?_cons_zero]; rfl) (by kernel_rfl) (by kernel_rfl) (by kernel_rfl) (fun _ _ _ h => h) (Or.inl ⟨by rfl, ?_⟩) (by assumption) ?_
      rotate_left
      · intro w hSw
        (try dsimp only at hSw)
        go_simp
        (try with_reducible rfl)
      simp only [Act.put, List.setIfInBounds_toArray, List.set_cons_zero, List.set_cons_succ]
      refine wpAnyH_take (i := 2) (v := ?_) (by simp only [List.getElem?_toArray, List.getElem?_cons_succ, List.getElem?_cons_zero]; rfl) (by kernel_rfl) (by kernel_rfl) (by kernel_rfl) (fun _ _ _ h => h) (Or.inl ⟨by rfl, ?_⟩) (by assumption) ?_
      rotate_left
      · intro w hSw
        (try dsimp only at hSw)
        go_simp
        (try with_reducible rfl)
      simp only [Act.put, List.setIfInBounds_toArray, List.set_cons_zero, List.set_cons_succ]
      refine wpAnyH_take (i := 3) (v := ?_) (by simp only [List.getElem?_toArray, List.getElem?_cons_succ, List.getElem?_cons_zero]; rfl) (by kernel_rfl) (by kernel_rfl) (by kernel_rfl) (fun _ _ _ h => h) (Or.inl ⟨by rfl, ?_⟩) (by assumption) ?_
      rotate_left
      · intro w hSw
        (try dsimp only at hSw)
        go_simp
        (try with_reducible rfl)
      simp only [Act.put, List.setIfInBounds_toArray, List.set_cons_zero, List.set_cons_succ]
      refine wpAnyH_take (i := 5) (v := ?_) (by simp only [List.getElem?_toArray, List.getElem?_cons_succ, List.getElem?_cons_zero]; rfl) (by kernel_rfl) (by kernel_rfl) (by kernel_rfl) (fun _ _ _ h => h) (Or.inl ⟨by rfl, ?_⟩) (by assumption) ?_
      rotate_left
      · intro w hSw
        (try dsimp only at hSw)
        go_simp
        (try with_reducible rfl)
      simp only [Act.put, List.setIfInBounds_toArray, List.set_cons_zero, List.set_cons_succ]
      refine wpAnyH_ready (rs := [4, 7]) (by kernel_rfl) (by simp) ?_
      refine AllReadyH.cons (by simp only [List.getElem?_toArray, List.getElem?_cons_succ, List.getElem?_cons_zero]; rfl) (fun K hK => ?_) (AllReadyH.cons (by simp only [List.getElem?_toArray, List.getElem?_cons_succ, List.getElem?_cons_zero]; rfl) (fun K hK => ?_) (AllReadyH.nil))
      · go_simp
        go_at_call 17; with_reducible refine (HO.out _ (HKb.out.trans hHeld.2.2.2.2.2.2.2)).mono ?_
        rintro e w' ⟨rfl, kk⟩
        refine hK.out _ _ ?_ (fun hHeld2 => ?_)
        · exact keepP7 hzl hzl hzl hzl hzl hbn2 hbn2 hHeld kk
        clear hK K hHeld
        have hHeld := hHeld2
        clear hHeld2
        try simp only [Act.put, List.setIfInBounds_toArray, List.set_cons_zero, List.set_cons_succ]
        refine wpAnyH_take (i := 6) (v := ?_) (by simp only [List.getElem?_toArray, List.getElem?_cons_succ, List.getElem?_cons_zero]; rfl) (by kernel_rfl) (by kernel_rfl) (by kernel_rfl) (fun _ _ _ h => h) (Or.inl ⟨by rfl, ?_⟩) (by assumption) ?_
        rotate_left
        · intro w hSw
          (try dsimp only at hSw)
          go_simp
          (try with_reducible rfl)
        simp only [Act.put, List.setIfInBounds_toArray, List.set_cons_zero, List.set_cons_succ]
        refine wpAnyH_ready (rs := [7]) (by kernel_rfl) (by simp) ?_
        refine AllReadyH.cons (by simp only [List.getElem?_toArray, List.getElem?_cons_succ, List.getElem?_cons_zero]; rfl) (fun K hK => ?_) (AllReadyH.nil)
        have hH4 := hHeld
        go_simp
        refine hK.out _ _ ?_ (fun hHeld2 => ?_)
        · exact keepP7 hzl hzl hzl hzl hzl hbn2 hbn2 hHeld ((Kept.refl _).alloc _)
        clear hK K hHeld
        have hHeld := hHeld2
        clear hHeld2
        try simp only [Act.put, List.setIfInBounds_toArray, List.set_cons_zero, List.set_cons_succ]
        refine wpAnyH_ready (rs := [8]) (by kernel_rfl) (by simp) ?_
        refine AllReadyH.cons (by simp only [List.getElem?_toArray, List.getElem?_cons_succ, List.getElem?_cons_zero]; rfl) (fun K hK => ?_) (AllReadyH.nil)
        go_simp
        refine hK.out _ _ ?_ (fun hHeld2 => ?_)
        · exact keepP7 hzl hzl hzl hzl hzl hbn2 hbn2 hH4 ((Kept.refl _).alloc _)
        clear hK K hHeld
        have hHeld := hHeld2
        clear hHeld2
        try simp only [Act.put, List.setIfInBounds_toArray, List.set_cons_zero, List.set_cons_succ]
        refine wpAnyH_done (by kernel_rfl) ?_ _
        refine NoPanic.normal ?_
        have HV : Cand W2 w'.heap.size (on, xj) (w'.alloc (.cells #[.int .i64 on, .int .u64 xj.1, .int .u64 xj.2] 82)) := ⟨HasCells.new w' #[.int .i64 on, .int .u64 xj.1, .int .u64 xj.2] 82 w'.heap.size rfl, by simp [go_sem], by simp [go_sem], by simp [go_sem], hH4.2.2.2.2.2.2.2.alloc _⟩
        replace HV := Lib.hid HV
        clear hHeld hH4 kk
        generalize w'.alloc (.cells #[.int .i64 on, .int .u64 xj.1, .int .u64 xj.2] 82) = V1 at *
        generalize w'.heap.size = b at *
        clear c0 c1 c2 c3 c4 hzl m0 m1 hbn2
        have HD3 := Lib.hid (HD2.out.keep HV.out.kept)
        obtain ⟨v0, v1, v2⟩ := HV.out.cells.three
        obtain ⟨u0, u1, u2⟩ := HD3.out.cells.three
        have hbl := HV.out.cells.1
        have hxl := HD3.out.cells.1
        go_wp2_with fail
        refine (isBetter_any on cO.1 xj cO.2 _).mono ?_
        rintro e V2 ⟨rfl, k2⟩
        have HV2 := Lib.hid (HV.out.keep k2)
        have HD4 := Lib.hid (HD3.out.keep k2)
        clear v0 v1 v2 u0 u1 u2 hbl hxl k2
        cases hbe : betterB on cO.1 xj cO.2 with
        | true =>
          have HN := Lib.hid (HHit.out hbe)
          obtain ⟨v0, v1, v2⟩ := HV2.out.cells.three
          obtain ⟨u0, u1, u2⟩ := HD4.out.cells.three
          have hbl := HV2.out.cells.1
          have hxl := HD4.out.cells.1
          have f0 := HD4.out.f0
          have f1 := HD4.out.f1
          have f2 := HD4.out.f2
          clear hbe HHit HMiss
          go_wp2_with fail
          go_roundw
          case rel => exact ⟨j + 1, by omega, by go_num, by rw [HCN.out, HN.out]; exact HD4.out.set (Nat.le_of_eq HX.out) on xj⟩
          case measure => simp [intOf]; omega
        | false =>
          have HN := Lib.hid (HMiss.out hbe)
          clear hbe HHit HMiss
          go_wp2_with fail
          go_roundw
          case rel => exact ⟨j + 1, by omega, by go_num, by rw [HCN.out, HN.out]; exact HD4.out⟩
          case measure => simp [intOf]; omega
      · have hH4 := hHeld
        go_simp
        refine hK.out _ _ ?_ (fun hHeld2 => ?_)
        · exact keepP7 hzl hzl hzl hzl hzl hbn2 hbn2 hHeld ((Kept.refl _).alloc _)
        clear hK K hHeld
        have hHeld := hHeld2
        clear hHeld2
        try simp only [Act.put, List.setIfInBounds_toArray, List.set_cons_zero, List.set_cons_succ]
        refine wpAnyH_ready (rs := [4]) (by kernel_rfl) (by simp) ?_
        refine AllReadyH.cons (by simp only [List.getElem?_toArray, List.getElem?_cons_succ, List.getElem?_cons_zero]; rfl) (fun K hK => ?_) (AllReadyH.nil)
        go_simp
        go_at_call 17; with_reducible refine (HO.out _ (HKb.out.trans hHeld.2.2.2.2.2.2.2)).mono ?_
        rintro e w' ⟨rfl, kk⟩
        have hN : HasCells w' W2.heap.size [.int .i64 0, .int .u64 0, .int .u64 0] := (HasCells.new _ #[.int .i64 0, .int .u64 0, .int .u64 0] 82 W2.heap.size rfl).kept (Kept.trans (Kept.drew (Kept.refl _)) kk)
        have hZ : ∀ j, w'.frozen? ⟨W2.heap.size, j, none⟩ = false := fun j => ((Kept.trans (Kept.drew (Kept.refl _)) kk : Kept (W2.alloc (.cells #[.int .i64 0, .int .u64 0, .int .u64 0] 82)) w').frozen (p := ⟨W2.heap.size, j, none⟩) (by simp)).trans (by simp [go_sem])
        refine hK.out _ _ ?_ (fun hHeld2 => ?_)
        · exact keepP7 hzl hzl hzl hzl hzl hbn2 hbn2 hHeld kk
        clear hK K hHeld
        have hHeld := hHeld2
        clear hHeld2
        try simp only [Act.put, List.setIfInBounds_toArray, List.set_cons_zero, List.set_cons_succ]
        refine wpAnyH_take (i := 6) (v := ?_) (by simp only [List.getElem?_toArray, List.getElem?_cons_succ, List.getElem?_cons_zero]; rfl) (by kernel_rfl) (by kernel_rfl) (by kernel_rfl) (fun _ _ _ h => h) (Or.inl ⟨by rfl, ?_⟩) (by assumption) ?_
        rotate_left
        · intro w hSw
          (try dsimp only at hSw)
          go_simp
          (try with_reducible rfl)
        simp only [Act.put, List.setIfInBounds_toArray, List.set_cons_zero, List.set_cons_succ]
        refine wpAnyH_ready (rs := [8]) (by kernel_rfl) (by simp) ?_
        refine AllReadyH.cons (by simp only [List.getElem?_toArray, List.getElem?_cons_succ, List.getElem?_cons_zero]; rfl) (fun K hK => ?_) (AllReadyH.nil)
        obtain ⟨e0, e1, e2⟩ := hN.three
        have f0 := hZ 0
        have f1 := hZ 1
        have f2 := hZ 2
        go_simp
        refine hK.out _ _ ?_ (fun hHeld2 => ?_)
        · exact keepS7 hzl hzl hzl hzl hzl hbn2 hbn2 hHeld (below_set3 (Nat.le_refl _) 0 1 2 _ _ _)
        clear hK K hHeld
        have hHeld := hHeld2
        clear hHeld2
        try simp only [Act.put, List.setIfInBounds_toArray, List.set_cons_zero, List.set_cons_succ]
        refine wpAnyH_done (by kernel_rfl) ?_ _
        refine NoPanic.normal ?_
        have HV := Cand.set (Nat.le_refl _) (show Cand W2 W2.heap.size (0, zid) w' from ⟨hN, hZ 0, hZ 1, hZ 2, (Kept.alloc (Kept.refl W2) _).trans (Kept.trans (Kept.drew (Kept.refl _)) kk)⟩) on xj
        replace HV := Lib.hid HV
        clear hHeld hH4 kk hN hZ e0 e1 e2 f0 f1 f2
        generalize ((w'.setCell ⟨W2.heap.size, 0, none⟩ (.int .i64 on)).setCell ⟨W2.heap.size, 1, none⟩ (.int .u64 xj.1)).setCell ⟨W2.heap.size, 2, none⟩ (.int .u64 xj.2) = V1 at *
        generalize W2.heap.size = b at *
        clear c0 c1 c2 c3 c4 hzl m0 m1 hbn2
        have HD3 := Lib.hid (HD2.out.keep HV.out.kept)
        obtain ⟨v0, v1, v2⟩ := HV.out.cells.three
        obtain ⟨u0, u1, u2⟩ := HD3.out.cells.three
        have hbl := HV.out.cells.1
        have hxl := HD3.out.cells.1
        go_wp2_with fail
        refine (isBetter_any on cO.1 xj cO.2 _).mono ?_
        rintro e V2 ⟨rfl, k2⟩
        have HV2 := Lib.hid (HV.out.keep k2)
        have HD4 := Lib.hid (HD3.out.keep k2)
        clear v0 v1 v2 u0 u1 u2 hbl hxl k2
        cases hbe : betterB on cO.1 xj cO.2 with
        | true =>
          have HN := Lib.hid (HHit.out hbe)
          obtain ⟨v0, v1, v2⟩ := HV2.out.cells.three
          obtain ⟨u0, u1, u2⟩ := HD4.out.cells.three
          have hbl := HV2.out.cells.1
          have hxl := HD4.out.cells.1
          have f0 := HD4.out.f0
          have f1 := HD4.out.f1
          have f2 := HD4.out.f2
          clear hbe HHit HMiss
          go_wp2_with fail
          go_roundw
          case rel => exact ⟨j + 1, by omega, by go_num, by rw [HCN.out, HN.out]; exact HD4.out.set (Nat.le_of_eq HX.out) on xj⟩
          case measure => simp [intOf]; omega
        | false =>
          have HN := Lib.hid (HMiss.out hbe)
          clear hbe HHit HMiss
          go_wp2_with fail
          go_roundw
          case rel => exact ⟨j + 1, by omega, by go_num, by rw [HCN.out, HN.out]; exact HD4.out⟩
          case measure => simp [intOf]; omega
    · have hjl : j = q.length := by omega
      subst hjl
      rw [List.take_length] at HD
      generalize hcE : candOf (onC k l v) (bestTo (onC k l v) q) = cE at *
      have HCE := Lib.hid hcE
      clear hcE
      obtain ⟨d0, d1, d2⟩ := HD.out.cells.three
      have hxl := HD.out.cells.1
      obtain ⟨r0, r1, r2⟩ := (HR.out.kept HD.out.kept).three
      have hyl := (HR.out.kept HD.out.kept).1
      have hf0 := (HD.out.kept.frozen (p := ⟨y, 0, none⟩) HR.out.1).trans (HF.out 0)
      have hf1 := (HD.out.kept.frozen (p := ⟨y, 1, none⟩) HR.out.1).trans (HF.out 1)
      have hf2 := (HD.out.kept.frozen (p := ⟨y, 2, none⟩) HR.out.1).trans (HF.out 2)
      go_wp2_with fail
      refine bodyPost_ret (v := .agg #[.int .i64 cE.1, .int .u64 cE.2.1, .int .u64 cE.2.2]) (by simp [results, Tryz.results46, go_sem, r0, r1, r2]) rfl ⟨by rw [HCE.out], ?_⟩
      exact (((K0.out.trans HD.out.kept).setCell (p := ⟨y, 0, none⟩) (Nat.le_trans HZE.out HZ.out) _).setCell (p := ⟨y, 1, none⟩) (Nat.le_trans HZE.out HZ.out) _).setCell (p := ⟨y, 2, none⟩) (Nat.le_trans HZE.out HZ.out) _

end Go.Proofs.YtlapcnfhnfkbmaaGreat
