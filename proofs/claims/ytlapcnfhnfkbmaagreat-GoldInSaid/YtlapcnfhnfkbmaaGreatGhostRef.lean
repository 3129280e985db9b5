/-
  The contract of BestIn of the given package marigoldref09.
-/
import Derived.Test.YtlapcnfhnfkbmaaGreatGhostFacts
import Derived.Test.YtlapcnfhnfkbmaaGreatGhost
import Derived.Test.YtlapcnfhnfkbmaaGreatGhostRefIn
import Derived.Test.YtlapcnfhnfkbmaaGreatWeighRef
import Derived.Test.YtlapcnfhnfkbmaaGreatMixRefLess
import Derived.Test.YtlapcnfhnfkbmaaGreatGround
namespace Go.Proofs.YtlapcnfhnfkbmaaGreat
set_option maxRecDepth 100000
set_option linter.unusedVariables false
set_option linter.unusedSimpArgs false
set_option linter.unusedSimpArgs false
set_option linter.unusedVariables false
open Go.ChangeShapes Go.WideShapes Go.ChangeAt Go.RowKit

theorem Down.new (W : World) : Down W W.heap.size zid (W.alloc (.cells #[.int .u64 0, .int .u64 0] 35)) :=
  ⟨HasCells.new W #[.int .u64 0, .int .u64 0] 35 W.heap.size rfl, by simp [go_sem], by simp [go_sem], (Kept.refl W).alloc _⟩
theorem better_yes {n m : Int} {x y : Id2} (h : n = m) (b : lessN y x = true) : betterB n m x y = true := by unfold betterB; rw [decide_eq_true h, b]; simp
theorem better_no {n m : Int} {x y : Id2} (h : ¬ m < n) (b : lessN y x = false) : betterB n m x y = false := by unfold betterB; rw [decide_eq_false h, b]; simp

set_option maxRecDepth 100000 in
set_option maxHeartbeats 3200000 in
theorem refBestIn_any (A : Option Addr) (c : Nat) (k : Cf) (L : Option Addr) (cl : Nat) (l : List Bk) (N : Option Addr) (cn : Nat) (V : Option Addr) (cv : Nat) (v : List Vt) (x : Id2) (w : World)
    (hk : k.ws.length ≤ 1000) (hl : l.length ≤ 1000000) (hv : v.length ≤ 100000) (hm : mayB l = true) (hA : CellsAt w w.heap.size A (intCells k.ws)) (hL : CellsAt w w.heap.size L (blockCells l)) (hN : CellsAt w w.heap.size N (idsCells (namesB l))) (hV : CellsAt w w.heap.size V (votesCells v)) :
    Calls Tryz.prog 60 #[.agg #[.slice A k.ws.length c, .int .u64 k.seed, .int .i64 k.ep, .int .i64 k.nu, .int .i64 k.de], .slice L l.length cl, .slice N (namesB l).length cn, .slice V v.length cv, .agg #[.int .u64 x.1, .int .u64 x.2]] w fun e w' =>
      e = .returned (.tuple #[.agg #[.int .u64 (candOf (onC k l v) (bestTo (onC k l v) (kidsC l x))).2.1, .int .u64 (candOf (onC k l v) (bestTo (onC k l v) (kidsC l x))).2.2], .bool (decide (0 < (kidsC l x).length))]) ∧ Kept w w' := by
  have K0 := Lib.hid ((((Kept.refl w).alloc (.cells #[.slice A k.ws.length c, .int .u64 k.seed, .int .i64 k.ep, .int .i64 k.nu, .int .i64 k.de] 25)).alloc (.cells #[.int .u64 x.1, .int .u64 x.2] 35)).alloc (.cells #[.int .u64 0, .int .u64 0] 35))
  have HC := Lib.hid (((HasCells.new w #[.slice A k.ws.length c, .int .u64 k.seed, .int .i64 k.ep, .int .i64 k.nu, .int .i64 k.de] 25 w.heap.size rfl).alloc (.cells #[.int .u64 x.1, .int .u64 x.2] 35)).alloc (.cells #[.int .u64 0, .int .u64 0] 35))
  have HI := Lib.hid ((HasCells.new (w.alloc (.cells #[.slice A k.ws.length c, .int .u64 k.seed, .int .i64 k.ep, .int .i64 k.nu, .int .i64 k.de] 25)) #[.int .u64 x.1, .int .u64 x.2] 35 (w.heap.size + 1) (by simp)).alloc (.cells #[.int .u64 0, .int .u64 0] 35))
  have HR := Lib.hid (HasCells.new ((w.alloc (.cells #[.slice A k.ws.length c, .int .u64 k.seed, .int .i64 k.ep, .int .i64 k.nu, .int .i64 k.de] 25)).alloc (.cells #[.int .u64 x.1, .int .u64 x.2] 35)) #[.int .u64 0, .int .u64 0] 35 (w.heap.size + 1 + 1) (by simp))
  have HF := Lib.hid (show ∀ j, (((w.alloc (.cells #[.slice A k.ws.length c, .int .u64 k.seed, .int .i64 k.ep, .int .i64 k.nu, .int .i64 k.de] 25)).alloc (.cells #[.int .u64 x.1, .int .u64 x.2] 35)).alloc (.cells #[.int .u64 0, .int .u64 0] 35)).frozen? ⟨w.heap.size + 1 + 1, j, none⟩ = false by intro j; simp [go_sem])
  have HA := Lib.hid (hA.kept K0.out)
  have HL := Lib.hid (hL.kept K0.out)
  have HN := Lib.hid (hN.kept K0.out)
  have HV := Lib.hid (hV.kept K0.out)
  have HNm := Lib.hid (kids_named l x)
  have HQl := Lib.hid (Nat.le_trans (kidsC_le l x) hl)
  have HKi := Lib.hid (fun w' h1 h2 => refKidsIn_any L cl l hl hm N cn x w' h1 h2)
  have HO := Lib.hid (fun y w' h1 h2 h3 h4 => refOnIn_any A c k L cl l N cn V cv v y w' hk hl hv hm h1 h2 h3 h4)
  have HOb := Lib.hid (fun y => on_bounds k l v y)
  clear hA hL hN hV hm
  go_enter Tryz.func60, Tryz.ntmps60
  go_wp2_with fail
  have HZY := Lib.hid (show w.heap.size ≤ w.heap.size + 1 + 1 by omega)
  generalize (((w.alloc (.cells #[.slice A k.ws.length c, .int .u64 k.seed, .int .i64 k.ep, .int .i64 k.nu, .int .i64 k.de] 25)).alloc (.cells #[.int .u64 x.1, .int .u64 x.2] 35)).alloc (.cells #[.int .u64 0, .int .u64 0] 35)) = W at *
  generalize w.heap.size + 1 + 1 = y at *
  generalize w.heap.size + 1 = zi at *
  generalize hze : w.heap.size = z at *
  have HZE := Lib.hid (Nat.le_of_eq hze)
  clear hze
  generalize (namesB l).length = nn at *
  generalize hq : kidsC l x = q at *
  have HQE := Lib.hid hq
  clear hq
  generalize hg : onC k l v = g at *
  have HGE := Lib.hid hg
  clear hg
  refine (HKi.out W HL.out HN.out).mono ?_
  rintro e W1 ⟨Q, cq, rfl, hQ, _, k1⟩
  have K1 := Lib.hid (K0.out.trans k1)
  have HQ := Lib.hid hQ
  have HC1 := Lib.hid (HC.out.kept k1)
  have HR1 := Lib.hid (HR.out.kept k1)
  have HF1 := Lib.hid (fun j => (k1.frozen (p := ⟨y, j, none⟩) HR.out.1).trans (HF.out j))
  have HA1 := Lib.hid (HA.out.kept k1)
  have HL1 := Lib.hid (HL.out.kept k1)
  have HN1 := Lib.hid (HN.out.kept k1)
  have HV1 := Lib.hid (HV.out.kept k1)
  clear k1 hQ K0 HC HR HF HA HL HN HV HI HKi
  go_wp2_with fail
  have HD0 := Lib.hid (Down.new W1)
  obtain ⟨b, hb⟩ : ∃ b, b = W1.heap.size := ⟨_, rfl⟩
  rw [← hb] at HD0 ⊢
  have HBl := Lib.hid (show W1.heap.size ≤ b by rw [hb]; exact Nat.le_refl _)
  generalize W1.alloc (.cells #[.int .u64 0, .int .u64 0] 35) = W2 at *
  clear hb
  go_loopw [14, 15] (fun m i w' => ∃ j : Nat, j ≤ q.length ∧ i = .int .i64 (j : Nat) ∧ m = .int .i64 (candOf g (bestTo g (q.take j))).1 ∧ Down W1 b (candOf g (bestTo g (q.take j))).2 w') (fun _ i _ => q.length - (intOf i).toNat)
  case atStart => exact ⟨0, by omega, rfl, rfl, HD0.out⟩
  case round =>
    obtain ⟨j, hj, rfl, rfl, hD⟩ := hrel
    have HD := Lib.hid hD
    clear hD HD0
    have hql := HQl.out
    by_cases hlt : j < q.length
    · obtain ⟨zn, ofn, rfl, hbn, n0, n1⟩ := id_at (HQ.out.kept HD.out.kept) hlt
      have HHit := Lib.hid (fun h => cand_hit_take (g := g) (q := q) hlt h)
      have HMiss := Lib.hid (fun h => cand_miss_take (g := g) (q := q) hlt (HNm.out _ (List.getElem_mem hlt)).2 (HOb.out q[j]).1 h)
      have HFst := Lib.hid (show j = 0 → betterB (g q[j]) (candOf g (bestTo g (q.take j))).1 q[j] (candOf g (bestTo g (q.take j))).2 = true from fun e => by
        subst e
        exact better_first (HNm.out _ (List.getElem_mem hlt)).2 (HOb.out q[0]).1)
      have HOw := Lib.hid (fun w' (kk : Kept wr w') => HO.out q[j] w' (HA1.out.kept (HD.out.kept.trans kk)) (HL1.out.kept (HD.out.kept.trans kk)) (HN1.out.kept (HD.out.kept.trans kk)) (HV1.out.kept (HD.out.kept.trans kk)))
      generalize hcN : candOf g (bestTo g (q.take (j + 1))) = cN at *
      have HCN := Lib.hid hcN
      clear hcN
      generalize candOf g (bestTo g (q.take j)) = cO at *
      generalize g q[j] = on at *
      generalize q[j] = xj at *
      have HCr := Lib.hid (HC1.out.kept HD.out.kept)
      obtain ⟨c0, c1, c2, c3, c4⟩ := HCr.out.five
      have hzl := HCr.out.1
      go_wp2_with fail
      go_region_held3 (fun w' => w'.cell? ⟨z, 0, none⟩ = some (.slice A k.ws.length c) ∧ w'.cell? ⟨z, 1, none⟩ = some (.int .u64 k.seed) ∧ w'.cell? ⟨z, 2, none⟩ = some (.int .i64 k.ep) ∧ w'.cell? ⟨z, 3, none⟩ = some (.int .i64 k.nu) ∧ w'.cell? ⟨z, 4, none⟩ = some (.int .i64 k.de) ∧ w'.cell? ⟨zn, ofn + j * 2, none⟩ = some (.int .u64 xj.1) ∧ w'.cell? ⟨zn, ofn + j * 2 + 1, none⟩ = some (.int .u64 xj.2) ∧ Kept wr w')
        (first | exact ⟨c0, c1, c2, c3, c4, n0, n1, Kept.refl _⟩ | exact ⟨c0, c1, c2, c3, c4, n0, n1, (Kept.refl _).drew⟩ | assumption | exact keepP7 hzl hzl hzl hzl hzl hbn hbn (by assumption) (by assumption))
        (first
          | (go_at_call 87; ((with_reducible refine (HOw.out _ ((by assumption : _ ∧ _ ∧ _ ∧ _ ∧ _ ∧ _ ∧ _ ∧ Kept wr _).2.2.2.2.2.2.2)).mono ?_); rintro e w' ⟨rfl, kk⟩)))
      rename_i hh
      have k2 := hh.2.2.2.2.2.2.2
      have HD2 := Lib.hid (HD.out.keep k2)
      have m0 := hh.2.2.2.2.2.1
      have m1 := hh.2.2.2.2.2.2.1
      have hbn2 := Nat.lt_of_lt_of_le hbn k2.size_le
      clear hh kk c0 c1 c2 c3 c4 hzl n0 n1 HOw k2
      generalize w' = W3 at *
      obtain ⟨u0, u1⟩ := HD2.out.cells.two
      have hbl := HD2.out.cells.1
      go_wp2_with fail
      go_region_held3 (fun w' => w'.cell? ⟨b, 0, none⟩ = some (.int .u64 cO.2.1) ∧ w'.cell? ⟨b, 1, none⟩ = some (.int .u64 cO.2.2) ∧ w'.cell? ⟨zn, ofn + j * 2, none⟩ = some (.int .u64 xj.1) ∧ w'.cell? ⟨zn, ofn + j * 2 + 1, none⟩ = some (.int .u64 xj.2) ∧ Kept W3 w')
        (first | exact ⟨u0, u1, m0, m1, Kept.refl _⟩ | exact ⟨u0, u1, m0, m1, (Kept.refl _).drew⟩ | assumption | exact keepP4 hbl hbl hbn2 hbn2 (by assumption) (by assumption))
        (first
          | (go_at_call 88; ((with_reducible refine (refLess_any cO.2 xj _).mono ?_); rintro e w' ⟨rfl, kk⟩)))
      rename_i hh
      have k3 := hh.2.2.2.2
      have HD3 := Lib.hid (HD2.out.keep k3)
      have n0 := hh.2.2.1
      have n1 := hh.2.2.2.1
      have hbn3 := Nat.lt_of_lt_of_le hbn2 k3.size_le
      clear hh kk u0 u1 hbl m0 m1 k3
      generalize w' = W4 at *
      by_cases h0 : j = 0
      · have HNx := Lib.hid (HHit.out (HFst.out h0))
        have h0b : ((j : Int) == 0) = true := by rw [beq_iff_eq]; omega
        clear h0
        obtain ⟨u0, u1⟩ := HD3.out.cells.two
        have f0 := HD3.out.f0
        have f1 := HD3.out.f1
        have hbl := HD3.out.cells.1
        go_wp2_with fail
        go_roundw
        case rel => exact ⟨j + 1, by omega, by go_num, by rw [HCN.out, HNx.out], by rw [HCN.out, HNx.out]; exact HD3.out.set HBl.out xj⟩
        case measure => simp [intOf]; omega
      · have h0b : ((j : Int) == 0) = false := by rw [beq_eq_false_iff_ne]; omega
        by_cases h1 : cO.1 < on
        · have HNx := Lib.hid (HHit.out (better_more h1))
          obtain ⟨u0, u1⟩ := HD3.out.cells.two
          have f0 := HD3.out.f0
          have f1 := HD3.out.f1
          have hbl := HD3.out.cells.1
          go_wp2_with fail
          go_roundw
          case rel => exact ⟨j + 1, by omega, by go_num, by rw [HCN.out, HNx.out], by rw [HCN.out, HNx.out]; exact HD3.out.set HBl.out xj⟩
          case measure => simp [intOf]; omega
        · by_cases h2 : on = cO.1
          · have h2b : (on == cO.1) = true := by rw [beq_iff_eq]; exact h2
            cases hl : lessN cO.2 xj with
            | true =>
              have HNx := Lib.hid (HHit.out (better_yes h2 hl))
              clear h2 hl
              obtain ⟨u0, u1⟩ := HD3.out.cells.two
              have f0 := HD3.out.f0
              have f1 := HD3.out.f1
              have hbl := HD3.out.cells.1
              go_wp2_with fail
              go_roundw
              case rel => exact ⟨j + 1, by omega, by go_num, by rw [HCN.out, HNx.out], by rw [HCN.out, HNx.out]; exact HD3.out.set HBl.out xj⟩
              case measure => simp [intOf]; omega
            | false =>
              have HNx := Lib.hid (HMiss.out (better_no h1 hl))
              clear h2 hl
              go_wp2_with fail
              go_roundw
              case rel => exact ⟨j + 1, by omega, by go_num, by rw [HCN.out, HNx.out], by rw [HCN.out, HNx.out]; exact HD3.out⟩
              case measure => simp [intOf]; omega
          · have h2b : (on == cO.1) = false := by rw [beq_eq_false_iff_ne]; exact h2
            have HNx := Lib.hid (HMiss.out (better_less h1 h2))
            clear h2
            go_wp2_with fail
            go_roundw
            case rel => exact ⟨j + 1, by omega, by go_num, by rw [HCN.out, HNx.out], by rw [HCN.out, HNx.out]; exact HD3.out⟩
            case measure => simp [intOf]; omega
    · have hjl : j = q.length := by omega
      subst hjl
      rw [List.take_length] at HD
      obtain ⟨d0, d1⟩ := HD.out.cells.two
      have hbl := HD.out.cells.1
      obtain ⟨r0, r1⟩ := (HR1.out.kept HD.out.kept).two
      have hyl := (HR1.out.kept HD.out.kept).1
      have hf0 := (HD.out.kept.frozen (p := ⟨y, 0, none⟩) HR1.out.1).trans (HF1.out 0)
      have hf1 := (HD.out.kept.frozen (p := ⟨y, 1, none⟩) HR1.out.1).trans (HF1.out 1)
      generalize hcE : candOf g (bestTo g q) = cE at *
      have HCE := Lib.hid hcE
      clear hcE
      go_wp2_with fail
      refine bodyPost_ret (v := .tuple #[.agg #[.int .u64 cE.2.1, .int .u64 cE.2.2], .bool (decide (0 < q.length))]) (by simp [results, Tryz.results60, go_sem, r0, r1]) rfl ⟨by rw [HGE.out, HQE.out, HCE.out], ?_⟩
      exact ((K1.out.trans HD.out.kept).setCell (p := ⟨y, 0, none⟩) (Nat.le_trans HZE.out HZY.out) _).setCell (p := ⟨y, 1, none⟩) (Nat.le_trans HZE.out HZY.out) _

end Go.Proofs.YtlapcnfhnfkbmaaGreat
