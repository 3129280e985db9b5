/-
  The contracts of Best and Head of the given package marigoldref09.
-/
import Derived.WalkMore
import Derived.Test.YtlapcnfhnfkbmaaGreatGhostRef
namespace Go.Proofs.YtlapcnfhnfkbmaaGreat
set_option maxRecDepth 100000
set_option linter.unusedVariables false
set_option linter.unusedSimpArgs false
set_option linter.unusedSimpArgs false
set_option linter.unusedVariables false
open Go.ChangeShapes Go.WideShapes Go.ChangeAt Go.RowKit

/-! ### Head -/
theorem CellsAt.setOther {w : World} {B : Nat} {A : Option Addr} {xs : List Value} (h : CellsAt w B A xs) {b : Nat} (hne : ∀ ad, A = some ad → b < ad.block) (i : Nat) (u : Value) : CellsAt (w.setCell ⟨b, i, none⟩ u) B A xs := fun j v hv => by
  obtain ⟨ad, e, hb, hc⟩ := h j v hv
  refine ⟨ad, e, hb, ?_⟩
  have h1 := hne ad e
  have h2 : (ad.add j).block = ad.block := block_add ad j
  rw [World.cell?_setCell_other _ _ _ _ (by intro e2; rw [← e2] at h2; simp at h2; omega)]
  exact hc
theorem next_names {k : Cf} {l : List Bk} {v : List Vt} {x : Id2} (h0 : 0 < (kidsC l x).length) : headX k l v (candOf (onC k l v) (bestTo (onC k l v) (kidsC l x))).2 = headX k l v x ∧ rank l x < rank l (candOf (onC k l v) (bestTo (onC k l v) (kidsC l x))).2 ∧ rank l (candOf (onC k l v) (bestTo (onC k l v) (kidsC l x))).2 ≤ l.length := by
  have hne : kidsC l x ≠ [] := fun e => by rw [e] at h0; simp at h0
  refine ⟨(best_step rfl hne).symm, ?_⟩
  cases e : bestTo (onC k l v) (kidsC l x) with
  | none => exact absurd (bestTo_none e) hne
  | some y => exact kid_rank (bestTo_mem e)
theorem leaf_names {k : Cf} {l : List Bk} {v : List Vt} {x : Id2} (h0 : ¬ 0 < (kidsC l x).length) : headX k l v x = x := best_leaf (List.eq_nil_of_length_eq_zero (by omega))

set_option maxRecDepth 100000 in
set_option maxHeartbeats 3200000 in
theorem refHead_any (A : Option Addr) (c : Nat) (k : Cf) (L : Option Addr) (cl : Nat) (l : List Bk) (V : Option Addr) (cv : Nat) (v : List Vt) (w : World)
    (hk : k.ws.length ≤ 1000) (hl : l.length ≤ 1000000) (hv : v.length ≤ 100000) (hwl : WfL l) (hA : CellsAt w w.heap.size A (intCells k.ws)) (hL : CellsAt w w.heap.size L (blockCells l)) (hV : CellsAt w w.heap.size V (votesCells v)) :
    Calls Tryz.prog 33 #[.agg #[.slice A k.ws.length c, .int .u64 k.seed, .int .i64 k.ep, .int .i64 k.nu, .int .i64 k.de], .slice L l.length cl, .slice V v.length cv] w fun e w' => e = .returned (.agg #[.int .u64 (headC k l v).1, .int .u64 (headC k l v).2]) ∧ Kept w w' := by
  have K0 := Lib.hid ((((Kept.refl w).alloc (.cells #[.slice A k.ws.length c, .int .u64 k.seed, .int .i64 k.ep, .int .i64 k.nu, .int .i64 k.de] 25)).alloc (.cells #[.int .u64 0, .int .u64 0] 35)).alloc (.cells #[.int .u64 0, .int .u64 0] 35))
  have HC := Lib.hid (((HasCells.new w #[.slice A k.ws.length c, .int .u64 k.seed, .int .i64 k.ep, .int .i64 k.nu, .int .i64 k.de] 25 w.heap.size rfl).alloc (.cells #[.int .u64 0, .int .u64 0] 35)).alloc (.cells #[.int .u64 0, .int .u64 0] 35))
  have HR := Lib.hid ((HasCells.new (w.alloc (.cells #[.slice A k.ws.length c, .int .u64 k.seed, .int .i64 k.ep, .int .i64 k.nu, .int .i64 k.de] 25)) #[.int .u64 0, .int .u64 0] 35 (w.heap.size + 1) (by simp)).alloc (.cells #[.int .u64 0, .int .u64 0] 35))
  have HF := Lib.hid (show ∀ j, (((w.alloc (.cells #[.slice A k.ws.length c, .int .u64 k.seed, .int .i64 k.ep, .int .i64 k.nu, .int .i64 k.de] 25)).alloc (.cells #[.int .u64 0, .int .u64 0] 35)).alloc (.cells #[.int .u64 0, .int .u64 0] 35)).frozen? ⟨w.heap.size + 1, j, none⟩ = false by intro j; simp [go_sem])
  have HD0 := Lib.hid (Down.new ((w.alloc (.cells #[.slice A k.ws.length c, .int .u64 k.seed, .int .i64 k.ep, .int .i64 k.nu, .int .i64 k.de] 25)).alloc (.cells #[.int .u64 0, .int .u64 0] 35)))
  have hs2 : ((w.alloc (.cells #[.slice A k.ws.length c, .int .u64 k.seed, .int .i64 k.ep, .int .i64 k.nu, .int .i64 k.de] 25)).alloc (.cells #[.int .u64 0, .int .u64 0] 35)).heap.size = w.heap.size + 1 + 1 := by simp
  rw [hs2] at HD0
  have HA := Lib.hid (hA.kept K0.out)
  have HL := Lib.hid (hL.kept K0.out)
  have HV := Lib.hid (hV.kept K0.out)
  have HZY := Lib.hid (show w.heap.size ≤ w.heap.size + 1 by omega)
  have HWL := Lib.hid hwl
  have HKA := Lib.hid (((Kept.refl w).alloc (.cells #[.slice A k.ws.length c, .int .u64 k.seed, .int .i64 k.ep, .int .i64 k.nu, .int .i64 k.de] 25)).alloc (.cells #[.int .u64 0, .int .u64 0] 35))
  have HBA := Lib.hid (show ((w.alloc (.cells #[.slice A k.ws.length c, .int .u64 k.seed, .int .i64 k.ep, .int .i64 k.nu, .int .i64 k.de] 25)).alloc (.cells #[.int .u64 0, .int .u64 0] 35)).heap.size ≤ w.heap.size + 1 + 1 by simp)
  have HRz := Lib.hid (HasCells.new (w.alloc (.cells #[.slice A k.ws.length c, .int .u64 k.seed, .int .i64 k.ep, .int .i64 k.nu, .int .i64 k.de] 25)) #[.int .u64 0, .int .u64 0] 35 (w.heap.size + 1) (by simp))
  have HC0 := Lib.hid ((HasCells.new w #[.slice A k.ws.length c, .int .u64 k.seed, .int .i64 k.ep, .int .i64 k.nu, .int .i64 k.de] 25 w.heap.size rfl).alloc (.cells #[.int .u64 0, .int .u64 0] 35))
  have HF0 := Lib.hid (show ∀ j, ((w.alloc (.cells #[.slice A k.ws.length c, .int .u64 k.seed, .int .i64 k.ep, .int .i64 k.nu, .int .i64 k.de] 25)).alloc (.cells #[.int .u64 0, .int .u64 0] 35)).frozen? ⟨w.heap.size + 1, j, none⟩ = false by intro j; simp [go_sem])
  have HA0 := Lib.hid (hA.kept HKA.out)
  have HL0 := Lib.hid (hL.kept HKA.out)
  have HV0 := Lib.hid (hV.kept HKA.out)
  clear hA hL hV hwl hs2
  go_enter Tryz.func33, Tryz.ntmps33
  go_wp2_with fail
  generalize (((w.alloc (.cells #[.slice A k.ws.length c, .int .u64 k.seed, .int .i64 k.ep, .int .i64 k.nu, .int .i64 k.de] 25)).alloc (.cells #[.int .u64 0, .int .u64 0] 35)).alloc (.cells #[.int .u64 0, .int .u64 0] 35)) = W at *
  generalize ((w.alloc (.cells #[.slice A k.ws.length c, .int .u64 k.seed, .int .i64 k.ep, .int .i64 k.nu, .int .i64 k.de] 25)).alloc (.cells #[.int .u64 0, .int .u64 0] 35)) = W0 at *
  generalize w.heap.size + 1 + 1 = b at *
  generalize w.heap.size + 1 = y at *
  generalize hze : w.heap.size = z at *
  have HZE := Lib.hid (Nat.le_of_eq hze)
  clear hze
  refine (refNames_any L cl l hl HWL.out W HL.out).mono ?_
  rintro e W1 ⟨N, cn, rfl, hN, hcn, hNn, k1⟩
  have HNn := Lib.hid (show ∀ ad, N = some ad → b < ad.block from fun ad e => Nat.lt_of_lt_of_le HD0.out.cells.1 (hNn ad e))
  clear hNn
  have HN := Lib.hid hN
  have HCN := Lib.hid hcn
  have K1 := Lib.hid k1
  clear hN k1 hcn
  go_wp2_with fail
  refine (refMayE_any L cl l hl N cn HCN.out W1 (HL.out.kept K1.out) HN.out).mono ?_
  rintro e W2 ⟨rfl, k2⟩
  have K2 := Lib.hid (K1.out.trans k2)
  have HN2 := Lib.hid (HN.out.kept k2)
  have HD2 := Lib.hid (HD0.out.keep K2.out)
  clear k2 HN K1 HD0
  cases hm : mayB l with
  | false =>
    have HE := Lib.hid (show headC k l v = zid from best_leaf (kidsC_no (l := l) zid hm))
    clear hm
    obtain ⟨r0, r1⟩ := (HR.out.kept K2.out).two
    have hyl := (HR.out.kept K2.out).1
    have hf0 := (K2.out.frozen (p := ⟨y, 0, none⟩) HR.out.1).trans (HF.out 0)
    have hf1 := (K2.out.frozen (p := ⟨y, 1, none⟩) HR.out.1).trans (HF.out 1)
    obtain ⟨d0, d1⟩ := HD2.out.cells.two
    have hbl := HD2.out.cells.1
    go_wp2_with fail
    go_loopw [10] (fun i w' => i = .int .i64 0 ∧ w' = W2) (fun _ _ => 0)
    case atStart => exact ⟨rfl, rfl⟩
    case round =>
      obtain ⟨rfl, rfl⟩ := hrel
      go_wp2_with fail
      refine bodyPost_ret (v := .agg #[.int .u64 0, .int .u64 0]) (by simp [results, Tryz.results33, go_sem, r0, r1, zid]) rfl ⟨by rw [HE.out]; rfl, ?_⟩
      exact ((K0.out.trans K2.out).setCell (p := ⟨y, 0, none⟩) (Nat.le_trans HZE.out HZY.out) _).setCell (p := ⟨y, 1, none⟩) (Nat.le_trans HZE.out HZY.out) _
  | true =>
    have HM := Lib.hid hm
    clear hm
    have HBo := Lib.hid (fun x w' (kk : Kept W0 w') (hN : CellsAt w' w'.heap.size N (idsCells (namesB l))) => refBestIn_any A c k L cl l N cn V cv v x w' hk hl hv HM.out (HA0.out.kept kk) (HL0.out.kept kk) hN (HV0.out.kept kk))
    have HRk := Lib.hid (show rank l zid ≤ l.length from by have := may_zero HM.out; unfold rank; rw [this]; exact Nat.zero_le _)
    have HNL := Lib.hid (show CellsAt W2 W2.heap.size N (idsCells (namesB l)) from HN2.out)
    generalize (namesB l).length = nn at *
    go_wp2_with fail
    go_loopw [10] (fun i w' => ∃ (cur : Id2) (j : Nat), i = .int .i64 (j : Nat) ∧ Down W0 b cur w' ∧ CellsAt w' w'.heap.size N (idsCells (namesB l)) ∧ j ≤ rank l cur ∧ rank l cur ≤ l.length ∧ headX k l v cur = headC k l v) (fun i _ => l.length + 1 - (intOf i).toNat)
    case atStart => exact ⟨zid, 0, rfl, HD2.out, HNL.out, Nat.zero_le _, HRk.out, rfl⟩
    case round =>
      obtain ⟨cur, j, rfl, hD, hNc, hj, hr, hH⟩ := hrel
      have HD := Lib.hid hD
      have HNc := Lib.hid hNc
      have HH := Lib.hid hH
      have HJ := Lib.hid (⟨hj, hr⟩ : _ ∧ _)
      have hjl : j ≤ l.length := Nat.le_trans hj hr
      have hjl' : (j : Int) ≤ (l.length : Int) := by omega
      clear hD hNc hH hj hr HD2 HNL
      obtain ⟨c0, c1, c2, c3, c4⟩ := (HC0.out.kept HD.out.kept).five
      have hzl := (HC0.out.kept HD.out.kept).1
      obtain ⟨d0, d1⟩ := HD.out.cells.two
      have hbl := HD.out.cells.1
      have HB := Lib.hid (HBo.out cur wr HD.out.kept HNc.out)
      have HNx := Lib.hid (fun h => next_names (k := k) (l := l) (v := v) (x := cur) h)
      have HLf := Lib.hid (fun h => leaf_names (k := k) (l := l) (v := v) (x := cur) h)
      generalize (candOf (onC k l v) (bestTo (onC k l v) (kidsC l cur))).2 = cE at *
      generalize (kidsC l cur).length = n at *
      go_wp2_with fail
      refine HB.out.mono ?_
      rintro e W3 ⟨rfl, k3⟩
      have HD3 := Lib.hid (HD.out.keep k3)
      have HN3 := Lib.hid (HNc.out.kept k3)
      clear c0 c1 c2 c3 c4 hzl d0 d1 hbl HB k3
      by_cases h0 : 0 < n
      · have hd : decide (0 < n) = true := decide_eq_true h0
        rw [hd]
        have HE := Lib.hid (HNx.out h0)
        clear HNx HLf h0 hd
        have HD4 := Lib.hid (HD3.out.keep ((Kept.refl W3).alloc (.cells #[.int .u64 cE.1, .int .u64 cE.2] 35)))
        have HN4 := Lib.hid (HN3.out.kept ((Kept.refl W3).alloc (.cells #[.int .u64 cE.1, .int .u64 cE.2] 35)))
        obtain ⟨d0, d1⟩ := HD3.out.cells.two
        have hbl := HD3.out.cells.1
        have hf0 := HD3.out.f0
        have hf1 := HD3.out.f1
        have HDs := Lib.hid ((HD3.out.set HBA.out cE).keep ((Kept.refl _).alloc (.cells #[.int .u64 cE.1, .int .u64 cE.2] 35)))
        have HNs := Lib.hid (((show CellsAt ((W3.setCell ⟨b, 0, none⟩ (.int .u64 cE.1)).setCell ⟨b, 1, none⟩ (.int .u64 cE.2)) ((W3.setCell ⟨b, 0, none⟩ (.int .u64 cE.1)).setCell ⟨b, 1, none⟩ (.int .u64 cE.2)).heap.size N (idsCells (namesB l)) from by simpa using (HN3.out.setOther HNn.out 0 (.int .u64 cE.1)).setOther HNn.out 1 (.int .u64 cE.2))).kept ((Kept.refl _).alloc (.cells #[.int .u64 cE.1, .int .u64 cE.2] 35)))
        go_wp2_with fail
        go_roundw
        case rel => exact ⟨cE, j + 1, by go_num, HDs.out, HNs.out, by have := HE.out.2.1; have := HJ.out.1; omega, HE.out.2.2, HE.out.1.trans HH.out⟩
        case measure => simp [intOf]; omega
      · have hd : decide (0 < n) = false := decide_eq_false h0
        rw [hd]
        have HE := Lib.hid ((HLf.out h0).symm.trans HH.out)
        clear HNx HLf h0 hd
        obtain ⟨d0, d1⟩ := HD3.out.cells.two
        have hbl := HD3.out.cells.1
        have k4 := (Kept.refl W3).alloc (.cells #[.int .u64 cE.1, .int .u64 cE.2] 35)
        have HRw := Lib.hid (HRz.out.kept HD3.out.kept)
        obtain ⟨r0, r1⟩ := HRw.out.two
        have hyl := HRw.out.1
        have hg0 := (HD3.out.kept.frozen (p := ⟨y, 0, none⟩) HRz.out.1).trans (HF0.out 0)
        have hg1 := (HD3.out.kept.frozen (p := ⟨y, 1, none⟩) HRz.out.1).trans (HF0.out 1)
        clear k4
        have hset := Down.set (W := w) (Nat.le_trans HZE.out HZY.out) (⟨HRw.out, hg0, hg1, HKA.out.trans HD3.out.kept⟩ : Down w y zid W3) cur
        obtain ⟨q0, q1⟩ := (hset.cells.alloc (.cells #[.int .u64 cE.1, .int .u64 cE.2] 35)).two
        have HS := Lib.hid (hset.kept.alloc (.cells #[.int .u64 cE.1, .int .u64 cE.2] 35))
        have Q0 := Lib.hid q0
        have Q1 := Lib.hid q1
        clear q0 q1 hset
        go_wp2_with fail
        have q0 := Q0.out
        have q1 := Q1.out
        refine bodyPost_ret (v := .agg #[.int .u64 cur.1, .int .u64 cur.2]) (by simp [results, Tryz.results33, go_sem, q0, q1]) rfl ⟨by rw [HE.out], HS.out⟩

end Go.Proofs.YtlapcnfhnfkbmaaGreat
