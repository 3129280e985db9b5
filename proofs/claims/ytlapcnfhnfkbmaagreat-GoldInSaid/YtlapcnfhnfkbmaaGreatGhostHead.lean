/-
  The contract of package ghost's call Head.
-/
import Derived.WalkMore
import Derived.Test.YtlapcnfhnfkbmaaGreatGhostOf
import Derived.Test.YtlapcnfhnfkbmaaGreatGhostKids
import Derived.Test.YtlapcnfhnfkbmaaGreatWeighRef
import Derived.Test.YtlapcnfhnfkbmaaGreatGhostRef
namespace Go.Proofs.YtlapcnfhnfkbmaaGreat
set_option maxRecDepth 100000
set_option linter.unusedVariables false
set_option linter.unusedSimpArgs false
set_option linter.unusedSimpArgs false
set_option linter.unusedVariables false
open Go.ChangeShapes Go.WideShapes Go.ChangeAt Go.RowKit

/-- A candidate's name. -/
theorem field_name (n : Int) (x : Id2) (w : World) : Sem.run Tryz.prog (Instr.field 82 (.agg #[.int .i64 n, .int .u64 x.1, .int .u64 x.2]) 1) w = .ok (.agg #[.int .u64 x.1, .int .u64 x.2]) w := by
  obtain ⟨i0, hi0, hz0, hz1, hz2⟩ := info_of Tryz.infoID
  simp [Instr.field, run_underlying Tryz.underlying82, run_underlying Tryz.underlying35, part, isAgg, sizeOf, typeInfo, hi0, hz1, asAgg, Result.andThen]
/-- The list at an id, looked up. -/
theorem KidsMap.look {f : Id2 → List Id2} {v : Value} {w : World} (h : KidsMap f v w) {x : Id2} (hx : WfI x) :
    ∃ A c, (Instr.lookup 79 v (.agg #[.int .u64 x.1, .int .u64 x.2]) false).run Tryz.prog w = .ok (.slice A (f x).length c) w ∧ CellsAt w w.heap.size A (idsCells (f x)) := by
  rcases h with ⟨rfl, hno⟩ | ⟨b, m, B, rfl, hG⟩
  · exact ⟨none, 0, by rw [hno x]; exact group_nil hx w, by rw [hno x]; exact CellsAt.nil⟩
  · obtain ⟨u, hrun, hat⟩ := group_look hG hx
    obtain ⟨A, c, rfl⟩ := hat.slice hx
    exact ⟨A, c, hrun, hat.cells hx⟩
theorem best_names {k : Cf} {l : List Bk} {v : List Vt} {x : Id2} {q : List Id2} (hq : kidsC l x = q) (h0 : 2 ≤ q.length) : headX k l v (candOf (onC k l v) (bestTo (onC k l v) q)).2 = headX k l v x ∧ l.length - rank l (candOf (onC k l v) (bestTo (onC k l v) q)).2 < l.length - rank l x := by
  have hne : q ≠ [] := fun e => by rw [e] at h0; simp at h0
  refine ⟨(best_step hq hne).symm, ?_⟩
  subst hq
  cases e : bestTo (onC k l v) (kidsC l x) with
  | none => exact absurd (bestTo_none e) hne
  | some y =>
    have := kid_rank (bestTo_mem e)
    show _ - rank l y < _
    omega
theorem one_names {k : Cf} {l : List Bk} {v : List Vt} {x y : Id2} (hq : kidsC l x = [y]) : headX k l v y = headX k l v x ∧ l.length - rank l y < l.length - rank l x := by
  refine ⟨(best_one hq).symm, ?_⟩
  have := kid_rank (l := l) (x := x) (y := y) (by rw [hq]; simp)
  omega

attribute [local go_sem high] field_name in
set_option maxRecDepth 100000 in
set_option maxHeartbeats 3200000 in
theorem head_any (A : Option Addr) (c : Nat) (k : Cf) (L : Option Addr) (cl : Nat) (l : List Bk) (V : Option Addr) (cv : Nat) (v : List Vt) (w : World)
    (hl : l.length ≤ 1000000) (hv : v.length ≤ 100000) (hwl : WfL l) (hwv : WfVs v) (hA : CellsAt w w.heap.size A (intCells k.ws)) (hL : CellsAt w w.heap.size L (blockCells l)) (hV : CellsAt w w.heap.size V (votesCells v)) :
    Calls Tryz.prog 24 #[.agg #[.slice A k.ws.length c, .int .u64 k.seed, .int .i64 k.ep, .int .i64 k.nu, .int .i64 k.de], .slice L l.length cl, .slice V v.length cv] w fun e w' => e = .returned (.agg #[.int .u64 (headC k l v).1, .int .u64 (headC k l v).2]) ∧ Kept w w' := by
  have K0 := Lib.hid (((Kept.refl w).alloc (.cells #[.slice A k.ws.length c, .int .u64 k.seed, .int .i64 k.ep, .int .i64 k.nu, .int .i64 k.de] 25)).alloc (.cells #[.int .u64 0, .int .u64 0] 35))
  have HC := Lib.hid ((HasCells.new w #[.slice A k.ws.length c, .int .u64 k.seed, .int .i64 k.ep, .int .i64 k.nu, .int .i64 k.de] 25 w.heap.size rfl).alloc (.cells #[.int .u64 0, .int .u64 0] 35))
  have HR := Lib.hid (HasCells.new (w.alloc (.cells #[.slice A k.ws.length c, .int .u64 k.seed, .int .i64 k.ep, .int .i64 k.nu, .int .i64 k.de] 25)) #[.int .u64 0, .int .u64 0] 35 (w.heap.size + 1) (by simp))
  have HF := Lib.hid (show ∀ j, ((w.alloc (.cells #[.slice A k.ws.length c, .int .u64 k.seed, .int .i64 k.ep, .int .i64 k.nu, .int .i64 k.de] 25)).alloc (.cells #[.int .u64 0, .int .u64 0] 35)).frozen? ⟨w.heap.size + 1, j, none⟩ = false by intro j; simp [go_sem])
  have HA := Lib.hid (hA.kept K0.out)
  have HL := Lib.hid (hL.kept K0.out)
  have HV := Lib.hid (hV.kept K0.out)
  have HWL := Lib.hid hwl
  have HWV := Lib.hid hwv
  have HZY := Lib.hid (show w.heap.size ≤ w.heap.size + 1 by omega)
  clear hA hL hV hwl hwv
  go_enter Tryz.func24, Tryz.ntmps24
  go_wp2_with fail
  generalize (w.alloc (.cells #[.slice A k.ws.length c, .int .u64 k.seed, .int .i64 k.ep, .int .i64 k.nu, .int .i64 k.de] 25)).alloc (.cells #[.int .u64 0, .int .u64 0] 35) = W at *
  generalize w.heap.size + 1 = y at *
  generalize hze : w.heap.size = z at *
  have HZE := Lib.hid (Nat.le_of_eq hze)
  clear hze
  go_step3
  go_wp2_with fail
  refine (allKids_any L cl l hl HWL.out W HL.out).mono ?_
  rintro e W1 ⟨m, rfl, hM, k1⟩
  have K1 := Lib.hid (K0.out.trans k1)
  have HM := Lib.hid hM
  have HC1 := Lib.hid (HC.out.kept k1)
  have HR1 := Lib.hid (HR.out.kept k1)
  have HF1 := Lib.hid (fun j => (k1.frozen (p := ⟨y, j, none⟩) HR.out.1).trans (HF.out j))
  have HA1 := Lib.hid (HA.out.kept k1)
  have HL1 := Lib.hid (HL.out.kept k1)
  have HV1 := Lib.hid (HV.out.kept k1)
  clear k1 K0 HC HR HF HA HL HV hM
  have hmc : m.oneCell' = true := by
    rcases HM.out with ⟨rfl, _⟩ | ⟨b, n, B, rfl, _⟩ <;> rfl
  go_wp2_with fail
  go_step3
  go_wp2_with fail
  have HD0 := Lib.hid (Down.new W1)
  obtain ⟨b, hb⟩ : ∃ b, b = W1.heap.size := ⟨_, rfl⟩
  rw [← hb] at HD0 ⊢
  have HBl := Lib.hid (show W1.heap.size ≤ b by rw [hb]; exact Nat.le_refl _)
  generalize W1.alloc (.cells #[.int .u64 0, .int .u64 0] 35) = W2 at *
  clear hb
  go_loopw [9] (fun _ w' => ∃ cur : Id2, Down W1 b cur w' ∧ WfI cur ∧ headX k l v cur = headC k l v) (fun _ w' => l.length - rank l (curOf b w'))
  case atStart => exact ⟨zid, HD0.out, WfI.zid, rfl⟩
  case round =>
    obtain ⟨cur, hD, hcw, hH⟩ := hrel
    have HD := Lib.hid hD
    have HH := Lib.hid hH
    have HCu := Lib.hid (curOf_has hD.cells)
    clear hD hH HD0
    obtain ⟨Q, cq, hrun, hQ⟩ := KidsMap.look (HM.out.kept HD.out.kept) hcw
    have HQ := Lib.hid hQ
    have HNm := Lib.hid (kids_named l cur)
    have HQl := Lib.hid (Nat.le_trans (kidsC_le l cur) hl)
    obtain ⟨d0, d1⟩ := HD.out.cells.two
    have hbl := HD.out.cells.1
    have hf0 := HD.out.f0
    have hf1 := HD.out.f1
    clear hQ hcw
    generalize hq : kidsC l cur = q at *
    have HQE := Lib.hid hq
    clear hq
    rcases q with _ | ⟨y1, _ | ⟨y2, r⟩⟩
    · have HE := Lib.hid (HH.out.symm.trans (best_leaf HQE.out))
      obtain ⟨r0, r1⟩ := (HR1.out.kept HD.out.kept).two
      have hyl := (HR1.out.kept HD.out.kept).1
      have g0 := (HD.out.kept.frozen (p := ⟨y, 0, none⟩) HR1.out.1).trans (HF1.out 0)
      have g1 := (HD.out.kept.frozen (p := ⟨y, 1, none⟩) HR1.out.1).trans (HF1.out 1)
      simp only [List.length_nil] at hrun
      go_wp2_with fail
      rw [Exit.noGoto_ret]
      refine bodyPost_ret (v := .agg #[.int .u64 cur.1, .int .u64 cur.2]) (by simp [results, Tryz.results24, go_sem, r0, r1]) rfl ⟨by rw [HE.out], ?_⟩
      exact ((K1.out.trans HD.out.kept).setCell (p := ⟨y, 0, none⟩) (Nat.le_trans HZE.out HZY.out) _).setCell (p := ⟨y, 1, none⟩) (Nat.le_trans HZE.out HZY.out) _
    · have HE := Lib.hid (one_names (k := k) (v := v) HQE.out)
      obtain ⟨zn, ofn, rfl, hbn, n0, n1⟩ := id_at HQ.out (i := 0) (by simp)
      have HW1 := Lib.hid (HNm.out y1 (by simp)).1
      simp only [List.length_cons, List.length_nil, List.getElem_cons_zero] at hrun n0 n1
      simp only [Nat.zero_mul, Nat.add_zero, Nat.zero_add] at hrun n0 n1
      go_wp2_with fail
      go_roundw
      case rel => exact ⟨y1, HD.out.set HBl.out y1, HW1.out, HE.out.1.trans HH.out⟩
      case measure =>
        show l.length - rank l (curOf b _) < l.length - rank l (curOf b _)
        rw [curOf_has (HD.out.set HBl.out y1).cells, HCu.out]
        exact HE.out.2
    · have h2 : 2 ≤ (y1 :: y2 :: r).length := by simp
      have HE := Lib.hid (best_names (k := k) (v := v) HQE.out h2)
      generalize y1 :: y2 :: r = q at *
      have hq0 : ((q.length : Int) == 0) = false := by rw [beq_eq_false_iff_ne]; omega
      have hq1 : ((q.length : Int) == 1) = false := by rw [beq_eq_false_iff_ne]; omega
      have HWc := Lib.hid (cand_wf (g := onC k l v) HNm.out)
      have HB := Lib.hid (bestOf_any A c k L cl l V cv v Q cq q wr hl hv HWL.out HWV.out HQl.out HNm.out (HA1.out.kept HD.out.kept) (HL1.out.kept HD.out.kept) (HV1.out.kept HD.out.kept) HQ.out)
      generalize candOf (onC k l v) (bestTo (onC k l v) q) = cE at *
      obtain ⟨c0, c1, c2, c3, c4⟩ := (HC1.out.kept HD.out.kept).five
      have hzl := (HC1.out.kept HD.out.kept).1
      clear h2
      go_wp2_with fail
      refine HB.out.mono ?_
      rintro e W3 ⟨rfl, k3⟩
      have HD3 := Lib.hid (HD.out.keep k3)
      clear c0 c1 c2 c3 c4 d0 d1 hf0 hf1 k3 hrun hbl hzl
      obtain ⟨d0, d1⟩ := HD3.out.cells.two
      have hf0 := HD3.out.f0
      have hf1 := HD3.out.f1
      have hbl := HD3.out.cells.1
      go_wp2_with fail
      go_roundw
      case rel => exact ⟨cE.2, HD3.out.set HBl.out cE.2, HWc.out, HE.out.1.trans HH.out⟩
      case measure =>
        show l.length - rank l (curOf b _) < l.length - rank l (curOf b _)
        rw [curOf_has (HD3.out.set HBl.out cE.2).cells, HCu.out]
        exact HE.out.2

end Go.Proofs.YtlapcnfhnfkbmaaGreat
