/-
  The contract of package ghost's call Head.
  The chapter's example, which every law of layer 9 asks first: it is so; and few.
  The contracts of the given package marigoldref14.
  The contracts of package gold's calls.
-/
import Derived.WalkMore
import Derived.Test.YtpojiijgahcidaaGreatWeighG
import Derived.Test.YtpojiijgahcidaaGreatHeadRefG
import Derived.Test.YtpojiijgahcidaaGreatGround
import Derived.Test.YtpojiijgahcidaaGreatPlainG
import Derived.Test.YtpojiijgahcidaaGreatVoteRefG
import Derived.Test.YtpojiijgahcidaaGreatDutyRefG
import Derived.Test.YtpojiijgahcidaaGreatDutyG
import Derived.Test.YtpojiijgahcidaaGreatVoteG
import Derived.Test.YtpojiijgahcidaaGreatVoteOfG
namespace Go.Proofs.YtpojiijgahcidaaGreat
set_option maxRecDepth 100000
set_option linter.unusedVariables false
set_option linter.unusedSimpArgs false
section
set_option linter.unusedSimpArgs false
set_option linter.unusedVariables false
open Go.ChangeShapes Go.WideShapes Go.ChangeAt Go.RowKit

/-- A candidate's name. -/
theorem field_name (n : Int) (x : Id2) (w : World) : Sem.run Tryz.prog (Instr.field 102 (.agg #[.int .i64 n, .int .u64 x.1, .int .u64 x.2]) 1) w = .ok (.agg #[.int .u64 x.1, .int .u64 x.2]) w := by
  obtain ⟨i0, hi0, hz0, hz1, hz2⟩ := info_of Tryz.infoID
  simp [Instr.field, run_underlying Tryz.underlying102, run_underlying Tryz.underlying31, part, isAgg, sizeOf, typeInfo, hi0, hz1, asAgg, Result.andThen]
/-- The list at an id, looked up. -/
theorem KidsMap.look {f : Id2 → List Id2} {v : Value} {w : World} (h : KidsMap f v w) {x : Id2} (hx : WfI x) :
    ∃ A c, (Instr.lookup 99 v (.agg #[.int .u64 x.1, .int .u64 x.2]) false).run Tryz.prog w = .ok (.slice A (f x).length c) w ∧ CellsAt w w.heap.size A (idsCells (f x)) := by
  rcases h with ⟨rfl, hno⟩ | ⟨b, m, B, rfl, hG⟩
  · exact ⟨none, 0, by rw [hno x]; exact group_nil hx w, by rw [hno x]; exact CellsAt.nil⟩
  · obtain ⟨u, hrun, hat⟩ := group_look hG hx
    obtain ⟨A, c, rfl⟩ := hat.slice hx
    exact ⟨A, c, hrun, hat.cells hx⟩
theorem best_names {k : Cf} {l : List Bk} {v : List Vt} {x : Id2} {q : List Id2} (hq : kidsC l x = q) (h0 : 2 ≤ q.length) : headX k l v (candOf (onC k l v) (bestTo (onC k l v) q)).2 = headX k l v x ∧ l.length - rank l (candOf (onC k l v) (bestTo (onC k l v) q)).2 < l.length - rank l x := by
  have hne : q ≠ [] := fun e => by rw [e] at h0; simp at h0
  refine ⟨(best_step hq hne).symm, ?_⟩
  subst hq
  cases e : bestTo (onC k l v) (kidsC l x) with
  | none => exact absurd (bestTo_none e) hne
  | some y =>
    have := kid_rank (bestTo_mem e)
    show _ - rank l y < _
    omega
theorem one_names {k : Cf} {l : List Bk} {v : List Vt} {x y : Id2} (hq : kidsC l x = [y]) : headX k l v y = headX k l v x ∧ l.length - rank l y < l.length - rank l x := by
  refine ⟨(best_one hq).symm, ?_⟩
  have := kid_rank (l := l) (x := x) (y := y) (by rw [hq]; simp)
  omega

attribute [local go_sem high] field_name in
set_option maxRecDepth 100000 in
set_option maxHeartbeats 3200000 in
theorem head_any (A : Option Addr) (c : Nat) (k : Cf) (L : Option Addr) (cl : Nat) (l : List Bk) (V : Option Addr) (cv : Nat) (v : List Vt) (w : World)
    (hl : l.length ≤ 1000000) (hv : v.length ≤ 100000) (hwl : WfL l) (hwv : WfVs v) (hA : CellsAt w w.heap.size A (intCells k.ws)) (hL : CellsAt w w.heap.size L (blockCells l)) (hV : CellsAt w w.heap.size V (votesCells v)) :
    Calls Tryz.prog 39 #[.agg #[.slice A k.ws.length c, .int .u64 k.seed, .int .i64 k.ep, .int .i64 k.nu, .int .i64 k.de], .slice L l.length cl, .slice V v.length cv] w fun e w' => e = .returned (.agg #[.int .u64 (headC k l v).1, .int .u64 (headC k l v).2]) ∧ Kept w w' := by
  have K0 := Lib.hid (((Kept.refl w).alloc (.cells #[.slice A k.ws.length c, .int .u64 k.seed, .int .i64 k.ep, .int .i64 k.nu, .int .i64 k.de] 25)).alloc (.cells #[.int .u64 0, .int .u64 0] 31))
  have HC := Lib.hid ((HasCells.new w #[.slice A k.ws.length c, .int .u64 k.seed, .int .i64 k.ep, .int .i64 k.nu, .int .i64 k.de] 25 w.heap.size rfl).alloc (.cells #[.int .u64 0, .int .u64 0] 31))
  have HR := Lib.hid (HasCells.new (w.alloc (.cells #[.slice A k.ws.length c, .int .u64 k.seed, .int .i64 k.ep, .int .i64 k.nu, .int .i64 k.de] 25)) #[.int .u64 0, .int .u64 0] 31 (w.heap.size + 1) (by simp))
  have HF := Lib.hid (show ∀ j, ((w.alloc (.cells #[.slice A k.ws.length c, .int .u64 k.seed, .int .i64 k.ep, .int .i64 k.nu, .int .i64 k.de] 25)).alloc (.cells #[.int .u64 0, .int .u64 0] 31)).frozen? ⟨w.heap.size + 1, j, none⟩ = false by intro j; simp [go_sem])
  have HA := Lib.hid (hA.kept K0.out)
  have HL := Lib.hid (hL.kept K0.out)
  have HV := Lib.hid (hV.kept K0.out)
  have HWL := Lib.hid hwl
  have HWV := Lib.hid hwv
  have HZY := Lib.hid (show w.heap.size ≤ w.heap.size + 1 by omega)
  clear hA hL hV hwl hwv
  go_enter Tryz.func39, Tryz.ntmps39
  go_wp2_with fail
  generalize (w.alloc (.cells #[.slice A k.ws.length c, .int .u64 k.seed, .int .i64 k.ep, .int .i64 k.nu, .int .i64 k.de] 25)).alloc (.cells #[.int .u64 0, .int .u64 0] 31) = W at *
  generalize w.heap.size + 1 = y at *
  generalize hze : w.heap.size = z at *
  have HZE := Lib.hid (Nat.le_of_eq hze)
  clear hze
  go_step3
  go_wp2_with fail
  refine (allKids_any L cl l hl HWL.out W HL.out).mono ?_
  rintro e W1 ⟨m, rfl, hM, k1⟩
  have K1 := Lib.hid (K0.out.trans k1)
  have HM := Lib.hid hM
  have HC1 := Lib.hid (HC.out.kept k1)
  have HR1 := Lib.hid (HR.out.kept k1)
  have HF1 := Lib.hid (fun j => (k1.frozen (p := ⟨y, j, none⟩) HR.out.1).trans (HF.out j))
  have HA1 := Lib.hid (HA.out.kept k1)
  have HL1 := Lib.hid (HL.out.kept k1)
  have HV1 := Lib.hid (HV.out.kept k1)
  clear k1 K0 HC HR HF HA HL HV hM
  have hmc : m.oneCell' = true := by
    rcases HM.out with ⟨rfl, _⟩ | ⟨b, n, B, rfl, _⟩ <;> rfl
  go_wp2_with fail
  go_step3
  go_wp2_with fail
  have HD0 := Lib.hid (Down.new W1)
  obtain ⟨b, hb⟩ : ∃ b, b = W1.heap.size := ⟨_, rfl⟩
  rw [← hb] at HD0 ⊢
  have HBl := Lib.hid (show W1.heap.size ≤ b by rw [hb]; exact Nat.le_refl _)
  generalize W1.alloc (.cells #[.int .u64 0, .int .u64 0] 31) = W2 at *
  clear hb
  go_loopw [9] (fun _ w' => ∃ cur : Id2, Down W1 b cur w' ∧ WfI cur ∧ headX k l v cur = headC k l v) (fun _ w' => l.length - rank l (curOf b w'))
  case atStart => exact ⟨zid, HD0.out, WfI.zid, rfl⟩
  case round =>
    obtain ⟨cur, hD, hcw, hH⟩ := hrel
    have HD := Lib.hid hD
    have HH := Lib.hid hH
    have HCu := Lib.hid (curOf_has hD.cells)
    clear hD hH HD0
    obtain ⟨Q, cq, hrun, hQ⟩ := KidsMap.look (HM.out.kept HD.out.kept) hcw
    have HQ := Lib.hid hQ
    have HNm := Lib.hid (kids_named l cur)
    have HQl := Lib.hid (Nat.le_trans (kidsC_le l cur) hl)
    obtain ⟨d0, d1⟩ := HD.out.cells.two
    have hbl := HD.out.cells.1
    have hf0 := HD.out.f0
    have hf1 := HD.out.f1
    clear hQ hcw
    generalize hq : kidsC l cur = q at *
    have HQE := Lib.hid hq
    clear hq
    rcases q with _ | ⟨y1, _ | ⟨y2, r⟩⟩
    · have HE := Lib.hid (HH.out.symm.trans (best_leaf HQE.out))
      obtain ⟨r0, r1⟩ := (HR1.out.kept HD.out.kept).two
      have hyl := (HR1.out.kept HD.out.kept).1
      have g0 := (HD.out.kept.frozen (p := ⟨y, 0, none⟩) HR1.out.1).trans (HF1.out 0)
      have g1 := (HD.out.kept.frozen (p := ⟨y, 1, none⟩) HR1.out.1).trans (HF1.out 1)
      simp only [List.length_nil] at hrun
      go_wp2_with fail
      rw [Exit.noGoto_ret]
      refine bodyPost_ret (v := .agg #[.int .u64 cur.1, .int .u64 cur.2]) (by simp [results, Tryz.results39, go_sem, r0, r1]) rfl ⟨by rw [HE.out], ?_⟩
      exact ((K1.out.trans HD.out.kept).setCell (p := ⟨y, 0, none⟩) (Nat.le_trans HZE.out HZY.out) _).setCell (p := ⟨y, 1, none⟩) (Nat.le_trans HZE.out HZY.out) _
    · have HE := Lib.hid (one_names (k := k) (v := v) HQE.out)
      obtain ⟨zn, ofn, rfl, hbn, n0, n1⟩ := id_at HQ.out (i := 0) (by simp)
      have HW1 := Lib.hid (HNm.out y1 (by simp)).1
      simp only [List.length_cons, List.length_nil, List.getElem_cons_zero] at hrun n0 n1
      simp only [Nat.zero_mul, Nat.add_zero, Nat.zero_add] at hrun n0 n1
      go_wp2_with fail
      go_roundw
      case rel => exact ⟨y1, HD.out.set HBl.out y1, HW1.out, HE.out.1.trans HH.out⟩
      case measure =>
        show l.length - rank l (curOf b _) < l.length - rank l (curOf b _)
        rw [curOf_has (HD.out.set HBl.out y1).cells, HCu.out]
        exact HE.out.2
    · have h2 : 2 ≤ (y1 :: y2 :: r).length := by simp
      have HE := Lib.hid (best_names (k := k) (v := v) HQE.out h2)
      generalize y1 :: y2 :: r = q at *
      have hq0 : ((q.length : Int) == 0) = false := by rw [beq_eq_false_iff_ne]; omega
      have hq1 : ((q.length : Int) == 1) = false := by rw [beq_eq_false_iff_ne]; omega
      have HWc := Lib.hid (cand_wf (g := onC k l v) HNm.out)
      have HB := Lib.hid (bestOf_any A c k L cl l V cv v Q cq q wr hl hv HWL.out HWV.out HQl.out HNm.out (HA1.out.kept HD.out.kept) (HL1.out.kept HD.out.kept) (HV1.out.kept HD.out.kept) HQ.out)
      generalize candOf (onC k l v) (bestTo (onC k l v) q) = cE at *
      obtain ⟨c0, c1, c2, c3, c4⟩ := (HC1.out.kept HD.out.kept).five
      have hzl := (HC1.out.kept HD.out.kept).1
      clear h2
      go_wp2_with fail
      refine HB.out.mono ?_
      rintro e W3 ⟨rfl, k3⟩
      have HD3 := Lib.hid (HD.out.keep k3)
      clear c0 c1 c2 c3 c4 d0 d1 hf0 hf1 k3 hrun hbl hzl
      obtain ⟨d0, d1⟩ := HD3.out.cells.two
      have hf0 := HD3.out.f0
      have hf1 := HD3.out.f1
      have hbl := HD3.out.cells.1
      go_wp2_with fail
      go_roundw
      case rel => exact ⟨cE.2, HD3.out.set HBl.out cE.2, HWc.out, HE.out.1.trans HH.out⟩
      case measure =>
        show l.length - rank l (curOf b _) < l.length - rank l (curOf b _)
        rw [curOf_has (HD3.out.set HBl.out cE.2).cells, HCu.out]
        exact HE.out.2
end

section
set_option linter.unusedSimpArgs false
set_option linter.unusedVariables false
open Go.ChangeShapes Go.WideShapes Go.ChangeAt Go.RowKit

def kGe : Cf := ⟨[1], 0, 1, 0, 4⟩
def gA : Bk := ⟨1, 0, (0, 0), 0⟩
def gB : Bk := ⟨1, 0, (0, 0), 1⟩
theorem ex_less9 : lessN (nameB gB) (nameB gA) = true := by decide +kernel
theorem ex_apart9 : sameI (nameB gB) (nameB gA) = false := by decide +kernel
theorem ex_head1 : headC kGe [gA, gB] [] = nameB gA := by decide +kernel
theorem ex_head2 : headC kGe [gA, gB] [⟨0, 1, nameB gB⟩] = nameB gB := by decide +kernel
theorem ex_head3 : headC kGe [] [] = zid := by decide +kernel
theorem gA_wf : WfB gA := ⟨⟨by decide, by decide⟩, by decide⟩
theorem gB_wf : WfB gB := ⟨⟨by decide, by decide⟩, by decide⟩
theorem lG_wf : WfL [gA, gB] := fun b hb => by
  rcases List.mem_cons.1 hb with rfl | hb
  · exact gA_wf
  · rw [List.mem_singleton] at hb; subst hb; exact gB_wf
theorem vG_wf : WfVs [⟨0, 1, nameB gB⟩] := fun b hb => by
  rw [List.mem_singleton] at hb; subst hb; exact ⟨⟨by decide, by decide⟩, ⟨by decide, by decide⟩, nameB_lt gB⟩

/-! ### few -/
def few9C (k : Cf) (l : List Bk) (v : List Vt) : Bool := decide (k.ws.length ≤ 40 ∧ l.length ≤ 20 ∧ v.length ≤ 30)
theorem few9C_yes {k : Cf} {l : List Bk} {v : List Vt} (h : few9C k l v = true) : k.ws.length ≤ 40 ∧ l.length ≤ 20 ∧ v.length ≤ 30 := of_decide_eq_true h
set_option maxHeartbeats 800000 in
theorem few9_any (A : Option Addr) (c : Nat) (k : Cf) (L : Option Addr) (cl : Nat) (l : List Bk) (V : Option Addr) (cv : Nat) (v : List Vt) (w : World) :
    Calls Tryz.prog 11 #[.agg #[.slice A k.ws.length c, .int .u64 k.seed, .int .i64 k.ep, .int .i64 k.nu, .int .i64 k.de], .slice L l.length cl, .slice V v.length cv] w fun e w' => e = .returned (.bool (few9C k l v)) ∧ Kept w w' := by
  by_cases h1 : k.ws.length ≤ 40
  · by_cases h2 : l.length ≤ 20
    · by_cases h3 : v.length ≤ 30
      · have HF := Lib.hid (show few9C k l v = true from decide_eq_true ⟨h1, h2, h3⟩)
        go_enter Tryz.func11, Tryz.ntmps11
        go_wp2_with fail
        go_ret
        exact ⟨by rw [HF.out]; first | rfl | (simp; done) | (simp; omega), (Kept.refl w).alloc _⟩
      · have HF := Lib.hid (show few9C k l v = false from decide_eq_false (by omega))
        go_enter Tryz.func11, Tryz.ntmps11
        go_wp2_with fail
        go_ret
        exact ⟨by rw [HF.out]; first | rfl | (simp; done) | (simp; omega), (Kept.refl w).alloc _⟩
    · have HF := Lib.hid (show few9C k l v = false from decide_eq_false (by omega))
      go_enter Tryz.func11, Tryz.ntmps11
      go_wp2_with fail
      go_ret
      exact ⟨by rw [HF.out]; first | rfl | (simp; done) | (simp; omega), (Kept.refl w).alloc _⟩
  · have HF := Lib.hid (show few9C k l v = false from decide_eq_false (by omega))
    go_enter Tryz.func11, Tryz.ntmps11
    go_wp2_with fail
    go_ret
    exact ⟨by rw [HF.out]; first | rfl | (simp; done) | (simp; omega), (Kept.refl w).alloc _⟩
end

section
set_option linter.unusedSimpArgs false
set_option linter.unusedVariables false
open Go.ChangeShapes Go.WideShapes Go.ChangeAt Go.RowKit

/-- The votes of the committee that count, in a row. -/
def GoldNew (k : Cf) (slot : Int) (v : List Vt) (w : World) (e : Ending) (w' : World) : Prop := ∃ R A c, Golds k slot v R ∧ R.length ≤ v.length ∧ e = .returned (.slice A R.length c) ∧ CellsAt w' w'.heap.size A (votesCells R) ∧ Kept w w'
set_option maxRecDepth 100000 in
set_option maxHeartbeats 3200000 in
theorem refGoldOf_any (kA : Option Addr) (kc : Nat) (k : Cf) (vA : Option Addr) (vc : Nat) (v : List Vt) (slot : Int) (w : World)
    (hk : k.ws.length ≤ 1000) (hsd : k.seed < 18446744073709551616) (hv : v.length ≤ 10000) (hA : CellsAt w w.heap.size kA (intCells k.ws)) (hV : CellsAt w w.heap.size vA (votesCells v)) :
    Calls Tryz.prog 35 #[.agg #[.slice kA k.ws.length kc, .int .u64 k.seed, .int .i64 k.ep, .int .i64 k.nu, .int .i64 k.de], .slice vA v.length vc, .int .i64 slot] w (GoldNew k slot v w) := by
  go_enter Tryz.func35, Tryz.ntmps35
  go_wp2_with fail
  have K0 := Lib.hid ((Kept.refl w).alloc (.cells #[.slice kA k.ws.length kc, .int .u64 k.seed, .int .i64 k.ep, .int .i64 k.nu, .int .i64 k.de] 25))
  have HA := Lib.hid (hA.kept K0.out)
  clear hA
  have HV := Lib.hid (hV.kept K0.out)
  clear hV
  have HB0 := Lib.hid (HasCells.new w #[.slice kA k.ws.length kc, .int .u64 k.seed, .int .i64 k.ep, .int .i64 k.nu, .int .i64 k.de] 25 (w.heap.size) (by simp))
  generalize (w.alloc (.cells #[.slice kA k.ws.length kc, .int .u64 k.seed, .int .i64 k.ep, .int .i64 k.nu, .int .i64 k.de] 25)) = W0 at *
  generalize w.heap.size = z0 at *
  have KB0 := Lib.hid (Kept.refl W0)
  refine (refOfV_any vA vc v (by omega) slot W0 (HV.out.kept KB0.out)).mono ?_
  rintro e W1 ⟨al, hR, hRl, A1, c1, rfl, hC1, k⟩
  have KB1 := Lib.hid (KB0.out.trans k)
  clear k
  replace HA := Lib.hid (HA.out.kept KB1.out)
  replace HV := Lib.hid (HV.out.kept KB1.out)
  replace HB0 := Lib.hid (HB0.out.kept KB1.out)
  replace K0 := Lib.hid (K0.out.trans KB1.out)
  have KB2 := Lib.hid (Kept.refl W1)
  have HR := Lib.hid hC1
  clear hC1
  have HCn := Lib.hid hR
  clear hR
  obtain ⟨b00, b01, b02, b03, b04⟩ := (HB0.out.kept KB2.out).five
  have bz0 := (HB0.out.kept KB2.out).1
  go_wp2_with fail
  clear b00 b01 b02 b03 b04 bz0
  refine (refComm_any kA kc k slot W1 hk (HA.out.kept KB2.out) hsd).mono ?_
  rintro e W3 ⟨A2, c2, rfl, hC2, k⟩
  have KB3 := Lib.hid (KB2.out.trans k)
  clear k
  replace HA := Lib.hid (HA.out.kept KB3.out)
  replace HV := Lib.hid (HV.out.kept KB3.out)
  replace HR := Lib.hid (HR.out.kept KB3.out)
  replace HB0 := Lib.hid (HB0.out.kept KB3.out)
  replace K0 := Lib.hid (K0.out.trans KB3.out)
  have KB4 := Lib.hid (Kept.refl W3)
  have HCm := Lib.hid hC2
  clear hC2
  have HLn := Lib.hid (comm_len k slot)
  have HHi := Lib.hid (fun x => inC_has k slot x)
  generalize commC k slot = cm at *
  go_wp2_with fail
  go_loopw [7, 10] (fun u i w' => ∃ (j : Nat) (B : Option Addr) (d : Nat), j ≤ al.length ∧ i = .int .i64 j ∧ u = .slice B (goldL k slot (al.take j)).length d ∧ Vts W3 (goldL k slot (al.take j)) (.slice B (goldL k slot (al.take j)).length d) w') (fun _ i _ => al.length - (intOf i).toNat)
  case atStart => exact ⟨0, none, 0, by omega, rfl, rfl, Vts.nil _⟩
  case round =>
    obtain ⟨j, B, d, hj, rfl, rfl, hI⟩ := hrel
    have HI := Lib.hid hI
    clear hI
    have KB5 := Lib.hid (KB4.out.trans HI.out.2)
    by_cases hlt : j < al.length
    · obtain ⟨z, o, rfl, hb, x0, x1, x2, x3⟩ := vote_at (HR.out.kept KB5.out) hlt
      have HHit := Lib.hid (fun h => goldL_hit (k := k) (slot := slot) hlt h)
      have HMis := Lib.hid (fun h => goldL_miss (k := k) (slot := slot) hlt h)
      have HLe := Lib.hid (Nat.le_trans (goldL_le k slot (al.take j)) (List.length_take_le j al))
      generalize goldL k slot (al.take j) = O at *
      generalize al[j] = x at *
      go_wp2_with fail
      refine (refHas_any A2 c2 cm x.f wr HLn.out (HCm.out.kept KB5.out)).mono ?_
      rintro e V1 ⟨rfl, rfl⟩
      rw [HHi.out x.f]
      cases hin : inC k slot x.f with
      | true =>
        have HN := Lib.hid (HHit.out hin)
        have hol : O.length + 1 ≤ 10000000 := by have := HLe.out; omega
        clear HHit HMis
        go_wp2_with (refine wpList_vts _ rfl _ _ rfl W3 O _ (by rfl) (HI.out.alloc _) _ _ 1 1 [x] (by rfl) (by rfl) (votes_one_at (HasCells.new _ _ _ _ rfl)) hol ?_; intro v3 w3 HR3 _)
        obtain ⟨A3, c3, rfl⟩ := HR3.slice
        have HI3 := Lib.hid HR3
        clear HR3
        go_roundw
        case rel => exact ⟨j + 1, A3, c3, by omega, by go_num, by first | (rw [HN.out]; done) | (rw [HN.out]; simp; done), by rw [HN.out]; exact HI3.out⟩
        case measure => simp [intOf]; omega
      | false =>
        have HN := Lib.hid (HMis.out hin)
        clear HHit HMis
        go_wp2_with fail
        go_roundw
        case rel => exact ⟨j + 1, B, d, by omega, by go_num, by rw [HN.out], by rw [HN.out]; exact HI.out⟩
        case measure => simp [intOf]; omega
    · have hjl : j = al.length := by omega
      subst hjl
      rw [List.take_length] at HI ⊢
      have HG := Lib.hid (golds_of (k := k) HCn.out)
      have HGl := Lib.hid (Nat.le_trans (goldL_le k slot al) hRl)
      go_wp2_with fail
      go_ret
      exact ⟨goldL k slot al, B, d, HG.out, HGl.out, rfl, CellsAt.of_own HI.out.1, K0.out.trans KB5.out⟩
end

section
set_option linter.unusedSimpArgs false
set_option linter.unusedVariables false
open Go.ChangeShapes Go.WideShapes Go.ChangeAt Go.RowKit

set_option maxRecDepth 100000 in
set_option maxHeartbeats 3200000 in
theorem casts_any (kA : Option Addr) (kc : Nat) (k : Cf) (slot : Int) (x : Vt) (w : World) (hsd : k.seed < 18446744073709551616) (hA : CellsAt w w.heap.size kA (intCells k.ws)) :
    Calls Tryz.prog 43 #[.agg #[.slice kA k.ws.length kc, .int .u64 k.seed, .int .i64 k.ep, .int .i64 k.nu, .int .i64 k.de, .int .i64 slot], .agg #[.int .i64 x.f, .int .i64 x.s, .int .u64 x.p.1, .int .u64 x.p.2]] w fun e w' => e = .returned (.bool (inC k slot x.f)) ∧ Kept w w' := by
  have K0 := Lib.hid (((Kept.refl w).alloc (.cells #[.slice kA k.ws.length kc, .int .u64 k.seed, .int .i64 k.ep, .int .i64 k.nu, .int .i64 k.de, .int .i64 slot] 79)).alloc (.cells #[.int .i64 x.f, .int .i64 x.s, .int .u64 x.p.1, .int .u64 x.p.2] 47))
  have HA := Lib.hid (hA.kept K0.out)
  clear hA
  go_enter Tryz.func43, Tryz.ntmps43
  go_wp2_with fail
  refine (in_any kA kc k slot x.f _ HA.out hsd).mono ?_
  rintro e W1 ⟨rfl, k1⟩
  have K1 := Lib.hid (K0.out.trans k1)
  go_wp2_with fail
  go_ret
  exact ⟨rfl, K1.out⟩

/-- A function value, its bound argument ahead, that tells whether q of a vote. -/
def FitsB (f : Nat) (bd : Value) (q : Vt → Bool) (w : World) : Prop := ∀ W, Kept w W → ∀ x, WfV x → Calls Tryz.prog f #[bd, .agg #[.int .i64 x.f, .int .i64 x.s, .int .u64 x.p.1, .int .u64 x.p.2]] W fun e w' => e = .returned (.bool (q x)) ∧ Kept W w'
set_option maxRecDepth 100000 in
set_option maxHeartbeats 3200000 in
theorem cut_any (Wb : World) (A : Option Addr) (c : Nat) (R : List Vt) (hR : R.length ≤ 1000000) (hwf : WfVs R) (f : Nat) (bd : Value) (q : Vt → Bool) (w : World) (hF : FitsB f bd q Wb) (hC : Vts Wb R (.slice A R.length c) w)
    (eg : ∀ args w, (callFunc f args).run Tryz.prog w = .ok (.enter f args) w) :
    Calls Tryz.prog 44 #[.slice A R.length c, .func (.func f) #[bd] #[]] w fun e w' => e = .returned (.slice A (R.filter q).length (R.filter q).length) ∧ CellsAt w' w'.heap.size A (votesCells (R.filter q)) ∧ Kept Wb w' := by
  have HF := Lib.hid hF
  have HC := Lib.hid hC
  have HWf := Lib.hid hwf
  have HS := Lib.hid (CutI.start q R)
  clear hF hC hwf
  go_enter Tryz.func44, Tryz.ntmps44
  go_wp2_with fail
  go_loopw [5, 10] (fun s5 s10 wr => ∃ (i j : Nat) (S : List Vt), s5 = .int .i64 i ∧ s10 = .int .i64 j ∧ j ≤ R.length ∧ Hid (CutI q R i j S) ∧ Vts Wb S (.slice A R.length c) wr) (fun _ s10 _ => R.length - (intOf s10).toNat)
  case atStart => exact ⟨0, 0, R, by go_num, by go_num, Nat.zero_le _, HS, HC.out⟩
  case round =>
    obtain ⟨i, j, S, rfl, rfl, hj, HI, hC⟩ := hrel
    have HC := Lib.hid hC
    clear hC HS
    have hSl := Lib.hid HI.out.len
    have hij := HI.out.ij
    have hcap := HC.out.cap
    by_cases hlt : j < R.length
    · obtain ⟨hjS, eS⟩ := HI.out.at hlt
      obtain ⟨g, rfl, hge, hgl⟩ := HC.out.form (by rw [hSl.out]; omega)
      obtain ⟨x0, x1, x2, x3⟩ := HC.out.at hjS
      rw [eS] at x0 x1 x2 x3
      clear eS
      have HX := Lib.hid (HWf.out _ (List.getElem_mem hlt))
      have HSk := Lib.hid (fun h : q R[j] = false => HI.out.skip hlt h)
      have HKp := Lib.hid (fun h : q R[j] = true => HI.out.keep hlt h)
      generalize R[j] = x at *
      have K0 := Lib.hid ((Kept.refl wr).alloc (.cells #[.int .i64 x.f, .int .i64 x.s, .int .u64 x.p.1, .int .u64 x.p.2] 47))
      have HB := Lib.hid (HasCells.new wr #[.int .i64 x.f, .int .i64 x.s, .int .u64 x.p.1, .int .u64 x.p.2] 47 wr.heap.size rfl)
      clear HI
      go_wp2_with fail
      clear x0 x1 x2 x3
      refine (HF.out (wr.alloc (.cells #[.int .i64 x.f, .int .i64 x.s, .int .u64 x.p.1, .int .u64 x.p.2] 47)) (HC.out.2.trans K0.out) x HX.out).mono ?_
      rintro e W2 ⟨rfl, k1⟩
      have HC2 := Lib.hid ((HC.out.kept K0.out).kept k1)
      obtain ⟨b0, b1, b2, b3⟩ := (HB.out.kept k1).four
      have hb := (HB.out.kept k1).1
      clear k1 HB HC K0
      cases hq : q x with
      | false =>
        have HE := Lib.hid (HSk.out hq)
        clear hq HSk HKp
        go_wp2_with fail
        go_roundw
        case rel => exact ⟨i, j + 1, S, by go_num, by go_num, by omega, HE, HC2.out⟩
        case measure => simp [intOf]; omega
      | true =>
        have HE := Lib.hid (HKp.out hq)
        clear hq HSk HKp
        have hiS : i < S.length := by rw [hSl.out]; omega
        obtain ⟨y0, y1, y2, y3⟩ := HC2.out.at hiS
        have f0 := HC2.out.frozen (i * 4)
        have f1 := HC2.out.frozen (i * 4 + 1)
        have f2 := HC2.out.frozen (i * 4 + 2)
        have f3 := HC2.out.frozen (i * 4 + 3)
        have HC3 := Lib.hid (HC2.out.put hiS x)
        clear HC2
        go_wp2_with fail
        go_roundw
        case rel => exact ⟨i + 1, j + 1, S.set i x, by go_num, by go_num, by omega, HE, HC3.out⟩
        case measure => simp [intOf]; omega
    · have hjx : j = R.length := by omega
      subst hjx
      have eh := HI.out.head
      rw [List.take_length] at eh
      have hfl : (R.filter q).length = i := by rw [← eh, List.length_take, hSl.out]; omega
      have hupto := fun w' => upto3_votes A R.length c i (by omega) w'
      have HEnd := Lib.hid (show CellsAt wr wr.heap.size A (votesCells (R.filter q)) from by
        rw [← eh]
        exact cells_votes_take (HC.out.cells hSl.out.symm) i)
      have HEq := Lib.hid hfl
      clear eh hfl
      go_wp2_with fail
      go_ret
      exact ⟨by rw [HEq.out]; rfl, HEnd.out, HC.out.2⟩

set_option maxRecDepth 100000 in
set_option maxHeartbeats 3200000 in
theorem goldOf_any (kA : Option Addr) (kc : Nat) (k : Cf) (vA : Option Addr) (vc : Nat) (v : List Vt) (slot : Int) (w : World)
    (hk : k.ws.length ≤ 1000) (hsd : k.seed < 18446744073709551616) (hv : v.length ≤ 10000) (hwv : WfVs v) (hA : CellsAt w w.heap.size kA (intCells k.ws)) (hV : CellsAt w w.heap.size vA (votesCells v)) :
    Calls Tryz.prog 23 #[.agg #[.slice kA k.ws.length kc, .int .u64 k.seed, .int .i64 k.ep, .int .i64 k.nu, .int .i64 k.de], .slice vA v.length vc, .int .i64 slot] w (GoldNew k slot v w) := by
  have eg : ∀ args w, (callFunc 43 args).run Tryz.prog w = .ok (.enter 43 args) w := enters_of Tryz.func43 (by kernel_rfl) rfl
  have K0 := Lib.hid ((Kept.refl w).alloc (.cells #[.slice kA k.ws.length kc, .int .u64 k.seed, .int .i64 k.ep, .int .i64 k.nu, .int .i64 k.de] 25))
  have HA := Lib.hid (hA.kept K0.out)
  have HV := Lib.hid (hV.kept K0.out)
  have HW := Lib.hid hwv
  clear hA hV hwv
  go_enter Tryz.func23, Tryz.ntmps23
  go_wp2_with fail
  generalize w.alloc (.cells #[.slice kA k.ws.length kc, .int .u64 k.seed, .int .i64 k.ep, .int .i64 k.nu, .int .i64 k.de] 25) = W0 at *
  refine (ofVOwn_any vA vc v (by omega) HW.out slot W0 HV.out).mono ?_
  rintro e W1 ⟨R, hR, hRl, A1, c1, rfl, hC1⟩
  have HR := Lib.hid hR
  have HC := Lib.hid hC1
  have HRl := Lib.hid hRl
  clear hR hC1 hRl
  go_wp2_with fail
  have HFit := Lib.hid (show FitsB 43 (.agg #[.slice kA k.ws.length kc, .int .u64 k.seed, .int .i64 k.ep, .int .i64 k.nu, .int .i64 k.de, .int .i64 slot]) (fun x => inC k slot x.f) W0 from fun W hW x hx => casts_any kA kc k slot x W hsd (HA.out.kept hW))
  have HW1 := Lib.hid (show WfVs R from fun a ha => HW.out a (cnts_mem HR.out a ha))
  have hR6 : R.length ≤ 1000000 := by have := HRl.out; omega
  have HG := Lib.hid (golds_of (k := k) HR.out)
  have HGl := Lib.hid (Nat.le_trans (goldL_le k slot R) HRl.out)
  refine (cut_any W0 A1 c1 R hR6 HW1.out _ _ (fun x => inC k slot x.f) W1 HFit.out HC.out eg).mono ?_
  rintro e W2 ⟨rfl, hC2, k2⟩
  have HE := Lib.hid (show GoldNew k slot v w (.returned (.slice A1 (goldL k slot R).length (goldL k slot R).length)) W2 from ⟨goldL k slot R, A1, _, HG.out, HGl.out, rfl, hC2, K0.out.trans k2⟩)
  clear hC2 k2
  change Hid (GoldNew k slot v w (.returned (.slice A1 (R.filter fun x => inC k slot x.f).length (R.filter fun x => inC k slot x.f).length)) W2) at HE
  go_wp2_with fail
  go_ret
  exact HE.out

set_option maxRecDepth 100000 in
set_option maxHeartbeats 3200000 in
theorem goldHead_any (kA : Option Addr) (kc : Nat) (k : Cf) (lA : Option Addr) (lc : Nat) (l : List Bk) (vA : Option Addr) (vc : Nat) (v : List Vt) (slot : Int) (w : World)
    (hk : k.ws.length ≤ 1000) (hsd : k.seed < 18446744073709551616) (hl : l.length ≤ 10000) (hv : v.length ≤ 10000) (hwl : WfL l) (hwv : WfVs v) (hA : CellsAt w w.heap.size kA (intCells k.ws)) (hL : CellsAt w w.heap.size lA (blockCells l)) (hV : CellsAt w w.heap.size vA (votesCells v)) :
    Calls Tryz.prog 20 #[.agg #[.slice kA k.ws.length kc, .int .u64 k.seed, .int .i64 k.ep, .int .i64 k.nu, .int .i64 k.de], .agg #[.slice lA l.length lc, .slice vA v.length vc], .int .i64 slot] w fun e w' => ∃ R, Golds k slot v R ∧ e = .returned (.agg #[.int .u64 (headC k l R).1, .int .u64 (headC k l R).2]) ∧ Kept w w' := by
  have HWv := Lib.hid hwv
  clear hwv
  have KA0 := Lib.hid (((Kept.refl w).alloc (.cells #[.slice kA k.ws.length kc, .int .u64 k.seed, .int .i64 k.ep, .int .i64 k.nu, .int .i64 k.de] 25)).alloc (.cells #[.slice lA l.length lc, .slice vA v.length vc] 29))
  have HC := Lib.hid ((HasCells.new w #[.slice kA k.ws.length kc, .int .u64 k.seed, .int .i64 k.ep, .int .i64 k.nu, .int .i64 k.de] 25 w.heap.size rfl).alloc (.cells #[.slice lA l.length lc, .slice vA v.length vc] 29))
  have HW := Lib.hid (HasCells.new (w.alloc (.cells #[.slice kA k.ws.length kc, .int .u64 k.seed, .int .i64 k.ep, .int .i64 k.nu, .int .i64 k.de] 25)) #[.slice lA l.length lc, .slice vA v.length vc] 29 (w.heap.size + 1) (by simp))
  have HA := Lib.hid (hA.kept KA0.out)
  have HL := Lib.hid (hL.kept KA0.out)
  have HV := Lib.hid (hV.kept KA0.out)
  clear hA hL hV
  have HZ := Lib.hid (show AtI (((w.alloc (.cells #[.slice kA k.ws.length kc, .int .u64 k.seed, .int .i64 k.ep, .int .i64 k.nu, .int .i64 k.de] 25)).alloc (.cells #[.slice lA l.length lc, .slice vA v.length vc] 29)).alloc (.cells #[.int .u64 0, .int .u64 0] 31)) (w.heap.size + 1 + 1) zid from AtI.new _ zid _ (by simp))
  have HSz := Lib.hid (show ((w.alloc (.cells #[.slice kA k.ws.length kc, .int .u64 k.seed, .int .i64 k.ep, .int .i64 k.nu, .int .i64 k.de] 25)).alloc (.cells #[.slice lA l.length lc, .slice vA v.length vc] 29)).heap.size ≤ w.heap.size + 1 + 1 by simp)
  go_enter Tryz.func20, Tryz.ntmps20
  go_wp2_with fail
  generalize ((w.alloc (.cells #[.slice kA k.ws.length kc, .int .u64 k.seed, .int .i64 k.ep, .int .i64 k.nu, .int .i64 k.de] 25)).alloc (.cells #[.slice lA l.length lc, .slice vA v.length vc] 29)) = Wa at *
  generalize w.heap.size + 1 + 1 = z2 at *
  generalize w.heap.size + 1 = z1 at *
  generalize w.heap.size = z0 at *
  obtain ⟨c0, c1_, c2, c3, c4⟩ := HC.out.five
  obtain ⟨v0, v1⟩ := HW.out.two
  have hbc := HC.out.1
  have hbv := HW.out.1
  refine wp_region_noPanic ?_
  refine wp_region_held_drew (S := (fun w' => w'.cell? ⟨z0, 0, none⟩ = some (.slice kA k.ws.length kc) ∧ w'.cell? ⟨z0, 1, none⟩ = some (.int .u64 k.seed) ∧ w'.cell? ⟨z0, 2, none⟩ = some (.int .i64 k.ep) ∧ w'.cell? ⟨z0, 3, none⟩ = some (.int .i64 k.nu) ∧ w'.cell? ⟨z0, 4, none⟩ = some (.int .i64 k.de) ∧ w'.cell? ⟨z1, 0, none⟩ = some (.slice lA l.length lc) ∧ w'.cell? ⟨z1, 1, none⟩ = some (.slice vA v.length vc) ∧ Kept Wa w')) (by kernel_rfl) ?_ (fun hHeld => ?_)
  · exact keepP7 hbc hbc hbc hbc hbc hbv hbv ⟨c0, c1_, c2, c3, c4, v0, v1, Kept.refl _⟩ (((Kept.refl _).alloc _).drew)
  refine wpAnyH_take (i := 0) (v := ?_) (by simp only [List.getElem?_toArray, List.getElem?_cons_succ, List.getElem?_cons_zero]; rfl) (by kernel_rfl) (by kernel_rfl) (by kernel_rfl) (fun _ _ _ h => h) (Or.inl ⟨by rfl, ?_⟩) (by assumption) ?_
  rotate_left
  · intro w hSw
    (try dsimp only at hSw)
    go_simp
    (try with_reducible rfl)
  simp only [Act.put, List.setIfInBounds_toArray, List.set_cons_zero, List.set_cons_succ]
  refine wpAnyH_take (i := 1) (v := ?_) (by simp only [List.getElem?_toArray, List.getElem?_cons_succ, List.getElem?_cons_zero]; rfl) (by kernel_rfl) (by kernel_rfl) (by kernel_rfl) (fun _ _ _ h => h) (Or.inl ⟨by rfl, ?_⟩) (by assumption) ?_
  rotate_left
  · intro w hSw
    (try dsimp only at hSw)
    go_simp
    (try with_reducible rfl)
  simp only [Act.put, List.setIfInBounds_toArray, List.set_cons_zero, List.set_cons_succ]
  refine wpAnyH_take (i := 2) (v := ?_) (by simp only [List.getElem?_toArray, List.getElem?_cons_succ, List.getElem?_cons_zero]; rfl) (by kernel_rfl) (by kernel_rfl) (by kernel_rfl) (fun _ _ _ h => h) (Or.inl ⟨by rfl, ?_⟩) (by assumption) ?_
  rotate_left
  · intro w hSw
    (try dsimp only at hSw)
    go_simp
    (try with_reducible rfl)
  simp only [Act.put, List.setIfInBounds_toArray, List.set_cons_zero, List.set_cons_succ]
  refine wpAnyH_take (i := 3) (v := ?_) (by simp only [List.getElem?_toArray, List.getElem?_cons_succ, List.getElem?_cons_zero]; rfl) (by kernel_rfl) (by kernel_rfl) (by kernel_rfl) (fun _ _ _ h => h) (Or.inl ⟨by rfl, ?_⟩) (by assumption) ?_
  rotate_left
  · intro w hSw
    (try dsimp only at hSw)
    go_simp
    (try with_reducible rfl)
  simp only [Act.put, List.setIfInBounds_toArray, List.set_cons_zero, List.set_cons_succ]
  refine wpAnyH_take (i := 4) (v := ?_) (by simp only [List.getElem?_toArray, List.getElem?_cons_succ, List.getElem?_cons_zero]; rfl) (by kernel_rfl) (by kernel_rfl) (by kernel_rfl) (fun _ _ _ h => h) (Or.inl ⟨by rfl, ?_⟩) (by assumption) ?_
  rotate_left
  · intro w hSw
    (try dsimp only at hSw)
    go_simp
    (try with_reducible rfl)
  simp only [Act.put, List.setIfInBounds_toArray, List.set_cons_zero, List.set_cons_succ]
  refine wpAnyH_take (i := 5) (v := ?_) (by simp only [List.getElem?_toArray, List.getElem?_cons_succ, List.getElem?_cons_zero]; rfl) (by kernel_rfl) (by kernel_rfl) (by kernel_rfl) (fun _ _ _ h => h) (Or.inl ⟨by rfl, ?_⟩) (by assumption) ?_
  rotate_left
  · intro w hSw
    (try dsimp only at hSw)
    go_simp
    (try with_reducible rfl)
  simp only [Act.put, List.setIfInBounds_toArray, List.set_cons_zero, List.set_cons_succ]
  refine wpAnyH_take (i := 6) (v := ?_) (by simp only [List.getElem?_toArray, List.getElem?_cons_succ, List.getElem?_cons_zero]; rfl) (by kernel_rfl) (by kernel_rfl) (by kernel_rfl) (fun _ _ _ h => h) (Or.inl ⟨by rfl, ?_⟩) (by assumption) ?_
  rotate_left
  · intro w hSw
    (try dsimp only at hSw)
    go_simp
    (try with_reducible rfl)
  simp only [Act.put, List.setIfInBounds_toArray, List.set_cons_zero, List.set_cons_succ]
  refine wpAnyH_ready (rs := [7]) (by kernel_rfl) (by simp) ?_
  refine AllReadyH.cons (by simp only [List.getElem?_toArray, List.getElem?_cons_succ, List.getElem?_cons_zero]; rfl) (fun K hK => ?_) AllReadyH.nil
  go_simp
  go_at_call 23; with_reducible refine (goldOf_any kA kc k vA vc v slot _ hk hsd hv HWv.out (HA.out.kept hHeld.2.2.2.2.2.2.2) (HV.out.kept hHeld.2.2.2.2.2.2.2)).mono ?_
  rintro e w1 ⟨R, A1, c1, hR, hRl, rfl, hC1, kk⟩
  have HWR := Lib.hid (show WfVs R from fun a ha => HWv.out a (golds_mem hR a ha))
  have k1 := kk
  try go_wp2_with fail
  refine hK.out _ _ ?_ (fun hHeld2 => ?_)
  · (first | exact keepP7 hbc hbc hbc hbc hbc hbv hbv ⟨c0, c1_, c2, c3, c4, v0, v1, Kept.refl _⟩ kk | exact keepP7 hbc hbc hbc hbc hbc hbv hbv hHeld kk)
  clear hK K hHeld
  have hHeld := hHeld2
  clear hHeld2
  try simp only [Act.put, List.setIfInBounds_toArray, List.set_cons_zero, List.set_cons_succ]
  refine wpAnyH_ready (rs := [8]) (by kernel_rfl) (by simp) ?_
  refine AllReadyH.cons (by simp only [List.getElem?_toArray, List.getElem?_cons_succ, List.getElem?_cons_zero]; rfl) (fun K hK => ?_) AllReadyH.nil
  go_simp
  go_at_call 39; with_reducible refine (head_any kA kc k lA lc l A1 c1 R _ (by omega) (by omega) hwl HWR.out (HA.out.kept hHeld.2.2.2.2.2.2.2) (HL.out.kept hHeld.2.2.2.2.2.2.2) hC1).mono ?_
  rintro e w2 ⟨rfl, kk⟩
  have k2 := kk
  have hKw2 := (hHeld.2.2.2.2.2.2.2).trans kk
  obtain ⟨h, hh⟩ : ∃ h, h = headC k l R := ⟨_, rfl⟩
  rw [← hh]
  have HEh := Lib.hid hh
  clear hh
  try go_wp2_with fail
  refine hK.out _ _ ?_ (fun hHeld2 => ?_)
  · (first | exact keepP7 hbc hbc hbc hbc hbc hbv hbv ⟨c0, c1_, c2, c3, c4, v0, v1, Kept.refl _⟩ kk | exact keepP7 hbc hbc hbc hbc hbc hbv hbv hHeld kk)
  clear hK K hHeld
  have hHeld := hHeld2
  clear hHeld2
  try simp only [Act.put, List.setIfInBounds_toArray, List.set_cons_zero, List.set_cons_succ]
  refine wpAnyH_ready (rs := [9]) (by kernel_rfl) (by simp) ?_
  refine AllReadyH.cons (by simp only [List.getElem?_toArray, List.getElem?_cons_succ, List.getElem?_cons_zero]; rfl) (fun K hK => ?_) AllReadyH.nil
  have HZ3 := Lib.hid (((HZ.out.kept (Kept.refl _).drew).kept k1).kept k2)
  have r0 := HZ3.out.c0
  have r1 := HZ3.out.c1
  have hbr := HZ3.out.lt
  have f0 := HZ3.out.fr 0
  have f1 := HZ3.out.fr 1
  have kk := ((hKw2.setCell (p := ⟨z2, 0, none⟩) HSz.out (.int .u64 h.1)).setCell (p := ⟨z2, 1, none⟩) HSz.out (.int .u64 h.2))
  go_simp
  try go_wp2_with fail
  refine hK.out _ _ ?_ (fun hHeld2 => ?_)
  · (first | exact keepP7 hbc hbc hbc hbc hbc hbv hbv ⟨c0, c1_, c2, c3, c4, v0, v1, Kept.refl _⟩ kk | exact keepP7 hbc hbc hbc hbc hbc hbv hbv hHeld kk)
  clear hK K hHeld
  have hHeld := hHeld2
  clear hHeld2
  try simp only [Act.put, List.setIfInBounds_toArray, List.set_cons_zero, List.set_cons_succ]
  refine wpAnyH_done (by kernel_rfl) ?_ _
  refine NoPanic.normal ?_
  go_wp2_with fail
  refine bodyPost_ret (v := .agg #[.int .u64 h.1, .int .u64 h.2]) (by simp [results, Tryz.results20, go_sem, r0, r1]) rfl ⟨R, hR, by rw [← HEh.out], ?_⟩
  exact KA0.out.trans kk
end

end Go.Proofs.YtpojiijgahcidaaGreat
