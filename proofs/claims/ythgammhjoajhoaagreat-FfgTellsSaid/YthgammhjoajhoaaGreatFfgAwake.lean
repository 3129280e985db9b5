/-
  The chapter's example, which every law of layer 11 asks first: it is so; and few.
-/
import Derived.Test.YthgammhjoajhoaaGreatFfgFinals
import Derived.Test.YthgammhjoajhoaaGreatFfgOpen
import Derived.Test.YthgammhjoajhoaaGreatFfgTop
import Derived.Test.YthgammhjoajhoaaGreatFfgFin
import Derived.Test.YthgammhjoajhoaaGreatKeepT
import Derived.Test.YthgammhjoajhoaaGreatTreeG
namespace Go.Proofs.YthgammhjoajhoaaGreat
set_option maxRecDepth 100000
set_option linter.unusedVariables false
set_option linter.unusedSimpArgs false
set_option linter.unusedSimpArgs false
set_option linter.unusedVariables false
open Go.ChangeShapes Go.WideShapes Go.ChangeAt Go.RowKit

def kF : Cf := ⟨[1, 1, 1], 0, 1, 0, 4⟩
def bF : Bk := ⟨1, 0, (0, 0), 0⟩
def cF : Ck := ⟨1, nameB bF⟩
def vF : List Lk := [⟨0, firstK, cF⟩, ⟨2, firstK, cF⟩]
theorem exF_conf : mayC kF = true := by decide
theorem exF_tree : mayB [bF] = true := by decide +kernel
theorem exF_fine : ∀ x ∈ vF, mayL kF [bF] x = true := by
  intro x hx
  rcases List.mem_cons.1 hx with rfl | hx
  · decide +kernel
  · rw [List.mem_singleton] at hx; subst hx; decide +kernel
theorem exF_same : fineC kF [bF] vF = vF := List.filter_eq_self.2 exF_fine
theorem exF_first : fineC kF [bF] (vF.take 1) = vF.take 1 := List.filter_eq_self.2 fun x hx => exF_fine x (List.mem_of_mem_take hx)
theorem exF_strong : strongK kF vF firstK cF = true := by decide +kernel
theorem exF_weak : strongK kF (vF.take 1) firstK cF = false := by decide +kernel
theorem exF_ends : ∀ x ∈ vF, x.s = firstK ∧ x.t = cF := by
  intro x hx
  rcases List.mem_cons.1 hx with rfl | hx
  · exact ⟨rfl, rfl⟩
  · rw [List.mem_singleton] at hx; subst hx; exact ⟨rfl, rfl⟩
theorem exF_less : lessK firstK cF = true := by decide
theorem exF_just : Justs kF [bF] vF [firstK, cF] := by
  refine ⟨by simp [Rise, exF_less], fun x => ⟨fun hx => ⟨exF_conf, exF_tree, ?_⟩, fun hx => ?_⟩⟩
  · rw [exF_same]
    rcases List.mem_cons.1 hx with rfl | hx
    · exact .first
    · rw [List.mem_singleton] at hx; subst hx; exact .next .first exF_strong
  · have h := hx.2.2
    rw [exF_same] at h
    cases h with
    | first => exact List.mem_cons_self
    | next _ hs =>
      obtain ⟨y, hy, _, rfl⟩ := strong_some hs
      rw [(exF_ends y hy).2]; simp
theorem exF_final : Finals kF [bF] vF [firstK] := by
  refine ⟨[firstK, cF], exF_just, ?_⟩
  rw [List.filter_cons_of_pos (finalB_yes (Or.inl rfl)), List.filter_cons_of_neg]
  · rfl
  · rw [finalB_no]
    · simp
    · rintro (h | ⟨t, h, _⟩)
      · have := congrArg Ck.e h; revert this; decide
      · unfold strongC at h
        rw [exF_same] at h
        obtain ⟨y, hy, e, _⟩ := strong_some h
        rw [(exF_ends y hy).1] at e
        have := congrArg Ck.e e; revert this; decide

attribute [local go_sem high] eqK in
set_option maxRecDepth 100000 in
set_option maxHeartbeats 6400000 in
theorem ffgAwake_of (n : Id2)
    (hN : ∀ w, Calls Tryz.prog 15 #[.agg #[.int .i64 1, .int .i64 0, .int .u64 0, .int .u64 0, .int .u64 0]] w fun e w' => e = .returned (.agg #[.int .u64 n.1, .int .u64 n.2]) ∧ Kept w w')
    (hJ : ∀ A c L cl V cv w, CellsAt w w.heap.size A [.int .i64 1, .int .i64 1, .int .i64 1] → CellsAt w w.heap.size L [.int .i64 1, .int .i64 0, .int .u64 0, .int .u64 0, .int .u64 0] → CellsAt w w.heap.size V [.int .i64 0, .int .i64 0, .int .u64 0, .int .u64 0, .int .i64 1, .int .u64 n.1, .int .u64 n.2, .int .i64 2, .int .i64 0, .int .u64 0, .int .u64 0, .int .i64 1, .int .u64 n.1, .int .u64 n.2] → Calls Tryz.prog 9 #[.agg #[.slice A 3 c, .int .u64 0, .int .i64 1, .int .i64 0, .int .i64 4], .slice L 1 cl, .slice V 2 cv] w fun e w' => ∃ J cj, e = .returned (.slice J 2 cj) ∧ CellsAt w' w'.heap.size J [.int .i64 0, .int .u64 0, .int .u64 0, .int .i64 1, .int .u64 n.1, .int .u64 n.2] ∧ Kept w w')
    (hF : ∀ A c L cl V cv w, CellsAt w w.heap.size A [.int .i64 1, .int .i64 1, .int .i64 1] → CellsAt w w.heap.size L [.int .i64 1, .int .i64 0, .int .u64 0, .int .u64 0, .int .u64 0] → CellsAt w w.heap.size V [.int .i64 0, .int .i64 0, .int .u64 0, .int .u64 0, .int .i64 1, .int .u64 n.1, .int .u64 n.2, .int .i64 2, .int .i64 0, .int .u64 0, .int .u64 0, .int .i64 1, .int .u64 n.1, .int .u64 n.2] → Calls Tryz.prog 11 #[.agg #[.slice A 3 c, .int .u64 0, .int .i64 1, .int .i64 0, .int .i64 4], .slice L 1 cl, .slice V 2 cv] w fun e w' => ∃ J cj, e = .returned (.slice J 1 cj) ∧ Kept w w')
    (hM : ∀ A c L cl V w, CellsAt w w.heap.size A [.int .i64 1, .int .i64 1, .int .i64 1] → CellsAt w w.heap.size L [.int .i64 1, .int .i64 0, .int .u64 0, .int .u64 0, .int .u64 0] → CellsAt w w.heap.size V [.int .i64 0, .int .i64 0, .int .u64 0, .int .u64 0, .int .i64 1, .int .u64 n.1, .int .u64 n.2, .int .i64 2, .int .i64 0, .int .u64 0, .int .u64 0, .int .i64 1, .int .u64 n.1, .int .u64 n.2] → Calls Tryz.prog 13 #[.agg #[.slice A 3 c, .int .u64 0, .int .i64 1, .int .i64 0, .int .i64 4], .slice L 1 cl, .agg #[.int .i64 0, .int .i64 0, .int .u64 0, .int .u64 0, .int .i64 1, .int .u64 n.1, .int .u64 n.2]] w fun e w' => e = .returned (.bool true) ∧ Kept w w')
    (hS : ∀ A c L cl V cv w, CellsAt w w.heap.size A [.int .i64 1, .int .i64 1, .int .i64 1] → CellsAt w w.heap.size L [.int .i64 1, .int .i64 0, .int .u64 0, .int .u64 0, .int .u64 0] → CellsAt w w.heap.size V [.int .i64 0, .int .i64 0, .int .u64 0, .int .u64 0, .int .i64 1, .int .u64 n.1, .int .u64 n.2, .int .i64 2, .int .i64 0, .int .u64 0, .int .u64 0, .int .i64 1, .int .u64 n.1, .int .u64 n.2] → Calls Tryz.prog 14 #[.agg #[.slice A 3 c, .int .u64 0, .int .i64 1, .int .i64 0, .int .i64 4], .slice L 1 cl, .slice V 1 cv, .agg #[.int .i64 0, .int .u64 0, .int .u64 0], .agg #[.int .i64 1, .int .u64 n.1, .int .u64 n.2]] w fun e w' => e = .returned (.bool false) ∧ Kept w w')
    (w : World) : Calls Tryz.prog 4 #[] w fun e w' => e = .returned (.bool true) ∧ Kept w w' := by
  have HN := Lib.hid hN
  have HJ := Lib.hid hJ
  have HF := Lib.hid hF
  have HM := Lib.hid hM
  have HS := Lib.hid hS
  have heq : ∀ w, Sem.run Tryz.prog (Op.equalIn 10000 31 (.agg #[.int .i64 1, .int .u64 n.1, .int .u64 n.2]) (.agg #[.int .i64 1, .int .u64 n.1, .int .u64 n.2])) w = .ok true w := fun w => by
    have h := eqK ⟨1, n⟩ ⟨1, n⟩ w
    rw [sameK_yes rfl] at h
    exact h
  obtain ⟨iL, hiL, _⟩ := info_of Tryz.infoLk
  have hup : ∀ (A : Option Addr) (c : Nat) (w : World), 1 ≤ c → (Instr.slice 27 (.slice A 2 c) none (some (.int .i64 1)) none).run Tryz.prog w = .ok (.slice A 1 c) w := fun A c w h => run_upto _ _ iL Tryz.underlying27 hiL A 2 c 1 h w
  clear hN hJ hF hM hS hiL
  go_enter Tryz.func4, Tryz.ntmps4
  go_wp2_with fail
  have HK0 := Lib.hid ((((Kept.refl w).alloc (.cells #[.int .i64 1, .int .i64 1, .int .i64 1] 3)).alloc (.cells #[.slice (some ⟨w.heap.size, 0, none⟩) 3 3, .int .u64 0, .int .i64 1, .int .i64 0, .int .i64 4] 25)).alloc (.cells #[.int .i64 1, .int .i64 0, .int .u64 0, .int .u64 0, .int .u64 0] 43))
  have HA0 := Lib.hid (((CellsAt.new w #[.int .i64 1, .int .i64 1, .int .i64 1] 3 w.heap.size rfl).kept ((Kept.refl _).alloc (.cells #[.slice (some ⟨w.heap.size, 0, none⟩) 3 3, .int .u64 0, .int .i64 1, .int .i64 0, .int .i64 4] 25))).kept ((Kept.refl _).alloc (.cells #[.int .i64 1, .int .i64 0, .int .u64 0, .int .u64 0, .int .u64 0] 43)))
  have HC0 := Lib.hid ((HasCells.new (w.alloc (.cells #[.int .i64 1, .int .i64 1, .int .i64 1] 3)) #[.slice (some ⟨w.heap.size, 0, none⟩) 3 3, .int .u64 0, .int .i64 1, .int .i64 0, .int .i64 4] 25 (w.heap.size + 1) (by simp)).alloc (.cells #[.int .i64 1, .int .i64 0, .int .u64 0, .int .u64 0, .int .u64 0] 43))
  have HD0 := Lib.hid (HasCells.new ((w.alloc (.cells #[.int .i64 1, .int .i64 1, .int .i64 1] 3)).alloc (.cells #[.slice (some ⟨w.heap.size, 0, none⟩) 3 3, .int .u64 0, .int .i64 1, .int .i64 0, .int .i64 4] 25)) #[.int .i64 1, .int .i64 0, .int .u64 0, .int .u64 0, .int .u64 0] 43 (w.heap.size + 1 + 1) (by simp))
  generalize (((w.alloc (.cells #[.int .i64 1, .int .i64 1, .int .i64 1] 3)).alloc (.cells #[.slice (some ⟨w.heap.size, 0, none⟩) 3 3, .int .u64 0, .int .i64 1, .int .i64 0, .int .i64 4] 25)).alloc (.cells #[.int .i64 1, .int .i64 0, .int .u64 0, .int .u64 0, .int .u64 0] 43)) = W0 at *
  generalize w.heap.size + 1 + 1 = z2 at *
  generalize w.heap.size + 1 = z1 at *
  generalize w.heap.size = z0 at *
  refine (HN.out W0).mono ?_
  rintro e W1 ⟨rfl, k1⟩
  have HA1 := Lib.hid (HA0.out.kept k1)
  have HC1 := Lib.hid (HC0.out.kept k1)
  have HD1 := Lib.hid (HD0.out.kept k1)
  have HK1 := Lib.hid (HK0.out.trans k1)
  clear k1 HA0 HC0 HD0 HK0
  have HKV := Lib.hid ((((Kept.refl W1).alloc (.cells #[.int .i64 1, .int .u64 n.1, .int .u64 n.2] 31)).alloc (.cells #[.int .i64 0, .int .i64 0, .int .u64 0, .int .u64 0, .int .i64 1, .int .u64 n.1, .int .u64 n.2, .int .i64 2, .int .i64 0, .int .u64 0, .int .u64 0, .int .i64 1, .int .u64 n.1, .int .u64 n.2] 33)).alloc (.cells #[.int .i64 1, .int .i64 0, .int .u64 0, .int .u64 0, .int .u64 0] 43))
  have HX2 := Lib.hid (((HasCells.new W1 #[.int .i64 1, .int .u64 n.1, .int .u64 n.2] 31 W1.heap.size rfl).alloc (.cells #[.int .i64 0, .int .i64 0, .int .u64 0, .int .u64 0, .int .i64 1, .int .u64 n.1, .int .u64 n.2, .int .i64 2, .int .i64 0, .int .u64 0, .int .u64 0, .int .i64 1, .int .u64 n.1, .int .u64 n.2] 33)).alloc (.cells #[.int .i64 1, .int .i64 0, .int .u64 0, .int .u64 0, .int .u64 0] 43))
  have HV2 := Lib.hid ((CellsAt.new (W1.alloc (.cells #[.int .i64 1, .int .u64 n.1, .int .u64 n.2] 31)) #[.int .i64 0, .int .i64 0, .int .u64 0, .int .u64 0, .int .i64 1, .int .u64 n.1, .int .u64 n.2, .int .i64 2, .int .i64 0, .int .u64 0, .int .u64 0, .int .i64 1, .int .u64 n.1, .int .u64 n.2] 33 (W1.heap.size + 1) (by simp)).kept ((Kept.refl _).alloc (.cells #[.int .i64 1, .int .i64 0, .int .u64 0, .int .u64 0, .int .u64 0] 43)))
  have HL2 := Lib.hid (CellsAt.new ((W1.alloc (.cells #[.int .i64 1, .int .u64 n.1, .int .u64 n.2] 31)).alloc (.cells #[.int .i64 0, .int .i64 0, .int .u64 0, .int .u64 0, .int .i64 1, .int .u64 n.1, .int .u64 n.2, .int .i64 2, .int .i64 0, .int .u64 0, .int .u64 0, .int .i64 1, .int .u64 n.1, .int .u64 n.2] 33)) #[.int .i64 1, .int .i64 0, .int .u64 0, .int .u64 0, .int .u64 0] 43 (W1.heap.size + 1 + 1) (by simp))
  obtain ⟨c0, c1, c2, c3, c4⟩ := HC1.out.five
  obtain ⟨d0, d1, d2, d3, d4⟩ := HD1.out.five
  have hz1 := HC1.out.1
  have hz2 := HD1.out.1
  have HA2 := Lib.hid (HA1.out.kept HKV.out)
  have HC2 := Lib.hid (HC1.out.kept HKV.out)
  have HD2 := Lib.hid (HD1.out.kept HKV.out)
  have HK2 := Lib.hid (HK1.out.trans HKV.out)
  clear HA1 HC1 HD1 HK1 HKV
  go_wp2_with fail
  clear c0 c1 c2 c3 c4 d0 d1 d2 d3 d4 hz1 hz2
  generalize (((W1.alloc (.cells #[.int .i64 1, .int .u64 n.1, .int .u64 n.2] 31)).alloc (.cells #[.int .i64 0, .int .i64 0, .int .u64 0, .int .u64 0, .int .i64 1, .int .u64 n.1, .int .u64 n.2, .int .i64 2, .int .i64 0, .int .u64 0, .int .u64 0, .int .i64 1, .int .u64 n.1, .int .u64 n.2] 33)).alloc (.cells #[.int .i64 1, .int .i64 0, .int .u64 0, .int .u64 0, .int .u64 0] 43)) = V2 at *
  generalize W1.heap.size + 1 + 1 = z5 at *
  generalize W1.heap.size + 1 = z4 at *
  generalize W1.heap.size = z3 at *
  refine (HJ.out _ _ _ _ _ _ V2 HA2.out HL2.out HV2.out).mono ?_
  rintro e W3 ⟨J, cj, rfl, hJ, k3⟩
  have HK3 := Lib.hid (HK2.out.trans k3)
  obtain ⟨zj, oj, rfl, hbj, j⟩ := hJ.plain (by simp)
  have j0 : W3.cell? ⟨zj, oj + 3, none⟩ = some (.int .i64 1) := j 3 _ rfl
  have j1 : W3.cell? ⟨zj, oj + 4, none⟩ = some (.int .u64 n.1) := j 4 _ rfl
  have j2 : W3.cell? ⟨zj, oj + 5, none⟩ = some (.int .u64 n.2) := j 5 _ rfl
  obtain ⟨c0, c1, c2, c3, c4⟩ := (HC2.out.kept k3).five
  obtain ⟨d0, d1, d2, d3, d4⟩ := (HD2.out.kept k3).five
  obtain ⟨x0, x1, x2⟩ := (HX2.out.kept k3).three
  have hz1 := (HC2.out.kept k3).1
  have hz2 := (HD2.out.kept k3).1
  have hz3 := (HX2.out.kept k3).1
  have HA3 := Lib.hid (HA2.out.kept k3)
  have HV3 := Lib.hid (HV2.out.kept k3)
  obtain ⟨zv, ov, hve, hbv, vv⟩ := HV3.out.plain (by simp)
  injection hve with hve
  injection hve with hv1 hv2 _
  subst hv1 hv2
  have v0 : W3.cell? ⟨z4, 0, none⟩ = some (.int .i64 0) := vv 0 _ rfl
  have v1 : W3.cell? ⟨z4, 1, none⟩ = some (.int .i64 0) := vv 1 _ rfl
  have v2 : W3.cell? ⟨z4, 2, none⟩ = some (.int .u64 0) := vv 2 _ rfl
  have v3 : W3.cell? ⟨z4, 3, none⟩ = some (.int .u64 0) := vv 3 _ rfl
  have v4 : W3.cell? ⟨z4, 4, none⟩ = some (.int .i64 1) := vv 4 _ rfl
  have v5 : W3.cell? ⟨z4, 5, none⟩ = some (.int .u64 n.1) := vv 5 _ rfl
  have v6 : W3.cell? ⟨z4, 6, none⟩ = some (.int .u64 n.2) := vv 6 _ rfl
  clear hJ k3 j vv HA2 HC2 HD2 HX2 HV2 HL2 HK2
  go_wp2_with fail
  refine wp_region_noPanic ?_
  refine wp_region_held_drew (S := (fun w' => w'.cell? ⟨z1, 0, none⟩ = some (.slice (some ⟨z0, 0, none⟩) 3 3) ∧ w'.cell? ⟨z1, 1, none⟩ = some (.int .u64 0) ∧ w'.cell? ⟨z1, 2, none⟩ = some (.int .i64 1) ∧ w'.cell? ⟨z1, 3, none⟩ = some (.int .i64 0) ∧ w'.cell? ⟨z1, 4, none⟩ = some (.int .i64 4) ∧ w'.cell? ⟨z2, 0, none⟩ = some (.int .i64 1) ∧ w'.cell? ⟨z2, 1, none⟩ = some (.int .i64 0) ∧ w'.cell? ⟨z2, 2, none⟩ = some (.int .u64 0) ∧ w'.cell? ⟨z2, 3, none⟩ = some (.int .u64 0) ∧ w'.cell? ⟨z2, 4, none⟩ = some (.int .u64 0) ∧ w'.cell? ⟨z3, 0, none⟩ = some (.int .i64 1) ∧ w'.cell? ⟨z3, 1, none⟩ = some (.int .u64 n.1) ∧ w'.cell? ⟨z3, 2, none⟩ = some (.int .u64 n.2) ∧ w'.cell? ⟨zj, oj + 3, none⟩ = some (.int .i64 1) ∧ w'.cell? ⟨zj, oj + 4, none⟩ = some (.int .u64 n.1) ∧ w'.cell? ⟨zj, oj + 5, none⟩ = some (.int .u64 n.2) ∧ w'.cell? ⟨z4, 0, none⟩ = some (.int .i64 0) ∧ w'.cell? ⟨z4, 1, none⟩ = some (.int .i64 0) ∧ w'.cell? ⟨z4, 2, none⟩ = some (.int .u64 0) ∧ w'.cell? ⟨z4, 3, none⟩ = some (.int .u64 0) ∧ w'.cell? ⟨z4, 4, none⟩ = some (.int .i64 1) ∧ w'.cell? ⟨z4, 5, none⟩ = some (.int .u64 n.1) ∧ w'.cell? ⟨z4, 6, none⟩ = some (.int .u64 n.2) ∧ Kept W3 w')) (by kernel_rfl) ?_ (fun hHeld => ?_)
  · exact ⟨c0, c1, c2, c3, c4, d0, d1, d2, d3, d4, x0, x1, x2, j0, j1, j2, v0, v1, v2, v3, v4, v5, v6, (Kept.refl _).drew⟩
  refine wpAnyH_take (i := 0) (v := ?_) (by simp only [List.getElem?_toArray, List.getElem?_cons_succ, List.getElem?_cons_zero]; rfl) (by kernel_rfl) (by kernel_rfl) (by kernel_rfl) (fun _ _ _ h => h) (Or.inl ⟨by rfl, ?_⟩) (by assumption) ?_
  rotate_left
  · intro w hSw
    (try dsimp only at hSw)
    go_simp
    (try with_reducible rfl)
  simp only [Act.put, List.setIfInBounds_toArray, List.set_cons_zero, List.set_cons_succ]
  refine wpAnyH_take (i := 1) (v := ?_) (by simp only [List.getElem?_toArray, List.getElem?_cons_succ, List.getElem?_cons_zero]; rfl) (by kernel_rfl) (by kernel_rfl) (by kernel_rfl) (fun _ _ _ h => h) (Or.inl ⟨by rfl, ?_⟩) (by assumption) ?_
  rotate_left
  · intro w hSw
    (try dsimp only at hSw)
    go_simp
    (try with_reducible rfl)
  simp only [Act.put, List.setIfInBounds_toArray, List.set_cons_zero, List.set_cons_succ]
  refine wpAnyH_take (i := 2) (v := ?_) (by simp only [List.getElem?_toArray, List.getElem?_cons_succ, List.getElem?_cons_zero]; rfl) (by kernel_rfl) (by kernel_rfl) (by kernel_rfl) (fun _ _ _ h => h) (Or.inl ⟨by rfl, ?_⟩) (by assumption) ?_
  rotate_left
  · intro w hSw
    (try dsimp only at hSw)
    go_simp
    (try with_reducible rfl)
  simp only [Act.put, List.setIfInBounds_toArray, List.set_cons_zero, List.set_cons_succ]
  refine wpAnyH_take (i := 3) (v := ?_) (by simp only [List.getElem?_toArray, List.getElem?_cons_succ, List.getElem?_cons_zero]; rfl) (by kernel_rfl) (by kernel_rfl) (by kernel_rfl) (fun _ _ _ h => h) (Or.inl ⟨by rfl, ?_⟩) (by assumption) ?_
  rotate_left
  · intro w hSw
    (try dsimp only at hSw)
    go_simp
    (try with_reducible rfl)
  simp only [Act.put, List.setIfInBounds_toArray, List.set_cons_zero, List.set_cons_succ]
  refine wpAnyH_take (i := 4) (v := ?_) (by simp only [List.getElem?_toArray, List.getElem?_cons_succ, List.getElem?_cons_zero]; rfl) (by kernel_rfl) (by kernel_rfl) (by kernel_rfl) (fun _ _ _ h => h) (Or.inl ⟨by rfl, ?_⟩) (by assumption) ?_
  rotate_left
  · intro w hSw
    (try dsimp only at hSw)
    go_simp
    (try with_reducible rfl)
  simp only [Act.put, List.setIfInBounds_toArray, List.set_cons_zero, List.set_cons_succ]
  refine wpAnyH_take (i := 5) (v := ?_) (by simp only [List.getElem?_toArray, List.getElem?_cons_succ, List.getElem?_cons_zero]; rfl) (by kernel_rfl) (by kernel_rfl) (by kernel_rfl) (fun _ _ _ h => h) (Or.inl ⟨by rfl, ?_⟩) (by assumption) ?_
  rotate_left
  · intro w hSw
    (try dsimp only at hSw)
    go_simp
    (try with_reducible rfl)
  simp only [Act.put, List.setIfInBounds_toArray, List.set_cons_zero, List.set_cons_succ]
  refine wpAnyH_take (i := 6) (v := ?_) (by simp only [List.getElem?_toArray, List.getElem?_cons_succ, List.getElem?_cons_zero]; rfl) (by kernel_rfl) (by kernel_rfl) (by kernel_rfl) (fun _ _ _ h => h) (Or.inl ⟨by rfl, ?_⟩) (by assumption) ?_
  rotate_left
  · intro w hSw
    (try dsimp only at hSw)
    go_simp
    (try with_reducible rfl)
  simp only [Act.put, List.setIfInBounds_toArray, List.set_cons_zero, List.set_cons_succ]
  refine wpAnyH_take (i := 7) (v := ?_) (by simp only [List.getElem?_toArray, List.getElem?_cons_succ, List.getElem?_cons_zero]; rfl) (by kernel_rfl) (by kernel_rfl) (by kernel_rfl) (fun _ _ _ h => h) (Or.inl ⟨by rfl, ?_⟩) (by assumption) ?_
  rotate_left
  · intro w hSw
    (try dsimp only at hSw)
    go_simp
    (try with_reducible rfl)
  simp only [Act.put, List.setIfInBounds_toArray, List.set_cons_zero, List.set_cons_succ]
  refine wpAnyH_take (i := 8) (v := ?_) (by simp only [List.getElem?_toArray, List.getElem?_cons_succ, List.getElem?_cons_zero]; rfl) (by kernel_rfl) (by kernel_rfl) (by kernel_rfl) (fun _ _ _ h => h) (Or.inl ⟨by rfl, ?_⟩) (by assumption) ?_
  rotate_left
  · intro w hSw
    (try dsimp only at hSw)
    go_simp
    (try with_reducible rfl)
  simp only [Act.put, List.setIfInBounds_toArray, List.set_cons_zero, List.set_cons_succ]
  refine wpAnyH_take (i := 9) (v := ?_) (by simp only [List.getElem?_toArray, List.getElem?_cons_succ, List.getElem?_cons_zero]; rfl) (by kernel_rfl) (by kernel_rfl) (by kernel_rfl) (fun _ _ _ h => h) (Or.inl ⟨by rfl, ?_⟩) (by assumption) ?_
  rotate_left
  · intro w hSw
    (try dsimp only at hSw)
    go_simp
    (try with_reducible rfl)
  simp only [Act.put, List.setIfInBounds_toArray, List.set_cons_zero, List.set_cons_succ]
  refine wpAnyH_take (i := 10) (v := ?_) (by simp only [List.getElem?_toArray, List.getElem?_cons_succ, List.getElem?_cons_zero]; rfl) (by kernel_rfl) (by kernel_rfl) (by kernel_rfl) (fun _ _ _ h => h) (Or.inl ⟨by rfl, ?_⟩) (by assumption) ?_
  rotate_left
  · intro w hSw
    (try dsimp only at hSw)
    go_simp
    (try with_reducible rfl)
  simp only [Act.put, List.setIfInBounds_toArray, List.set_cons_zero, List.set_cons_succ]
  refine wpAnyH_take (i := 11) (v := ?_) (by simp only [List.getElem?_toArray, List.getElem?_cons_succ, List.getElem?_cons_zero]; rfl) (by kernel_rfl) (by kernel_rfl) (by kernel_rfl) (fun _ _ _ h => h) (Or.inl ⟨by rfl, ?_⟩) (by assumption) ?_
  rotate_left
  · intro w hSw
    (try dsimp only at hSw)
    go_simp
    (try with_reducible rfl)
  simp only [Act.put, List.setIfInBounds_toArray, List.set_cons_zero, List.set_cons_succ]
  refine wpAnyH_take (i := 12) (v := ?_) (by simp only [List.getElem?_toArray, List.getElem?_cons_succ, List.getElem?_cons_zero]; rfl) (by kernel_rfl) (by kernel_rfl) (by kernel_rfl) (fun _ _ _ h => h) (Or.inl ⟨by rfl, ?_⟩) (by assumption) ?_
  rotate_left
  · intro w hSw
    (try dsimp only at hSw)
    go_simp
    (try with_reducible rfl)
  simp only [Act.put, List.setIfInBounds_toArray, List.set_cons_zero, List.set_cons_succ]
  refine wpAnyH_take (i := 14) (v := ?_) (by simp only [List.getElem?_toArray, List.getElem?_cons_succ, List.getElem?_cons_zero]; rfl) (by kernel_rfl) (by kernel_rfl) (by kernel_rfl) (fun _ _ _ h => h) (Or.inl ⟨by rfl, ?_⟩) (by assumption) ?_
  rotate_left
  · intro w hSw
    (try dsimp only at hSw)
    go_simp
    (try with_reducible rfl)
  simp only [Act.put, List.setIfInBounds_toArray, List.set_cons_zero, List.set_cons_succ]
  refine wpAnyH_ready (rs := [13]) (by kernel_rfl) (by simp) ?_
  refine AllReadyH.cons (by simp only [List.getElem?_toArray, List.getElem?_cons_succ, List.getElem?_cons_zero]; rfl) (fun K hK => ?_) AllReadyH.nil
  have hHw := hHeld.2.2.2.2.2.2.2.2.2.2.2.2.2.2.2.2.2.2.2.2.2.2.2
  go_simp
  try go_wp2_with fail
  refine hK.out _ _ ?_ (fun hHeld2 => ?_)
  · first | exact keepP23 hz1 hz1 hz1 hz1 hz1 hz2 hz2 hz2 hz2 hz2 hz3 hz3 hz3 hbj hbj hbj hbv hbv hbv hbv hbv hbv hbv hHeld kk | exact keepP23 hz1 hz1 hz1 hz1 hz1 hz2 hz2 hz2 hz2 hz2 hz3 hz3 hz3 hbj hbj hbj hbv hbv hbv hbv hbv hbv hbv hHeld ((Kept.refl _).alloc _)
  clear hK K hHeld
  have hHeld := hHeld2
  clear hHeld2
  try simp only [Act.put, List.setIfInBounds_toArray, List.set_cons_zero, List.set_cons_succ]
  refine wpAnyH_ready (rs := [15]) (by kernel_rfl) (by simp) ?_
  refine AllReadyH.cons (by simp only [List.getElem?_toArray, List.getElem?_cons_succ, List.getElem?_cons_zero]; rfl) (fun K hK => ?_) AllReadyH.nil
  go_simp
  go_at_call 11; with_reducible refine (HF.out _ _ _ _ _ _ _ (HA3.out.kept hHeld.2.2.2.2.2.2.2.2.2.2.2.2.2.2.2.2.2.2.2.2.2.2.2) (by first | exact CellsAt.new _ _ _ _ rfl | exact (CellsAt.new _ _ _ _ rfl).kept (Kept.refl _).drew) (HV3.out.kept hHeld.2.2.2.2.2.2.2.2.2.2.2.2.2.2.2.2.2.2.2.2.2.2.2)).mono ?_
  rintro e w' ⟨J2, cj2, rfl, kk⟩
  try go_wp2_with fail
  refine hK.out _ _ ?_ (fun hHeld2 => ?_)
  · first | exact keepP23 hz1 hz1 hz1 hz1 hz1 hz2 hz2 hz2 hz2 hz2 hz3 hz3 hz3 hbj hbj hbj hbv hbv hbv hbv hbv hbv hbv hHeld kk | exact keepP23 hz1 hz1 hz1 hz1 hz1 hz2 hz2 hz2 hz2 hz2 hz3 hz3 hz3 hbj hbj hbj hbv hbv hbv hbv hbv hbv hbv hHeld ((Kept.refl _).alloc _)
  clear hK K hHeld
  have hHeld := hHeld2
  clear hHeld2
  try simp only [Act.put, List.setIfInBounds_toArray, List.set_cons_zero, List.set_cons_succ]
  refine wpAnyH_take (i := 16) (v := ?_) (by simp only [List.getElem?_toArray, List.getElem?_cons_succ, List.getElem?_cons_zero]; rfl) (by kernel_rfl) (by kernel_rfl) (by kernel_rfl) (fun _ _ _ h => h) (Or.inl ⟨by rfl, ?_⟩) (by assumption) ?_
  rotate_left
  · intro w hSw
    (try dsimp only at hSw)
    go_simp
    (try with_reducible rfl)
  simp only [Act.put, List.setIfInBounds_toArray, List.set_cons_zero, List.set_cons_succ]
  refine wpAnyH_take (i := 17) (v := ?_) (by simp only [List.getElem?_toArray, List.getElem?_cons_succ, List.getElem?_cons_zero]; rfl) (by kernel_rfl) (by kernel_rfl) (by kernel_rfl) (fun _ _ _ h => h) (Or.inl ⟨by rfl, ?_⟩) (by assumption) ?_
  rotate_left
  · intro w hSw
    (try dsimp only at hSw)
    go_simp
    (try with_reducible rfl)
  simp only [Act.put, List.setIfInBounds_toArray, List.set_cons_zero, List.set_cons_succ]
  refine wpAnyH_take (i := 18) (v := ?_) (by simp only [List.getElem?_toArray, List.getElem?_cons_succ, List.getElem?_cons_zero]; rfl) (by kernel_rfl) (by kernel_rfl) (by kernel_rfl) (fun _ _ _ h => h) (Or.inl ⟨by rfl, ?_⟩) (by assumption) ?_
  rotate_left
  · intro w hSw
    (try dsimp only at hSw)
    go_simp
    (try with_reducible rfl)
  simp only [Act.put, List.setIfInBounds_toArray, List.set_cons_zero, List.set_cons_succ]
  refine wpAnyH_take (i := 19) (v := ?_) (by simp only [List.getElem?_toArray, List.getElem?_cons_succ, List.getElem?_cons_zero]; rfl) (by kernel_rfl) (by kernel_rfl) (by kernel_rfl) (fun _ _ _ h => h) (Or.inl ⟨by rfl, ?_⟩) (by assumption) ?_
  rotate_left
  · intro w hSw
    (try dsimp only at hSw)
    go_simp
    (try with_reducible rfl)
  simp only [Act.put, List.setIfInBounds_toArray, List.set_cons_zero, List.set_cons_succ]
  refine wpAnyH_take (i := 20) (v := ?_) (by simp only [List.getElem?_toArray, List.getElem?_cons_succ, List.getElem?_cons_zero]; rfl) (by kernel_rfl) (by kernel_rfl) (by kernel_rfl) (fun _ _ _ h => h) (Or.inl ⟨by rfl, ?_⟩) (by assumption) ?_
  rotate_left
  · intro w hSw
    (try dsimp only at hSw)
    go_simp
    (try with_reducible rfl)
  simp only [Act.put, List.setIfInBounds_toArray, List.set_cons_zero, List.set_cons_succ]
  refine wpAnyH_take (i := 21) (v := ?_) (by simp only [List.getElem?_toArray, List.getElem?_cons_succ, List.getElem?_cons_zero]; rfl) (by kernel_rfl) (by kernel_rfl) (by kernel_rfl) (fun _ _ _ h => h) (Or.inl ⟨by rfl, ?_⟩) (by assumption) ?_
  rotate_left
  · intro w hSw
    (try dsimp only at hSw)
    go_simp
    (try with_reducible rfl)
  simp only [Act.put, List.setIfInBounds_toArray, List.set_cons_zero, List.set_cons_succ]
  refine wpAnyH_take (i := 23) (v := ?_) (by simp only [List.getElem?_toArray, List.getElem?_cons_succ, List.getElem?_cons_zero]; rfl) (by kernel_rfl) (by kernel_rfl) (by kernel_rfl) (fun _ _ _ h => h) (Or.inl ⟨by rfl, ?_⟩) (by assumption) ?_
  rotate_left
  · intro w hSw
    (try dsimp only at hSw)
    go_simp
    (try with_reducible rfl)
  simp only [Act.put, List.setIfInBounds_toArray, List.set_cons_zero, List.set_cons_succ]
  refine wpAnyH_take (i := 24) (v := ?_) (by simp only [List.getElem?_toArray, List.getElem?_cons_succ, List.getElem?_cons_zero]; rfl) (by kernel_rfl) (by kernel_rfl) (by kernel_rfl) (fun _ _ _ h => h) (Or.inl ⟨by rfl, ?_⟩) (by assumption) ?_
  rotate_left
  · intro w hSw
    (try dsimp only at hSw)
    go_simp
    (try with_reducible rfl)
  simp only [Act.put, List.setIfInBounds_toArray, List.set_cons_zero, List.set_cons_succ]
  refine wpAnyH_take (i := 25) (v := ?_) (by simp only [List.getElem?_toArray, List.getElem?_cons_succ, List.getElem?_cons_zero]; rfl) (by kernel_rfl) (by kernel_rfl) (by kernel_rfl) (fun _ _ _ h => h) (Or.inl ⟨by rfl, ?_⟩) (by assumption) ?_
  rotate_left
  · intro w hSw
    (try dsimp only at hSw)
    go_simp
    (try with_reducible rfl)
  simp only [Act.put, List.setIfInBounds_toArray, List.set_cons_zero, List.set_cons_succ]
  refine wpAnyH_ready (rs := [22]) (by kernel_rfl) (by simp) ?_
  refine AllReadyH.cons (by simp only [List.getElem?_toArray, List.getElem?_cons_succ, List.getElem?_cons_zero]; rfl) (fun K hK => ?_) AllReadyH.nil
  have hHw := hHeld.2.2.2.2.2.2.2.2.2.2.2.2.2.2.2.2.2.2.2.2.2.2.2
  go_simp
  try go_wp2_with fail
  refine hK.out _ _ ?_ (fun hHeld2 => ?_)
  · first | exact keepP23 hz1 hz1 hz1 hz1 hz1 hz2 hz2 hz2 hz2 hz2 hz3 hz3 hz3 hbj hbj hbj hbv hbv hbv hbv hbv hbv hbv hHeld kk | exact keepP23 hz1 hz1 hz1 hz1 hz1 hz2 hz2 hz2 hz2 hz2 hz3 hz3 hz3 hbj hbj hbj hbv hbv hbv hbv hbv hbv hbv hHeld ((Kept.refl _).alloc _)
  clear hK K hHeld
  have hHeld := hHeld2
  clear hHeld2
  try simp only [Act.put, List.setIfInBounds_toArray, List.set_cons_zero, List.set_cons_succ]
  refine wpAnyH_ready (rs := [26]) (by kernel_rfl) (by simp) ?_
  refine AllReadyH.cons (by simp only [List.getElem?_toArray, List.getElem?_cons_succ, List.getElem?_cons_zero]; rfl) (fun K hK => ?_) AllReadyH.nil
  go_simp
  go_at_call 13; with_reducible refine (HM.out _ _ _ _ _ _ (HA3.out.kept hHeld.2.2.2.2.2.2.2.2.2.2.2.2.2.2.2.2.2.2.2.2.2.2.2) (by first | exact CellsAt.new _ _ _ _ rfl | exact (CellsAt.new _ _ _ _ rfl).kept (Kept.refl _).drew) (HV3.out.kept hHeld.2.2.2.2.2.2.2.2.2.2.2.2.2.2.2.2.2.2.2.2.2.2.2)).mono ?_
  rintro e w' ⟨rfl, kk⟩
  try go_wp2_with fail
  refine hK.out _ _ ?_ (fun hHeld2 => ?_)
  · first | exact keepP23 hz1 hz1 hz1 hz1 hz1 hz2 hz2 hz2 hz2 hz2 hz3 hz3 hz3 hbj hbj hbj hbv hbv hbv hbv hbv hbv hbv hHeld kk | exact keepP23 hz1 hz1 hz1 hz1 hz1 hz2 hz2 hz2 hz2 hz2 hz3 hz3 hz3 hbj hbj hbj hbv hbv hbv hbv hbv hbv hbv hHeld ((Kept.refl _).alloc _)
  clear hK K hHeld
  have hHeld := hHeld2
  clear hHeld2
  try simp only [Act.put, List.setIfInBounds_toArray, List.set_cons_zero, List.set_cons_succ]
  refine wpAnyH_take (i := 27) (v := ?_) (by simp only [List.getElem?_toArray, List.getElem?_cons_succ, List.getElem?_cons_zero]; rfl) (by kernel_rfl) (by kernel_rfl) (by kernel_rfl) (fun _ _ _ h => h) (Or.inl ⟨by rfl, ?_⟩) (by assumption) ?_
  rotate_left
  · intro w hSw
    (try dsimp only at hSw)
    go_simp
    (try with_reducible rfl)
  simp only [Act.put, List.setIfInBounds_toArray, List.set_cons_zero, List.set_cons_succ]
  refine wpAnyH_take (i := 28) (v := ?_) (by simp only [List.getElem?_toArray, List.getElem?_cons_succ, List.getElem?_cons_zero]; rfl) (by kernel_rfl) (by kernel_rfl) (by kernel_rfl) (fun _ _ _ h => h) (Or.inl ⟨by rfl, ?_⟩) (by assumption) ?_
  rotate_left
  · intro w hSw
    (try dsimp only at hSw)
    go_simp
    (try with_reducible rfl)
  simp only [Act.put, List.setIfInBounds_toArray, List.set_cons_zero, List.set_cons_succ]
  refine wpAnyH_take (i := 29) (v := ?_) (by simp only [List.getElem?_toArray, List.getElem?_cons_succ, List.getElem?_cons_zero]; rfl) (by kernel_rfl) (by kernel_rfl) (by kernel_rfl) (fun _ _ _ h => h) (Or.inl ⟨by rfl, ?_⟩) (by assumption) ?_
  rotate_left
  · intro w hSw
    (try dsimp only at hSw)
    go_simp
    (try with_reducible rfl)
  simp only [Act.put, List.setIfInBounds_toArray, List.set_cons_zero, List.set_cons_succ]
  refine wpAnyH_take (i := 30) (v := ?_) (by simp only [List.getElem?_toArray, List.getElem?_cons_succ, List.getElem?_cons_zero]; rfl) (by kernel_rfl) (by kernel_rfl) (by kernel_rfl) (fun _ _ _ h => h) (Or.inl ⟨by rfl, ?_⟩) (by assumption) ?_
  rotate_left
  · intro w hSw
    (try dsimp only at hSw)
    go_simp
    (try with_reducible rfl)
  simp only [Act.put, List.setIfInBounds_toArray, List.set_cons_zero, List.set_cons_succ]
  refine wpAnyH_take (i := 32) (v := ?_) (by simp only [List.getElem?_toArray, List.getElem?_cons_succ, List.getElem?_cons_zero]; rfl) (by kernel_rfl) (by kernel_rfl) (by kernel_rfl) (fun _ _ _ h => h) (Or.inl ⟨by rfl, ?_⟩) (by assumption) ?_
  rotate_left
  · intro w hSw
    (try dsimp only at hSw)
    go_simp
    (try with_reducible rfl)
  simp only [Act.put, List.setIfInBounds_toArray, List.set_cons_zero, List.set_cons_succ]
  refine wpAnyH_take (i := 33) (v := ?_) (by simp only [List.getElem?_toArray, List.getElem?_cons_succ, List.getElem?_cons_zero]; rfl) (by kernel_rfl) (by kernel_rfl) (by kernel_rfl) (fun _ _ _ h => h) (Or.inl ⟨by rfl, ?_⟩) (by assumption) ?_
  rotate_left
  · intro w hSw
    (try dsimp only at hSw)
    go_simp
    (try with_reducible rfl)
  simp only [Act.put, List.setIfInBounds_toArray, List.set_cons_zero, List.set_cons_succ]
  refine wpAnyH_take (i := 34) (v := ?_) (by simp only [List.getElem?_toArray, List.getElem?_cons_succ, List.getElem?_cons_zero]; rfl) (by kernel_rfl) (by kernel_rfl) (by kernel_rfl) (fun _ _ _ h => h) (Or.inl ⟨by rfl, ?_⟩) (by assumption) ?_
  rotate_left
  · intro w hSw
    (try dsimp only at hSw)
    go_simp
    (try with_reducible rfl)
  simp only [Act.put, List.setIfInBounds_toArray, List.set_cons_zero, List.set_cons_succ]
  refine wpAnyH_take (i := 35) (v := ?_) (by simp only [List.getElem?_toArray, List.getElem?_cons_succ, List.getElem?_cons_zero]; rfl) (by kernel_rfl) (by kernel_rfl) (by kernel_rfl) (fun _ _ _ h => h) (Or.inl ⟨by rfl, ?_⟩) (by assumption) ?_
  rotate_left
  · intro w hSw
    (try dsimp only at hSw)
    go_simp
    (try with_reducible rfl)
  simp only [Act.put, List.setIfInBounds_toArray, List.set_cons_zero, List.set_cons_succ]
  refine wpAnyH_ready (rs := [31]) (by kernel_rfl) (by simp) ?_
  refine AllReadyH.cons (by simp only [List.getElem?_toArray, List.getElem?_cons_succ, List.getElem?_cons_zero]; rfl) (fun K hK => ?_) AllReadyH.nil
  have hHw := hHeld.2.2.2.2.2.2.2.2.2.2.2.2.2.2.2.2.2.2.2.2.2.2.2
  go_simp
  try go_wp2_with fail
  refine hK.out _ _ ?_ (fun hHeld2 => ?_)
  · first | exact keepP23 hz1 hz1 hz1 hz1 hz1 hz2 hz2 hz2 hz2 hz2 hz3 hz3 hz3 hbj hbj hbj hbv hbv hbv hbv hbv hbv hbv hHeld kk | exact keepP23 hz1 hz1 hz1 hz1 hz1 hz2 hz2 hz2 hz2 hz2 hz3 hz3 hz3 hbj hbj hbj hbv hbv hbv hbv hbv hbv hbv hHeld ((Kept.refl _).alloc _)
  clear hK K hHeld
  have hHeld := hHeld2
  clear hHeld2
  try simp only [Act.put, List.setIfInBounds_toArray, List.set_cons_zero, List.set_cons_succ]
  refine wpAnyH_ready (rs := [36]) (by kernel_rfl) (by simp) ?_
  refine AllReadyH.cons (by simp only [List.getElem?_toArray, List.getElem?_cons_succ, List.getElem?_cons_zero]; rfl) (fun K hK => ?_) AllReadyH.nil
  go_simp
  go_at_call 14; with_reducible refine (HS.out _ _ _ _ _ _ _ (HA3.out.kept hHeld.2.2.2.2.2.2.2.2.2.2.2.2.2.2.2.2.2.2.2.2.2.2.2) (by first | exact CellsAt.new _ _ _ _ rfl | exact (CellsAt.new _ _ _ _ rfl).kept (Kept.refl _).drew) (HV3.out.kept hHeld.2.2.2.2.2.2.2.2.2.2.2.2.2.2.2.2.2.2.2.2.2.2.2)).mono ?_
  rintro e w' ⟨rfl, kk⟩
  try go_wp2_with fail
  refine hK.out _ _ ?_ (fun hHeld2 => ?_)
  · first | exact keepP23 hz1 hz1 hz1 hz1 hz1 hz2 hz2 hz2 hz2 hz2 hz3 hz3 hz3 hbj hbj hbj hbv hbv hbv hbv hbv hbv hbv hHeld kk | exact keepP23 hz1 hz1 hz1 hz1 hz1 hz2 hz2 hz2 hz2 hz2 hz3 hz3 hz3 hbj hbj hbj hbv hbv hbv hbv hbv hbv hbv hHeld ((Kept.refl _).alloc _)
  clear hK K hHeld
  have hHeld := hHeld2
  clear hHeld2
  try simp only [Act.put, List.setIfInBounds_toArray, List.set_cons_zero, List.set_cons_succ]
  refine wpAnyH_take (i := 37) (v := ?_) (by simp only [List.getElem?_toArray, List.getElem?_cons_succ, List.getElem?_cons_zero]; rfl) (by kernel_rfl) (by kernel_rfl) (by kernel_rfl) (fun _ _ _ h => h) (Or.inl ⟨by rfl, ?_⟩) (by assumption) ?_
  rotate_left
  · intro w hSw
    (try dsimp only at hSw)
    go_simp
    (try with_reducible rfl)
  simp only [Act.put, List.setIfInBounds_toArray, List.set_cons_zero, List.set_cons_succ]
  refine wpAnyH_take (i := 38) (v := ?_) (by simp only [List.getElem?_toArray, List.getElem?_cons_succ, List.getElem?_cons_zero]; rfl) (by kernel_rfl) (by kernel_rfl) (by kernel_rfl) (fun _ _ _ h => h) (Or.inl ⟨by rfl, ?_⟩) (by assumption) ?_
  rotate_left
  · intro w hSw
    (try dsimp only at hSw)
    go_simp
    (try with_reducible rfl)
  simp only [Act.put, List.setIfInBounds_toArray, List.set_cons_zero, List.set_cons_succ]
  refine wpAnyH_take (i := 39) (v := ?_) (by simp only [List.getElem?_toArray, List.getElem?_cons_succ, List.getElem?_cons_zero]; rfl) (by kernel_rfl) (by kernel_rfl) (by kernel_rfl) (fun _ _ _ h => h) (Or.inl ⟨by rfl, ?_⟩) (by assumption) ?_
  rotate_left
  · intro w hSw
    (try dsimp only at hSw)
    go_simp
    (try with_reducible rfl)
  simp only [Act.put, List.setIfInBounds_toArray, List.set_cons_zero, List.set_cons_succ]
  refine wpAnyH_done (by kernel_rfl) ?_ _
  refine NoPanic.normal ?_
  have k := Lib.hid (HK3.out.trans hHeld.2.2.2.2.2.2.2.2.2.2.2.2.2.2.2.2.2.2.2.2.2.2.2)
  clear hHeld
  go_wp2_with fail
  go_ret
  exact ⟨by first | rfl | (simp; done), k.out⟩

theorem bF_wf : WfB bF := ⟨⟨by decide, by decide⟩, by decide⟩
theorem bF_wfL : WfL [bF] := fun b hb => by rw [List.mem_singleton] at hb; subst hb; exact bF_wf
theorem cF_wf : WfK cF := ⟨⟨by decide, by decide⟩, nameB_lt bF⟩
theorem firstK_wf : WfK firstK := ⟨⟨by decide, by decide⟩, by decide, by decide⟩
theorem vF_wf : WfLks vF := by
  intro x hx
  rcases List.mem_cons.1 hx with rfl | hx
  · exact ⟨⟨by decide, by decide⟩, firstK_wf, cF_wf⟩
  · rw [List.mem_singleton] at hx; subst hx; exact ⟨⟨by decide, by decide⟩, firstK_wf, cF_wf⟩
theorem ffgAwake (w : World) : Calls Tryz.prog 4 #[] w fun e w' => e = .returned (.bool true) ∧ Kept w w' := by
  refine ffgAwake_of (nameB bF) (fun w => name_any bF bF_wf w) ?_ ?_ ?_ ?_ w
  · intro A c L cl V cv w hA hL hV
    refine (ffgJust_any A c kF L cl [bF] V cv vF w (by decide) (by decide) bF_wfL (by decide) vF_wf hA hL hV).mono ?_
    rintro e w' ⟨R, A', c', hR, _, rfl, hC, _, k⟩
    have e := hR.one exF_just
    subst e
    exact ⟨A', c', rfl, hC, k⟩
  · intro A c L cl V cv w hA hL hV
    refine (ffgFinal_any A c kF L cl [bF] V cv vF w (by decide) (by decide) bF_wfL (by decide) vF_wf hA hL hV).mono ?_
    rintro e w' ⟨R, A', c', hR, _, rfl, hC, _, k⟩
    have e := hR.one exF_final
    subst e
    exact ⟨A', c', rfl, k⟩
  · intro A c L cl V w hA hL hV
    have h := ffgMay_any A c kF L cl [bF] ⟨0, firstK, cF⟩ w (by decide) (by decide) bF_wfL (vF_wf _ List.mem_cons_self) hA hL
    rw [exF_fine ⟨0, firstK, cF⟩ List.mem_cons_self] at h
    exact h
  · intro A c L cl V cv w hA hL hV
    have hV1 : CellsAt w w.heap.size V (lksCells (vF.take 1)) := cells_prefix (ys := lksCells (vF.drop 1)) hV
    have h := ffgStrong_any A c kF L cl [bF] V cv (vF.take 1) firstK cF w (by decide) (by decide) bF_wfL (by decide) (fun x hx => vF_wf x (List.mem_of_mem_take hx)) firstK_wf cF_wf hA hL hV1
    rw [show strongC kF [bF] (vF.take 1) firstK cF = false from by unfold strongC; rw [exF_first, exF_weak]] at h
    exact h

/-! ### few -/
def few11C (k : Cf) (l : List Bk) (v : List Lk) : Bool := decide (k.ws.length ≤ 40 ∧ l.length ≤ 20 ∧ v.length ≤ 40)
theorem few11C_yes {k : Cf} {l : List Bk} {v : List Lk} (h : few11C k l v = true) : k.ws.length ≤ 40 ∧ l.length ≤ 20 ∧ v.length ≤ 40 := of_decide_eq_true h
set_option maxHeartbeats 800000 in
theorem few11_any (A : Option Addr) (c : Nat) (k : Cf) (L : Option Addr) (cl : Nat) (l : List Bk) (V : Option Addr) (cv : Nat) (v : List Lk) (w : World) :
    Calls Tryz.prog 5 #[.agg #[.slice A k.ws.length c, .int .u64 k.seed, .int .i64 k.ep, .int .i64 k.nu, .int .i64 k.de], .slice L l.length cl, .slice V v.length cv] w fun e w' => e = .returned (.bool (few11C k l v)) ∧ Kept w w' := by
  by_cases h1 : k.ws.length ≤ 40
  · by_cases h2 : l.length ≤ 20
    · by_cases h3 : v.length ≤ 40
      · have HF := Lib.hid (show few11C k l v = true from decide_eq_true ⟨h1, h2, h3⟩)
        go_enter Tryz.func5, Tryz.ntmps5
        go_wp2_with fail
        go_ret
        exact ⟨by rw [HF.out]; first | rfl | (simp; done) | (simp; omega), (Kept.refl w).alloc _⟩
      · have HF := Lib.hid (show few11C k l v = false from decide_eq_false (by omega))
        go_enter Tryz.func5, Tryz.ntmps5
        go_wp2_with fail
        go_ret
        exact ⟨by rw [HF.out]; first | rfl | (simp; done) | (simp; omega), (Kept.refl w).alloc _⟩
    · have HF := Lib.hid (show few11C k l v = false from decide_eq_false (by omega))
      go_enter Tryz.func5, Tryz.ntmps5
      go_wp2_with fail
      go_ret
      exact ⟨by rw [HF.out]; first | rfl | (simp; done) | (simp; omega), (Kept.refl w).alloc _⟩
  · have HF := Lib.hid (show few11C k l v = false from decide_eq_false (by omega))
    go_enter Tryz.func5, Tryz.ntmps5
    go_wp2_with fail
    go_ret
    exact ⟨by rw [HF.out]; first | rfl | (simp; done) | (simp; omega), (Kept.refl w).alloc _⟩

end Go.Proofs.YthgammhjoajhoaaGreat
