/-
  The chapter's example, and a vote that counts, which every law of layer 14 asks first: it is so.
-/
import Derived.Test.YtlapcnfhnfkbmaaGreatGold
import Derived.Test.YtlapcnfhnfkbmaaGreatGhostAwake
import Derived.Test.YtlapcnfhnfkbmaaGreatTreeG
import Derived.Test.YtlapcnfhnfkbmaaGreatDutyG
import Derived.Test.YtlapcnfhnfkbmaaGreatGround
namespace Go.Proofs.YtlapcnfhnfkbmaaGreat
set_option maxRecDepth 100000
set_option linter.unusedVariables false
set_option linter.unusedSimpArgs false
set_option linter.unusedSimpArgs false
set_option linter.unusedVariables false
open Go.ChangeShapes Go.WideShapes Go.ChangeAt Go.RowKit

def vGa : Vt := ⟨0, 1, nameB gA⟩
def vGb : Vt := ⟨5, 1, nameB gA⟩
theorem ex14_in0 : inC kGe 1 0 = true := by decide +kernel
theorem ex14_in5 : inC kGe 1 5 = false := by decide +kernel
theorem ex14_head : headC kGe [gA] [vGa] = nameB gA := by decide +kernel
theorem vG2_wf : WfVs [vGa, vGb] := fun b hb => by
  rcases List.mem_cons.1 hb with rfl | hb
  · exact ⟨⟨by decide, by decide⟩, ⟨by decide, by decide⟩, nameB_lt gA⟩
  · rw [List.mem_singleton] at hb; subst hb; exact ⟨⟨by decide, by decide⟩, ⟨by decide, by decide⟩, nameB_lt gA⟩
theorem lGa_wf : WfL [gA] := fun b hb => by
  rw [List.mem_singleton] at hb; subst hb; exact gA_wf
theorem vG2_mem {x : Vt} (h : x ∈ [vGa, vGb]) : x = vGa ∨ x = vGb := by simpa using h
theorem vG2_dbl (s f : Int) : ¬ Dbl [vGa, vGb] s f := by
  rintro ⟨a, ha, b, hb, e1, e2, _, _, ne⟩
  rcases vG2_mem ha with rfl | rfl <;> rcases vG2_mem hb with rfl | rfl
  · exact ne rfl
  · exact absurd (e1.trans e2.symm) (by decide)
  · exact absurd (e1.trans e2.symm) (by decide)
  · exact ne rfl
theorem vG_first : Golds kGe 1 [vGa, vGb] [vGa] := by
  refine ⟨List.pairwise_singleton _ _, fun x => ⟨fun h => ?_, fun h => ?_⟩⟩
  · rw [List.mem_singleton] at h
    subst h
    refine ⟨⟨by simp, by decide, fun s _ d => vG2_dbl s _ d, fun a ha e _ => ?_⟩, ex14_in0⟩
    rcases vG2_mem ha with rfl | rfl
    · exact Int.le_refl _
    · exact absurd e (by decide)
  · rcases vG2_mem h.1.1 with rfl | rfl
    · simp
    · rw [show vGb.f = 5 from rfl, ex14_in5] at h; cases h.2
theorem vG_second : Golds kGe 2 [vGa, vGb] [] := by
  refine ⟨List.Pairwise.nil, fun x => ⟨fun h => (by cases h), fun h => ?_⟩⟩
  have := h.1.2.1
  rcases vG2_mem h.1.1 with rfl | rfl <;> exact absurd this (by decide)
attribute [local go_sem high] eqIdN in
set_option maxRecDepth 100000 in
set_option maxHeartbeats 6400000 in
theorem goldAwake_of (n1 : Id2)
    (hN1 : ∀ w, Calls Tryz.prog 27 #[.agg #[.int .i64 1, .int .i64 0, .int .u64 0, .int .u64 0, .int .u64 0]] w fun e w' => e = .returned (.agg #[.int .u64 n1.1, .int .u64 n1.2]) ∧ Kept w w')
    (hO1 : ∀ A c V cv w, CellsAt w w.heap.size A [.int .i64 1] → CellsAt w w.heap.size V [.int .i64 0, .int .i64 1, .int .u64 n1.1, .int .u64 n1.2, .int .i64 5, .int .i64 1, .int .u64 n1.1, .int .u64 n1.2] → Calls Tryz.prog 12 #[.agg #[.slice A 1 c, .int .u64 0, .int .i64 1, .int .i64 0, .int .i64 4], .slice V 2 cv, .int .i64 1] w fun e w' => ∃ J cj, e = .returned (.slice J 1 cj) ∧ CellsAt w' w'.heap.size J [.int .i64 0, .int .i64 1, .int .u64 n1.1, .int .u64 n1.2] ∧ Kept w w')
    (hO2 : ∀ A c V cv w, CellsAt w w.heap.size A [.int .i64 1] → CellsAt w w.heap.size V [.int .i64 0, .int .i64 1, .int .u64 n1.1, .int .u64 n1.2, .int .i64 5, .int .i64 1, .int .u64 n1.1, .int .u64 n1.2] → Calls Tryz.prog 12 #[.agg #[.slice A 1 c, .int .u64 0, .int .i64 1, .int .i64 0, .int .i64 4], .slice V 2 cv, .int .i64 2] w fun e w' => ∃ J cj, e = .returned (.slice J 0 cj) ∧ Kept w w')
    (hH : ∀ A c L cl V cv w, CellsAt w w.heap.size A [.int .i64 1] → CellsAt w w.heap.size L [.int .i64 1, .int .i64 0, .int .u64 0, .int .u64 0, .int .u64 0] → CellsAt w w.heap.size V [.int .i64 0, .int .i64 1, .int .u64 n1.1, .int .u64 n1.2, .int .i64 5, .int .i64 1, .int .u64 n1.1, .int .u64 n1.2] → Calls Tryz.prog 14 #[.agg #[.slice A 1 c, .int .u64 0, .int .i64 1, .int .i64 0, .int .i64 4], .agg #[.slice L 1 cl, .slice V 2 cv], .int .i64 1] w fun e w' => e = .returned (.agg #[.int .u64 n1.1, .int .u64 n1.2]) ∧ Kept w w')
    (w : World) : Calls Tryz.prog 9 #[] w fun e w' => e = .returned (.bool true) ∧ Kept w w' := by
  have HN1 := Lib.hid hN1
  have HO1 := Lib.hid hO1
  have HO2 := Lib.hid hO2
  have HH := Lib.hid hH
  clear hN1 hO1 hO2 hH
  have h11 := sameI_yes (rfl : n1 = n1)
  have HK0 := Lib.hid ((((Kept.refl w).alloc (.cells #[.int .i64 1] 3)).alloc (.cells #[.slice (some ⟨w.heap.size, 0, none⟩) 1 1, .int .u64 0, .int .i64 1, .int .i64 0, .int .i64 4] 25)).alloc (.cells #[.int .i64 1, .int .i64 0, .int .u64 0, .int .u64 0, .int .u64 0] 56))
  have HA0 := Lib.hid (((CellsAt.new w #[.int .i64 1] 3 w.heap.size rfl).kept ((Kept.refl _).alloc (.cells #[.slice (some ⟨w.heap.size, 0, none⟩) 1 1, .int .u64 0, .int .i64 1, .int .i64 0, .int .i64 4] 25))).kept ((Kept.refl _).alloc (.cells #[.int .i64 1, .int .i64 0, .int .u64 0, .int .u64 0, .int .u64 0] 56)))
  have HC0 := Lib.hid ((HasCells.new (w.alloc (.cells #[.int .i64 1] 3)) #[.slice (some ⟨w.heap.size, 0, none⟩) 1 1, .int .u64 0, .int .i64 1, .int .i64 0, .int .i64 4] 25 (w.heap.size + 1) (by simp)).alloc (.cells #[.int .i64 1, .int .i64 0, .int .u64 0, .int .u64 0, .int .u64 0] 56))
  have HD0 := Lib.hid (HasCells.new ((w.alloc (.cells #[.int .i64 1] 3)).alloc (.cells #[.slice (some ⟨w.heap.size, 0, none⟩) 1 1, .int .u64 0, .int .i64 1, .int .i64 0, .int .i64 4] 25)) #[.int .i64 1, .int .i64 0, .int .u64 0, .int .u64 0, .int .u64 0] 56 (w.heap.size + 1 + 1) (by simp))
  go_enter Tryz.func9, Tryz.ntmps9
  go_wp2_with fail
  generalize (((w.alloc (.cells #[.int .i64 1] 3)).alloc (.cells #[.slice (some ⟨w.heap.size, 0, none⟩) 1 1, .int .u64 0, .int .i64 1, .int .i64 0, .int .i64 4] 25)).alloc (.cells #[.int .i64 1, .int .i64 0, .int .u64 0, .int .u64 0, .int .u64 0] 56)) = W at *
  generalize w.heap.size + 1 + 1 = z2 at *
  generalize w.heap.size + 1 = z1 at *
  generalize w.heap.size = z0 at *
  refine (HN1.out W).mono ?_
  rintro e W1 ⟨rfl, k1⟩
  have HI0 := Lib.hid ((AtI.new W1 n1 W1.heap.size rfl).alloc (.cells #[.int .i64 0, .int .i64 1, .int .u64 n1.1, .int .u64 n1.2, .int .i64 5, .int .i64 1, .int .u64 n1.1, .int .u64 n1.2] 39))
  have HV0 := Lib.hid (CellsAt.new (W1.alloc (.cells #[.int .u64 n1.1, .int .u64 n1.2] 35)) #[.int .i64 0, .int .i64 1, .int .u64 n1.1, .int .u64 n1.2, .int .i64 5, .int .i64 1, .int .u64 n1.1, .int .u64 n1.2] 39 (W1.heap.size + 1) (by simp))
  have K1 := Lib.hid ((k1.alloc (.cells #[.int .u64 n1.1, .int .u64 n1.2] 35)).alloc (.cells #[.int .i64 0, .int .i64 1, .int .u64 n1.1, .int .u64 n1.2, .int .i64 5, .int .i64 1, .int .u64 n1.1, .int .u64 n1.2] 39))
  have hc := (HC0.out.kept k1).five
  obtain ⟨c0, c1_, c2, c3, c4⟩ := hc
  have hbc := (HC0.out.kept k1).1
  clear k1
  go_wp2_with fail
  clear c0 c1_ c2 c3 c4 hbc
  generalize (W1.alloc (.cells #[.int .u64 n1.1, .int .u64 n1.2] 35)).alloc (.cells #[.int .i64 0, .int .i64 1, .int .u64 n1.1, .int .u64 n1.2, .int .i64 5, .int .i64 1, .int .u64 n1.1, .int .u64 n1.2] 39) = V0 at *
  generalize W1.heap.size + 1 = zv at *
  generalize W1.heap.size = zi at *
  refine (HO1.out _ 1 _ 2 V0 (HA0.out.kept K1.out) HV0.out).mono ?_
  rintro e V1 ⟨J, cj, rfl, hJ, k2⟩
  have HJ := Lib.hid hJ
  have K2 := Lib.hid (K1.out.trans k2)
  have HI1 := Lib.hid (HI0.out.kept k2)
  have HV1 := Lib.hid (HV0.out.kept k2)
  obtain ⟨zj, oj, rfl, hbj, hj⟩ := HJ.out.plain (by simp)
  have j0 : V1.cell? ⟨zj, oj, none⟩ = some (.int .i64 0) := hj 0 _ rfl
  clear hJ k2 hj
  go_wp2_with fail
  obtain ⟨c0, c1_, c2, c3, c4⟩ := (HC0.out.kept K2.out).five
  have hbc := (HC0.out.kept K2.out).1
  obtain ⟨d0, d1, d2, d3, d4⟩ := (HD0.out.kept K2.out).five
  have hbd := (HD0.out.kept K2.out).1
  have i0 := HI1.out.c0
  have i1 := HI1.out.c1
  have hbi := HI1.out.lt
  refine wp_region_noPanic ?_
  refine wp_region_held_drew (S := (fun w' => w'.cell? ⟨z1, 0, none⟩ = some (.slice (some ⟨z0, 0, none⟩) 1 1) ∧ w'.cell? ⟨z1, 1, none⟩ = some (.int .u64 0) ∧ w'.cell? ⟨z1, 2, none⟩ = some (.int .i64 1) ∧ w'.cell? ⟨z1, 3, none⟩ = some (.int .i64 0) ∧ w'.cell? ⟨z1, 4, none⟩ = some (.int .i64 4) ∧ w'.cell? ⟨z2, 0, none⟩ = some (.int .i64 1) ∧ w'.cell? ⟨z2, 1, none⟩ = some (.int .i64 0) ∧ w'.cell? ⟨z2, 2, none⟩ = some (.int .u64 0) ∧ w'.cell? ⟨z2, 3, none⟩ = some (.int .u64 0) ∧ w'.cell? ⟨z2, 4, none⟩ = some (.int .u64 0) ∧ w'.cell? ⟨zi, 0, none⟩ = some (.int .u64 n1.1) ∧ w'.cell? ⟨zi, 1, none⟩ = some (.int .u64 n1.2) ∧ w'.cell? ⟨zj, oj, none⟩ = some (.int .i64 0) ∧ Kept V1 w')) (by kernel_rfl) ?_ (fun hHeld => ?_)
  · exact ⟨c0, c1_, c2, c3, c4, d0, d1, d2, d3, d4, i0, i1, j0, (Kept.refl _).drew⟩
  refine wpAnyH_take (i := 0) (v := ?_) (by simp only [List.getElem?_toArray, List.getElem?_cons_succ, List.getElem?_cons_zero]; rfl) (by kernel_rfl) (by kernel_rfl) (by kernel_rfl) (fun _ _ _ h => h) (Or.inl ⟨by rfl, ?_⟩) (by assumption) ?_
  rotate_left
  · intro w hSw
    (try dsimp only at hSw)
    go_simp
    (try with_reducible rfl)
  simp only [Act.put, List.setIfInBounds_toArray, List.set_cons_zero, List.set_cons_succ]
  refine wpAnyH_take (i := 1) (v := ?_) (by simp only [List.getElem?_toArray, List.getElem?_cons_succ, List.getElem?_cons_zero]; rfl) (by kernel_rfl) (by kernel_rfl) (by kernel_rfl) (fun _ _ _ h => h) (Or.inl ⟨by rfl, ?_⟩) (by assumption) ?_
  rotate_left
  · intro w hSw
    (try dsimp only at hSw)
    go_simp
    (try with_reducible rfl)
  simp only [Act.put, List.setIfInBounds_toArray, List.set_cons_zero, List.set_cons_succ]
  refine wpAnyH_take (i := 2) (v := ?_) (by simp only [List.getElem?_toArray, List.getElem?_cons_succ, List.getElem?_cons_zero]; rfl) (by kernel_rfl) (by kernel_rfl) (by kernel_rfl) (fun _ _ _ h => h) (Or.inl ⟨by rfl, ?_⟩) (by assumption) ?_
  rotate_left
  · intro w hSw
    (try dsimp only at hSw)
    go_simp
    (try with_reducible rfl)
  simp only [Act.put, List.setIfInBounds_toArray, List.set_cons_zero, List.set_cons_succ]
  refine wpAnyH_take (i := 3) (v := ?_) (by simp only [List.getElem?_toArray, List.getElem?_cons_succ, List.getElem?_cons_zero]; rfl) (by kernel_rfl) (by kernel_rfl) (by kernel_rfl) (fun _ _ _ h => h) (Or.inl ⟨by rfl, ?_⟩) (by assumption) ?_
  rotate_left
  · intro w hSw
    (try dsimp only at hSw)
    go_simp
    (try with_reducible rfl)
  simp only [Act.put, List.setIfInBounds_toArray, List.set_cons_zero, List.set_cons_succ]
  refine wpAnyH_take (i := 4) (v := ?_) (by simp only [List.getElem?_toArray, List.getElem?_cons_succ, List.getElem?_cons_zero]; rfl) (by kernel_rfl) (by kernel_rfl) (by kernel_rfl) (fun _ _ _ h => h) (Or.inl ⟨by rfl, ?_⟩) (by assumption) ?_
  rotate_left
  · intro w hSw
    (try dsimp only at hSw)
    go_simp
    (try with_reducible rfl)
  simp only [Act.put, List.setIfInBounds_toArray, List.set_cons_zero, List.set_cons_succ]
  refine wpAnyH_take (i := 5) (v := ?_) (by simp only [List.getElem?_toArray, List.getElem?_cons_succ, List.getElem?_cons_zero]; rfl) (by kernel_rfl) (by kernel_rfl) (by kernel_rfl) (fun _ _ _ h => h) (Or.inl ⟨by rfl, ?_⟩) (by assumption) ?_
  rotate_left
  · intro w hSw
    (try dsimp only at hSw)
    go_simp
    (try with_reducible rfl)
  simp only [Act.put, List.setIfInBounds_toArray, List.set_cons_zero, List.set_cons_succ]
  refine wpAnyH_take (i := 6) (v := ?_) (by simp only [List.getElem?_toArray, List.getElem?_cons_succ, List.getElem?_cons_zero]; rfl) (by kernel_rfl) (by kernel_rfl) (by kernel_rfl) (fun _ _ _ h => h) (Or.inl ⟨by rfl, ?_⟩) (by assumption) ?_
  rotate_left
  · intro w hSw
    (try dsimp only at hSw)
    go_simp
    (try with_reducible rfl)
  simp only [Act.put, List.setIfInBounds_toArray, List.set_cons_zero, List.set_cons_succ]
  refine wpAnyH_take (i := 7) (v := ?_) (by simp only [List.getElem?_toArray, List.getElem?_cons_succ, List.getElem?_cons_zero]; rfl) (by kernel_rfl) (by kernel_rfl) (by kernel_rfl) (fun _ _ _ h => h) (Or.inl ⟨by rfl, ?_⟩) (by assumption) ?_
  rotate_left
  · intro w hSw
    (try dsimp only at hSw)
    go_simp
    (try with_reducible rfl)
  simp only [Act.put, List.setIfInBounds_toArray, List.set_cons_zero, List.set_cons_succ]
  refine wpAnyH_take (i := 8) (v := ?_) (by simp only [List.getElem?_toArray, List.getElem?_cons_succ, List.getElem?_cons_zero]; rfl) (by kernel_rfl) (by kernel_rfl) (by kernel_rfl) (fun _ _ _ h => h) (Or.inl ⟨by rfl, ?_⟩) (by assumption) ?_
  rotate_left
  · intro w hSw
    (try dsimp only at hSw)
    go_simp
    (try with_reducible rfl)
  simp only [Act.put, List.setIfInBounds_toArray, List.set_cons_zero, List.set_cons_succ]
  refine wpAnyH_take (i := 9) (v := ?_) (by simp only [List.getElem?_toArray, List.getElem?_cons_succ, List.getElem?_cons_zero]; rfl) (by kernel_rfl) (by kernel_rfl) (by kernel_rfl) (fun _ _ _ h => h) (Or.inl ⟨by rfl, ?_⟩) (by assumption) ?_
  rotate_left
  · intro w hSw
    (try dsimp only at hSw)
    go_simp
    (try with_reducible rfl)
  simp only [Act.put, List.setIfInBounds_toArray, List.set_cons_zero, List.set_cons_succ]
  refine wpAnyH_take (i := 10) (v := ?_) (by simp only [List.getElem?_toArray, List.getElem?_cons_succ, List.getElem?_cons_zero]; rfl) (by kernel_rfl) (by kernel_rfl) (by kernel_rfl) (fun _ _ _ h => h) (Or.inl ⟨by rfl, ?_⟩) (by assumption) ?_
  rotate_left
  · intro w hSw
    (try dsimp only at hSw)
    go_simp
    (try with_reducible rfl)
  simp only [Act.put, List.setIfInBounds_toArray, List.set_cons_zero, List.set_cons_succ]
  refine wpAnyH_take (i := 11) (v := ?_) (by simp only [List.getElem?_toArray, List.getElem?_cons_succ, List.getElem?_cons_zero]; rfl) (by kernel_rfl) (by kernel_rfl) (by kernel_rfl) (fun _ _ _ h => h) (Or.inl ⟨by rfl, ?_⟩) (by assumption) ?_
  rotate_left
  · intro w hSw
    (try dsimp only at hSw)
    go_simp
    (try with_reducible rfl)
  simp only [Act.put, List.setIfInBounds_toArray, List.set_cons_zero, List.set_cons_succ]
  refine wpAnyH_take (i := 12) (v := ?_) (by simp only [List.getElem?_toArray, List.getElem?_cons_succ, List.getElem?_cons_zero]; rfl) (by kernel_rfl) (by kernel_rfl) (by kernel_rfl) (fun _ _ _ h => h) (Or.inl ⟨by rfl, ?_⟩) (by assumption) ?_
  rotate_left
  · intro w hSw
    (try dsimp only at hSw)
    go_simp
    (try with_reducible rfl)
  simp only [Act.put, List.setIfInBounds_toArray, List.set_cons_zero, List.set_cons_succ]
  refine wpAnyH_take (i := 14) (v := ?_) (by simp only [List.getElem?_toArray, List.getElem?_cons_succ, List.getElem?_cons_zero]; rfl) (by kernel_rfl) (by kernel_rfl) (by kernel_rfl) (fun _ _ _ h => h) (Or.inl ⟨by rfl, ?_⟩) (by assumption) ?_
  rotate_left
  · intro w hSw
    (try dsimp only at hSw)
    go_simp
    (try with_reducible rfl)
  simp only [Act.put, List.setIfInBounds_toArray, List.set_cons_zero, List.set_cons_succ]
  refine wpAnyH_take (i := 17) (v := ?_) (by simp only [List.getElem?_toArray, List.getElem?_cons_succ, List.getElem?_cons_zero]; rfl) (by kernel_rfl) (by kernel_rfl) (by kernel_rfl) (fun _ _ _ h => h) (Or.inl ⟨by rfl, ?_⟩) (by assumption) ?_
  rotate_left
  · intro w hSw
    (try dsimp only at hSw)
    go_simp
    (try with_reducible rfl)
  simp only [Act.put, List.setIfInBounds_toArray, List.set_cons_zero, List.set_cons_succ]
  refine wpAnyH_ready (rs := [13]) (by kernel_rfl) (by simp) ?_
  refine AllReadyH.cons (by simp only [List.getElem?_toArray, List.getElem?_cons_succ, List.getElem?_cons_zero]; rfl) (fun K hK => ?_) AllReadyH.nil
  go_simp
  have HL0 := Lib.hid ((CellsAt.new V1 #[.int .i64 1, .int .i64 0, .int .u64 0, .int .u64 0, .int .u64 0] 56 V1.heap.size rfl).kept (Kept.refl _).drew)
  try go_wp2_with fail
  refine hK.out _ _ ?_ (fun hHeld2 => ?_)
  · (first | exact keepP13 hbc hbc hbc hbc hbc hbd hbd hbd hbd hbd hbi hbi hbj hHeld kk | exact keepP13 hbc hbc hbc hbc hbc hbd hbd hbd hbd hbd hbi hbi hbj hHeld ((Kept.refl _).alloc _))
  clear hK K hHeld
  have hHeld := hHeld2
  clear hHeld2
  try simp only [Act.put, List.setIfInBounds_toArray, List.set_cons_zero, List.set_cons_succ]
  refine wpAnyH_take (i := 15) (v := ?_) (by simp only [List.getElem?_toArray, List.getElem?_cons_succ, List.getElem?_cons_zero]; rfl) (by kernel_rfl) (by kernel_rfl) (by kernel_rfl) (fun _ _ _ h => h) (Or.inl ⟨by rfl, ?_⟩) (by assumption) ?_
  rotate_left
  · intro w hSw
    (try dsimp only at hSw)
    go_simp
    (try with_reducible rfl)
  simp only [Act.put, List.setIfInBounds_toArray, List.set_cons_zero, List.set_cons_succ]
  refine wpAnyH_ready (rs := [16]) (by kernel_rfl) (by simp) ?_
  refine AllReadyH.cons (by simp only [List.getElem?_toArray, List.getElem?_cons_succ, List.getElem?_cons_zero]; rfl) (fun K hK => ?_) AllReadyH.nil
  go_simp
  go_at_call 14; with_reducible refine (HH.out _ 1 _ 1 _ 2 _ (HA0.out.kept (K2.out.trans hHeld.2.2.2.2.2.2.2.2.2.2.2.2.2)) HL0.out (HV1.out.kept hHeld.2.2.2.2.2.2.2.2.2.2.2.2.2)).mono ?_
  rintro e w' ⟨rfl, kk⟩
  try go_wp2_with fail
  refine hK.out _ _ ?_ (fun hHeld2 => ?_)
  · (first | exact keepP13 hbc hbc hbc hbc hbc hbd hbd hbd hbd hbd hbi hbi hbj hHeld kk | exact keepP13 hbc hbc hbc hbc hbc hbd hbd hbd hbd hbd hbi hbi hbj hHeld ((Kept.refl _).alloc _))
  clear hK K hHeld
  have hHeld := hHeld2
  clear hHeld2
  try simp only [Act.put, List.setIfInBounds_toArray, List.set_cons_zero, List.set_cons_succ]
  refine wpAnyH_take (i := 18) (v := ?_) (by simp only [List.getElem?_toArray, List.getElem?_cons_succ, List.getElem?_cons_zero]; rfl) (by kernel_rfl) (by kernel_rfl) (by kernel_rfl) (fun _ _ _ h => h) (Or.inl ⟨by rfl, ?_⟩) (by assumption) ?_
  rotate_left
  · intro w hSw
    (try dsimp only at hSw)
    go_simp
    (try with_reducible rfl)
  simp only [Act.put, List.setIfInBounds_toArray, List.set_cons_zero, List.set_cons_succ]
  try simp only [h11]
  refine wpAnyH_take (i := 19) (v := ?_) (by simp only [List.getElem?_toArray, List.getElem?_cons_succ, List.getElem?_cons_zero]; rfl) (by kernel_rfl) (by kernel_rfl) (by kernel_rfl) (fun _ _ _ h => h) (Or.inl ⟨by rfl, ?_⟩) (by assumption) ?_
  rotate_left
  · intro w hSw
    (try dsimp only at hSw)
    go_simp
    (try with_reducible rfl)
  simp only [Act.put, List.setIfInBounds_toArray, List.set_cons_zero, List.set_cons_succ]
  refine wpAnyH_take (i := 20) (v := ?_) (by simp only [List.getElem?_toArray, List.getElem?_cons_succ, List.getElem?_cons_zero]; rfl) (by kernel_rfl) (by kernel_rfl) (by kernel_rfl) (fun _ _ _ h => h) (Or.inl ⟨by rfl, ?_⟩) (by assumption) ?_
  rotate_left
  · intro w hSw
    (try dsimp only at hSw)
    go_simp
    (try with_reducible rfl)
  simp only [Act.put, List.setIfInBounds_toArray, List.set_cons_zero, List.set_cons_succ]
  refine wpAnyH_take (i := 21) (v := ?_) (by simp only [List.getElem?_toArray, List.getElem?_cons_succ, List.getElem?_cons_zero]; rfl) (by kernel_rfl) (by kernel_rfl) (by kernel_rfl) (fun _ _ _ h => h) (Or.inl ⟨by rfl, ?_⟩) (by assumption) ?_
  rotate_left
  · intro w hSw
    (try dsimp only at hSw)
    go_simp
    (try with_reducible rfl)
  simp only [Act.put, List.setIfInBounds_toArray, List.set_cons_zero, List.set_cons_succ]
  refine wpAnyH_take (i := 22) (v := ?_) (by simp only [List.getElem?_toArray, List.getElem?_cons_succ, List.getElem?_cons_zero]; rfl) (by kernel_rfl) (by kernel_rfl) (by kernel_rfl) (fun _ _ _ h => h) (Or.inl ⟨by rfl, ?_⟩) (by assumption) ?_
  rotate_left
  · intro w hSw
    (try dsimp only at hSw)
    go_simp
    (try with_reducible rfl)
  simp only [Act.put, List.setIfInBounds_toArray, List.set_cons_zero, List.set_cons_succ]
  refine wpAnyH_ready (rs := [23]) (by kernel_rfl) (by simp) ?_
  refine AllReadyH.cons (by simp only [List.getElem?_toArray, List.getElem?_cons_succ, List.getElem?_cons_zero]; rfl) (fun K hK => ?_) AllReadyH.nil
  go_simp
  go_at_call 12; with_reducible refine (HO2.out _ 1 _ 2 _ (HA0.out.kept (K2.out.trans hHeld.2.2.2.2.2.2.2.2.2.2.2.2.2)) (HV1.out.kept hHeld.2.2.2.2.2.2.2.2.2.2.2.2.2)).mono ?_
  rintro e w' ⟨J2, cj2, rfl, kk⟩
  try go_wp2_with fail
  refine hK.out _ _ ?_ (fun hHeld2 => ?_)
  · (first | exact keepP13 hbc hbc hbc hbc hbc hbd hbd hbd hbd hbd hbi hbi hbj hHeld kk | exact keepP13 hbc hbc hbc hbc hbc hbd hbd hbd hbd hbd hbi hbi hbj hHeld ((Kept.refl _).alloc _))
  clear hK K hHeld
  have hHeld := hHeld2
  clear hHeld2
  try simp only [Act.put, List.setIfInBounds_toArray, List.set_cons_zero, List.set_cons_succ]
  refine wpAnyH_take (i := 24) (v := ?_) (by simp only [List.getElem?_toArray, List.getElem?_cons_succ, List.getElem?_cons_zero]; rfl) (by kernel_rfl) (by kernel_rfl) (by kernel_rfl) (fun _ _ _ h => h) (Or.inl ⟨by rfl, ?_⟩) (by assumption) ?_
  rotate_left
  · intro w hSw
    (try dsimp only at hSw)
    go_simp
    (try with_reducible rfl)
  simp only [Act.put, List.setIfInBounds_toArray, List.set_cons_zero, List.set_cons_succ]
  refine wpAnyH_take (i := 25) (v := ?_) (by simp only [List.getElem?_toArray, List.getElem?_cons_succ, List.getElem?_cons_zero]; rfl) (by kernel_rfl) (by kernel_rfl) (by kernel_rfl) (fun _ _ _ h => h) (Or.inl ⟨by rfl, ?_⟩) (by assumption) ?_
  rotate_left
  · intro w hSw
    (try dsimp only at hSw)
    go_simp
    (try with_reducible rfl)
  simp only [Act.put, List.setIfInBounds_toArray, List.set_cons_zero, List.set_cons_succ]
  refine wpAnyH_take (i := 26) (v := ?_) (by simp only [List.getElem?_toArray, List.getElem?_cons_succ, List.getElem?_cons_zero]; rfl) (by kernel_rfl) (by kernel_rfl) (by kernel_rfl) (fun _ _ _ h => h) (Or.inl ⟨by rfl, ?_⟩) (by assumption) ?_
  rotate_left
  · intro w hSw
    (try dsimp only at hSw)
    go_simp
    (try with_reducible rfl)
  simp only [Act.put, List.setIfInBounds_toArray, List.set_cons_zero, List.set_cons_succ]
  refine wpAnyH_take (i := 27) (v := ?_) (by simp only [List.getElem?_toArray, List.getElem?_cons_succ, List.getElem?_cons_zero]; rfl) (by kernel_rfl) (by kernel_rfl) (by kernel_rfl) (fun _ _ _ h => h) (Or.inl ⟨by rfl, ?_⟩) (by assumption) ?_
  rotate_left
  · intro w hSw
    (try dsimp only at hSw)
    go_simp
    (try with_reducible rfl)
  simp only [Act.put, List.setIfInBounds_toArray, List.set_cons_zero, List.set_cons_succ]
  refine wpAnyH_done (by kernel_rfl) ?_ _
  refine NoPanic.normal ?_
  have k := hHeld.2.2.2.2.2.2.2.2.2.2.2.2.2
  clear hHeld
  go_wp2_with fail
  go_ret
  exact ⟨by first | rfl | (simp; done), HK0.out.trans (K2.out.trans k)⟩
theorem goldAwake (w : World) : Calls Tryz.prog 9 #[] w fun e w' => e = .returned (.bool true) ∧ Kept w w' := by
  refine goldAwake_of (nameB gA) (fun w => name_any gA gA_wf w) ?_ ?_ ?_ w
  · intro A c V cv w hA hV
    refine (goldOf_any A c kGe V cv [vGa, vGb] 1 w (by decide) (by decide) (by decide) vG2_wf hA hV).mono ?_
    rintro e w' ⟨R, A1, c1, hR, _, rfl, hC, k⟩
    have e := hR.unique vG_first
    subst e
    exact ⟨A1, c1, rfl, hC, k⟩
  · intro A c V cv w hA hV
    refine (goldOf_any A c kGe V cv [vGa, vGb] 2 w (by decide) (by decide) (by decide) vG2_wf hA hV).mono ?_
    rintro e w' ⟨R, A1, c1, hR, _, rfl, hC, k⟩
    have e := hR.unique vG_second
    subst e
    exact ⟨A1, c1, rfl, k⟩
  · intro A c L cl V cv w hA hL hV
    refine (goldHead_any A c kGe L cl [gA] V cv [vGa, vGb] 1 w (by decide) (by decide) (by decide) (by decide) lGa_wf vG2_wf hA hL hV).mono ?_
    rintro e w' ⟨R, hR, rfl, k⟩
    have e := hR.unique vG_first
    subst e
    rw [ex14_head]
    exact ⟨rfl, k⟩

end Go.Proofs.YtlapcnfhnfkbmaaGreat
