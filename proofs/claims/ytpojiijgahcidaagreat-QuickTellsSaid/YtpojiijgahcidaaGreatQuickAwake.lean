/-
  The chapter's example, which every law of layer 15 asks first: it is so.
-/
import Derived.Test.YtpojiijgahcidaaGreatQuickG
import Derived.Test.YtpojiijgahcidaaGreatHeadG
import Derived.Test.YtpojiijgahcidaaGreatTreeG
import Derived.Test.YtpojiijgahcidaaGreatDutyG
import Derived.Test.YtpojiijgahcidaaGreatVoteG
import Derived.Test.YtpojiijgahcidaaGreatGround
namespace Go.Proofs.YtpojiijgahcidaaGreat
set_option maxRecDepth 100000
set_option linter.unusedVariables false
set_option linter.unusedSimpArgs false
set_option linter.unusedSimpArgs false
set_option linter.unusedVariables false
open Go.ChangeShapes Go.WideShapes Go.ChangeAt Go.RowKit

def kQu : Cf := ⟨[1, 1, 1, 1], 0, 1, 1, 4⟩
def vQu : List Vt := [⟨0, 1, nameB gA⟩, ⟨1, 1, nameB gA⟩, ⟨2, 1, nameB gA⟩, ⟨3, 1, nameB gA⟩]
def vQ3 : List Vt := [⟨0, 1, nameB gA⟩, ⟨1, 1, nameB gA⟩, ⟨2, 1, nameB gA⟩]
theorem exQ_in : ∀ f ∈ ([0, 1, 2, 3] : List Int), inC kQu 1 f = true := by decide +kernel
theorem exQ_sure : sureC kQu [gA] 1 vQu (nameB gA) = true := by decide +kernel
theorem exQ_not : sureC kQu [gA] 1 vQ3 (nameB gA) = false := by decide +kernel
theorem exQ_on : onC kQu [gA] vQ3 (nameB gA) = 3 := by decide +kernel
theorem exQ_top : topC kQu [gA] 1 vQu (nameB gA) = some (nameB gA) := by decide +kernel
theorem lQ_wf : WfL [gA] := fun b hb => by
  rw [List.mem_singleton] at hb; subst hb; exact gA_wf
theorem vQ_of {x : Vt} (h : x ∈ vQu) : x.f ∈ ([0, 1, 2, 3] : List Int) ∧ x.s = 1 ∧ x.p = nameB gA ∧ Wf64 x.f ∧ Wf64 x.s := by
  unfold vQu at h
  simp only [List.mem_cons, List.not_mem_nil, or_false] at h
  rcases h with rfl | rfl | rfl | rfl <;> exact ⟨by decide, rfl, rfl, ⟨by decide, by decide⟩, ⟨by decide, by decide⟩⟩
theorem vQ3_of {x : Vt} (h : x ∈ vQ3) : x ∈ vQu := by
  unfold vQ3 at h
  unfold vQu
  simp only [List.mem_cons, List.not_mem_nil, or_false] at h ⊢
  rcases h with h | h | h
  · exact Or.inl h
  · exact Or.inr (Or.inl h)
  · exact Or.inr (Or.inr (Or.inl h))
theorem vQ_wf : WfVs vQu := fun x hx => by
  have h := vQ_of hx
  exact ⟨h.2.2.2.1, h.2.2.2.2, by rw [h.2.2.1]; exact nameB_lt gA⟩
theorem vQ3_wf : WfVs vQ3 := fun x hx => vQ_wf x (vQ3_of hx)
theorem vQ_golds : Golds kQu 1 vQu vQu := golds_self (by unfold vQu; simp) fun x hx => by
  have h := vQ_of hx
  exact ⟨h.2.1, exQ_in _ h.1⟩
theorem vQ3_golds : Golds kQu 1 vQ3 vQ3 := golds_self (by unfold vQ3; simp) fun x hx => by
  have h := vQ_of (vQ3_of hx)
  exact ⟨h.2.1, exQ_in _ h.1⟩

attribute [local go_sem high] eqIdN in
set_option maxRecDepth 100000 in
set_option maxHeartbeats 12800000 in
theorem quickAwake_of (n1 : Id2)
    (hN1 : ∀ w, Calls Tryz.prog 26 #[.agg #[.int .i64 1, .int .i64 0, .int .u64 0, .int .u64 0, .int .u64 0]] w fun e w' => e = .returned (.agg #[.int .u64 n1.1, .int .u64 n1.2]) ∧ Kept w w')
    (hT : ∀ A c L cl V cv w, CellsAt w w.heap.size A [.int .i64 1, .int .i64 1, .int .i64 1, .int .i64 1] → CellsAt w w.heap.size L [.int .i64 1, .int .i64 0, .int .u64 0, .int .u64 0, .int .u64 0] → CellsAt w w.heap.size V [.int .i64 0, .int .i64 1, .int .u64 n1.1, .int .u64 n1.2, .int .i64 1, .int .i64 1, .int .u64 n1.1, .int .u64 n1.2, .int .i64 2, .int .i64 1, .int .u64 n1.1, .int .u64 n1.2, .int .i64 3, .int .i64 1, .int .u64 n1.1, .int .u64 n1.2] → Calls Tryz.prog 13 #[.agg #[.slice A 4 c, .int .u64 0, .int .i64 1, .int .i64 1, .int .i64 4], .agg #[.slice L 1 cl, .slice V 4 cv], .int .i64 1, .agg #[.int .u64 n1.1, .int .u64 n1.2]] w fun e w' => e = .returned (.tuple #[.agg #[.int .u64 n1.1, .int .u64 n1.2], .bool true]) ∧ Kept w w')
    (hS1 : ∀ A c L cl V cv w, CellsAt w w.heap.size A [.int .i64 1, .int .i64 1, .int .i64 1, .int .i64 1] → CellsAt w w.heap.size L [.int .i64 1, .int .i64 0, .int .u64 0, .int .u64 0, .int .u64 0] → CellsAt w w.heap.size V [.int .i64 0, .int .i64 1, .int .u64 n1.1, .int .u64 n1.2, .int .i64 1, .int .i64 1, .int .u64 n1.1, .int .u64 n1.2, .int .i64 2, .int .i64 1, .int .u64 n1.1, .int .u64 n1.2, .int .i64 3, .int .i64 1, .int .u64 n1.1, .int .u64 n1.2] → Calls Tryz.prog 17 #[.agg #[.slice A 4 c, .int .u64 0, .int .i64 1, .int .i64 1, .int .i64 4], .agg #[.slice L 1 cl, .slice V 4 cv], .int .i64 1, .agg #[.int .u64 n1.1, .int .u64 n1.2]] w fun e w' => e = .returned (.bool true) ∧ Kept w w')
    (hS2 : ∀ A c L cl V cv w, CellsAt w w.heap.size A [.int .i64 1, .int .i64 1, .int .i64 1, .int .i64 1] → CellsAt w w.heap.size L [.int .i64 1, .int .i64 0, .int .u64 0, .int .u64 0, .int .u64 0] → CellsAt w w.heap.size V [.int .i64 0, .int .i64 1, .int .u64 n1.1, .int .u64 n1.2, .int .i64 1, .int .i64 1, .int .u64 n1.1, .int .u64 n1.2, .int .i64 2, .int .i64 1, .int .u64 n1.1, .int .u64 n1.2] → Calls Tryz.prog 17 #[.agg #[.slice A 4 c, .int .u64 0, .int .i64 1, .int .i64 1, .int .i64 4], .agg #[.slice L 1 cl, .slice V 3 cv], .int .i64 1, .agg #[.int .u64 n1.1, .int .u64 n1.2]] w fun e w' => e = .returned (.bool false) ∧ Kept w w')
    (hF : ∀ A c L cl V cv w, CellsAt w w.heap.size A [.int .i64 1, .int .i64 1, .int .i64 1, .int .i64 1] → CellsAt w w.heap.size L [.int .i64 1, .int .i64 0, .int .u64 0, .int .u64 0, .int .u64 0] → CellsAt w w.heap.size V [.int .i64 0, .int .i64 1, .int .u64 n1.1, .int .u64 n1.2, .int .i64 1, .int .i64 1, .int .u64 n1.1, .int .u64 n1.2, .int .i64 2, .int .i64 1, .int .u64 n1.1, .int .u64 n1.2] → Calls Tryz.prog 15 #[.agg #[.slice A 4 c, .int .u64 0, .int .i64 1, .int .i64 1, .int .i64 4], .agg #[.slice L 1 cl, .slice V 3 cv], .int .i64 1, .agg #[.int .u64 n1.1, .int .u64 n1.2]] w fun e w' => e = .returned (.int .i64 3) ∧ Kept w w')
    (w : World) : Calls Tryz.prog 10 #[] w fun e w' => e = .returned (.bool true) ∧ Kept w w' := by
  have HN1 := Lib.hid hN1
  have HT := Lib.hid hT
  have HS1 := Lib.hid hS1
  have HS2 := Lib.hid hS2
  have HF := Lib.hid hF
  clear hN1 hT hS1 hS2 hF
  have h11 := sameI_yes (rfl : n1 = n1)
  have HK0 := Lib.hid ((((Kept.refl w).alloc (.cells #[.int .i64 1, .int .i64 1, .int .i64 1, .int .i64 1] 3)).alloc (.cells #[.slice (some ⟨w.heap.size, 0, none⟩) 4 4, .int .u64 0, .int .i64 1, .int .i64 1, .int .i64 4] 25)).alloc (.cells #[.int .i64 1, .int .i64 0, .int .u64 0, .int .u64 0, .int .u64 0] 54))
  have HA0 := Lib.hid (((CellsAt.new w #[.int .i64 1, .int .i64 1, .int .i64 1, .int .i64 1] 3 w.heap.size rfl).kept ((Kept.refl _).alloc (.cells #[.slice (some ⟨w.heap.size, 0, none⟩) 4 4, .int .u64 0, .int .i64 1, .int .i64 1, .int .i64 4] 25))).kept ((Kept.refl _).alloc (.cells #[.int .i64 1, .int .i64 0, .int .u64 0, .int .u64 0, .int .u64 0] 54)))
  have HC0 := Lib.hid ((HasCells.new (w.alloc (.cells #[.int .i64 1, .int .i64 1, .int .i64 1, .int .i64 1] 3)) #[.slice (some ⟨w.heap.size, 0, none⟩) 4 4, .int .u64 0, .int .i64 1, .int .i64 1, .int .i64 4] 25 (w.heap.size + 1) (by simp)).alloc (.cells #[.int .i64 1, .int .i64 0, .int .u64 0, .int .u64 0, .int .u64 0] 54))
  have HD0 := Lib.hid (HasCells.new ((w.alloc (.cells #[.int .i64 1, .int .i64 1, .int .i64 1, .int .i64 1] 3)).alloc (.cells #[.slice (some ⟨w.heap.size, 0, none⟩) 4 4, .int .u64 0, .int .i64 1, .int .i64 1, .int .i64 4] 25)) #[.int .i64 1, .int .i64 0, .int .u64 0, .int .u64 0, .int .u64 0] 54 (w.heap.size + 1 + 1) (by simp))
  go_enter Tryz.func10, Tryz.ntmps10
  go_wp2_with fail
  generalize (((w.alloc (.cells #[.int .i64 1, .int .i64 1, .int .i64 1, .int .i64 1] 3)).alloc (.cells #[.slice (some ⟨w.heap.size, 0, none⟩) 4 4, .int .u64 0, .int .i64 1, .int .i64 1, .int .i64 4] 25)).alloc (.cells #[.int .i64 1, .int .i64 0, .int .u64 0, .int .u64 0, .int .u64 0] 54)) = W at *
  generalize w.heap.size + 1 + 1 = z2 at *
  generalize w.heap.size + 1 = z1 at *
  generalize w.heap.size = z0 at *
  refine (HN1.out W).mono ?_
  rintro e W1 ⟨rfl, k1⟩
  have HI0 := Lib.hid ((((AtI.new W1 n1 W1.heap.size rfl).alloc (.cells #[.int .i64 0, .int .i64 1, .int .u64 n1.1, .int .u64 n1.2, .int .i64 1, .int .i64 1, .int .u64 n1.1, .int .u64 n1.2, .int .i64 2, .int .i64 1, .int .u64 n1.1, .int .u64 n1.2, .int .i64 3, .int .i64 1, .int .u64 n1.1, .int .u64 n1.2] 47)).alloc (.cells #[.int .i64 1, .int .i64 0, .int .u64 0, .int .u64 0, .int .u64 0] 54)).alloc (.cells #[.slice (some ⟨W1.heap.size + 1 + 1, 0, none⟩) 1 1, .slice (some ⟨W1.heap.size + 1, 0, none⟩) 4 4] 29))
  have HV0 := Lib.hid (((CellsAt.new (W1.alloc (.cells #[.int .u64 n1.1, .int .u64 n1.2] 31)) #[.int .i64 0, .int .i64 1, .int .u64 n1.1, .int .u64 n1.2, .int .i64 1, .int .i64 1, .int .u64 n1.1, .int .u64 n1.2, .int .i64 2, .int .i64 1, .int .u64 n1.1, .int .u64 n1.2, .int .i64 3, .int .i64 1, .int .u64 n1.1, .int .u64 n1.2] 47 (W1.heap.size + 1) (by simp)).kept ((Kept.refl _).alloc (.cells #[.int .i64 1, .int .i64 0, .int .u64 0, .int .u64 0, .int .u64 0] 54))).kept ((Kept.refl _).alloc (.cells #[.slice (some ⟨W1.heap.size + 1 + 1, 0, none⟩) 1 1, .slice (some ⟨W1.heap.size + 1, 0, none⟩) 4 4] 29)))
  have HL0 := Lib.hid ((CellsAt.new ((W1.alloc (.cells #[.int .u64 n1.1, .int .u64 n1.2] 31)).alloc (.cells #[.int .i64 0, .int .i64 1, .int .u64 n1.1, .int .u64 n1.2, .int .i64 1, .int .i64 1, .int .u64 n1.1, .int .u64 n1.2, .int .i64 2, .int .i64 1, .int .u64 n1.1, .int .u64 n1.2, .int .i64 3, .int .i64 1, .int .u64 n1.1, .int .u64 n1.2] 47)) #[.int .i64 1, .int .i64 0, .int .u64 0, .int .u64 0, .int .u64 0] 54 (W1.heap.size + 1 + 1) (by simp)).kept ((Kept.refl _).alloc (.cells #[.slice (some ⟨W1.heap.size + 1 + 1, 0, none⟩) 1 1, .slice (some ⟨W1.heap.size + 1, 0, none⟩) 4 4] 29)))
  have HW0 := Lib.hid (show AtB ((((W1.alloc (.cells #[.int .u64 n1.1, .int .u64 n1.2] 31)).alloc (.cells #[.int .i64 0, .int .i64 1, .int .u64 n1.1, .int .u64 n1.2, .int .i64 1, .int .i64 1, .int .u64 n1.1, .int .u64 n1.2, .int .i64 2, .int .i64 1, .int .u64 n1.1, .int .u64 n1.2, .int .i64 3, .int .i64 1, .int .u64 n1.1, .int .u64 n1.2] 47)).alloc (.cells #[.int .i64 1, .int .i64 0, .int .u64 0, .int .u64 0, .int .u64 0] 54)).alloc (.cells #[.slice (some ⟨W1.heap.size + 1 + 1, 0, none⟩) 1 1, .slice (some ⟨W1.heap.size + 1, 0, none⟩) 4 4] 29)) (W1.heap.size + 1 + 1 + 1) _ _ from by
    have h := AtB.new (((W1.alloc (.cells #[.int .u64 n1.1, .int .u64 n1.2] 31)).alloc (.cells #[.int .i64 0, .int .i64 1, .int .u64 n1.1, .int .u64 n1.2, .int .i64 1, .int .i64 1, .int .u64 n1.1, .int .u64 n1.2, .int .i64 2, .int .i64 1, .int .u64 n1.1, .int .u64 n1.2, .int .i64 3, .int .i64 1, .int .u64 n1.1, .int .u64 n1.2] 47)).alloc (.cells #[.int .i64 1, .int .i64 0, .int .u64 0, .int .u64 0, .int .u64 0] 54)) #[.slice (some ⟨W1.heap.size + 1 + 1, 0, none⟩) 1 1, .slice (some ⟨W1.heap.size + 1, 0, none⟩) 4 4] 29
    rw [show (((W1.alloc (.cells #[.int .u64 n1.1, .int .u64 n1.2] 31)).alloc (.cells #[.int .i64 0, .int .i64 1, .int .u64 n1.1, .int .u64 n1.2, .int .i64 1, .int .i64 1, .int .u64 n1.1, .int .u64 n1.2, .int .i64 2, .int .i64 1, .int .u64 n1.1, .int .u64 n1.2, .int .i64 3, .int .i64 1, .int .u64 n1.1, .int .u64 n1.2] 47)).alloc (.cells #[.int .i64 1, .int .i64 0, .int .u64 0, .int .u64 0, .int .u64 0] 54)).heap.size = W1.heap.size + 1 + 1 + 1 by simp] at h
    exact h)
  have K1 := Lib.hid ((((k1.alloc (.cells #[.int .u64 n1.1, .int .u64 n1.2] 31)).alloc (.cells #[.int .i64 0, .int .i64 1, .int .u64 n1.1, .int .u64 n1.2, .int .i64 1, .int .i64 1, .int .u64 n1.1, .int .u64 n1.2, .int .i64 2, .int .i64 1, .int .u64 n1.1, .int .u64 n1.2, .int .i64 3, .int .i64 1, .int .u64 n1.1, .int .u64 n1.2] 47)).alloc (.cells #[.int .i64 1, .int .i64 0, .int .u64 0, .int .u64 0, .int .u64 0] 54)).alloc (.cells #[.slice (some ⟨W1.heap.size + 1 + 1, 0, none⟩) 1 1, .slice (some ⟨W1.heap.size + 1, 0, none⟩) 4 4] 29))
  obtain ⟨d0, d1, d2, d3, d4⟩ := (HD0.out.kept k1).five
  have hbd := (HD0.out.kept k1).1
  clear k1
  go_wp2_with fail
  clear d0 d1 d2 d3 d4 hbd
  generalize (((W1.alloc (.cells #[.int .u64 n1.1, .int .u64 n1.2] 31)).alloc (.cells #[.int .i64 0, .int .i64 1, .int .u64 n1.1, .int .u64 n1.2, .int .i64 1, .int .i64 1, .int .u64 n1.1, .int .u64 n1.2, .int .i64 2, .int .i64 1, .int .u64 n1.1, .int .u64 n1.2, .int .i64 3, .int .i64 1, .int .u64 n1.1, .int .u64 n1.2] 47)).alloc (.cells #[.int .i64 1, .int .i64 0, .int .u64 0, .int .u64 0, .int .u64 0] 54)).alloc (.cells #[.slice (some ⟨W1.heap.size + 1 + 1, 0, none⟩) 1 1, .slice (some ⟨W1.heap.size + 1, 0, none⟩) 4 4] 29) = V at *
  generalize W1.heap.size + 1 + 1 + 1 = z5 at *
  generalize W1.heap.size + 1 + 1 = zl at *
  generalize W1.heap.size + 1 = zv at *
  generalize W1.heap.size = z3 at *
  have hup : ∀ w', (Instr.slice 27 (.slice (some ⟨zv, 0, none⟩) 4 4) none (some (.int .i64 3)) none).run Tryz.prog w' = .ok (.slice (some ⟨zv, 0, none⟩) 3 4) w' := fun w' => by
    have := upto_vts (some ⟨zv, 0, none⟩) 4 4 3 (by omega) w'
    simpa using this
  refine cut2 (α := Nat) (β := Nat) ?f6 (fun z zb w' => AtB w' z #[.slice (some ⟨zb, 0, none⟩) 1 1, .slice (some ⟨zv, 0, none⟩) 3 4] 29 ∧ CellsAt w' w'.heap.size (some ⟨zb, 0, none⟩) [.int .i64 1, .int .i64 0, .int .u64 0, .int .u64 0, .int .u64 0] ∧ Kept V w') ?_ ?_
  rotate_left
  · intro Q1 hQ1
    obtain ⟨d0, d1, d2, d3, d4⟩ := (HD0.out.kept K1.out).five
    have hbd := (HD0.out.kept K1.out).1
    refine wp_region_noPanic ?_
    refine wp_region_held_drew (S := (fun w' => w'.cell? ⟨z2, 0, none⟩ = some (.int .i64 1) ∧ w'.cell? ⟨z2, 1, none⟩ = some (.int .i64 0) ∧ w'.cell? ⟨z2, 2, none⟩ = some (.int .u64 0) ∧ w'.cell? ⟨z2, 3, none⟩ = some (.int .u64 0) ∧ w'.cell? ⟨z2, 4, none⟩ = some (.int .u64 0) ∧ Kept V.drew w')) (by kernel_rfl) ?_ (fun hHeld => ?_)
    · exact ⟨d0, d1, d2, d3, d4, Kept.refl _⟩
    have HKd := Lib.hid (Kept.refl V).drew
    have e0 : V.drew.cell? ⟨z2, 0, none⟩ = _ := d0
    have e1 : V.drew.cell? ⟨z2, 1, none⟩ = _ := d1
    have e2 : V.drew.cell? ⟨z2, 2, none⟩ = _ := d2
    have e3 : V.drew.cell? ⟨z2, 3, none⟩ = _ := d3
    have e4 : V.drew.cell? ⟨z2, 4, none⟩ = _ := d4
    have hbd : z2 < V.drew.heap.size := hbd
    clear d0 d1 d2 d3 d4
    generalize V.drew = V0 at *
    refine wpAnyH_take (i := 0) (v := ?_) (by simp only [List.getElem?_toArray, List.getElem?_cons_succ, List.getElem?_cons_zero]; rfl) (by kernel_rfl) (by kernel_rfl) (by kernel_rfl) (fun _ _ _ h => h) (Or.inl ⟨by rfl, ?_⟩) (by assumption) ?_
    rotate_left
    · intro w hSw
      (try dsimp only at hSw)
      go_simp
      (try with_reducible rfl)
    simp only [Act.put, List.setIfInBounds_toArray, List.set_cons_zero, List.set_cons_succ]
    refine wpAnyH_take (i := 2) (v := ?_) (by simp only [List.getElem?_toArray, List.getElem?_cons_succ, List.getElem?_cons_zero]; rfl) (by kernel_rfl) (by kernel_rfl) (by kernel_rfl) (fun _ _ _ h => h) (Or.inl ⟨by rfl, ?_⟩) (by assumption) ?_
    rotate_left
    · intro w hSw
      (try dsimp only at hSw)
      go_simp
      (try with_reducible rfl)
    simp only [Act.put, List.setIfInBounds_toArray, List.set_cons_zero, List.set_cons_succ]
    refine wpAnyH_take (i := 3) (v := ?_) (by simp only [List.getElem?_toArray, List.getElem?_cons_succ, List.getElem?_cons_zero]; rfl) (by kernel_rfl) (by kernel_rfl) (by kernel_rfl) (fun _ _ _ h => h) (Or.inl ⟨by rfl, ?_⟩) (by assumption) ?_
    rotate_left
    · intro w hSw
      (try dsimp only at hSw)
      go_simp
      (try with_reducible rfl)
    simp only [Act.put, List.setIfInBounds_toArray, List.set_cons_zero, List.set_cons_succ]
    refine wpAnyH_ready (rs := [1, 5]) (by kernel_rfl) (by simp) ?_
    refine AllReadyH.cons (by simp only [List.getElem?_toArray, List.getElem?_cons_succ, List.getElem?_cons_zero]; rfl) (fun K hK => ?_) (AllReadyH.cons (by simp only [List.getElem?_toArray, List.getElem?_cons_succ, List.getElem?_cons_zero]; rfl) (fun K hK => ?_) (AllReadyH.nil))
    · have hrow := CellsAt.new V0 #[.int .i64 1, .int .i64 0, .int .u64 0, .int .u64 0, .int .u64 0] 54 V0.heap.size rfl
      have kk := (Kept.refl V0).alloc (.cells #[.int .i64 1, .int .i64 0, .int .u64 0, .int .u64 0, .int .u64 0] 54)
      have kT := (hHeld.2.2.2.2.2).trans kk
      go_simp
      obtain ⟨zb, hz⟩ : ∃ zb, zb = V0.heap.size := ⟨_, rfl⟩
      rw [← hz] at hrow ⊢
      have hrow2 : CellsAt (V0.alloc (.cells #[.int .i64 1, .int .i64 0, .int .u64 0, .int .u64 0, .int .u64 0] 54)) (V0.alloc (.cells #[.int .i64 1, .int .i64 0, .int .u64 0, .int .u64 0, .int .u64 0] 54)).heap.size (some ⟨zb, 0, none⟩) [.int .i64 1, .int .i64 0, .int .u64 0, .int .u64 0, .int .u64 0] := hrow
      clear hrow
      have hrow := hrow2
      clear hrow2
      generalize V0.alloc (.cells #[.int .i64 1, .int .i64 0, .int .u64 0, .int .u64 0, .int .u64 0] 54) = V1 at *
      clear hz
      refine hK.out _ _ ?_ (fun hHeld2 => ?_)
      · exact ⟨(kT.cell (p := ⟨z2, 0, none⟩) hbd).trans e0, (kT.cell (p := ⟨z2, 1, none⟩) hbd).trans e1, (kT.cell (p := ⟨z2, 2, none⟩) hbd).trans e2, (kT.cell (p := ⟨z2, 3, none⟩) hbd).trans e3, (kT.cell (p := ⟨z2, 4, none⟩) hbd).trans e4, kT⟩
      clear hK K hHeld
      have hHeld := hHeld2
      clear hHeld2
      try simp only [Act.put, List.setIfInBounds_toArray, List.set_cons_zero, List.set_cons_succ]
      refine wpAnyH_take (i := 4) (v := ?_) (by simp only [List.getElem?_toArray, List.getElem?_cons_succ, List.getElem?_cons_zero]; rfl) (by kernel_rfl) (by kernel_rfl) (by kernel_rfl) (fun _ _ _ h => h) (Or.inl ⟨by rfl, ?_⟩) (by assumption) ?_
      rotate_left
      · intro w hSw
        (try dsimp only at hSw)
        go_simp
        (try with_reducible rfl)
      simp only [Act.put, List.setIfInBounds_toArray, List.set_cons_zero, List.set_cons_succ]
      refine wpAnyH_ready (rs := [5]) (by kernel_rfl) (by simp) ?_
      refine AllReadyH.cons (by simp only [List.getElem?_toArray, List.getElem?_cons_succ, List.getElem?_cons_zero]; rfl) (fun K hK => ?_) (AllReadyH.nil)
      have h6 := AtB.new V1 #[.slice none 0 0, .slice none 0 0] 29
      have kk := (Kept.refl V1).alloc (.cells #[.slice none 0 0, .slice none 0 0] 29)
      replace hrow := hrow.kept kk
      have kT := (hHeld.2.2.2.2.2).trans kk
      go_simp
      obtain ⟨z6, hz⟩ : ∃ z6, z6 = V1.heap.size := ⟨_, rfl⟩
      have hz6 : V0.heap.size ≤ z6 := by rw [hz]; exact (hHeld.2.2.2.2.2).size_le
      rw [← hz] at h6 ⊢
      generalize V1.alloc (.cells #[.slice none 0 0, .slice none 0 0] 29) = V2 at *
      clear hz
      refine hK.out _ _ ?_ (fun hHeld2 => ?_)
      · exact ⟨(kT.cell (p := ⟨z2, 0, none⟩) hbd).trans e0, (kT.cell (p := ⟨z2, 1, none⟩) hbd).trans e1, (kT.cell (p := ⟨z2, 2, none⟩) hbd).trans e2, (kT.cell (p := ⟨z2, 3, none⟩) hbd).trans e3, (kT.cell (p := ⟨z2, 4, none⟩) hbd).trans e4, kT⟩
      clear hK K hHeld
      have hHeld := hHeld2
      clear hHeld2
      try simp only [Act.put, List.setIfInBounds_toArray, List.set_cons_zero, List.set_cons_succ]
      refine wpAnyH_ready (rs := [6]) (by kernel_rfl) (by simp) ?_
      refine AllReadyH.cons (by simp only [List.getElem?_toArray, List.getElem?_cons_succ, List.getElem?_cons_zero]; rfl) (fun K hK => ?_) (AllReadyH.nil)
      have c0 : V2.cell? ⟨z6, 0, none⟩ = some (.slice none 0 0) := h6.cell
      have c1' : V2.cell? ⟨z6, 1, none⟩ = some (.slice none 0 0) := h6.cell
      have f0 := h6.fr 0
      have f1 := h6.fr 1
      have lt6 := h6.lt
      replace hrow := (hrow.past (p := ⟨z6, 0, none⟩) h6.cell (by simp) (.slice (some ⟨zb, 0, none⟩) 1 1)).past (p := ⟨z6, 1, none⟩) (h6.set 0 (.slice (some ⟨zb, 0, none⟩) 1 1)).cell (by simp) (.slice (some ⟨zv, 0, none⟩) 3 4)
      replace h6 := h6.set2 (.slice (some ⟨zb, 0, none⟩) 1 1) (.slice (some ⟨zv, 0, none⟩) 3 4)
      have kT : Kept V0 _ := ((hHeld.2.2.2.2.2).setCell (p := ⟨z6, 0, none⟩) hz6 (.slice (some ⟨zb, 0, none⟩) 1 1)).setCell (p := ⟨z6, 1, none⟩) hz6 (.slice (some ⟨zv, 0, none⟩) 3 4)
      go_simp
      generalize (V2.setCell ⟨z6, 0, none⟩ (.slice (some ⟨zb, 0, none⟩) 1 1)).setCell ⟨z6, 1, none⟩ (.slice (some ⟨zv, 0, none⟩) 3 4) = V3 at *
      clear c0 c1' f0 f1 lt6
      refine hK.out _ _ ?_ (fun hHeld2 => ?_)
      · exact ⟨(kT.cell (p := ⟨z2, 0, none⟩) hbd).trans e0, (kT.cell (p := ⟨z2, 1, none⟩) hbd).trans e1, (kT.cell (p := ⟨z2, 2, none⟩) hbd).trans e2, (kT.cell (p := ⟨z2, 3, none⟩) hbd).trans e3, (kT.cell (p := ⟨z2, 4, none⟩) hbd).trans e4, kT⟩
      clear hK K hHeld
      have hHeld := hHeld2
      clear hHeld2
      try simp only [Act.put, List.setIfInBounds_toArray, List.set_cons_zero, List.set_cons_succ]
      refine wpAnyH_done (by kernel_rfl) ?_ _
      refine NoPanic.normal ?_
      exact hQ1.out z6 zb _ ⟨h6, hrow, HKd.out.trans hHeld.2.2.2.2.2⟩
    · have h6 := AtB.new V0 #[.slice none 0 0, .slice none 0 0] 29
      have kk := (Kept.refl V0).alloc (.cells #[.slice none 0 0, .slice none 0 0] 29)
      have kT := (hHeld.2.2.2.2.2).trans kk
      go_simp
      obtain ⟨z6, hz⟩ : ∃ z6, z6 = V0.heap.size := ⟨_, rfl⟩
      have hz6 : V0.heap.size ≤ z6 := by rw [hz]; exact (hHeld.2.2.2.2.2).size_le
      rw [← hz] at h6 ⊢
      generalize V0.alloc (.cells #[.slice none 0 0, .slice none 0 0] 29) = V1 at *
      clear hz
      refine hK.out _ _ ?_ (fun hHeld2 => ?_)
      · exact ⟨(kT.cell (p := ⟨z2, 0, none⟩) hbd).trans e0, (kT.cell (p := ⟨z2, 1, none⟩) hbd).trans e1, (kT.cell (p := ⟨z2, 2, none⟩) hbd).trans e2, (kT.cell (p := ⟨z2, 3, none⟩) hbd).trans e3, (kT.cell (p := ⟨z2, 4, none⟩) hbd).trans e4, kT⟩
      clear hK K hHeld
      have hHeld := hHeld2
      clear hHeld2
      try simp only [Act.put, List.setIfInBounds_toArray, List.set_cons_zero, List.set_cons_succ]
      refine wpAnyH_ready (rs := [1]) (by kernel_rfl) (by simp) ?_
      refine AllReadyH.cons (by simp only [List.getElem?_toArray, List.getElem?_cons_succ, List.getElem?_cons_zero]; rfl) (fun K hK => ?_) (AllReadyH.nil)
      have hrow := CellsAt.new V1 #[.int .i64 1, .int .i64 0, .int .u64 0, .int .u64 0, .int .u64 0] 54 V1.heap.size rfl
      have kk := (Kept.refl V1).alloc (.cells #[.int .i64 1, .int .i64 0, .int .u64 0, .int .u64 0, .int .u64 0] 54)
      replace h6 := h6.kept kk
      have kT := (hHeld.2.2.2.2.2).trans kk
      go_simp
      obtain ⟨zb, hz⟩ : ∃ zb, zb = V1.heap.size := ⟨_, rfl⟩
      rw [← hz] at hrow ⊢
      have hrow2 : CellsAt (V1.alloc (.cells #[.int .i64 1, .int .i64 0, .int .u64 0, .int .u64 0, .int .u64 0] 54)) (V1.alloc (.cells #[.int .i64 1, .int .i64 0, .int .u64 0, .int .u64 0, .int .u64 0] 54)).heap.size (some ⟨zb, 0, none⟩) [.int .i64 1, .int .i64 0, .int .u64 0, .int .u64 0, .int .u64 0] := hrow
      clear hrow
      have hrow := hrow2
      clear hrow2
      generalize V1.alloc (.cells #[.int .i64 1, .int .i64 0, .int .u64 0, .int .u64 0, .int .u64 0] 54) = V2 at *
      clear hz
      refine hK.out _ _ ?_ (fun hHeld2 => ?_)
      · exact ⟨(kT.cell (p := ⟨z2, 0, none⟩) hbd).trans e0, (kT.cell (p := ⟨z2, 1, none⟩) hbd).trans e1, (kT.cell (p := ⟨z2, 2, none⟩) hbd).trans e2, (kT.cell (p := ⟨z2, 3, none⟩) hbd).trans e3, (kT.cell (p := ⟨z2, 4, none⟩) hbd).trans e4, kT⟩
      clear hK K hHeld
      have hHeld := hHeld2
      clear hHeld2
      try simp only [Act.put, List.setIfInBounds_toArray, List.set_cons_zero, List.set_cons_succ]
      refine wpAnyH_take (i := 4) (v := ?_) (by simp only [List.getElem?_toArray, List.getElem?_cons_succ, List.getElem?_cons_zero]; rfl) (by kernel_rfl) (by kernel_rfl) (by kernel_rfl) (fun _ _ _ h => h) (Or.inl ⟨by rfl, ?_⟩) (by assumption) ?_
      rotate_left
      · intro w hSw
        (try dsimp only at hSw)
        go_simp
        (try with_reducible rfl)
      simp only [Act.put, List.setIfInBounds_toArray, List.set_cons_zero, List.set_cons_succ]
      refine wpAnyH_ready (rs := [6]) (by kernel_rfl) (by simp) ?_
      refine AllReadyH.cons (by simp only [List.getElem?_toArray, List.getElem?_cons_succ, List.getElem?_cons_zero]; rfl) (fun K hK => ?_) (AllReadyH.nil)
      have c0 : V2.cell? ⟨z6, 0, none⟩ = some (.slice none 0 0) := h6.cell
      have c1' : V2.cell? ⟨z6, 1, none⟩ = some (.slice none 0 0) := h6.cell
      have f0 := h6.fr 0
      have f1 := h6.fr 1
      have lt6 := h6.lt
      replace hrow := (hrow.past (p := ⟨z6, 0, none⟩) h6.cell (by simp) (.slice (some ⟨zb, 0, none⟩) 1 1)).past (p := ⟨z6, 1, none⟩) (h6.set 0 (.slice (some ⟨zb, 0, none⟩) 1 1)).cell (by simp) (.slice (some ⟨zv, 0, none⟩) 3 4)
      replace h6 := h6.set2 (.slice (some ⟨zb, 0, none⟩) 1 1) (.slice (some ⟨zv, 0, none⟩) 3 4)
      have kT : Kept V0 _ := ((hHeld.2.2.2.2.2).setCell (p := ⟨z6, 0, none⟩) hz6 (.slice (some ⟨zb, 0, none⟩) 1 1)).setCell (p := ⟨z6, 1, none⟩) hz6 (.slice (some ⟨zv, 0, none⟩) 3 4)
      go_simp
      generalize (V2.setCell ⟨z6, 0, none⟩ (.slice (some ⟨zb, 0, none⟩) 1 1)).setCell ⟨z6, 1, none⟩ (.slice (some ⟨zv, 0, none⟩) 3 4) = V3 at *
      clear c0 c1' f0 f1 lt6
      refine hK.out _ _ ?_ (fun hHeld2 => ?_)
      · exact ⟨(kT.cell (p := ⟨z2, 0, none⟩) hbd).trans e0, (kT.cell (p := ⟨z2, 1, none⟩) hbd).trans e1, (kT.cell (p := ⟨z2, 2, none⟩) hbd).trans e2, (kT.cell (p := ⟨z2, 3, none⟩) hbd).trans e3, (kT.cell (p := ⟨z2, 4, none⟩) hbd).trans e4, kT⟩
      clear hK K hHeld
      have hHeld := hHeld2
      clear hHeld2
      try simp only [Act.put, List.setIfInBounds_toArray, List.set_cons_zero, List.set_cons_succ]
      refine wpAnyH_done (by kernel_rfl) ?_ _
      refine NoPanic.normal ?_
      exact hQ1.out z6 zb _ ⟨h6, hrow, HKd.out.trans hHeld.2.2.2.2.2⟩
  intro z6 zb V6 hpost
  obtain ⟨h6, hrow, k6⟩ := hpost
  have H6 := Lib.hid h6
  have HR6 := Lib.hid hrow
  have K6 := Lib.hid (K1.out.trans k6)
  have HI6 := Lib.hid (HI0.out.kept k6)
  have HV6 := Lib.hid (HV0.out.kept k6)
  have HL6 := Lib.hid (HL0.out.kept k6)
  have HW6 := Lib.hid (HW0.out.kept k6)
  clear h6 hrow k6 hup HI0 HV0 HL0 HW0 K1
  try dsimp only
  obtain ⟨c0, c1_, c2, c3, c4⟩ := (HC0.out.kept K6.out).five
  have hbc := (HC0.out.kept K6.out).1
  have i0 := HI6.out.c0
  have i1 := HI6.out.c1
  have hbi := HI6.out.lt
  have w0 : V6.cell? ⟨z5, 0, none⟩ = some (.slice (some ⟨zl, 0, none⟩) 1 1) := HW6.out.cell
  have w1 : V6.cell? ⟨z5, 1, none⟩ = some (.slice (some ⟨zv, 0, none⟩) 4 4) := HW6.out.cell
  have hbw := HW6.out.lt
  go_wp2_with fail
  clear c0 c1_ c2 c3 c4 hbc i0 i1 hbi w0 w1 hbw
  refine (HT.out _ 4 _ 1 _ 4 V6 (HA0.out.kept K6.out) HL6.out HV6.out).mono ?_
  rintro e V7 ⟨rfl, k⟩
  have K7 := Lib.hid ((K6.out.trans k).alloc (.cells #[.int .u64 n1.1, .int .u64 n1.2] 31))
  have HI7 := Lib.hid ((HI6.out.kept k).alloc (.cells #[.int .u64 n1.1, .int .u64 n1.2] 31))
  have HV7 := Lib.hid ((HV6.out.kept k).kept ((Kept.refl _).alloc (.cells #[.int .u64 n1.1, .int .u64 n1.2] 31)))
  have HL7 := Lib.hid ((HL6.out.kept k).kept ((Kept.refl _).alloc (.cells #[.int .u64 n1.1, .int .u64 n1.2] 31)))
  have HW7 := Lib.hid ((HW6.out.kept k).kept ((Kept.refl _).alloc (.cells #[.int .u64 n1.1, .int .u64 n1.2] 31)))
  have H7 := Lib.hid ((H6.out.kept k).kept ((Kept.refl _).alloc (.cells #[.int .u64 n1.1, .int .u64 n1.2] 31)))
  have HR7 := Lib.hid ((HR6.out.kept k).kept ((Kept.refl _).alloc (.cells #[.int .u64 n1.1, .int .u64 n1.2] 31)))
  have HJ7 := Lib.hid (AtI.new V7 n1 V7.heap.size rfl)
  obtain ⟨c0, c1_, c2, c3, c4⟩ := (HC0.out.kept (K6.out.trans k)).five
  have hbc := (HC0.out.kept (K6.out.trans k)).1
  have i0 := (HI6.out.kept k).c0
  have i1 := (HI6.out.kept k).c1
  have hbi := (HI6.out.kept k).lt
  have w0 : V7.cell? ⟨z5, 0, none⟩ = some (.slice (some ⟨zl, 0, none⟩) 1 1) := (HW6.out.kept k).cell
  have w1 : V7.cell? ⟨z5, 1, none⟩ = some (.slice (some ⟨zv, 0, none⟩) 4 4) := (HW6.out.kept k).cell
  have hbw := (HW6.out.kept k).lt
  have x0 : V7.cell? ⟨z6, 0, none⟩ = some (.slice (some ⟨zb, 0, none⟩) 1 1) := (H6.out.kept k).cell
  have x1 : V7.cell? ⟨z6, 1, none⟩ = some (.slice (some ⟨zv, 0, none⟩) 3 4) := (H6.out.kept k).cell
  have hbx := (H6.out.kept k).lt
  clear k K6 HI6 HV6 HL6 HW6 H6 HR6
  go_wp2_with fail
  clear c0 c1_ c2 c3 c4 hbc i0 i1 hbi w0 w1 hbw x0 x1 hbx
  generalize V7.alloc (.cells #[.int .u64 n1.1, .int .u64 n1.2] 31) = X at *
  generalize V7.heap.size = z7 at *
  have HV3 := Lib.hid (show CellsAt X X.heap.size (some ⟨zv, 0, none⟩) [.int .i64 0, .int .i64 1, .int .u64 n1.1, .int .u64 n1.2, .int .i64 1, .int .i64 1, .int .u64 n1.1, .int .u64 n1.2, .int .i64 2, .int .i64 1, .int .u64 n1.1, .int .u64 n1.2] from cells_prefix (ys := [.int .i64 3, .int .i64 1, .int .u64 n1.1, .int .u64 n1.2]) HV7.out)
  have KX0 := Lib.hid (Kept.refl X)
  refine (HS1.out _ 4 _ 1 _ 4 X (HA0.out.kept (K7.out.trans KX0.out)) (HL7.out.kept KX0.out) (HV7.out.kept KX0.out)).mono ?_
  rintro e X1 ⟨rfl, k⟩
  have KX1 := Lib.hid (KX0.out.trans k)
  clear k
  obtain ⟨c0, c1_, c2, c3, c4⟩ := (HC0.out.kept (K7.out.trans KX1.out)).five
  have hbc := (HC0.out.kept (K7.out.trans KX1.out)).1
  have i0 := (HI7.out.kept KX1.out).c0
  have i1 := (HI7.out.kept KX1.out).c1
  have hbi := (HI7.out.kept KX1.out).lt
  have j0 := (HJ7.out.kept KX1.out).c0
  have j1 := (HJ7.out.kept KX1.out).c1
  have hbj := (HJ7.out.kept KX1.out).lt
  have x0 : X1.cell? ⟨z6, 0, none⟩ = some (.slice (some ⟨zb, 0, none⟩) 1 1) := (H7.out.kept KX1.out).cell
  have x1 : X1.cell? ⟨z6, 1, none⟩ = some (.slice (some ⟨zv, 0, none⟩) 3 4) := (H7.out.kept KX1.out).cell
  have hbx := (H7.out.kept KX1.out).lt
  go_wp2_with fail
  clear c0 c1_ c2 c3 c4 hbc i0 i1 hbi j0 j1 hbj x0 x1 hbx
  refine (HS2.out _ 4 _ 1 _ 4 X1 (HA0.out.kept (K7.out.trans KX1.out)) (HR7.out.kept KX1.out) (HV3.out.kept KX1.out)).mono ?_
  rintro e X2 ⟨rfl, k⟩
  have KX2 := Lib.hid (KX1.out.trans k)
  clear k
  obtain ⟨c0, c1_, c2, c3, c4⟩ := (HC0.out.kept (K7.out.trans KX2.out)).five
  have hbc := (HC0.out.kept (K7.out.trans KX2.out)).1
  have i0 := (HI7.out.kept KX2.out).c0
  have i1 := (HI7.out.kept KX2.out).c1
  have hbi := (HI7.out.kept KX2.out).lt
  have j0 := (HJ7.out.kept KX2.out).c0
  have j1 := (HJ7.out.kept KX2.out).c1
  have hbj := (HJ7.out.kept KX2.out).lt
  have x0 : X2.cell? ⟨z6, 0, none⟩ = some (.slice (some ⟨zb, 0, none⟩) 1 1) := (H7.out.kept KX2.out).cell
  have x1 : X2.cell? ⟨z6, 1, none⟩ = some (.slice (some ⟨zv, 0, none⟩) 3 4) := (H7.out.kept KX2.out).cell
  have hbx := (H7.out.kept KX2.out).lt
  go_wp2_with fail
  clear c0 c1_ c2 c3 c4 hbc i0 i1 hbi j0 j1 hbj x0 x1 hbx
  refine (HF.out _ 4 _ 1 _ 4 X2 (HA0.out.kept (K7.out.trans KX2.out)) (HR7.out.kept KX2.out) (HV3.out.kept KX2.out)).mono ?_
  rintro e X3 ⟨rfl, k⟩
  have KX3 := Lib.hid (KX2.out.trans k)
  clear k
  obtain ⟨c0, c1_, c2, c3, c4⟩ := (HC0.out.kept (K7.out.trans KX3.out)).five
  have hbc := (HC0.out.kept (K7.out.trans KX3.out)).1
  have i0 := (HI7.out.kept KX3.out).c0
  have i1 := (HI7.out.kept KX3.out).c1
  have hbi := (HI7.out.kept KX3.out).lt
  have j0 := (HJ7.out.kept KX3.out).c0
  have j1 := (HJ7.out.kept KX3.out).c1
  have hbj := (HJ7.out.kept KX3.out).lt
  have x0 : X3.cell? ⟨z6, 0, none⟩ = some (.slice (some ⟨zb, 0, none⟩) 1 1) := (H7.out.kept KX3.out).cell
  have x1 : X3.cell? ⟨z6, 1, none⟩ = some (.slice (some ⟨zv, 0, none⟩) 3 4) := (H7.out.kept KX3.out).cell
  have hbx := (H7.out.kept KX3.out).lt
  go_wp2_with fail
  clear c0 c1_ c2 c3 c4 hbc i0 i1 hbi j0 j1 hbj x0 x1 hbx
  go_ret
  exact ⟨by first | rfl | (simp; done), HK0.out.trans (K7.out.trans KX3.out)⟩
set_option maxRecDepth 100000 in
theorem quickAwake (w : World) : Calls Tryz.prog 10 #[] w fun e w' => e = .returned (.bool true) ∧ Kept w w' := by
  refine quickAwake_of (nameB gA) (fun w => name_any gA gA_wf w) ?_ ?_ ?_ ?_ w
  · intro A c L cl V cv w hA hL hV
    refine (quickTop_any A c kQu L cl [gA] V cv vQu 1 (nameB gA) w (by decide) (by decide) (by decide) (by decide) lQ_wf vQ_wf (nameB_lt gA) ⟨by decide, by decide⟩ ⟨by decide, by decide⟩ hA hL hV).mono ?_
    rintro e w' ⟨R, hR, rfl, k⟩
    obtain rfl := hR.unique vQ_golds
    rw [exQ_top]
    exact ⟨rfl, k⟩
  · intro A c L cl V cv w hA hL hV
    refine (quickSure_any A c kQu L cl [gA] V cv vQu 1 (nameB gA) w (by decide) (by decide) (by decide) (by decide) lQ_wf vQ_wf (nameB_lt gA) ⟨by decide, by decide⟩ ⟨by decide, by decide⟩ hA hL hV).mono ?_
    rintro e w' ⟨R, hR, rfl, k⟩
    obtain rfl := hR.unique vQ_golds
    rw [exQ_sure]
    exact ⟨rfl, k⟩
  · intro A c L cl V cv w hA hL hV
    refine (quickSure_any A c kQu L cl [gA] V cv vQ3 1 (nameB gA) w (by decide) (by decide) (by decide) (by decide) lQ_wf vQ3_wf (nameB_lt gA) ⟨by decide, by decide⟩ ⟨by decide, by decide⟩ hA hL hV).mono ?_
    rintro e w' ⟨R, hR, rfl, k⟩
    obtain rfl := hR.unique vQ3_golds
    rw [exQ_not]
    exact ⟨rfl, k⟩
  · intro A c L cl V cv w hA hL hV
    refine (quickFor_any A c kQu L cl [gA] V cv vQ3 1 (nameB gA) w (by decide) (by decide) (by decide) (by decide) lQ_wf vQ3_wf (nameB_lt gA) hA hL hV).mono ?_
    rintro e w' ⟨R, hR, rfl, k⟩
    obtain rfl := hR.unique vQ3_golds
    rw [exQ_on]
    exact ⟨rfl, k⟩

end Go.Proofs.YtpojiijgahcidaaGreat
