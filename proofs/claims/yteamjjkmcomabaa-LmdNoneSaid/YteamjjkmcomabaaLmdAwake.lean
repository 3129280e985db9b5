/-
  The chapter's example, which every law of layer 13 asks first: it is so.
-/
import Derived.Test.YteamjjkmcomabaaLmd
import Derived.Test.YteamjjkmcomabaaGhostAwake
import Derived.Test.YteamjjkmcomabaaTreeG
import Derived.Test.YteamjjkmcomabaaDutyG
import Derived.Test.YteamjjkmcomabaaGround
namespace Go.Proofs.Yteamjjkmcomabaa
set_option maxRecDepth 100000
set_option linter.unusedVariables false
set_option linter.unusedSimpArgs false
set_option linter.unusedSimpArgs false
set_option linter.unusedVariables false
open Go.ChangeShapes Go.WideShapes Go.ChangeAt Go.RowKit

def kLm : Cf := ⟨[1, 19], 0, 1, 0, 4⟩
def vLm : Vt := ⟨0, 1, nameB gA⟩
theorem ex13_boost : boostC kLm 50 = 10 := by decide +kernel
theorem ex13_on : onB kLm [gA, gB] [vLm] (nameB gB) 50 (nameB gB) = 10 := by decide +kernel
theorem ex13_head : headG (onB kLm [gA, gB] [vLm] (nameB gB) 50) [gA, gB] = nameB gB := by decide +kernel
theorem ex13_plain : headG (onB kLm [gA, gB] [vLm] zid 50) [gA, gB] = nameB gA := by decide +kernel
theorem vLm_wf : WfVs [vLm] := fun b hb => by
  rw [List.mem_singleton] at hb; subst hb; exact ⟨⟨by decide, by decide⟩, ⟨by decide, by decide⟩, nameB_lt gA⟩
theorem vLm_last : Cnts [vLm] (upQ 1) [vLm] := by
  refine ⟨List.pairwise_singleton _ _, fun v => ⟨fun h => ?_, fun h => h.1⟩⟩
  rw [List.mem_singleton] at h
  subst h
  refine ⟨by simp, by decide, fun s _ d => ?_, fun a ha _ _ => ?_⟩
  · obtain ⟨a, ha, b, hb, _, _, _, _, ne⟩ := d
    rw [List.mem_singleton] at ha hb
    exact ne (ha.trans hb.symm)
  · rw [List.mem_singleton] at ha; subst ha; exact Int.le_refl _
attribute [local go_sem high] eqIdN in
set_option maxRecDepth 100000 in
set_option maxHeartbeats 6400000 in
theorem lmdAwake_of (n1 n2 : Id2)
    (hN1 : ∀ w, Calls Try.prog 25 #[.agg #[.int .i64 1, .int .i64 0, .int .u64 0, .int .u64 0, .int .u64 0]] w fun e w' => e = .returned (.agg #[.int .u64 n1.1, .int .u64 n1.2]) ∧ Kept w w')
    (hN2 : ∀ w, Calls Try.prog 25 #[.agg #[.int .i64 1, .int .i64 0, .int .u64 0, .int .u64 0, .int .u64 1]] w fun e w' => e = .returned (.agg #[.int .u64 n2.1, .int .u64 n2.2]) ∧ Kept w w')
    (hB : ∀ A c w, CellsAt w w.heap.size A [.int .i64 1, .int .i64 19] → Calls Try.prog 14 #[.agg #[.slice A 2 c, .int .u64 0, .int .i64 1, .int .i64 0, .int .i64 4], .int .i64 50] w fun e w' => e = .returned (.int .i64 10) ∧ Kept w w')
    (hH1 : ∀ A c L cl V cv w, CellsAt w w.heap.size A [.int .i64 1, .int .i64 19] → CellsAt w w.heap.size L [.int .i64 1, .int .i64 0, .int .u64 0, .int .u64 0, .int .u64 0, .int .i64 1, .int .i64 0, .int .u64 0, .int .u64 0, .int .u64 1] → CellsAt w w.heap.size V [.int .i64 0, .int .i64 1, .int .u64 n1.1, .int .u64 n1.2] → Calls Try.prog 17 #[.agg #[.slice A 2 c, .int .u64 0, .int .i64 1, .int .i64 0, .int .i64 4], .slice L 2 cl, .slice V 1 cv, .int .i64 1, .agg #[.int .u64 n2.1, .int .u64 n2.2], .int .i64 50] w fun e w' => e = .returned (.agg #[.int .u64 n2.1, .int .u64 n2.2]) ∧ Kept w w')
    (hH2 : ∀ A c L cl V cv w, CellsAt w w.heap.size A [.int .i64 1, .int .i64 19] → CellsAt w w.heap.size L [.int .i64 1, .int .i64 0, .int .u64 0, .int .u64 0, .int .u64 0, .int .i64 1, .int .i64 0, .int .u64 0, .int .u64 0, .int .u64 1] → CellsAt w w.heap.size V [.int .i64 0, .int .i64 1, .int .u64 n1.1, .int .u64 n1.2] → Calls Try.prog 17 #[.agg #[.slice A 2 c, .int .u64 0, .int .i64 1, .int .i64 0, .int .i64 4], .slice L 2 cl, .slice V 1 cv, .int .i64 1, .agg #[.int .u64 0, .int .u64 0], .int .i64 50] w fun e w' => e = .returned (.agg #[.int .u64 n1.1, .int .u64 n1.2]) ∧ Kept w w')
    (hO : ∀ A c L cl V cv w, CellsAt w w.heap.size A [.int .i64 1, .int .i64 19] → CellsAt w w.heap.size L [.int .i64 1, .int .i64 0, .int .u64 0, .int .u64 0, .int .u64 0, .int .i64 1, .int .i64 0, .int .u64 0, .int .u64 0, .int .u64 1] → CellsAt w w.heap.size V [.int .i64 0, .int .i64 1, .int .u64 n1.1, .int .u64 n1.2] → Calls Try.prog 16 #[.agg #[.slice A 2 c, .int .u64 0, .int .i64 1, .int .i64 0, .int .i64 4], .slice L 2 cl, .slice V 1 cv, .int .i64 1, .agg #[.int .u64 n2.1, .int .u64 n2.2], .int .i64 50, .agg #[.int .u64 n2.1, .int .u64 n2.2]] w fun e w' => e = .returned (.int .i64 10) ∧ Kept w w')
    (w : World) : Calls Try.prog 10 #[] w fun e w' => e = .returned (.bool true) ∧ Kept w w' := by
  have HN1 := Lib.hid hN1
  have HN2 := Lib.hid hN2
  have HBo := Lib.hid hB
  have HH1 := Lib.hid hH1
  have HH2 := Lib.hid hH2
  have HOn := Lib.hid hO
  clear hN1 hN2 hB hH1 hH2 hO
  have h11 := sameI_yes (rfl : n1 = n1)
  have h22 := sameI_yes (rfl : n2 = n2)
  have HK0 := Lib.hid ((((((Kept.refl w).alloc (.cells #[.int .i64 1, .int .i64 19] 3)).alloc (.cells #[.slice (some ⟨w.heap.size, 0, none⟩) 2 2, .int .u64 0, .int .i64 1, .int .i64 0, .int .i64 4] 25)).alloc (.cells #[.int .i64 1, .int .i64 0, .int .u64 0, .int .u64 0, .int .u64 0] 51)).alloc (.cells #[.int .i64 1, .int .i64 0, .int .u64 0, .int .u64 0, .int .u64 1] 51)).alloc (.cells #[.int .i64 1, .int .i64 0, .int .u64 0, .int .u64 0, .int .u64 0, .int .i64 1, .int .i64 0, .int .u64 0, .int .u64 0, .int .u64 1] 51))
  have HA0 := Lib.hid (((((CellsAt.new w #[.int .i64 1, .int .i64 19] 3 w.heap.size rfl).kept ((Kept.refl _).alloc (.cells #[.slice (some ⟨w.heap.size, 0, none⟩) 2 2, .int .u64 0, .int .i64 1, .int .i64 0, .int .i64 4] 25))).kept ((Kept.refl _).alloc (.cells #[.int .i64 1, .int .i64 0, .int .u64 0, .int .u64 0, .int .u64 0] 51))).kept ((Kept.refl _).alloc (.cells #[.int .i64 1, .int .i64 0, .int .u64 0, .int .u64 0, .int .u64 1] 51))).kept ((Kept.refl _).alloc (.cells #[.int .i64 1, .int .i64 0, .int .u64 0, .int .u64 0, .int .u64 0, .int .i64 1, .int .i64 0, .int .u64 0, .int .u64 0, .int .u64 1] 51)))
  have HC0 := Lib.hid ((((HasCells.new (w.alloc (.cells #[.int .i64 1, .int .i64 19] 3)) #[.slice (some ⟨w.heap.size, 0, none⟩) 2 2, .int .u64 0, .int .i64 1, .int .i64 0, .int .i64 4] 25 (w.heap.size + 1) (by simp)).alloc (.cells #[.int .i64 1, .int .i64 0, .int .u64 0, .int .u64 0, .int .u64 0] 51)).alloc (.cells #[.int .i64 1, .int .i64 0, .int .u64 0, .int .u64 0, .int .u64 1] 51)).alloc (.cells #[.int .i64 1, .int .i64 0, .int .u64 0, .int .u64 0, .int .u64 0, .int .i64 1, .int .i64 0, .int .u64 0, .int .u64 0, .int .u64 1] 51))
  have HD0 := Lib.hid (((HasCells.new ((w.alloc (.cells #[.int .i64 1, .int .i64 19] 3)).alloc (.cells #[.slice (some ⟨w.heap.size, 0, none⟩) 2 2, .int .u64 0, .int .i64 1, .int .i64 0, .int .i64 4] 25)) #[.int .i64 1, .int .i64 0, .int .u64 0, .int .u64 0, .int .u64 0] 51 (w.heap.size + 1 + 1) (by simp)).alloc (.cells #[.int .i64 1, .int .i64 0, .int .u64 0, .int .u64 0, .int .u64 1] 51)).alloc (.cells #[.int .i64 1, .int .i64 0, .int .u64 0, .int .u64 0, .int .u64 0, .int .i64 1, .int .i64 0, .int .u64 0, .int .u64 0, .int .u64 1] 51))
  have HE0 := Lib.hid ((HasCells.new (((w.alloc (.cells #[.int .i64 1, .int .i64 19] 3)).alloc (.cells #[.slice (some ⟨w.heap.size, 0, none⟩) 2 2, .int .u64 0, .int .i64 1, .int .i64 0, .int .i64 4] 25)).alloc (.cells #[.int .i64 1, .int .i64 0, .int .u64 0, .int .u64 0, .int .u64 0] 51)) #[.int .i64 1, .int .i64 0, .int .u64 0, .int .u64 0, .int .u64 1] 51 (w.heap.size + 1 + 1 + 1) (by simp)).alloc (.cells #[.int .i64 1, .int .i64 0, .int .u64 0, .int .u64 0, .int .u64 0, .int .i64 1, .int .i64 0, .int .u64 0, .int .u64 0, .int .u64 1] 51))
  have HL0 := Lib.hid (CellsAt.new ((((w.alloc (.cells #[.int .i64 1, .int .i64 19] 3)).alloc (.cells #[.slice (some ⟨w.heap.size, 0, none⟩) 2 2, .int .u64 0, .int .i64 1, .int .i64 0, .int .i64 4] 25)).alloc (.cells #[.int .i64 1, .int .i64 0, .int .u64 0, .int .u64 0, .int .u64 0] 51)).alloc (.cells #[.int .i64 1, .int .i64 0, .int .u64 0, .int .u64 0, .int .u64 1] 51)) #[.int .i64 1, .int .i64 0, .int .u64 0, .int .u64 0, .int .u64 0, .int .i64 1, .int .i64 0, .int .u64 0, .int .u64 0, .int .u64 1] 51 (w.heap.size + 1 + 1 + 1 + 1) (by simp))
  go_enter Try.func10, Try.ntmps10
  go_wp2_with fail
  generalize (((((w.alloc (.cells #[.int .i64 1, .int .i64 19] 3)).alloc (.cells #[.slice (some ⟨w.heap.size, 0, none⟩) 2 2, .int .u64 0, .int .i64 1, .int .i64 0, .int .i64 4] 25)).alloc (.cells #[.int .i64 1, .int .i64 0, .int .u64 0, .int .u64 0, .int .u64 0] 51)).alloc (.cells #[.int .i64 1, .int .i64 0, .int .u64 0, .int .u64 0, .int .u64 1] 51)).alloc (.cells #[.int .i64 1, .int .i64 0, .int .u64 0, .int .u64 0, .int .u64 0, .int .i64 1, .int .i64 0, .int .u64 0, .int .u64 0, .int .u64 1] 51)) = W at *
  generalize w.heap.size + 1 + 1 + 1 + 1 = z4 at *
  generalize w.heap.size + 1 + 1 + 1 = z3 at *
  generalize w.heap.size + 1 + 1 = z2 at *
  generalize w.heap.size + 1 = z1 at *
  generalize w.heap.size = z0 at *
  refine (HN1.out W).mono ?_
  rintro e W1 ⟨rfl, k1⟩
  have HV0 := Lib.hid (CellsAt.new W1 #[.int .i64 0, .int .i64 1, .int .u64 n1.1, .int .u64 n1.2] 46 W1.heap.size rfl)
  have K1 := Lib.hid (k1.alloc (.cells #[.int .i64 0, .int .i64 1, .int .u64 n1.1, .int .u64 n1.2] 46))
  clear k1
  go_wp2_with fail
  generalize W1.alloc (.cells #[.int .i64 0, .int .i64 1, .int .u64 n1.1, .int .u64 n1.2] 46) = V0 at *
  generalize W1.heap.size = zv at *
  obtain ⟨c0, c1, c2, c3, c4⟩ := (HC0.out.kept K1.out).five
  have hbc := (HC0.out.kept K1.out).1
  obtain ⟨d0, d1, d2, d3, d4⟩ := (HD0.out.kept K1.out).five
  have hbd := (HD0.out.kept K1.out).1
  obtain ⟨f0, f1, f2, f3, f4⟩ := (HE0.out.kept K1.out).five
  have hbf := (HE0.out.kept K1.out).1
  refine wp_region_noPanic ?_
  refine wp_region_held_drew (S := (fun w' => w'.cell? ⟨z1, 0, none⟩ = some (.slice (some ⟨z0, 0, none⟩) 2 2) ∧ w'.cell? ⟨z1, 1, none⟩ = some (.int .u64 0) ∧ w'.cell? ⟨z1, 2, none⟩ = some (.int .i64 1) ∧ w'.cell? ⟨z1, 3, none⟩ = some (.int .i64 0) ∧ w'.cell? ⟨z1, 4, none⟩ = some (.int .i64 4) ∧ w'.cell? ⟨z2, 0, none⟩ = some (.int .i64 1) ∧ w'.cell? ⟨z2, 1, none⟩ = some (.int .i64 0) ∧ w'.cell? ⟨z2, 2, none⟩ = some (.int .u64 0) ∧ w'.cell? ⟨z2, 3, none⟩ = some (.int .u64 0) ∧ w'.cell? ⟨z2, 4, none⟩ = some (.int .u64 0) ∧ w'.cell? ⟨z3, 0, none⟩ = some (.int .i64 1) ∧ w'.cell? ⟨z3, 1, none⟩ = some (.int .i64 0) ∧ w'.cell? ⟨z3, 2, none⟩ = some (.int .u64 0) ∧ w'.cell? ⟨z3, 3, none⟩ = some (.int .u64 0) ∧ w'.cell? ⟨z3, 4, none⟩ = some (.int .u64 1) ∧ Kept V0 w')) (by kernel_rfl) ?_ (fun hHeld => ?_)
  · exact ⟨c0, c1, c2, c3, c4, d0, d1, d2, d3, d4, f0, f1, f2, f3, f4, (Kept.refl _).drew⟩
  refine wpAnyH_take (i := 0) (v := ?_) (by simp only [List.getElem?_toArray, List.getElem?_cons_succ, List.getElem?_cons_zero]; rfl) (by kernel_rfl) (by kernel_rfl) (by kernel_rfl) (fun _ _ _ h => h) (Or.inl ⟨by rfl, ?_⟩) (by assumption) ?_
  rotate_left
  · intro w hSw
    (try dsimp only at hSw)
    go_simp
    (try with_reducible rfl)
  simp only [Act.put, List.setIfInBounds_toArray, List.set_cons_zero, List.set_cons_succ]
  refine wpAnyH_ready (rs := [1]) (by kernel_rfl) (by simp) ?_
  refine AllReadyH.cons (by simp only [List.getElem?_toArray, List.getElem?_cons_succ, List.getElem?_cons_zero]; rfl) (fun K hK => ?_) AllReadyH.nil
  go_simp
  go_at_call 14; with_reducible refine (HBo.out _ 2 _ (HA0.out.kept (K1.out.trans hHeld.2.2.2.2.2.2.2.2.2.2.2.2.2.2.2))).mono ?_
  rintro e w' ⟨rfl, kk⟩
  try go_wp2_with fail
  refine hK.out _ _ ?_ (fun hHeld2 => ?_)
  · exact keepP15 hbc hbc hbc hbc hbc hbd hbd hbd hbd hbd hbf hbf hbf hbf hbf hHeld kk
  clear hK K hHeld
  have hHeld := hHeld2
  clear hHeld2
  try simp only [Act.put, List.setIfInBounds_toArray, List.set_cons_zero, List.set_cons_succ]
  refine wpAnyH_take (i := 2) (v := ?_) (by simp only [List.getElem?_toArray, List.getElem?_cons_succ, List.getElem?_cons_zero]; rfl) (by kernel_rfl) (by kernel_rfl) (by kernel_rfl) (fun _ _ _ h => h) (Or.inl ⟨by rfl, ?_⟩) (by assumption) ?_
  rotate_left
  · intro w hSw
    (try dsimp only at hSw)
    go_simp
    (try with_reducible rfl)
  simp only [Act.put, List.setIfInBounds_toArray, List.set_cons_zero, List.set_cons_succ]
  refine wpAnyH_take (i := 3) (v := ?_) (by simp only [List.getElem?_toArray, List.getElem?_cons_succ, List.getElem?_cons_zero]; rfl) (by kernel_rfl) (by kernel_rfl) (by kernel_rfl) (fun _ _ _ h => h) (Or.inl ⟨by rfl, ?_⟩) (by assumption) ?_
  rotate_left
  · intro w hSw
    (try dsimp only at hSw)
    go_simp
    (try with_reducible rfl)
  simp only [Act.put, List.setIfInBounds_toArray, List.set_cons_zero, List.set_cons_succ]
  refine wpAnyH_take (i := 4) (v := ?_) (by simp only [List.getElem?_toArray, List.getElem?_cons_succ, List.getElem?_cons_zero]; rfl) (by kernel_rfl) (by kernel_rfl) (by kernel_rfl) (fun _ _ _ h => h) (Or.inl ⟨by rfl, ?_⟩) (by assumption) ?_
  rotate_left
  · intro w hSw
    (try dsimp only at hSw)
    go_simp
    (try with_reducible rfl)
  simp only [Act.put, List.setIfInBounds_toArray, List.set_cons_zero, List.set_cons_succ]
  refine wpAnyH_take (i := 5) (v := ?_) (by simp only [List.getElem?_toArray, List.getElem?_cons_succ, List.getElem?_cons_zero]; rfl) (by kernel_rfl) (by kernel_rfl) (by kernel_rfl) (fun _ _ _ h => h) (Or.inl ⟨by rfl, ?_⟩) (by assumption) ?_
  rotate_left
  · intro w hSw
    (try dsimp only at hSw)
    go_simp
    (try with_reducible rfl)
  simp only [Act.put, List.setIfInBounds_toArray, List.set_cons_zero, List.set_cons_succ]
  refine wpAnyH_take (i := 6) (v := ?_) (by simp only [List.getElem?_toArray, List.getElem?_cons_succ, List.getElem?_cons_zero]; rfl) (by kernel_rfl) (by kernel_rfl) (by kernel_rfl) (fun _ _ _ h => h) (Or.inl ⟨by rfl, ?_⟩) (by assumption) ?_
  rotate_left
  · intro w hSw
    (try dsimp only at hSw)
    go_simp
    (try with_reducible rfl)
  simp only [Act.put, List.setIfInBounds_toArray, List.set_cons_zero, List.set_cons_succ]
  refine wpAnyH_take (i := 7) (v := ?_) (by simp only [List.getElem?_toArray, List.getElem?_cons_succ, List.getElem?_cons_zero]; rfl) (by kernel_rfl) (by kernel_rfl) (by kernel_rfl) (fun _ _ _ h => h) (Or.inl ⟨by rfl, ?_⟩) (by assumption) ?_
  rotate_left
  · intro w hSw
    (try dsimp only at hSw)
    go_simp
    (try with_reducible rfl)
  simp only [Act.put, List.setIfInBounds_toArray, List.set_cons_zero, List.set_cons_succ]
  refine wpAnyH_take (i := 10) (v := ?_) (by simp only [List.getElem?_toArray, List.getElem?_cons_succ, List.getElem?_cons_zero]; rfl) (by kernel_rfl) (by kernel_rfl) (by kernel_rfl) (fun _ _ _ h => h) (Or.inl ⟨by rfl, ?_⟩) (by assumption) ?_
  rotate_left
  · intro w hSw
    (try dsimp only at hSw)
    go_simp
    (try with_reducible rfl)
  simp only [Act.put, List.setIfInBounds_toArray, List.set_cons_zero, List.set_cons_succ]
  refine wpAnyH_ready (rs := [8]) (by kernel_rfl) (by simp) ?_
  refine AllReadyH.cons (by simp only [List.getElem?_toArray, List.getElem?_cons_succ, List.getElem?_cons_zero]; rfl) (fun K hK => ?_) AllReadyH.nil
  go_simp
  go_at_call 25; with_reducible refine (HN2.out _).mono ?_
  rintro e w' ⟨rfl, kk⟩
  try go_wp2_with fail
  refine hK.out _ _ ?_ (fun hHeld2 => ?_)
  · exact keepP15 hbc hbc hbc hbc hbc hbd hbd hbd hbd hbd hbf hbf hbf hbf hbf hHeld kk
  clear hK K hHeld
  have hHeld := hHeld2
  clear hHeld2
  try simp only [Act.put, List.setIfInBounds_toArray, List.set_cons_zero, List.set_cons_succ]
  refine wpAnyH_ready (rs := [9]) (by kernel_rfl) (by simp) ?_
  refine AllReadyH.cons (by simp only [List.getElem?_toArray, List.getElem?_cons_succ, List.getElem?_cons_zero]; rfl) (fun K hK => ?_) AllReadyH.nil
  go_simp
  go_at_call 17; with_reducible refine (HH1.out _ 2 _ 2 _ 1 _ (HA0.out.kept (K1.out.trans hHeld.2.2.2.2.2.2.2.2.2.2.2.2.2.2.2)) (HL0.out.kept (K1.out.trans hHeld.2.2.2.2.2.2.2.2.2.2.2.2.2.2.2)) (HV0.out.kept hHeld.2.2.2.2.2.2.2.2.2.2.2.2.2.2.2)).mono ?_
  rintro e w' ⟨rfl, kk⟩
  try go_wp2_with fail
  refine hK.out _ _ ?_ (fun hHeld2 => ?_)
  · exact keepP15 hbc hbc hbc hbc hbc hbd hbd hbd hbd hbd hbf hbf hbf hbf hbf hHeld kk
  clear hK K hHeld
  have hHeld := hHeld2
  clear hHeld2
  try simp only [Act.put, List.setIfInBounds_toArray, List.set_cons_zero, List.set_cons_succ]
  refine wpAnyH_ready (rs := [11]) (by kernel_rfl) (by simp) ?_
  refine AllReadyH.cons (by simp only [List.getElem?_toArray, List.getElem?_cons_succ, List.getElem?_cons_zero]; rfl) (fun K hK => ?_) AllReadyH.nil
  go_simp
  go_at_call 25; with_reducible refine (HN2.out _).mono ?_
  rintro e w' ⟨rfl, kk⟩
  try go_wp2_with fail
  refine hK.out _ _ ?_ (fun hHeld2 => ?_)
  · exact keepP15 hbc hbc hbc hbc hbc hbd hbd hbd hbd hbd hbf hbf hbf hbf hbf hHeld kk
  clear hK K hHeld
  have hHeld := hHeld2
  clear hHeld2
  try simp only [Act.put, List.setIfInBounds_toArray, List.set_cons_zero, List.set_cons_succ]
  refine wpAnyH_take (i := 12) (v := ?_) (by simp only [List.getElem?_toArray, List.getElem?_cons_succ, List.getElem?_cons_zero]; rfl) (by kernel_rfl) (by kernel_rfl) (by kernel_rfl) (fun _ _ _ h => h) (Or.inl ⟨by rfl, ?_⟩) (by assumption) ?_
  rotate_left
  · intro w hSw
    (try dsimp only at hSw)
    go_simp
    (try with_reducible rfl)
  simp only [Act.put, List.setIfInBounds_toArray, List.set_cons_zero, List.set_cons_succ]
  try simp only [h22]
  refine wpAnyH_take (i := 13) (v := ?_) (by simp only [List.getElem?_toArray, List.getElem?_cons_succ, List.getElem?_cons_zero]; rfl) (by kernel_rfl) (by kernel_rfl) (by kernel_rfl) (fun _ _ _ h => h) (Or.inl ⟨by rfl, ?_⟩) (by assumption) ?_
  rotate_left
  · intro w hSw
    (try dsimp only at hSw)
    go_simp
    (try with_reducible rfl)
  simp only [Act.put, List.setIfInBounds_toArray, List.set_cons_zero, List.set_cons_succ]
  refine wpAnyH_take (i := 14) (v := ?_) (by simp only [List.getElem?_toArray, List.getElem?_cons_succ, List.getElem?_cons_zero]; rfl) (by kernel_rfl) (by kernel_rfl) (by kernel_rfl) (fun _ _ _ h => h) (Or.inl ⟨by rfl, ?_⟩) (by assumption) ?_
  rotate_left
  · intro w hSw
    (try dsimp only at hSw)
    go_simp
    (try with_reducible rfl)
  simp only [Act.put, List.setIfInBounds_toArray, List.set_cons_zero, List.set_cons_succ]
  refine wpAnyH_take (i := 15) (v := ?_) (by simp only [List.getElem?_toArray, List.getElem?_cons_succ, List.getElem?_cons_zero]; rfl) (by kernel_rfl) (by kernel_rfl) (by kernel_rfl) (fun _ _ _ h => h) (Or.inl ⟨by rfl, ?_⟩) (by assumption) ?_
  rotate_left
  · intro w hSw
    (try dsimp only at hSw)
    go_simp
    (try with_reducible rfl)
  simp only [Act.put, List.setIfInBounds_toArray, List.set_cons_zero, List.set_cons_succ]
  refine wpAnyH_take (i := 16) (v := ?_) (by simp only [List.getElem?_toArray, List.getElem?_cons_succ, List.getElem?_cons_zero]; rfl) (by kernel_rfl) (by kernel_rfl) (by kernel_rfl) (fun _ _ _ h => h) (Or.inl ⟨by rfl, ?_⟩) (by assumption) ?_
  rotate_left
  · intro w hSw
    (try dsimp only at hSw)
    go_simp
    (try with_reducible rfl)
  simp only [Act.put, List.setIfInBounds_toArray, List.set_cons_zero, List.set_cons_succ]
  refine wpAnyH_take (i := 17) (v := ?_) (by simp only [List.getElem?_toArray, List.getElem?_cons_succ, List.getElem?_cons_zero]; rfl) (by kernel_rfl) (by kernel_rfl) (by kernel_rfl) (fun _ _ _ h => h) (Or.inl ⟨by rfl, ?_⟩) (by assumption) ?_
  rotate_left
  · intro w hSw
    (try dsimp only at hSw)
    go_simp
    (try with_reducible rfl)
  simp only [Act.put, List.setIfInBounds_toArray, List.set_cons_zero, List.set_cons_succ]
  refine wpAnyH_take (i := 18) (v := ?_) (by simp only [List.getElem?_toArray, List.getElem?_cons_succ, List.getElem?_cons_zero]; rfl) (by kernel_rfl) (by kernel_rfl) (by kernel_rfl) (fun _ _ _ h => h) (Or.inl ⟨by rfl, ?_⟩) (by assumption) ?_
  rotate_left
  · intro w hSw
    (try dsimp only at hSw)
    go_simp
    (try with_reducible rfl)
  simp only [Act.put, List.setIfInBounds_toArray, List.set_cons_zero, List.set_cons_succ]
  refine wpAnyH_take (i := 20) (v := ?_) (by simp only [List.getElem?_toArray, List.getElem?_cons_succ, List.getElem?_cons_zero]; rfl) (by kernel_rfl) (by kernel_rfl) (by kernel_rfl) (fun _ _ _ h => h) (Or.inl ⟨by rfl, ?_⟩) (by assumption) ?_
  rotate_left
  · intro w hSw
    (try dsimp only at hSw)
    go_simp
    (try with_reducible rfl)
  simp only [Act.put, List.setIfInBounds_toArray, List.set_cons_zero, List.set_cons_succ]
  refine wpAnyH_ready (rs := [19]) (by kernel_rfl) (by simp) ?_
  refine AllReadyH.cons (by simp only [List.getElem?_toArray, List.getElem?_cons_succ, List.getElem?_cons_zero]; rfl) (fun K hK => ?_) AllReadyH.nil
  go_simp
  go_at_call 17; with_reducible refine (HH2.out _ 2 _ 2 _ 1 _ (HA0.out.kept (K1.out.trans hHeld.2.2.2.2.2.2.2.2.2.2.2.2.2.2.2)) (HL0.out.kept (K1.out.trans hHeld.2.2.2.2.2.2.2.2.2.2.2.2.2.2.2)) (HV0.out.kept hHeld.2.2.2.2.2.2.2.2.2.2.2.2.2.2.2)).mono ?_
  rintro e w' ⟨rfl, kk⟩
  try go_wp2_with fail
  refine hK.out _ _ ?_ (fun hHeld2 => ?_)
  · exact keepP15 hbc hbc hbc hbc hbc hbd hbd hbd hbd hbd hbf hbf hbf hbf hbf hHeld kk
  clear hK K hHeld
  have hHeld := hHeld2
  clear hHeld2
  try simp only [Act.put, List.setIfInBounds_toArray, List.set_cons_zero, List.set_cons_succ]
  refine wpAnyH_ready (rs := [21]) (by kernel_rfl) (by simp) ?_
  refine AllReadyH.cons (by simp only [List.getElem?_toArray, List.getElem?_cons_succ, List.getElem?_cons_zero]; rfl) (fun K hK => ?_) AllReadyH.nil
  go_simp
  go_at_call 25; with_reducible refine (HN1.out _).mono ?_
  rintro e w' ⟨rfl, kk⟩
  try go_wp2_with fail
  refine hK.out _ _ ?_ (fun hHeld2 => ?_)
  · exact keepP15 hbc hbc hbc hbc hbc hbd hbd hbd hbd hbd hbf hbf hbf hbf hbf hHeld kk
  clear hK K hHeld
  have hHeld := hHeld2
  clear hHeld2
  try simp only [Act.put, List.setIfInBounds_toArray, List.set_cons_zero, List.set_cons_succ]
  refine wpAnyH_take (i := 22) (v := ?_) (by simp only [List.getElem?_toArray, List.getElem?_cons_succ, List.getElem?_cons_zero]; rfl) (by kernel_rfl) (by kernel_rfl) (by kernel_rfl) (fun _ _ _ h => h) (Or.inl ⟨by rfl, ?_⟩) (by assumption) ?_
  rotate_left
  · intro w hSw
    (try dsimp only at hSw)
    go_simp
    (try with_reducible rfl)
  simp only [Act.put, List.setIfInBounds_toArray, List.set_cons_zero, List.set_cons_succ]
  try simp only [h11]
  refine wpAnyH_take (i := 23) (v := ?_) (by simp only [List.getElem?_toArray, List.getElem?_cons_succ, List.getElem?_cons_zero]; rfl) (by kernel_rfl) (by kernel_rfl) (by kernel_rfl) (fun _ _ _ h => h) (Or.inl ⟨by rfl, ?_⟩) (by assumption) ?_
  rotate_left
  · intro w hSw
    (try dsimp only at hSw)
    go_simp
    (try with_reducible rfl)
  simp only [Act.put, List.setIfInBounds_toArray, List.set_cons_zero, List.set_cons_succ]
  refine wpAnyH_take (i := 24) (v := ?_) (by simp only [List.getElem?_toArray, List.getElem?_cons_succ, List.getElem?_cons_zero]; rfl) (by kernel_rfl) (by kernel_rfl) (by kernel_rfl) (fun _ _ _ h => h) (Or.inl ⟨by rfl, ?_⟩) (by assumption) ?_
  rotate_left
  · intro w hSw
    (try dsimp only at hSw)
    go_simp
    (try with_reducible rfl)
  simp only [Act.put, List.setIfInBounds_toArray, List.set_cons_zero, List.set_cons_succ]
  refine wpAnyH_take (i := 25) (v := ?_) (by simp only [List.getElem?_toArray, List.getElem?_cons_succ, List.getElem?_cons_zero]; rfl) (by kernel_rfl) (by kernel_rfl) (by kernel_rfl) (fun _ _ _ h => h) (Or.inl ⟨by rfl, ?_⟩) (by assumption) ?_
  rotate_left
  · intro w hSw
    (try dsimp only at hSw)
    go_simp
    (try with_reducible rfl)
  simp only [Act.put, List.setIfInBounds_toArray, List.set_cons_zero, List.set_cons_succ]
  refine wpAnyH_take (i := 26) (v := ?_) (by simp only [List.getElem?_toArray, List.getElem?_cons_succ, List.getElem?_cons_zero]; rfl) (by kernel_rfl) (by kernel_rfl) (by kernel_rfl) (fun _ _ _ h => h) (Or.inl ⟨by rfl, ?_⟩) (by assumption) ?_
  rotate_left
  · intro w hSw
    (try dsimp only at hSw)
    go_simp
    (try with_reducible rfl)
  simp only [Act.put, List.setIfInBounds_toArray, List.set_cons_zero, List.set_cons_succ]
  refine wpAnyH_take (i := 27) (v := ?_) (by simp only [List.getElem?_toArray, List.getElem?_cons_succ, List.getElem?_cons_zero]; rfl) (by kernel_rfl) (by kernel_rfl) (by kernel_rfl) (fun _ _ _ h => h) (Or.inl ⟨by rfl, ?_⟩) (by assumption) ?_
  rotate_left
  · intro w hSw
    (try dsimp only at hSw)
    go_simp
    (try with_reducible rfl)
  simp only [Act.put, List.setIfInBounds_toArray, List.set_cons_zero, List.set_cons_succ]
  refine wpAnyH_take (i := 28) (v := ?_) (by simp only [List.getElem?_toArray, List.getElem?_cons_succ, List.getElem?_cons_zero]; rfl) (by kernel_rfl) (by kernel_rfl) (by kernel_rfl) (fun _ _ _ h => h) (Or.inl ⟨by rfl, ?_⟩) (by assumption) ?_
  rotate_left
  · intro w hSw
    (try dsimp only at hSw)
    go_simp
    (try with_reducible rfl)
  simp only [Act.put, List.setIfInBounds_toArray, List.set_cons_zero, List.set_cons_succ]
  refine wpAnyH_take (i := 30) (v := ?_) (by simp only [List.getElem?_toArray, List.getElem?_cons_succ, List.getElem?_cons_zero]; rfl) (by kernel_rfl) (by kernel_rfl) (by kernel_rfl) (fun _ _ _ h => h) (Or.inl ⟨by rfl, ?_⟩) (by assumption) ?_
  rotate_left
  · intro w hSw
    (try dsimp only at hSw)
    go_simp
    (try with_reducible rfl)
  simp only [Act.put, List.setIfInBounds_toArray, List.set_cons_zero, List.set_cons_succ]
  refine wpAnyH_ready (rs := [29]) (by kernel_rfl) (by simp) ?_
  refine AllReadyH.cons (by simp only [List.getElem?_toArray, List.getElem?_cons_succ, List.getElem?_cons_zero]; rfl) (fun K hK => ?_) AllReadyH.nil
  go_simp
  go_at_call 25; with_reducible refine (HN2.out _).mono ?_
  rintro e w' ⟨rfl, kk⟩
  try go_wp2_with fail
  refine hK.out _ _ ?_ (fun hHeld2 => ?_)
  · exact keepP15 hbc hbc hbc hbc hbc hbd hbd hbd hbd hbd hbf hbf hbf hbf hbf hHeld kk
  clear hK K hHeld
  have hHeld := hHeld2
  clear hHeld2
  try simp only [Act.put, List.setIfInBounds_toArray, List.set_cons_zero, List.set_cons_succ]
  refine wpAnyH_ready (rs := [31]) (by kernel_rfl) (by simp) ?_
  refine AllReadyH.cons (by simp only [List.getElem?_toArray, List.getElem?_cons_succ, List.getElem?_cons_zero]; rfl) (fun K hK => ?_) AllReadyH.nil
  go_simp
  go_at_call 25; with_reducible refine (HN2.out _).mono ?_
  rintro e w' ⟨rfl, kk⟩
  try go_wp2_with fail
  refine hK.out _ _ ?_ (fun hHeld2 => ?_)
  · exact keepP15 hbc hbc hbc hbc hbc hbd hbd hbd hbd hbd hbf hbf hbf hbf hbf hHeld kk
  clear hK K hHeld
  have hHeld := hHeld2
  clear hHeld2
  try simp only [Act.put, List.setIfInBounds_toArray, List.set_cons_zero, List.set_cons_succ]
  refine wpAnyH_ready (rs := [32]) (by kernel_rfl) (by simp) ?_
  refine AllReadyH.cons (by simp only [List.getElem?_toArray, List.getElem?_cons_succ, List.getElem?_cons_zero]; rfl) (fun K hK => ?_) AllReadyH.nil
  go_simp
  go_at_call 16; with_reducible refine (HOn.out _ 2 _ 2 _ 1 _ (HA0.out.kept (K1.out.trans hHeld.2.2.2.2.2.2.2.2.2.2.2.2.2.2.2)) (HL0.out.kept (K1.out.trans hHeld.2.2.2.2.2.2.2.2.2.2.2.2.2.2.2)) (HV0.out.kept hHeld.2.2.2.2.2.2.2.2.2.2.2.2.2.2.2)).mono ?_
  rintro e w' ⟨rfl, kk⟩
  try go_wp2_with fail
  refine hK.out _ _ ?_ (fun hHeld2 => ?_)
  · exact keepP15 hbc hbc hbc hbc hbc hbd hbd hbd hbd hbd hbf hbf hbf hbf hbf hHeld kk
  clear hK K hHeld
  have hHeld := hHeld2
  clear hHeld2
  try simp only [Act.put, List.setIfInBounds_toArray, List.set_cons_zero, List.set_cons_succ]
  refine wpAnyH_take (i := 33) (v := ?_) (by simp only [List.getElem?_toArray, List.getElem?_cons_succ, List.getElem?_cons_zero]; rfl) (by kernel_rfl) (by kernel_rfl) (by kernel_rfl) (fun _ _ _ h => h) (Or.inl ⟨by rfl, ?_⟩) (by assumption) ?_
  rotate_left
  · intro w hSw
    (try dsimp only at hSw)
    go_simp
    (try with_reducible rfl)
  simp only [Act.put, List.setIfInBounds_toArray, List.set_cons_zero, List.set_cons_succ]
  refine wpAnyH_take (i := 34) (v := ?_) (by simp only [List.getElem?_toArray, List.getElem?_cons_succ, List.getElem?_cons_zero]; rfl) (by kernel_rfl) (by kernel_rfl) (by kernel_rfl) (fun _ _ _ h => h) (Or.inl ⟨by rfl, ?_⟩) (by assumption) ?_
  rotate_left
  · intro w hSw
    (try dsimp only at hSw)
    go_simp
    (try with_reducible rfl)
  simp only [Act.put, List.setIfInBounds_toArray, List.set_cons_zero, List.set_cons_succ]
  refine wpAnyH_take (i := 35) (v := ?_) (by simp only [List.getElem?_toArray, List.getElem?_cons_succ, List.getElem?_cons_zero]; rfl) (by kernel_rfl) (by kernel_rfl) (by kernel_rfl) (fun _ _ _ h => h) (Or.inl ⟨by rfl, ?_⟩) (by assumption) ?_
  rotate_left
  · intro w hSw
    (try dsimp only at hSw)
    go_simp
    (try with_reducible rfl)
  simp only [Act.put, List.setIfInBounds_toArray, List.set_cons_zero, List.set_cons_succ]
  refine wpAnyH_done (by kernel_rfl) ?_ _
  refine NoPanic.normal ?_
  have k := hHeld.2.2.2.2.2.2.2.2.2.2.2.2.2.2.2
  clear hHeld
  go_wp2_with fail
  go_ret
  exact ⟨by first | rfl | (simp; done), HK0.out.trans (K1.out.trans k)⟩
theorem lmdAwake (w : World) : Calls Try.prog 10 #[] w fun e w' => e = .returned (.bool true) ∧ Kept w w' := by
  refine lmdAwake_of (nameB gA) (nameB gB) (fun w => name_any gA gA_wf w) (fun w => name_any gB gB_wf w) ?_ ?_ ?_ ?_ w
  · intro A c w hA
    have h := lmdBoost_any A c kLm 50 w (by decide) hA
    rw [ex13_boost] at h
    exact h
  · intro A c L cl V cv w hA hL hV
    refine (lmdHead_any A c kLm L cl [gA, gB] V cv [vLm] 1 (nameB gB) 50 w (by decide) (by decide) (by decide) lG_wf vLm_wf (nameB_lt gB) hA hL hV).mono ?_
    rintro e w' ⟨R, hR, rfl, k⟩
    have e := hR.unique vLm_last
    subst e
    rw [ex13_head]
    exact ⟨rfl, k⟩
  · intro A c L cl V cv w hA hL hV
    refine (lmdHead_any A c kLm L cl [gA, gB] V cv [vLm] 1 zid 50 w (by decide) (by decide) (by decide) lG_wf vLm_wf ⟨by decide, by decide⟩ hA hL hV).mono ?_
    rintro e w' ⟨R, hR, rfl, k⟩
    have e := hR.unique vLm_last
    subst e
    rw [ex13_plain]
    exact ⟨rfl, k⟩
  · intro A c L cl V cv w hA hL hV
    refine (lmdOn_any A c kLm L cl [gA, gB] V cv [vLm] 1 (nameB gB) 50 (nameB gB) w (by decide) (by decide) (by decide) lG_wf vLm_wf (nameB_lt gB) (nameB_lt gB) hA hL hV).mono ?_
    rintro e w' ⟨R, hR, rfl, k⟩
    have e := hR.unique vLm_last
    subst e
    rw [ex13_on]
    exact ⟨rfl, k⟩

end Go.Proofs.Yteamjjkmcomabaa
