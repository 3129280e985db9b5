/-
  The chapter's example, which every law of layer 9 asks first: it is so; and few.
-/
import Derived.Test.YtabmdilhfiembaaGhostHead
import Derived.Test.YtabmdilhfiembaaGround
namespace Go.Proofs.Ytabmdilhfiembaa
set_option maxRecDepth 100000
set_option linter.unusedVariables false
set_option linter.unusedSimpArgs false
set_option linter.unusedVariables false
open Go.ChangeShapes Go.WideShapes Go.ChangeAt Go.RowKit

def kGe : Cf := ⟨[1], 0, 1, 0, 4⟩
def gA : Bk := ⟨1, 0, (0, 0), 0⟩
def gB : Bk := ⟨1, 0, (0, 0), 1⟩
theorem ex_less9 : lessN (nameB gB) (nameB gA) = true := by decide +kernel
theorem ex_apart9 : sameI (nameB gB) (nameB gA) = false := by decide +kernel
theorem ex_head1 : headC kGe [gA, gB] [] = nameB gA := by decide +kernel
theorem ex_head2 : headC kGe [gA, gB] [⟨0, 1, nameB gB⟩] = nameB gB := by decide +kernel
theorem ex_head3 : headC kGe [] [] = zid := by decide +kernel
theorem gA_wf : WfB gA := ⟨⟨by decide, by decide⟩, by decide⟩
theorem gB_wf : WfB gB := ⟨⟨by decide, by decide⟩, by decide⟩
theorem lG_wf : WfL [gA, gB] := fun b hb => by
  rcases List.mem_cons.1 hb with rfl | hb
  · exact gA_wf
  · rw [List.mem_singleton] at hb; subst hb; exact gB_wf
theorem vG_wf : WfVs [⟨0, 1, nameB gB⟩] := fun b hb => by
  rw [List.mem_singleton] at hb; subst hb; exact ⟨⟨by decide, by decide⟩, ⟨by decide, by decide⟩, nameB_lt gB⟩

attribute [local go_sem high] eqIdN eqIdZ in
set_option maxRecDepth 100000 in
set_option maxHeartbeats 3200000 in
theorem ghostAwake_of (n1 n2 n0 : Id2) (hz0 : isZ n0 = true) (hs : sameI n2 n1 = false) (hless : lessN n2 n1 = true)
    (hN1 : ∀ w, Calls Try.prog 32 #[.agg #[.int .i64 1, .int .i64 0, .int .u64 0, .int .u64 0, .int .u64 0]] w fun e w' => e = .returned (.agg #[.int .u64 n1.1, .int .u64 n1.2]) ∧ Kept w w')
    (hN2 : ∀ w, Calls Try.prog 32 #[.agg #[.int .i64 1, .int .i64 0, .int .u64 0, .int .u64 0, .int .u64 1]] w fun e w' => e = .returned (.agg #[.int .u64 n2.1, .int .u64 n2.2]) ∧ Kept w w')
    (hH1 : ∀ A c L cl w, CellsAt w w.heap.size A [.int .i64 1] → CellsAt w w.heap.size L [.int .i64 1, .int .i64 0, .int .u64 0, .int .u64 0, .int .u64 0, .int .i64 1, .int .i64 0, .int .u64 0, .int .u64 0, .int .u64 1] →
      Calls Try.prog 15 #[.agg #[.slice A 1 c, .int .u64 0, .int .i64 1, .int .i64 0, .int .i64 4], .slice L 2 cl, .slice none 0 0] w fun e w' => e = .returned (.agg #[.int .u64 n1.1, .int .u64 n1.2]) ∧ Kept w w')
    (hH2 : ∀ A c L cl V cv w, CellsAt w w.heap.size A [.int .i64 1] → CellsAt w w.heap.size L [.int .i64 1, .int .i64 0, .int .u64 0, .int .u64 0, .int .u64 0, .int .i64 1, .int .i64 0, .int .u64 0, .int .u64 0, .int .u64 1] → CellsAt w w.heap.size V [.int .i64 0, .int .i64 1, .int .u64 n2.1, .int .u64 n2.2] →
      Calls Try.prog 15 #[.agg #[.slice A 1 c, .int .u64 0, .int .i64 1, .int .i64 0, .int .i64 4], .slice L 2 cl, .slice V 1 cv] w fun e w' => e = .returned (.agg #[.int .u64 n2.1, .int .u64 n2.2]) ∧ Kept w w')
    (hH3 : ∀ A c w, CellsAt w w.heap.size A [.int .i64 1] →
      Calls Try.prog 15 #[.agg #[.slice A 1 c, .int .u64 0, .int .i64 1, .int .i64 0, .int .i64 4], .slice none 0 0, .slice none 0 0] w fun e w' => e = .returned (.agg #[.int .u64 n0.1, .int .u64 n0.2]) ∧ Kept w w')
    (w : World) : Calls Try.prog 11 #[] w fun e w' => e = .returned (.bool true) ∧ Kept w w' := by
  have HN1 := Lib.hid hN1
  have HN2 := Lib.hid hN2
  have HH1 := Lib.hid hH1
  have HH2 := Lib.hid hH2
  have HH3 := Lib.hid hH3
  have HLs := Lib.hid hless
  have HSm := Lib.hid hs
  have HZ0 := Lib.hid hz0
  clear hN1 hN2 hH1 hH2 hH3 hless hs hz0
  go_enter Try.func11, Try.ntmps11
  go_wp2_with fail
  have HK0 := Lib.hid ((((((Kept.refl w).alloc (.cells #[.int .i64 1] 3)).alloc (.cells #[.slice (some ⟨w.heap.size, 0, none⟩) 1 1, .int .u64 0, .int .i64 1, .int .i64 0, .int .i64 4] 25)).alloc (.cells #[.int .i64 1, .int .i64 0, .int .u64 0, .int .u64 0, .int .u64 0] 54)).alloc (.cells #[.int .i64 1, .int .i64 0, .int .u64 0, .int .u64 0, .int .u64 1] 54)).alloc (.cells #[.int .i64 1, .int .i64 0, .int .u64 0, .int .u64 0, .int .u64 0, .int .i64 1, .int .i64 0, .int .u64 0, .int .u64 0, .int .u64 1] 54))
  have HA0 := Lib.hid (((((CellsAt.new w #[.int .i64 1] 3 w.heap.size rfl).kept ((Kept.refl _).alloc (.cells #[.slice (some ⟨w.heap.size, 0, none⟩) 1 1, .int .u64 0, .int .i64 1, .int .i64 0, .int .i64 4] 25))).kept ((Kept.refl _).alloc (.cells #[.int .i64 1, .int .i64 0, .int .u64 0, .int .u64 0, .int .u64 0] 54))).kept ((Kept.refl _).alloc (.cells #[.int .i64 1, .int .i64 0, .int .u64 0, .int .u64 0, .int .u64 1] 54))).kept ((Kept.refl _).alloc (.cells #[.int .i64 1, .int .i64 0, .int .u64 0, .int .u64 0, .int .u64 0, .int .i64 1, .int .i64 0, .int .u64 0, .int .u64 0, .int .u64 1] 54)))
  have HC0 := Lib.hid ((((HasCells.new (w.alloc (.cells #[.int .i64 1] 3)) #[.slice (some ⟨w.heap.size, 0, none⟩) 1 1, .int .u64 0, .int .i64 1, .int .i64 0, .int .i64 4] 25 (w.heap.size + 1) (by simp)).alloc (.cells #[.int .i64 1, .int .i64 0, .int .u64 0, .int .u64 0, .int .u64 0] 54)).alloc (.cells #[.int .i64 1, .int .i64 0, .int .u64 0, .int .u64 0, .int .u64 1] 54)).alloc (.cells #[.int .i64 1, .int .i64 0, .int .u64 0, .int .u64 0, .int .u64 0, .int .i64 1, .int .i64 0, .int .u64 0, .int .u64 0, .int .u64 1] 54))
  have HD0 := Lib.hid (((HasCells.new ((w.alloc (.cells #[.int .i64 1] 3)).alloc (.cells #[.slice (some ⟨w.heap.size, 0, none⟩) 1 1, .int .u64 0, .int .i64 1, .int .i64 0, .int .i64 4] 25)) #[.int .i64 1, .int .i64 0, .int .u64 0, .int .u64 0, .int .u64 0] 54 (w.heap.size + 1 + 1) (by simp)).alloc (.cells #[.int .i64 1, .int .i64 0, .int .u64 0, .int .u64 0, .int .u64 1] 54)).alloc (.cells #[.int .i64 1, .int .i64 0, .int .u64 0, .int .u64 0, .int .u64 0, .int .i64 1, .int .i64 0, .int .u64 0, .int .u64 0, .int .u64 1] 54))
  have HE0 := Lib.hid ((HasCells.new (((w.alloc (.cells #[.int .i64 1] 3)).alloc (.cells #[.slice (some ⟨w.heap.size, 0, none⟩) 1 1, .int .u64 0, .int .i64 1, .int .i64 0, .int .i64 4] 25)).alloc (.cells #[.int .i64 1, .int .i64 0, .int .u64 0, .int .u64 0, .int .u64 0] 54)) #[.int .i64 1, .int .i64 0, .int .u64 0, .int .u64 0, .int .u64 1] 54 (w.heap.size + 1 + 1 + 1) (by simp)).alloc (.cells #[.int .i64 1, .int .i64 0, .int .u64 0, .int .u64 0, .int .u64 0, .int .i64 1, .int .i64 0, .int .u64 0, .int .u64 0, .int .u64 1] 54))
  have HL0 := Lib.hid (CellsAt.new ((((w.alloc (.cells #[.int .i64 1] 3)).alloc (.cells #[.slice (some ⟨w.heap.size, 0, none⟩) 1 1, .int .u64 0, .int .i64 1, .int .i64 0, .int .i64 4] 25)).alloc (.cells #[.int .i64 1, .int .i64 0, .int .u64 0, .int .u64 0, .int .u64 0] 54)).alloc (.cells #[.int .i64 1, .int .i64 0, .int .u64 0, .int .u64 0, .int .u64 1] 54)) #[.int .i64 1, .int .i64 0, .int .u64 0, .int .u64 0, .int .u64 0, .int .i64 1, .int .i64 0, .int .u64 0, .int .u64 0, .int .u64 1] 54 (w.heap.size + 1 + 1 + 1 + 1) (by simp))
  generalize (((((w.alloc (.cells #[.int .i64 1] 3)).alloc (.cells #[.slice (some ⟨w.heap.size, 0, none⟩) 1 1, .int .u64 0, .int .i64 1, .int .i64 0, .int .i64 4] 25)).alloc (.cells #[.int .i64 1, .int .i64 0, .int .u64 0, .int .u64 0, .int .u64 0] 54)).alloc (.cells #[.int .i64 1, .int .i64 0, .int .u64 0, .int .u64 0, .int .u64 1] 54)).alloc (.cells #[.int .i64 1, .int .i64 0, .int .u64 0, .int .u64 0, .int .u64 0, .int .i64 1, .int .i64 0, .int .u64 0, .int .u64 0, .int .u64 1] 54)) = W0 at *
  generalize w.heap.size + 1 + 1 + 1 + 1 = z4 at *
  generalize w.heap.size + 1 + 1 + 1 = z3 at *
  generalize w.heap.size + 1 + 1 = z2 at *
  generalize w.heap.size + 1 = z1 at *
  generalize w.heap.size = z0 at *
  obtain ⟨d0, d1, d2, d3, d4⟩ := HD0.out.five
  have hz2 := HD0.out.1
  refine (HN1.out W0).mono ?_
  rintro e W1 ⟨rfl, k1⟩
  have HK1 := Lib.hid k1
  have HX1 := Lib.hid (HasCells.new W1 #[.int .u64 n1.1, .int .u64 n1.2] 29 W1.heap.size rfl)
  have HKK := Lib.hid ((Kept.refl W1).alloc (.cells #[.int .u64 n1.1, .int .u64 n1.2] 29))
  clear d0 d1 d2 d3 d4 hz2 k1
  obtain ⟨e0, e1, e2, e3, e4⟩ := (HE0.out.kept HK1.out).five
  have hz3 := (HE0.out.kept HK1.out).1
  go_wp2_with fail
  have HF5 := Lib.hid (show ∀ j, (W1.alloc (.cells #[.int .u64 n1.1, .int .u64 n1.2] 29)).frozen? ⟨W1.heap.size, j, none⟩ = false by intro j; simp [go_sem])
  have HKW := Lib.hid (HK1.out.trans HKK.out)
  generalize W1.alloc (.cells #[.int .u64 n1.1, .int .u64 n1.2] 29) = W2 at *
  have HG5 := Lib.hid (HK1.out.size_le)
  generalize W1.heap.size = z5 at *
  clear e0 e1 e2 e3 e4 hz3
  refine (HN2.out W2).mono ?_
  rintro e W3 ⟨rfl, k3⟩
  have HX3 := Lib.hid (HX1.out.kept k3)
  have HF3 := Lib.hid (fun j => (k3.frozen (p := ⟨z5, j, none⟩) HX1.out.1).trans (HF5.out j))
  have HK3 := Lib.hid (HKW.out.trans k3)
  have HY3 := Lib.hid (HasCells.new W3 #[.int .u64 n2.1, .int .u64 n2.2] 29 W3.heap.size rfl)
  have HF6 := Lib.hid (show ∀ j, (W3.alloc (.cells #[.int .u64 n2.1, .int .u64 n2.2] 29)).frozen? ⟨W3.heap.size, j, none⟩ = false by intro j; simp [go_sem])
  have HN56 := Lib.hid (Nat.ne_of_lt HX3.out.1)
  have HK4 := Lib.hid (HK3.out.alloc (.cells #[.int .u64 n2.1, .int .u64 n2.2] 29))
  have HK34 := Lib.hid ((Kept.refl W3).alloc (.cells #[.int .u64 n2.1, .int .u64 n2.2] 29))
  have HX4 := Lib.hid (HX3.out.kept HK34.out)
  have HF4 := Lib.hid (fun j => (HK34.out.frozen (p := ⟨z5, j, none⟩) HX3.out.1).trans (HF3.out j))
  have HG6 := Lib.hid (HK3.out.size_le)
  clear k3 HX3 HF3 HX1 HF5
  obtain ⟨x0, x1⟩ := HX4.out.two
  have hz5 := HX4.out.1
  go_wp2_with fail
  generalize W3.alloc (.cells #[.int .u64 n2.1, .int .u64 n2.2] 29) = W4 at *
  generalize W3.heap.size = z6 at *
  clear x0 x1 hz5
  refine (less_any n2 n1 W4).mono ?_
  rintro e W5 ⟨rfl, k5⟩
  rw [HLs.out]
  have HX5 := Lib.hid (HX4.out.kept k5)
  have HY5 := Lib.hid (HY3.out.kept k5)
  have hf5 := fun j => (k5.frozen (p := ⟨z5, j, none⟩) HX4.out.1).trans (HF4.out j)
  have hf6 := fun j => (k5.frozen (p := ⟨z6, j, none⟩) HY3.out.1).trans (HF6.out j)
  have HK5 := Lib.hid (HK4.out.trans k5)
  have HDx := Lib.hid (⟨HX5.out, hf5 0, hf5 1, HK5.out⟩ : Down W0 z5 n1 W5)
  have HDy := Lib.hid (⟨HY5.out, hf6 0, hf6 1, HK5.out⟩ : Down W0 z6 n2 W5)
  have HDx2 := Lib.hid (HDx.out.set HG5.out n2)
  have HY6 := Lib.hid (down_other (fun e => HN56.out e.symm) HY5.out n2)
  clear k5 hf5 hf6
  obtain ⟨x0, x1⟩ := HX5.out.two
  obtain ⟨y0, y1⟩ := HY5.out.two
  have hz5 := HX5.out.1
  have hz6 := HY5.out.1
  have f50 := HDx.out.f0
  have f51 := HDx.out.f1
  have f60 := HDy.out.f0
  have f61 := HDy.out.f1
  have h56 := HN56.out
  have h65 : ¬ z6 = z5 := fun e => HN56.out e.symm
  go_wp2_with fail
  have HDy2 := Lib.hid (Down.set HG6.out (⟨HY6.out, by simpa using f60, by simpa using f61, HDx2.out.kept⟩ : Down W0 z6 n2 ((W5.setCell ⟨z5, 0, none⟩ (.int .u64 n2.1)).setCell ⟨z5, 1, none⟩ (.int .u64 n2.2))) n1)
  have HX7 := Lib.hid (down_other HN56.out HDx2.out.cells n1)
  clear x0 x1 y0 y1 hz5 hz6 f50 f51 f60 f61 h56 h65
  generalize ((((W5.setCell ⟨z5, 0, none⟩ (.int .u64 n2.1)).setCell ⟨z5, 1, none⟩ (.int .u64 n2.2)).setCell ⟨z6, 0, none⟩ (.int .u64 n1.1)).setCell ⟨z6, 1, none⟩ (.int .u64 n1.2)) = W7 at *
  have HC7 := Lib.hid (HC0.out.kept HDy2.out.kept)
  have HA7 := Lib.hid (HA0.out.kept HDy2.out.kept)
  have HL7 := Lib.hid (HL0.out.kept HDy2.out.kept)
  obtain ⟨x0, x1⟩ := HX7.out.two
  obtain ⟨y0, y1⟩ := HDy2.out.cells.two
  obtain ⟨c0, c1, c2, c3, c4⟩ := HC7.out.five
  have hz1 := HC7.out.1
  have hz5 := HX7.out.1
  have hz6 := HDy2.out.cells.1
  have hs := HSm.out
  have hz0 := HZ0.out
  have hs1 : sameI n1 n1 = true := sameI_yes rfl
  have hs2 : sameI n2 n2 = true := sameI_yes rfl
  trace_state
  go_region_held3 (fun w' => w'.cell? ⟨z1, 0, none⟩ = some (.slice (some ⟨z0, 0, none⟩) 1 1) ∧ w'.cell? ⟨z1, 1, none⟩ = some (.int .u64 0) ∧ w'.cell? ⟨z1, 2, none⟩ = some (.int .i64 1) ∧ w'.cell? ⟨z1, 3, none⟩ = some (.int .i64 0) ∧ w'.cell? ⟨z1, 4, none⟩ = some (.int .i64 4) ∧ w'.cell? ⟨z5, 0, none⟩ = some (.int .u64 n2.1) ∧ w'.cell? ⟨z5, 1, none⟩ = some (.int .u64 n2.2) ∧ w'.cell? ⟨z6, 0, none⟩ = some (.int .u64 n1.1) ∧ w'.cell? ⟨z6, 1, none⟩ = some (.int .u64 n1.2) ∧ Kept W7 w')
    (first | exact ⟨c0, c1, c2, c3, c4, x0, x1, y0, y1, Kept.refl _⟩ | exact ⟨c0, c1, c2, c3, c4, x0, x1, y0, y1, (Kept.refl _).drew⟩ | assumption | exact keepP9 hz1 hz1 hz1 hz1 hz1 hz5 hz5 hz6 hz6 (by assumption) (by assumption) | exact keepP9 hz1 hz1 hz1 hz1 hz1 hz5 hz5 hz6 hz6 (by assumption) ((Kept.refl _).alloc _))
    (first
      | (go_at_call 15; ((first
          | (with_reducible refine (HH1.out _ _ _ _ _ (HA7.out.kept (by assumption : _ ∧ _ ∧ _ ∧ _ ∧ _ ∧ _ ∧ _ ∧ _ ∧ _ ∧ Kept W7 _).2.2.2.2.2.2.2.2.2) (HL7.out.kept (by assumption : _ ∧ _ ∧ _ ∧ _ ∧ _ ∧ _ ∧ _ ∧ _ ∧ _ ∧ Kept W7 _).2.2.2.2.2.2.2.2.2)).mono ?_)
          | (with_reducible refine (HH2.out _ _ _ _ _ _ _ (HA7.out.kept (by assumption : _ ∧ _ ∧ _ ∧ _ ∧ _ ∧ _ ∧ _ ∧ _ ∧ _ ∧ Kept W7 _).2.2.2.2.2.2.2.2.2) (HL7.out.kept (by assumption : _ ∧ _ ∧ _ ∧ _ ∧ _ ∧ _ ∧ _ ∧ _ ∧ _ ∧ Kept W7 _).2.2.2.2.2.2.2.2.2) (CellsAt.new _ _ _ _ rfl)).mono ?_)
          | (with_reducible refine (HH3.out _ _ _ (HA7.out.kept (by assumption : _ ∧ _ ∧ _ ∧ _ ∧ _ ∧ _ ∧ _ ∧ _ ∧ _ ∧ Kept W7 _).2.2.2.2.2.2.2.2.2)).mono ?_)); rintro e w' ⟨rfl, kk⟩)))
  rename_i hh
  have hk := Lib.hid (HK0.out.trans (HDy2.out.kept.trans hh.2.2.2.2.2.2.2.2.2))
  clear hh
  go_wp2_with fail
  go_ret
  exact ⟨rfl, hk.out⟩
theorem ghostAwake (w : World) : Calls Try.prog 11 #[] w fun e w' => e = .returned (.bool true) ∧ Kept w w' := by
  refine ghostAwake_of (nameB gA) (nameB gB) zid (by decide) ex_apart9 ex_less9 (fun w => name_any gA gA_wf w) (fun w => name_any gB gB_wf w) ?_ ?_ ?_ w
  · intro A c L cl w hA hL
    have h := head_any A c kGe L cl [gA, gB] none 0 [] w (by decide) (by decide) lG_wf (fun _ h => by cases h) hA hL CellsAt.nil
    rw [ex_head1] at h
    exact h
  · intro A c L cl V cv w hA hL hV
    have h := head_any A c kGe L cl [gA, gB] V cv [⟨0, 1, nameB gB⟩] w (by decide) (by decide) lG_wf vG_wf hA hL hV
    rw [ex_head2] at h
    exact h
  · intro A c w hA
    have h := head_any A c kGe none 0 [] none 0 [] w (by decide) (by decide) (fun _ h => by cases h) (fun _ h => by cases h) hA CellsAt.nil CellsAt.nil
    rw [ex_head3] at h
    exact h

/-! ### few -/
def few9C (k : Cf) (l : List Bk) (v : List Vt) : Bool := decide (k.ws.length ≤ 40 ∧ l.length ≤ 20 ∧ v.length ≤ 30)
theorem few9C_yes {k : Cf} {l : List Bk} {v : List Vt} (h : few9C k l v = true) : k.ws.length ≤ 40 ∧ l.length ≤ 20 ∧ v.length ≤ 30 := of_decide_eq_true h
set_option maxHeartbeats 800000 in
theorem few9_any (A : Option Addr) (c : Nat) (k : Cf) (L : Option Addr) (cl : Nat) (l : List Bk) (V : Option Addr) (cv : Nat) (v : List Vt) (w : World) :
    Calls Try.prog 12 #[.agg #[.slice A k.ws.length c, .int .u64 k.seed, .int .i64 k.ep, .int .i64 k.nu, .int .i64 k.de], .slice L l.length cl, .slice V v.length cv] w fun e w' => e = .returned (.bool (few9C k l v)) ∧ Kept w w' := by
  by_cases h1 : k.ws.length ≤ 40
  · by_cases h2 : l.length ≤ 20
    · by_cases h3 : v.length ≤ 30
      · have HF := Lib.hid (show few9C k l v = true from decide_eq_true ⟨h1, h2, h3⟩)
        go_enter Try.func12, Try.ntmps12
        go_wp2_with fail
        go_ret
        exact ⟨by rw [HF.out]; first | rfl | (simp; done) | (simp; omega), (Kept.refl w).alloc _⟩
      · have HF := Lib.hid (show few9C k l v = false from decide_eq_false (by omega))
        go_enter Try.func12, Try.ntmps12
        go_wp2_with fail
        go_ret
        exact ⟨by rw [HF.out]; first | rfl | (simp; done) | (simp; omega), (Kept.refl w).alloc _⟩
    · have HF := Lib.hid (show few9C k l v = false from decide_eq_false (by omega))
      go_enter Try.func12, Try.ntmps12
      go_wp2_with fail
      go_ret
      exact ⟨by rw [HF.out]; first | rfl | (simp; done) | (simp; omega), (Kept.refl w).alloc _⟩
  · have HF := Lib.hid (show few9C k l v = false from decide_eq_false (by omega))
    go_enter Try.func12, Try.ntmps12
    go_wp2_with fail
    go_ret
    exact ⟨by rw [HF.out]; first | rfl | (simp; done) | (simp; omega), (Kept.refl w).alloc _⟩

end Go.Proofs.Ytabmdilhfiembaa
