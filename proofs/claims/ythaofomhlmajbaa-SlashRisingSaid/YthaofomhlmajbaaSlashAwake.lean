/-
  The chapter's example, which every law of layer 12 asks first: it is so.
-/
import Derived.Test.YthaofomhlmajbaaSlashG
namespace Go.Proofs.Ythaofomhlmajbaa
set_option maxRecDepth 100000
set_option linter.unusedVariables false
set_option linter.unusedSimpArgs false
set_option linter.unusedSimpArgs false
set_option linter.unusedVariables false
open Go.ChangeShapes Go.WideShapes Go.ChangeAt Go.RowKit

def aS : Lk := ⟨1, ⟨0, (0, 0)⟩, ⟨3, (0, 0)⟩⟩
def bS : Lk := ⟨1, ⟨1, (0, 0)⟩, ⟨2, (0, 0)⟩⟩
theorem aS_wf : WfLk aS := ⟨⟨by decide, by decide⟩, ⟨⟨by decide, by decide⟩, by decide, by decide⟩, ⟨by decide, by decide⟩, by decide, by decide⟩
theorem bS_wf : WfLk bS := ⟨⟨by decide, by decide⟩, ⟨⟨by decide, by decide⟩, by decide, by decide⟩, ⟨by decide, by decide⟩, by decide, by decide⟩
theorem vS_wf : WfLks [aS, bS] := by
  intro x hx
  rcases List.mem_cons.1 hx with rfl | hx
  · exact aS_wf
  · rw [List.mem_singleton] at hx; subst hx; exact bS_wf
theorem pairS : pairL aS bS = true := by decide
set_option maxRecDepth 100000 in
set_option maxHeartbeats 6400000 in
theorem slashAwake_of
    (hG : ∀ V cv w, CellsAt w w.heap.size V [.int .i64 1, .int .i64 0, .int .u64 0, .int .u64 0, .int .i64 3, .int .u64 0, .int .u64 0, .int .i64 1, .int .i64 1, .int .u64 0, .int .u64 0, .int .i64 2, .int .u64 0, .int .u64 0] → Calls Try.prog 11 #[.slice V 2 cv] w fun e w' => ∃ J cj, e = .returned (.slice J 1 cj) ∧ CellsAt w' w'.heap.size J [.int .i64 1] ∧ Kept w w')
    (h1 : ∀ w, Calls Try.prog 13 #[.agg #[.int .i64 1, .int .i64 0, .int .u64 0, .int .u64 0, .int .i64 3, .int .u64 0, .int .u64 0], .agg #[.int .i64 1, .int .i64 1, .int .u64 0, .int .u64 0, .int .i64 2, .int .u64 0, .int .u64 0]] w fun e w' => e = .returned (.bool true) ∧ Kept w w')
    (h2 : ∀ w, Calls Try.prog 13 #[.agg #[.int .i64 1, .int .i64 1, .int .u64 0, .int .u64 0, .int .i64 2, .int .u64 0, .int .u64 0], .agg #[.int .i64 1, .int .i64 0, .int .u64 0, .int .u64 0, .int .i64 3, .int .u64 0, .int .u64 0]] w fun e w' => e = .returned (.bool true) ∧ Kept w w')
    (h3 : ∀ w, Calls Try.prog 13 #[.agg #[.int .i64 1, .int .i64 0, .int .u64 0, .int .u64 0, .int .i64 3, .int .u64 0, .int .u64 0], .agg #[.int .i64 1, .int .i64 0, .int .u64 0, .int .u64 0, .int .i64 3, .int .u64 0, .int .u64 0]] w fun e w' => e = .returned (.bool false) ∧ Kept w w')
    (w : World) : Calls Try.prog 9 #[] w fun e w' => e = .returned (.bool true) ∧ Kept w w' := by
  have HG := Lib.hid hG
  have H1 := Lib.hid h1
  have H2 := Lib.hid h2
  have H3 := Lib.hid h3
  clear hG h1 h2 h3
  have K0 := Lib.hid ((((Kept.refl w).alloc (.cells #[.int .i64 1, .int .i64 0, .int .u64 0, .int .u64 0, .int .i64 3, .int .u64 0, .int .u64 0] 28)).alloc (.cells #[.int .i64 1, .int .i64 1, .int .u64 0, .int .u64 0, .int .i64 2, .int .u64 0, .int .u64 0] 28)).alloc (.cells #[.int .i64 1, .int .i64 0, .int .u64 0, .int .u64 0, .int .i64 3, .int .u64 0, .int .u64 0, .int .i64 1, .int .i64 1, .int .u64 0, .int .u64 0, .int .i64 2, .int .u64 0, .int .u64 0] 28))
  have HS := Lib.hid (((HasCells.new w #[.int .i64 1, .int .i64 0, .int .u64 0, .int .u64 0, .int .i64 3, .int .u64 0, .int .u64 0] 28 w.heap.size rfl).alloc (.cells #[.int .i64 1, .int .i64 1, .int .u64 0, .int .u64 0, .int .i64 2, .int .u64 0, .int .u64 0] 28)).alloc (.cells #[.int .i64 1, .int .i64 0, .int .u64 0, .int .u64 0, .int .i64 3, .int .u64 0, .int .u64 0, .int .i64 1, .int .i64 1, .int .u64 0, .int .u64 0, .int .i64 2, .int .u64 0, .int .u64 0] 28))
  have HT := Lib.hid ((HasCells.new (w.alloc (.cells #[.int .i64 1, .int .i64 0, .int .u64 0, .int .u64 0, .int .i64 3, .int .u64 0, .int .u64 0] 28)) #[.int .i64 1, .int .i64 1, .int .u64 0, .int .u64 0, .int .i64 2, .int .u64 0, .int .u64 0] 28 (w.heap.size + 1) (by simp)).alloc (.cells #[.int .i64 1, .int .i64 0, .int .u64 0, .int .u64 0, .int .i64 3, .int .u64 0, .int .u64 0, .int .i64 1, .int .i64 1, .int .u64 0, .int .u64 0, .int .i64 2, .int .u64 0, .int .u64 0] 28))
  have HV := Lib.hid (CellsAt.new ((w.alloc (.cells #[.int .i64 1, .int .i64 0, .int .u64 0, .int .u64 0, .int .i64 3, .int .u64 0, .int .u64 0] 28)).alloc (.cells #[.int .i64 1, .int .i64 1, .int .u64 0, .int .u64 0, .int .i64 2, .int .u64 0, .int .u64 0] 28)) #[.int .i64 1, .int .i64 0, .int .u64 0, .int .u64 0, .int .i64 3, .int .u64 0, .int .u64 0, .int .i64 1, .int .i64 1, .int .u64 0, .int .u64 0, .int .i64 2, .int .u64 0, .int .u64 0] 28 (w.heap.size + 1 + 1) (by simp))
  go_enter Try.func9, Try.ntmps9
  go_wp2_with fail
  generalize (((w.alloc (.cells #[.int .i64 1, .int .i64 0, .int .u64 0, .int .u64 0, .int .i64 3, .int .u64 0, .int .u64 0] 28)).alloc (.cells #[.int .i64 1, .int .i64 1, .int .u64 0, .int .u64 0, .int .i64 2, .int .u64 0, .int .u64 0] 28)).alloc (.cells #[.int .i64 1, .int .i64 0, .int .u64 0, .int .u64 0, .int .i64 3, .int .u64 0, .int .u64 0, .int .i64 1, .int .i64 1, .int .u64 0, .int .u64 0, .int .i64 2, .int .u64 0, .int .u64 0] 28)) = W at *
  generalize w.heap.size + 1 + 1 = z3 at *
  generalize w.heap.size + 1 = z2 at *
  generalize w.heap.size = z1 at *
  refine (HG.out _ 2 W HV.out).mono ?_
  rintro e W1 ⟨J, cj, rfl, hJ, k1⟩
  have HJ := Lib.hid hJ
  have K1 := Lib.hid k1
  clear k1 hJ HV HG
  obtain ⟨s0, s1, s2, s3, s4, s5, s6⟩ := (HS.out.kept K1.out).seven
  obtain ⟨t0, t1, t2, t3, t4, t5, t6⟩ := (HT.out.kept K1.out).seven
  go_wp2_with fail
  refine (H1.out W1).mono ?_
  rintro e W2 ⟨rfl, k1⟩
  have K2 := Lib.hid (K1.out.trans k1)
  have HJ := Lib.hid (HJ.out.kept k1)
  clear k1 s0 s1 s2 s3 s4 s5 s6 t0 t1 t2 t3 t4 t5 t6
  obtain ⟨s0, s1, s2, s3, s4, s5, s6⟩ := (HS.out.kept K2.out).seven
  obtain ⟨t0, t1, t2, t3, t4, t5, t6⟩ := (HT.out.kept K2.out).seven
  go_wp2_with fail
  refine (H2.out W2).mono ?_
  rintro e W3 ⟨rfl, k1⟩
  have K3 := Lib.hid (K2.out.trans k1)
  have HJ := Lib.hid (HJ.out.kept k1)
  clear k1 s0 s1 s2 s3 s4 s5 s6 t0 t1 t2 t3 t4 t5 t6
  obtain ⟨s0, s1, s2, s3, s4, s5, s6⟩ := (HS.out.kept K3.out).seven
  obtain ⟨t0, t1, t2, t3, t4, t5, t6⟩ := (HT.out.kept K3.out).seven
  go_wp2_with fail
  refine (H3.out W3).mono ?_
  rintro e W4 ⟨rfl, k1⟩
  have K4 := Lib.hid (K3.out.trans k1)
  have HJ := Lib.hid (HJ.out.kept k1)
  clear k1 s0 s1 s2 s3 s4 s5 s6 t0 t1 t2 t3 t4 t5 t6
  obtain ⟨z, o, rfl, hzb, hc⟩ := HJ.out.plain (by simp)
  have hc0 : W4.cell? ⟨z, o, none⟩ = some (.int .i64 1) := hc 0 _ rfl
  clear hc
  go_wp2_with fail
  go_ret
  exact ⟨by first | rfl | (simp; done), K0.out.trans K4.out⟩
theorem slashAwake (w : World) : Calls Try.prog 9 #[] w fun e w' => e = .returned (.bool true) ∧ Kept w w' := by
  refine slashAwake_of ?_ (fun w => ?_) (fun w => ?_) (fun w => ?_) w
  · intro V cv w hV
    refine (slashGuilty_any V cv [aS, bS] w (by decide) vS_wf hV).mono ?_
    rintro e w' ⟨G, A', c', hG, _, rfl, hC, _, k⟩
    have e := hG.one (guil_pair pairS)
    subst e
    exact ⟨A', c', rfl, hC, k⟩
  · have h := slashPair_any aS bS w aS_wf bS_wf
    rw [pairS] at h
    exact h
  · have h := slashPair_any bS aS w bS_wf aS_wf
    rw [pairL_comm, pairS] at h
    exact h
  · have h := slashPair_any aS aS w aS_wf aS_wf
    rw [pairL_self] at h
    exact h

end Go.Proofs.Ythaofomhlmajbaa
