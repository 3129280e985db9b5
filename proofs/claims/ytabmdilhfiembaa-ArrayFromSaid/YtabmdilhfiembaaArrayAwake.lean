/-
  The chapter's example, which every law of layer 10 asks first: it is so; arrays that may be stay so.
-/
import Derived.Test.YtabmdilhfiembaaArrayBare
import Derived.Test.YtabmdilhfiembaaArrayMove
namespace Go.Proofs.Ytabmdilhfiembaa
set_option maxRecDepth 100000
set_option linter.unusedVariables false
set_option linter.unusedSimpArgs false
set_option linter.unusedVariables false
open Go.ChangeShapes Go.WideShapes Go.ChangeAt Go.RowKit

/-! ### What may be stays so -/
theorem anew_may {x : List It} (h : StandI x) : MayI (anewC x) := by
  refine ⟨by rw [anewC_length]; exact h.1, fun i hi => ?_, anewC_twice x⟩
  rw [anewC_length] at hi
  have hA := anewC_alike x
  unfold rightI
  rw [hA.x, hA.p, hA.o]
  obtain ⟨h1, h2, h3⟩ := h.2 i hi
  exact ⟨h1, fun j hj => by rw [hA.x]; exact h2 j hj, h3⟩
theorem put_stand {a : List It} (h : MayI a) {id : Id2} {p : Int} (h1 : id ≠ zid) (h2 : posI a id < 0) (h3 : -1 ≤ p) (h4 : p < a.length) (h5 : a.length < 60) : StandI (putI a id p) := by
  refine ⟨by rw [putI_length]; omega, fun i hi => ?_⟩
  rw [putI_length] at hi
  by_cases e : i = a.length
  · subst e
    unfold rightI
    rw [putI_new]
    refine ⟨h1, fun j hj => ?_, h3, h4, Int.le_refl 0, (by decide : (0 : Int) ≤ 1125899906842624)⟩
    rw [putI_at hj]
    exact posI_none h2 j hj
  · have hi' : i < a.length := by omega
    obtain ⟨g1, g2, g3⟩ := h.2.1 i hi'
    unfold rightI
    rw [putI_at hi']
    exact ⟨g1, fun j hj => by rw [putI_at (by omega)]; exact g2 j hj, g3⟩
theorem own_stand {a : List It} (h : MayI a) {k : Nat} (hk : k < a.length) {v : Int} (hv : 0 ≤ v ∧ v ≤ 1125899906842624) : StandI (ownI a k v) := by
  refine ⟨by rw [ownI_length]; exact h.1, fun i hi => ?_⟩
  rw [ownI_length] at hi
  obtain ⟨g1, g2, g3, g4, g5⟩ := h.2.1 i hi
  unfold rightI
  rw [ownI_x, ownI_p]
  refine ⟨g1, fun j hj => by rw [ownI_x]; exact g2 j hj, g3, g4, ?_⟩
  by_cases e : i = k
  · subst e; rw [ownI_at hk]; exact hv
  · rw [ownI_other e]; exact g5
theorem nil_may : MayI [] := ⟨by decide, fun i hi => by simp at hi, rfl⟩

/-! ### The example -/
def exA1 : List It := [⟨(1, 1), -1, 0, 0, -1, 0⟩]
def exA2 : List It := [⟨(1, 1), -1, 0, 0, -1, 0⟩, ⟨(2, 2), -1, 0, 0, -1, 1⟩]
def exB : List It := [⟨(1, 1), -1, 5, 5, -1, 0⟩, ⟨(2, 2), -1, 0, 0, -1, 1⟩]
theorem ex_a1 : anewC (putI [] (1, 1) (-1)) = exA1 := rfl
theorem ex_a2 : anewC (putI exA1 (2, 2) (-1)) = exA2 := rfl
theorem ex_b : anewC (ownI exA2 0 5) = exB := rfl
theorem may_a1 : MayI exA1 := by rw [← ex_a1]; exact anew_may (put_stand nil_may (by decide) (by decide) (by decide) (by decide) (by decide))
theorem may_a2 : MayI exA2 := by rw [← ex_a2]; exact anew_may (put_stand may_a1 (by decide) (by decide) (by decide) (by decide) (by decide))
theorem may_b : MayI exB := by rw [← ex_b]; exact anew_may (own_stand may_a2 (by decide) (by decide))
theorem ex_ins1 : insC [] (1, 1) zid = (exA1, 0) := by
  rw [insC_ok (fun h => by rcases h with h | h; · exact mayI_not h nil_may
                           · cases h) (by decide) (fun h => h.2 rfl) (by decide)]
  rfl
theorem ex_ins2 : insC exA1 (2, 2) zid = (exA2, 0) := by
  rw [insC_ok (fun h => by rcases h with h | h; · exact mayI_not h may_a1
                           · cases h) (by decide) (fun h => h.2 rfl) (by decide)]
  rfl
theorem ex_mov : movC exA2 (1, 1) 5 = (exB, 0) := by
  rw [movC_ok (k := 0) (mayI_yes may_a2) rfl (by decide)]
  rfl
theorem ex_top1 : topC exA2 = (2, 2) := by rw [topC_some (r := 1) (mayI_yes may_a2) rfl]; rfl
theorem ex_top2 : topC exB = (1, 1) := by rw [topC_some (r := 0) (mayI_yes may_b) rfl]; rfl
def kA : Cf := ⟨[1], 0, 1, 0, 1⟩
def bA10 : Bk := ⟨1, 0, (0, 0), 0⟩
theorem ex_from : (fromC kA [bA10] []).length = 1 := by
  rw [fromC_yes [] (by decide) (by decide +kernel) (by decide), anewC_length, votes_length]; rfl
theorem bA10_wf : WfL [bA10] := fun b hb => by
  rw [List.mem_singleton] at hb; subst hb; exact ⟨⟨by decide, by decide⟩, by decide⟩

attribute [local go_sem high] eqId10 in
set_option maxRecDepth 100000 in
set_option maxHeartbeats 3200000 in
theorem arrayAwake_of (a1 a2 b : List It)
    (hI1 : ∀ w, Calls Try.prog 19 #[.slice none 0 0, .agg #[.int .u64 1, .int .u64 1], .agg #[.int .u64 0, .int .u64 0]] w fun e w' => ∃ A c, e = .returned (.tuple #[.slice A 1 c, .int .i64 0]) ∧ CellsAt w' w'.heap.size A (itemCells a1) ∧ 1 ≤ c ∧ Kept w w')
    (hI2 : ∀ A c w, CellsAt w w.heap.size A (itemCells a1) → 1 ≤ c → Calls Try.prog 19 #[.slice A 1 c, .agg #[.int .u64 2, .int .u64 2], .agg #[.int .u64 0, .int .u64 0]] w fun e w' => ∃ A c, e = .returned (.tuple #[.slice A 2 c, .int .i64 0]) ∧ CellsAt w' w'.heap.size A (itemCells a2) ∧ 2 ≤ c ∧ Kept w w')
    (hM : ∀ A c w, CellsAt w w.heap.size A (itemCells a2) → 2 ≤ c → Calls Try.prog 21 #[.slice A 2 c, .agg #[.int .u64 1, .int .u64 1], .int .i64 5] w fun e w' => ∃ A c, e = .returned (.tuple #[.slice A 2 c, .int .i64 0]) ∧ CellsAt w' w'.heap.size A (itemCells b) ∧ 2 ≤ c ∧ Kept w w')
    (hT1 : ∀ A c w, CellsAt w w.heap.size A (itemCells a2) → 2 ≤ c → Calls Try.prog 25 #[.slice A 2 c] w fun e w' => e = .returned (.agg #[.int .u64 2, .int .u64 2]) ∧ Kept w w')
    (hT2 : ∀ A c w, CellsAt w w.heap.size A (itemCells b) → 2 ≤ c → Calls Try.prog 25 #[.slice A 2 c] w fun e w' => e = .returned (.agg #[.int .u64 1, .int .u64 1]) ∧ Kept w w')
    (hMb : ∀ A c w, CellsAt w w.heap.size A (itemCells b) → 2 ≤ c → Calls Try.prog 24 #[.slice A 2 c] w fun e w' => e = .returned (.bool true) ∧ Kept w w')
    (hF : ∀ A c L cl w, CellsAt w w.heap.size A [.int .i64 1] → CellsAt w w.heap.size L [.int .i64 1, .int .i64 0, .int .u64 0, .int .u64 0, .int .u64 0] → Calls Try.prog 27 #[.agg #[.slice A 1 c, .int .u64 0, .int .i64 1, .int .i64 0, .int .i64 1], .slice L 1 cl, .slice none 0 0] w fun e w' => ∃ A c, e = .returned (.slice A 1 c) ∧ Kept w w')
    (w : World) : Calls Try.prog 17 #[] w fun e w' => e = .returned (.bool true) ∧ Kept w w' := by
  have HI1 := Lib.hid hI1
  have HI2 := Lib.hid hI2
  have HM := Lib.hid hM
  have HT1 := Lib.hid hT1
  have HT2 := Lib.hid hT2
  have HMb := Lib.hid hMb
  have HF := Lib.hid hF
  clear hI1 hI2 hM hT1 hT2 hMb hF
  go_enter Try.func17, Try.ntmps17
  go_wp2_with fail
  refine (HI1.out w).mono ?_
  rintro e W1 ⟨A1, c1, rfl, h1, hc1, k1⟩
  have H1 := Lib.hid h1
  have K1 := Lib.hid k1
  clear h1 k1
  go_wp2_with fail
  refine (HI2.out A1 c1 W1 H1.out hc1).mono ?_
  rintro e W2 ⟨A2, c2, rfl, h2, hc2, k2⟩
  have H2 := Lib.hid h2
  have K2 := Lib.hid (K1.out.trans k2)
  clear h2 k2
  go_wp2_with fail
  refine (HM.out A2 c2 W2 H2.out hc2).mono ?_
  rintro e W3 ⟨A3, c3, rfl, h3, hc3, k3⟩
  have H3 := Lib.hid h3
  have H23 := Lib.hid (H2.out.kept k3)
  have K3 := Lib.hid (K2.out.trans k3)
  clear h3 k3
  go_wp2_with fail
  refine (HT1.out A2 c2 W3 H23.out hc2).mono ?_
  rintro e W4 ⟨rfl, k4⟩
  have H4 := Lib.hid (H3.out.kept k4)
  have K4 := Lib.hid (K3.out.trans k4)
  clear k4
  go_wp2_with fail
  refine (HT2.out A3 c3 W4 H4.out hc3).mono ?_
  rintro e W5 ⟨rfl, k5⟩
  have H5 := Lib.hid (H4.out.kept k5)
  have K5 := Lib.hid (K4.out.trans k5)
  clear k5
  go_wp2_with fail
  refine (HMb.out A3 c3 W5 H5.out hc3).mono ?_
  rintro e W6 ⟨rfl, k6⟩
  have K6 := Lib.hid (K5.out.trans k6)
  clear k6
  have HA7 := Lib.hid ((CellsAt.new W6 #[.int .i64 1] 3 W6.heap.size rfl).kept ((Kept.refl _).alloc (.cells #[.int .i64 1, .int .i64 0, .int .u64 0, .int .u64 0, .int .u64 0] 54)))
  have HL7 := Lib.hid (CellsAt.new (W6.alloc (.cells #[.int .i64 1] 3)) #[.int .i64 1, .int .i64 0, .int .u64 0, .int .u64 0, .int .u64 0] 54 (W6.heap.size + 1) (by simp))
  have K7 := Lib.hid ((K6.out.alloc (.cells #[.int .i64 1] 3)).alloc (.cells #[.int .i64 1, .int .i64 0, .int .u64 0, .int .u64 0, .int .u64 0] 54))
  go_wp2_with fail
  refine (HF.out _ 1 _ 1 _ HA7.out HL7.out).mono ?_
  rintro e W8 ⟨A8, c8, rfl, k8⟩
  have K8 := Lib.hid (K7.out.trans k8)
  clear k8
  go_wp2_with fail
  go_ret
  exact ⟨rfl, K8.out⟩
theorem arrayAwake (w : World) : Calls Try.prog 17 #[] w fun e w' => e = .returned (.bool true) ∧ Kept w w' := by
  refine arrayAwake_of exA1 exA2 exB ?_ ?_ ?_ ?_ ?_ ?_ ?_ w
  · intro w
    have h := insI_any none 0 [] (by decide) (by decide) (1, 1) zid w CellsAt.nil
    rw [ex_ins1] at h
    exact h
  · intro A c w hA hc
    have h := insI_any A c exA1 (by decide) hc (2, 2) zid w hA
    rw [ex_ins2] at h
    exact h
  · intro A c w hA hc
    have h := movI_any A c exA2 (by decide) hc (1, 1) 5 (by decide) (by decide) w hA
    rw [ex_mov] at h
    exact h
  · intro A c w hA hc
    have h := topI_any A c exA2 (by decide) hc w hA
    rw [ex_top1] at h
    exact h
  · intro A c w hA hc
    have h := topI_any A c exB (by decide) hc w hA
    rw [ex_top2] at h
    exact h
  · intro A c w hA hc
    have h := mayI_any A c exB (by decide) hc w hA
    rw [mayI_yes may_b] at h
    exact h
  · intro A c L cl w hA hL
    refine (from_any A c kA L cl [bA10] none 0 [] w (by decide) (by decide) bA10_wf (fun _ h => by cases h) hA hL CellsAt.nil).mono ?_
    rintro e w' ⟨A', c', rfl, _, _, k⟩
    exact ⟨A', c', by rw [ex_from], k⟩

end Go.Proofs.Ytabmdilhfiembaa
