/-
  The contracts of the given package marigoldref12.
-/
import Derived.Test.YthaofomhlmajbaaSlashMath
import Derived.Test.YthaofomhlmajbaaSlashEq
import Derived.Test.YthaofomhlmajbaaFfgRefG
import Derived.Test.YthaofomhlmajbaaFfgOpen
import Derived.Test.YthaofomhlmajbaaGround
namespace Go.Proofs.Ythaofomhlmajbaa
set_option maxRecDepth 100000
set_option linter.unusedVariables false
set_option linter.unusedSimpArgs false
set_option linter.unusedSimpArgs false
set_option linter.unusedVariables false
open Go.ChangeShapes Go.WideShapes Go.ChangeAt Go.RowKit

set_option maxRecDepth 100000 in
set_option maxHeartbeats 1600000 in
theorem refSpans_any (a b : Lk) (w : World) :
    Calls Try.prog 19 #[.agg #[.int .i64 a.f, .int .i64 a.s.e, .int .u64 a.s.r.1, .int .u64 a.s.r.2, .int .i64 a.t.e, .int .u64 a.t.r.1, .int .u64 a.t.r.2], .agg #[.int .i64 b.f, .int .i64 b.s.e, .int .u64 b.s.r.1, .int .u64 b.s.r.2, .int .i64 b.t.e, .int .u64 b.t.r.1, .int .u64 b.t.r.2]] w fun e w' => e = .returned (.bool (spansL a b)) ∧ Kept w w' := by
  have K0 := Lib.hid (((Kept.refl w).alloc (.cells #[.int .i64 a.f, .int .i64 a.s.e, .int .u64 a.s.r.1, .int .u64 a.s.r.2, .int .i64 a.t.e, .int .u64 a.t.r.1, .int .u64 a.t.r.2] 28)).alloc (.cells #[.int .i64 b.f, .int .i64 b.s.e, .int .u64 b.s.r.1, .int .u64 b.s.r.2, .int .i64 b.t.e, .int .u64 b.t.r.1, .int .u64 b.t.r.2] 28))
  have HS := Lib.hid ((HasCells.new w #[.int .i64 a.f, .int .i64 a.s.e, .int .u64 a.s.r.1, .int .u64 a.s.r.2, .int .i64 a.t.e, .int .u64 a.t.r.1, .int .u64 a.t.r.2] 28 w.heap.size rfl).alloc (.cells #[.int .i64 b.f, .int .i64 b.s.e, .int .u64 b.s.r.1, .int .u64 b.s.r.2, .int .i64 b.t.e, .int .u64 b.t.r.1, .int .u64 b.t.r.2] 28))
  have HT := Lib.hid (HasCells.new (w.alloc (.cells #[.int .i64 a.f, .int .i64 a.s.e, .int .u64 a.s.r.1, .int .u64 a.s.r.2, .int .i64 a.t.e, .int .u64 a.t.r.1, .int .u64 a.t.r.2] 28)) #[.int .i64 b.f, .int .i64 b.s.e, .int .u64 b.s.r.1, .int .u64 b.s.r.2, .int .i64 b.t.e, .int .u64 b.t.r.1, .int .u64 b.t.r.2] 28 (w.heap.size + 1) (by simp))
  by_cases h1 : a.s.e < b.s.e
  · by_cases h2 : b.t.e < a.t.e
    · have HE := Lib.hid (show spansL a b = true from decide_eq_true ⟨h1, h2⟩)
      go_enter Try.func19, Try.ntmps19
      go_wp2_with fail
      go_ret
      exact ⟨by rw [HE.out]; first | rfl | (simp; done) | (simp; omega), K0.out⟩
    · have HE := Lib.hid (show spansL a b = false from decide_eq_false (fun h => h2 h.2))
      go_enter Try.func19, Try.ntmps19
      go_wp2_with fail
      go_ret
      exact ⟨by rw [HE.out]; first | rfl | (simp; done) | (simp; omega), K0.out⟩
  · have HE := Lib.hid (show spansL a b = false from decide_eq_false (fun h => h1 h.1))
    go_enter Try.func19, Try.ntmps19
    go_wp2_with fail
    go_ret
    exact ⟨by rw [HE.out]; first | rfl | (simp; done) | (simp; omega), K0.out⟩
attribute [local go_sem high] eqLk in
set_option maxRecDepth 100000 in
set_option maxHeartbeats 3200000 in
theorem refPair12_any (a b : Lk) (w : World) :
    Calls Try.prog 10 #[.agg #[.int .i64 a.f, .int .i64 a.s.e, .int .u64 a.s.r.1, .int .u64 a.s.r.2, .int .i64 a.t.e, .int .u64 a.t.r.1, .int .u64 a.t.r.2], .agg #[.int .i64 b.f, .int .i64 b.s.e, .int .u64 b.s.r.1, .int .u64 b.s.r.2, .int .i64 b.t.e, .int .u64 b.t.r.1, .int .u64 b.t.r.2]] w fun e w' => e = .returned (.bool (pairL a b)) ∧ Kept w w' := by
  have K0 := Lib.hid (((Kept.refl w).alloc (.cells #[.int .i64 a.f, .int .i64 a.s.e, .int .u64 a.s.r.1, .int .u64 a.s.r.2, .int .i64 a.t.e, .int .u64 a.t.r.1, .int .u64 a.t.r.2] 28)).alloc (.cells #[.int .i64 b.f, .int .i64 b.s.e, .int .u64 b.s.r.1, .int .u64 b.s.r.2, .int .i64 b.t.e, .int .u64 b.t.r.1, .int .u64 b.t.r.2] 28))
  have HS := Lib.hid ((HasCells.new w #[.int .i64 a.f, .int .i64 a.s.e, .int .u64 a.s.r.1, .int .u64 a.s.r.2, .int .i64 a.t.e, .int .u64 a.t.r.1, .int .u64 a.t.r.2] 28 w.heap.size rfl).alloc (.cells #[.int .i64 b.f, .int .i64 b.s.e, .int .u64 b.s.r.1, .int .u64 b.s.r.2, .int .i64 b.t.e, .int .u64 b.t.r.1, .int .u64 b.t.r.2] 28))
  have HT := Lib.hid (HasCells.new (w.alloc (.cells #[.int .i64 a.f, .int .i64 a.s.e, .int .u64 a.s.r.1, .int .u64 a.s.r.2, .int .i64 a.t.e, .int .u64 a.t.r.1, .int .u64 a.t.r.2] 28)) #[.int .i64 b.f, .int .i64 b.s.e, .int .u64 b.s.r.1, .int .u64 b.s.r.2, .int .i64 b.t.e, .int .u64 b.t.r.1, .int .u64 b.t.r.2] 28 (w.heap.size + 1) (by simp))
  have HP : Hid (pairL a b = (decide (a.f = b.f) && (spansL a b || (spansL b a || (!sameLk a b && decide (a.t.e = b.t.e)))))) := Lib.hid (by
    rw [Bool.eq_iff_iff, pairL_iff]
    simp [spansL, sameLk])
  generalize pairL a b = res at *
  go_enter Try.func10, Try.ntmps10
  by_cases h1 : a.f = b.f
  · have HP1 := Lib.hid (show res = (spansL a b || (spansL b a || (!sameLk a b && decide (a.t.e = b.t.e)))) by rw [HP.out, decide_eq_true h1]; simp)
    have h1b : (a.f != b.f) = false := by rw [h1]; simp
    clear HP h1
    go_wp2_with fail
    generalize ((w.alloc (.cells #[.int .i64 a.f, .int .i64 a.s.e, .int .u64 a.s.r.1, .int .u64 a.s.r.2, .int .i64 a.t.e, .int .u64 a.t.r.1, .int .u64 a.t.r.2] 28)).alloc (.cells #[.int .i64 b.f, .int .i64 b.s.e, .int .u64 b.s.r.1, .int .u64 b.s.r.2, .int .i64 b.t.e, .int .u64 b.t.r.1, .int .u64 b.t.r.2] 28)) = W at *
    generalize w.heap.size + 1 = z2 at *
    generalize w.heap.size = z1 at *
    refine (refSpans_any a b W).mono ?_
    rintro e W1 ⟨rfl, k1⟩
    have K1 := Lib.hid k1
    clear k1
    obtain ⟨s0, s1, s2, s3, s4, s5, s6⟩ := (HS.out.kept K1.out).seven
    obtain ⟨t0, t1, t2, t3, t4, t5, t6⟩ := (HT.out.kept K1.out).seven
    go_wp2_with fail
    refine (refSpans_any b a W1).mono ?_
    rintro e W2 ⟨rfl, k2⟩
    have K2 := Lib.hid (K1.out.trans k2)
    clear k2 s0 s1 s2 s3 s4 s5 s6 t0 t1 t2 t3 t4 t5 t6
    generalize spansL a b = p at *
    generalize spansL b a = q at *
    obtain ⟨s0, s1, s2, s3, s4, s5, s6⟩ := (HS.out.kept K2.out).seven
    obtain ⟨t0, t1, t2, t3, t4, t5, t6⟩ := (HT.out.kept K2.out).seven
    cases p with
    | true =>
      have HE := Lib.hid (show res = true by rw [HP1.out]; rfl)
      clear HP1
      go_wp2_with fail
      go_ret
      exact ⟨by rw [HE.out]; first | rfl | (simp; done), K0.out.trans K2.out⟩
    | false =>
      cases q with
      | true =>
        have HE := Lib.hid (show res = true by rw [HP1.out]; rfl)
        clear HP1
        go_wp2_with fail
        go_ret
        exact ⟨by rw [HE.out]; first | rfl | (simp; done), K0.out.trans K2.out⟩
      | false =>
        cases hs : sameLk a b with
        | true =>
          have HE := Lib.hid (show res = false by rw [HP1.out, hs]; rfl)
          clear HP1
          go_wp2_with fail
          go_ret
          exact ⟨by rw [HE.out]; first | rfl | (simp; done), K0.out.trans K2.out⟩
        | false =>
          by_cases h2 : a.t.e = b.t.e
          · have HE := Lib.hid (show res = true by rw [HP1.out, hs, decide_eq_true h2]; rfl)
            have h2b : (a.t.e == b.t.e) = true := by rw [beq_iff_eq]; exact h2
            clear HP1 h2
            go_wp2_with fail
            go_ret
            exact ⟨by rw [HE.out]; first | rfl | (simp; done), K0.out.trans K2.out⟩
          · have HE := Lib.hid (show res = false by rw [HP1.out, hs, decide_eq_false h2]; rfl)
            have h2b : (a.t.e == b.t.e) = false := by rw [beq_eq_false_iff_ne]; exact h2
            clear HP1 h2
            go_wp2_with fail
            go_ret
            exact ⟨by rw [HE.out]; first | rfl | (simp; done), K0.out.trans K2.out⟩
  · have HE := Lib.hid (show res = false by rw [HP.out, decide_eq_false h1]; rfl)
    have h1b : (a.f != b.f) = true := by rw [bne_iff_ne]; exact h1
    clear HP h1
    go_wp2_with fail
    go_ret
    exact ⟨by rw [HE.out]; first | rfl | (simp; done), K0.out⟩

end Go.Proofs.Ythaofomhlmajbaa
