/-
  The contract of the call Less of the given package marigoldref02.
-/
import Derived.Test.YtlapcnfhnfkbmaaGreatMixLess
import Derived.Test.YtlapcnfhnfkbmaaGreatMixRefG
namespace Go.Proofs.YtlapcnfhnfkbmaaGreat
set_option maxRecDepth 100000
set_option linter.unusedVariables false
set_option linter.unusedSimpArgs false
open Go.ChangeShapes Go.WideShapes Go.ChangeAt Go.RowKit

/-! ### Less -/
set_option maxHeartbeats 400000 in
theorem refLess_any (a b : Nat × Nat) (w : World) :
    Calls Tryz.prog 88 #[.agg #[.int .u64 a.1, .int .u64 a.2], .agg #[.int .u64 b.1, .int .u64 b.2]] w fun e w' => e = .returned (.bool (lessN a b)) ∧ Kept w w' := by
  obtain ⟨a0, a1⟩ := a
  obtain ⟨b0, b1⟩ := b
  by_cases h0 : a0 = b0
  · subst h0
    by_cases h1 : a1 < b1
    · have H := Lib.hid (lessN_yes (a := (a0, a1)) (b := (a0, b1)) (Or.inr ⟨rfl, h1⟩))
      go_enter Tryz.func88, Tryz.ntmps88
      go_wp2
      go_ret
      exact ⟨by rw [H.out]; rfl, ((Kept.refl _).alloc _).alloc _⟩
    · have H := Lib.hid (lessN_no (a := (a0, a1)) (b := (a0, b1)) (by simp; omega))
      go_enter Tryz.func88, Tryz.ntmps88
      go_wp2
      go_ret
      exact ⟨by rw [H.out]; rfl, ((Kept.refl _).alloc _).alloc _⟩
  · have b2 : ((a0 : Int) != (b0 : Int)) = true := by rw [bne_iff_ne]; omega
    by_cases h1 : a0 < b0
    · have H := Lib.hid (lessN_yes (a := (a0, a1)) (b := (b0, b1)) (Or.inl h1))
      go_enter Tryz.func88, Tryz.ntmps88
      go_wp2
      go_ret
      exact ⟨by rw [H.out]; rfl, ((Kept.refl _).alloc _).alloc _⟩
    · have H := Lib.hid (lessN_no (a := (a0, a1)) (b := (b0, b1)) (by simp; omega))
      go_enter Tryz.func88, Tryz.ntmps88
      go_wp2
      go_ret
      exact ⟨by rw [H.out]; rfl, ((Kept.refl _).alloc _).alloc _⟩

end Go.Proofs.YtlapcnfhnfkbmaaGreat
