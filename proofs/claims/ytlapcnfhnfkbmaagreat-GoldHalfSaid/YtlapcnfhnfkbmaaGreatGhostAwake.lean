/-
  The chapter's example, which every law of layer 9 asks first: it is so; and few.
-/
import Derived.Test.YtlapcnfhnfkbmaaGreatGhostHead
import Derived.Test.YtlapcnfhnfkbmaaGreatGround
namespace Go.Proofs.YtlapcnfhnfkbmaaGreat
set_option maxRecDepth 100000
set_option linter.unusedVariables false
set_option linter.unusedSimpArgs false
set_option linter.unusedSimpArgs false
set_option linter.unusedVariables false
open Go.ChangeShapes Go.WideShapes Go.ChangeAt Go.RowKit

def kGe : Cf := ⟨[1], 0, 1, 0, 4⟩
def gA : Bk := ⟨1, 0, (0, 0), 0⟩
def gB : Bk := ⟨1, 0, (0, 0), 1⟩
theorem ex_less9 : lessN (nameB gB) (nameB gA) = true := by decide +kernel
theorem ex_apart9 : sameI (nameB gB) (nameB gA) = false := by decide +kernel
theorem ex_head1 : headC kGe [gA, gB] [] = nameB gA := by decide +kernel
theorem ex_head2 : headC kGe [gA, gB] [⟨0, 1, nameB gB⟩] = nameB gB := by decide +kernel
theorem ex_head3 : headC kGe [] [] = zid := by decide +kernel
theorem gA_wf : WfB gA := ⟨⟨by decide, by decide⟩, by decide⟩
theorem gB_wf : WfB gB := ⟨⟨by decide, by decide⟩, by decide⟩
theorem lG_wf : WfL [gA, gB] := fun b hb => by
  rcases List.mem_cons.1 hb with rfl | hb
  · exact gA_wf
  · rw [List.mem_singleton] at hb; subst hb; exact gB_wf
theorem vG_wf : WfVs [⟨0, 1, nameB gB⟩] := fun b hb => by
  rw [List.mem_singleton] at hb; subst hb; exact ⟨⟨by decide, by decide⟩, ⟨by decide, by decide⟩, nameB_lt gB⟩

/-! ### few -/
def few9C (k : Cf) (l : List Bk) (v : List Vt) : Bool := decide (k.ws.length ≤ 40 ∧ l.length ≤ 20 ∧ v.length ≤ 30)
theorem few9C_yes {k : Cf} {l : List Bk} {v : List Vt} (h : few9C k l v = true) : k.ws.length ≤ 40 ∧ l.length ≤ 20 ∧ v.length ≤ 30 := of_decide_eq_true h
set_option maxHeartbeats 800000 in
theorem few9_any (A : Option Addr) (c : Nat) (k : Cf) (L : Option Addr) (cl : Nat) (l : List Bk) (V : Option Addr) (cv : Nat) (v : List Vt) (w : World) :
    Calls Tryz.prog 10 #[.agg #[.slice A k.ws.length c, .int .u64 k.seed, .int .i64 k.ep, .int .i64 k.nu, .int .i64 k.de], .slice L l.length cl, .slice V v.length cv] w fun e w' => e = .returned (.bool (few9C k l v)) ∧ Kept w w' := by
  by_cases h1 : k.ws.length ≤ 40
  · by_cases h2 : l.length ≤ 20
    · by_cases h3 : v.length ≤ 30
      · have HF := Lib.hid (show few9C k l v = true from decide_eq_true ⟨h1, h2, h3⟩)
        go_enter Tryz.func10, Tryz.ntmps10
        go_wp2_with fail
        go_ret
        exact ⟨by rw [HF.out]; first | rfl | (simp; done) | (simp; omega), (Kept.refl w).alloc _⟩
      · have HF := Lib.hid (show few9C k l v = false from decide_eq_false (by omega))
        go_enter Tryz.func10, Tryz.ntmps10
        go_wp2_with fail
        go_ret
        exact ⟨by rw [HF.out]; first | rfl | (simp; done) | (simp; omega), (Kept.refl w).alloc _⟩
    · have HF := Lib.hid (show few9C k l v = false from decide_eq_false (by omega))
      go_enter Tryz.func10, Tryz.ntmps10
      go_wp2_with fail
      go_ret
      exact ⟨by rw [HF.out]; first | rfl | (simp; done) | (simp; omega), (Kept.refl w).alloc _⟩
  · have HF := Lib.hid (show few9C k l v = false from decide_eq_false (by omega))
    go_enter Tryz.func10, Tryz.ntmps10
    go_wp2_with fail
    go_ret
    exact ⟨by rw [HF.out]; first | rfl | (simp; done) | (simp; omega), (Kept.refl w).alloc _⟩

end Go.Proofs.YtlapcnfhnfkbmaaGreat
