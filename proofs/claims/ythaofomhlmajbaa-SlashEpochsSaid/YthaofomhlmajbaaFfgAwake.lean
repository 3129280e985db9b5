/-
  The chapter's example, which every law of layer 11 asks first: it is so; and few.
-/
import Derived.Test.YthaofomhlmajbaaFfgRefG
import Derived.Test.YthaofomhlmajbaaFfgOpen
import Derived.Test.YthaofomhlmajbaaFfgTop
import Derived.Test.YthaofomhlmajbaaFfgFin
import Derived.Test.YthaofomhlmajbaaKeepT
import Derived.Test.YthaofomhlmajbaaTreeG
namespace Go.Proofs.Ythaofomhlmajbaa
set_option maxRecDepth 100000
set_option linter.unusedVariables false
set_option linter.unusedSimpArgs false
set_option linter.unusedSimpArgs false
set_option linter.unusedVariables false
open Go.ChangeShapes Go.WideShapes Go.ChangeAt Go.RowKit

def kF : Cf := ⟨[1, 1, 1], 0, 1, 0, 4⟩
def bF : Bk := ⟨1, 0, (0, 0), 0⟩
def cF : Ck := ⟨1, nameB bF⟩
def vF : List Lk := [⟨0, firstK, cF⟩, ⟨2, firstK, cF⟩]
theorem exF_conf : mayC kF = true := by decide
theorem exF_tree : mayB [bF] = true := by decide +kernel
theorem exF_fine : ∀ x ∈ vF, mayL kF [bF] x = true := by
  intro x hx
  rcases List.mem_cons.1 hx with rfl | hx
  · decide +kernel
  · rw [List.mem_singleton] at hx; subst hx; decide +kernel
theorem exF_same : fineC kF [bF] vF = vF := List.filter_eq_self.2 exF_fine
theorem exF_first : fineC kF [bF] (vF.take 1) = vF.take 1 := List.filter_eq_self.2 fun x hx => exF_fine x (List.mem_of_mem_take hx)
theorem exF_strong : strongK kF vF firstK cF = true := by decide +kernel
theorem exF_weak : strongK kF (vF.take 1) firstK cF = false := by decide +kernel
theorem exF_ends : ∀ x ∈ vF, x.s = firstK ∧ x.t = cF := by
  intro x hx
  rcases List.mem_cons.1 hx with rfl | hx
  · exact ⟨rfl, rfl⟩
  · rw [List.mem_singleton] at hx; subst hx; exact ⟨rfl, rfl⟩
theorem exF_less : lessK firstK cF = true := by decide
theorem exF_just : Justs kF [bF] vF [firstK, cF] := by
  refine ⟨by simp [Rise, exF_less], fun x => ⟨fun hx => ⟨exF_conf, exF_tree, ?_⟩, fun hx => ?_⟩⟩
  · rw [exF_same]
    rcases List.mem_cons.1 hx with rfl | hx
    · exact .first
    · rw [List.mem_singleton] at hx; subst hx; exact .next .first exF_strong
  · have h := hx.2.2
    rw [exF_same] at h
    cases h with
    | first => exact List.mem_cons_self
    | next _ hs =>
      obtain ⟨y, hy, _, rfl⟩ := strong_some hs
      rw [(exF_ends y hy).2]; simp
theorem exF_final : Finals kF [bF] vF [firstK] := by
  refine ⟨[firstK, cF], exF_just, ?_⟩
  rw [List.filter_cons_of_pos (finalB_yes (Or.inl rfl)), List.filter_cons_of_neg]
  · rfl
  · rw [finalB_no]
    · simp
    · rintro (h | ⟨t, h, _⟩)
      · have := congrArg Ck.e h; revert this; decide
      · unfold strongC at h
        rw [exF_same] at h
        obtain ⟨y, hy, e, _⟩ := strong_some h
        rw [(exF_ends y hy).1] at e
        have := congrArg Ck.e e; revert this; decide

theorem bF_wf : WfB bF := ⟨⟨by decide, by decide⟩, by decide⟩
theorem bF_wfL : WfL [bF] := fun b hb => by rw [List.mem_singleton] at hb; subst hb; exact bF_wf
theorem cF_wf : WfK cF := ⟨⟨by decide, by decide⟩, nameB_lt bF⟩
theorem firstK_wf : WfK firstK := ⟨⟨by decide, by decide⟩, by decide, by decide⟩
theorem vF_wf : WfLks vF := by
  intro x hx
  rcases List.mem_cons.1 hx with rfl | hx
  · exact ⟨⟨by decide, by decide⟩, firstK_wf, cF_wf⟩
  · rw [List.mem_singleton] at hx; subst hx; exact ⟨⟨by decide, by decide⟩, firstK_wf, cF_wf⟩
/-! ### few -/
def few11C (k : Cf) (l : List Bk) (v : List Lk) : Bool := decide (k.ws.length ≤ 40 ∧ l.length ≤ 20 ∧ v.length ≤ 40)
theorem few11C_yes {k : Cf} {l : List Bk} {v : List Lk} (h : few11C k l v = true) : k.ws.length ≤ 40 ∧ l.length ≤ 20 ∧ v.length ≤ 40 := of_decide_eq_true h
set_option maxHeartbeats 800000 in
theorem few11_any (A : Option Addr) (c : Nat) (k : Cf) (L : Option Addr) (cl : Nat) (l : List Bk) (V : Option Addr) (cv : Nat) (v : List Lk) (w : World) :
    Calls Try.prog 15 #[.agg #[.slice A k.ws.length c, .int .u64 k.seed, .int .i64 k.ep, .int .i64 k.nu, .int .i64 k.de], .slice L l.length cl, .slice V v.length cv] w fun e w' => e = .returned (.bool (few11C k l v)) ∧ Kept w w' := by
  by_cases h1 : k.ws.length ≤ 40
  · by_cases h2 : l.length ≤ 20
    · by_cases h3 : v.length ≤ 40
      · have HF := Lib.hid (show few11C k l v = true from decide_eq_true ⟨h1, h2, h3⟩)
        go_enter Try.func15, Try.ntmps15
        go_wp2_with fail
        go_ret
        exact ⟨by rw [HF.out]; first | rfl | (simp; done) | (simp; omega), (Kept.refl w).alloc _⟩
      · have HF := Lib.hid (show few11C k l v = false from decide_eq_false (by omega))
        go_enter Try.func15, Try.ntmps15
        go_wp2_with fail
        go_ret
        exact ⟨by rw [HF.out]; first | rfl | (simp; done) | (simp; omega), (Kept.refl w).alloc _⟩
    · have HF := Lib.hid (show few11C k l v = false from decide_eq_false (by omega))
      go_enter Try.func15, Try.ntmps15
      go_wp2_with fail
      go_ret
      exact ⟨by rw [HF.out]; first | rfl | (simp; done) | (simp; omega), (Kept.refl w).alloc _⟩
  · have HF := Lib.hid (show few11C k l v = false from decide_eq_false (by omega))
    go_enter Try.func15, Try.ntmps15
    go_wp2_with fail
    go_ret
    exact ⟨by rw [HF.out]; first | rfl | (simp; done) | (simp; omega), (Kept.refl w).alloc _⟩

end Go.Proofs.Ythaofomhlmajbaa
