/-
  The contracts of package tree's calls Name and isBeginning.
-/
import Derived.Test.YtepgbnojbomicaaTreeMath
import Derived.Test.YtepgbnojbomicaaMixOf
import Derived.Test.YtepgbnojbomicaaIdEq
import Derived.Test.YtepgbnojbomicaaHas
namespace Go.Proofs.Ytepgbnojbomicaa
open Go.ChangeShapes Go.WideShapes Go.ChangeAt Go.RowKit

/-- Its words are words. -/
def WfI (x : Id2) : Prop := x.1 < 18446744073709551616 ∧ x.2 < 18446744073709551616
def WfB (b : Bk) : Prop := WfI b.p ∧ b.t < 18446744073709551616
theorem WfI.zid : WfI zid := ⟨by decide, by decide⟩
theorem nameB_lt (b : Bk) : WfI (nameB b) := idOf_lt _
theorem wd_int (a : Int) : IntKind.u64.wrap a = ((wd a : Nat) : Int) := by rw [IntKind.wrap_u64]; unfold wd; omega
theorem nameL_lt {b : Bk} (h : WfB b) : ∀ x ∈ nameL b, x < 18446744073709551616 := by
  intro x hx
  simp only [nameL, List.mem_cons, List.not_mem_nil, or_false] at hx
  rcases hx with rfl | rfl | rfl | rfl | rfl | rfl
  · decide
  · exact wd_lt _
  · exact wd_lt _
  · exact h.1.1
  · exact h.1.2
  · exact h.2

theorem add_none (z o j : Nat) : (⟨z, o, none⟩ : Addr).add j = ⟨z, o + j, none⟩ := by
  unfold Addr.add
  split
  · rename_i h; subst h; rfl
  · rfl
/-- Six words in a block of their own. -/
theorem words_six {w : World} {z : Nat} {b : Bk} (h : HasCells w z [.int .u64 1, .int .u64 (wd b.s : Nat), .int .u64 (wd b.f : Nat), .int .u64 b.p.1, .int .u64 b.p.2, .int .u64 b.t]) :
    WordsAt w w.heap.size (some ⟨z, 0, none⟩) (nameL b) := by
  intro j x hx
  refine ⟨_, rfl, h.1, ?_⟩
  have e : (⟨z, 0, none⟩ : Addr).add j = ⟨z, j, none⟩ := add_none z 0 j |>.trans (by simp)
  rw [e]
  refine h.2 j _ ?_
  unfold nameL at hx
  match j, hx with
  | 0, hx => cases hx; rfl
  | 1, hx => cases hx; rfl
  | 2, hx => cases hx; rfl
  | 3, hx => cases hx; rfl
  | 4, hx => cases hx; rfl
  | 5, hx => cases hx; rfl
  | j + 6, hx => simp at hx

set_option maxRecDepth 100000 in
set_option maxHeartbeats 1600000 in
theorem name_any (b : Bk) (hb : WfB b) (w : World) :
    Calls Try.prog 20 #[.agg #[.int .i64 b.s, .int .i64 b.f, .int .u64 b.p.1, .int .u64 b.p.2, .int .u64 b.t]] w fun e w' => e = .returned (.agg #[.int .u64 (nameB b).1, .int .u64 (nameB b).2]) ∧ Kept w w' := by
  have HB := Lib.hid hb
  have HX := Lib.hid (nameL_lt hb)
  have HS := Lib.hid (wd_int b.s)
  have HF := Lib.hid (wd_int b.f)
  clear hb
  go_enter Try.func20, Try.ntmps20
  go_wp2_with fail
  rw [HS.out, HF.out]
  have H6 := Lib.hid (HasCells.new ((w.alloc (.cells #[.int .i64 b.s, .int .i64 b.f, .int .u64 b.p.1, .int .u64 b.p.2, .int .u64 b.t] 36)).alloc (.cells #[.int .u64 0, .int .u64 0] 25)) #[.int .u64 1, .int .u64 (wd b.s : Nat), .int .u64 (wd b.f : Nat), .int .u64 b.p.1, .int .u64 b.p.2, .int .u64 b.t] 50 (w.heap.size + 1 + 1) (by simp))
  have H2 := Lib.hid ((HasCells.new (w.alloc (.cells #[.int .i64 b.s, .int .i64 b.f, .int .u64 b.p.1, .int .u64 b.p.2, .int .u64 b.t] 36)) #[.int .u64 0, .int .u64 0] 25 (w.heap.size + 1) (by simp)).alloc (.cells #[.int .u64 1, .int .u64 (wd b.s : Nat), .int .u64 (wd b.f : Nat), .int .u64 b.p.1, .int .u64 b.p.2, .int .u64 b.t] 50))
  have HK := Lib.hid ((((Kept.refl w).alloc (.cells #[.int .i64 b.s, .int .i64 b.f, .int .u64 b.p.1, .int .u64 b.p.2, .int .u64 b.t] 36)).alloc (.cells #[.int .u64 0, .int .u64 0] 25)).alloc (.cells #[.int .u64 1, .int .u64 (wd b.s : Nat), .int .u64 (wd b.f : Nat), .int .u64 b.p.1, .int .u64 b.p.2, .int .u64 b.t] 50))
  have HZ := Lib.hid (show ∀ j, (((w.alloc (.cells #[.int .i64 b.s, .int .i64 b.f, .int .u64 b.p.1, .int .u64 b.p.2, .int .u64 b.t] 36)).alloc (.cells #[.int .u64 0, .int .u64 0] 25)).alloc (.cells #[.int .u64 1, .int .u64 (wd b.s : Nat), .int .u64 (wd b.f : Nat), .int .u64 b.p.1, .int .u64 b.p.2, .int .u64 b.t] 50)).frozen? ⟨w.heap.size + 1, j, none⟩ = false by intro j; simp [go_sem])
  generalize ((w.alloc (.cells #[.int .i64 b.s, .int .i64 b.f, .int .u64 b.p.1, .int .u64 b.p.2, .int .u64 b.t] 36)).alloc (.cells #[.int .u64 0, .int .u64 0] 25)).alloc (.cells #[.int .u64 1, .int .u64 (wd b.s : Nat), .int .u64 (wd b.f : Nat), .int .u64 b.p.1, .int .u64 b.p.2, .int .u64 b.t] 50) = W at *
  refine (of_any _ 6 6 (nameL b) rfl (by omega) W HX.out (words_six H6.out)).mono ?_
  rintro e W1 ⟨rfl, k1⟩
  have d0 := (H2.out.kept k1).at0
  have d1 := (H2.out.kept k1).at1
  have e0 : W1.frozen? ⟨w.heap.size + 1, 0, none⟩ = false := (k1.frozen H2.out.1).trans (HZ.out 0)
  have e1 : W1.frozen? ⟨w.heap.size + 1, 1, none⟩ = false := (k1.frozen H2.out.1).trans (HZ.out 1)
  have hz : w.heap.size + 1 < W1.heap.size := (H2.out.kept k1).1
  have K1 := Lib.hid (HK.out.trans k1)
  have HP := Lib.hid (show nameB b = idOf (nameL b) from rfl)
  clear k1 HZ H2 H6 HK
  generalize idOf (nameL b) = p at *
  go_wp2_with fail
  refine bodyPost_ret (v := .agg #[.int .u64 p.1, .int .u64 p.2]) (by simp [results, Try.results20, go_sem, d0, d1]) rfl ⟨by rw [HP.out], ?_⟩
  exact (K1.out.setCell (p := ⟨w.heap.size + 1, 0, none⟩) (by simp) _).setCell (p := ⟨w.heap.size + 1, 1, none⟩) (by simp) _

/-! ### The beginning -/
def isZ (x : Id2) : Bool := decide (x = zid)
theorem isZ_int (x : Id2) : (((x.1 : Int) == 0) && ((x.2 : Int) == 0)) = isZ x := by
  obtain ⟨a, b⟩ := x
  unfold isZ zid
  rw [Bool.eq_iff_iff]
  simp
attribute [local go_sem high] eqId10 in
set_option maxHeartbeats 400000 in
theorem isBeg_any (x : Id2) (w : World) :
    Calls Try.prog 36 #[.agg #[.int .u64 x.1, .int .u64 x.2]] w fun e w' => e = .returned (.bool (isZ x)) ∧ Kept w w' := by
  have HZ := Lib.hid (isZ_int x)
  go_enter Try.func36, Try.ntmps36
  go_wp2
  go_ret
  exact ⟨by rw [← HZ.out]; rfl, (Kept.refl _).alloc _⟩

end Go.Proofs.Ytepgbnojbomicaa
