/-
  The calls of package tree at the beginning's id; the chapter's example, which every law of layer 6 asks first: it is so.
-/
import Derived.Test.YtepgbnojbomicaaTreeUnder
namespace Go.Proofs.Ytepgbnojbomicaa
open Go.ChangeShapes Go.WideShapes Go.ChangeAt Go.RowKit

section
variable (A : Option Addr) (c : Nat) (l : List Bk) (hl : l.length ≤ 1000000) (hw : WfL l) (w : World) (hA : CellsAt w w.heap.size A (blockCells l))
include hl hw hA
theorem kids_zero : Calls Try.prog 15 #[.slice A l.length c, .agg #[.int .u64 0, .int .u64 0]] w (IdsNew (kidsC l zid) w) := kids_any A c l hl hw zid w hA
theorem find_zero : Calls Try.prog 24 #[.slice A l.length c, .agg #[.int .u64 0, .int .u64 0]] w fun e w' => e = .returned (.int .i64 (findC l zid)) ∧ Kept w w' := find_any A c l hl hw zid WfI.zid w hA
theorem under_low0 (x : Id2) (hx : WfI x) : Calls Try.prog 23 #[.slice A l.length c, .agg #[.int .u64 0, .int .u64 0], .agg #[.int .u64 x.1, .int .u64 x.2]] w fun e w' => e = .returned (.bool (underC l zid x)) ∧ Kept w w' := under_any A c l hl hw zid x hx w hA
theorem under_of0 (x : Id2) : Calls Try.prog 23 #[.slice A l.length c, .agg #[.int .u64 x.1, .int .u64 x.2], .agg #[.int .u64 0, .int .u64 0]] w fun e w' => e = .returned (.bool (underC l x zid)) ∧ Kept w w' := under_any A c l hl hw x zid WfI.zid w hA
end

/-- The example's block. -/
def bOne : Bk := ⟨1, 0, (0, 0), 0⟩
theorem bOne_wf : WfL [bOne] := fun b hb => by simp at hb; subst hb; exact ⟨⟨by decide, by decide⟩, by decide⟩
theorem one_may : mayB [bOne] = true := by decide +kernel
theorem one_find : findC [bOne] (nameB bOne) = 0 := by decide +kernel
theorem one_slot : slotC [bOne] (nameB bOne) = (1, true) := by decide +kernel
theorem one_kids : (kidsC [bOne] zid).length = 1 := by decide +kernel
theorem one_chain : (chainC [bOne] (nameB bOne)).length = 2 := by decide +kernel
theorem one_under : underC [bOne] zid (nameB bOne) = true := by decide +kernel
theorem one_not : underC [bOne] (nameB bOne) zid = false := by decide +kernel

theorem blocks_one (w : World) (t : TypeId) (b : Bk) (z : Nat) (hz : z = w.heap.size) : CellsAt (w.alloc (.cells #[.int .i64 b.s, .int .i64 b.f, .int .u64 b.p.1, .int .u64 b.p.2, .int .u64 b.t] t)) (w.alloc (.cells #[.int .i64 b.s, .int .i64 b.f, .int .u64 b.p.1, .int .u64 b.p.2, .int .u64 b.t] t)).heap.size (some ⟨z, 0, none⟩) (blockCells [b]) := by
  intro j u hu
  have h := HasCells.new w #[.int .i64 b.s, .int .i64 b.f, .int .u64 b.p.1, .int .u64 b.p.2, .int .u64 b.t] t z hz
  refine ⟨_, rfl, h.1, ?_⟩
  rw [add_none, Nat.zero_add]
  exact h.2 j u (by simpa [blockCells, bkCells] using hu)

section
variable (A : Option Addr) (c : Nat) (w : World) (hA : CellsAt w w.heap.size A (blockCells [bOne]))
theorem name_one : Calls Try.prog 20 #[.agg #[.int .i64 1, .int .i64 0, .int .u64 0, .int .u64 0, .int .u64 0]] w fun e w' => e = .returned (.agg #[.int .u64 (nameB bOne).1, .int .u64 (nameB bOne).2]) ∧ Kept w w' := name_any bOne (bOne_wf _ (by simp)) w
include hA
theorem may_one : Calls Try.prog 22 #[.slice A 1 c] w fun e w' => e = .returned (.bool true) ∧ Kept w w' := by
  have h := may_any A c [bOne] (by decide) bOne_wf w hA
  rw [one_may] at h
  exact h
theorem slot_one : Calls Try.prog 12 #[.slice A 1 c, .agg #[.int .u64 (nameB bOne).1, .int .u64 (nameB bOne).2]] w fun e w' => e = .returned (.tuple #[.int .i64 1, .bool true]) ∧ Kept w w' := by
  have h := slot_any A c [bOne] (by decide) bOne_wf (nameB bOne) (nameB_lt _) w hA
  rw [one_slot] at h
  exact h
theorem find_one : Calls Try.prog 24 #[.slice A 1 c, .agg #[.int .u64 (nameB bOne).1, .int .u64 (nameB bOne).2]] w fun e w' => e = .returned (.int .i64 0) ∧ Kept w w' := by
  have h := find_any A c [bOne] (by decide) bOne_wf (nameB bOne) (nameB_lt _) w hA
  rw [one_find] at h
  exact h
theorem chain_one : Calls Try.prog 17 #[.slice A 1 c, .agg #[.int .u64 (nameB bOne).1, .int .u64 (nameB bOne).2]] w fun e w' => ∃ A' c', e = .returned (.slice A' 2 c') ∧ Kept w w' := by
  have h := chain_any A c [bOne] (by decide) bOne_wf (nameB bOne) (nameB_lt _) w hA
  refine h.mono fun e w' ⟨A', c', he, _, _, hk⟩ => ⟨A', c', ?_, hk⟩
  rw [one_chain] at he
  exact he
theorem kids_one : Calls Try.prog 15 #[.slice A 1 c, .agg #[.int .u64 0, .int .u64 0]] w fun e w' => ∃ A' c', e = .returned (.slice A' 1 c') ∧ Kept w w' := by
  have h := kids_zero A c [bOne] (by decide) bOne_wf w hA
  refine h.mono fun e w' ⟨A', c', he, _, _, hk⟩ => ⟨A', c', ?_, hk⟩
  rw [one_kids] at he
  exact he
theorem under_one : Calls Try.prog 23 #[.slice A 1 c, .agg #[.int .u64 0, .int .u64 0], .agg #[.int .u64 (nameB bOne).1, .int .u64 (nameB bOne).2]] w fun e w' => e = .returned (.bool true) ∧ Kept w w' := by
  have h := under_low0 A c [bOne] (by decide) bOne_wf w hA (nameB bOne) (nameB_lt _)
  rw [one_under] at h
  exact h
theorem under_not : Calls Try.prog 23 #[.slice A 1 c, .agg #[.int .u64 (nameB bOne).1, .int .u64 (nameB bOne).2], .agg #[.int .u64 0, .int .u64 0]] w fun e w' => e = .returned (.bool false) ∧ Kept w w' := by
  have h := under_of0 A c [bOne] (by decide) bOne_wf w hA (nameB bOne)
  rw [one_not] at h
  exact h
end

set_option maxRecDepth 100000 in
set_option maxHeartbeats 1600000 in
theorem treeAwake (w : World) : Calls Try.prog 10 #[] w fun e w' => e = .returned (.bool true) ∧ Kept w w' := by
  have HN := Lib.hid (fun w' => name_one w')
  have HS := Lib.hid (fun A c w' hA => slot_one A c w' hA)
  have HM := Lib.hid (fun A c w' hA => may_one A c w' hA)
  have HF := Lib.hid (fun A c w' hA => find_one A c w' hA)
  have HC := Lib.hid (fun A c w' hA => chain_one A c w' hA)
  have HU := Lib.hid (fun A c w' hA => under_one A c w' hA)
  have HX := Lib.hid (fun A c w' hA => under_not A c w' hA)
  generalize nameB bOne = n at *
  go_enter Try.func10, Try.ntmps10
  go_wp2_with fail
  have HB := Lib.hid (blocks_one (w.alloc (.cells #[.int .i64 1, .int .i64 0, .int .u64 0, .int .u64 0, .int .u64 0] 36)) 36 bOne (w.heap.size + 1) (by simp))
  have HK := Lib.hid (((Kept.refl w).alloc (.cells #[.int .i64 1, .int .i64 0, .int .u64 0, .int .u64 0, .int .u64 0] 36)).alloc (.cells #[.int .i64 1, .int .i64 0, .int .u64 0, .int .u64 0, .int .u64 0] 36))
  refine (HN.out _).mono ?_
  rintro e W ⟨rfl, k1⟩
  have HA := Lib.hid ((HB.out.kept k1).kept ((Kept.refl W).alloc (.cells #[.int .u64 n.1, .int .u64 n.2] 25)))
  have HK0 := Lib.hid ((HK.out.trans k1).alloc (.cells #[.int .u64 n.1, .int .u64 n.2] 25))
  have HD := Lib.hid (HasCells.new W #[.int .u64 n.1, .int .u64 n.2] 25 W.heap.size rfl)
  clear k1 HB HK HN
  go_wp2_with fail
  generalize W.alloc (.cells #[.int .u64 n.1, .int .u64 n.2] 25) = W0 at *
  generalize W.heap.size = z at *
  generalize w.heap.size + 1 = y at *
  refine (HS.out (some ⟨y, 0, none⟩) 1 W0 HA.out).mono ?_
  rintro e W1 ⟨rfl, k1⟩
  have HA1 := Lib.hid (HA.out.kept k1)
  have HK1 := Lib.hid (HK0.out.trans k1)
  have HD1 := Lib.hid (HD.out.kept k1)
  obtain ⟨c0, c1⟩ := HD1.out.two
  clear k1 HA HK0 HD
  go_wp2_with fail
  clear c0 c1
  refine (HM.out (some ⟨y, 0, none⟩) 1 W1 HA1.out).mono ?_
  rintro e W2 ⟨rfl, k1⟩
  have HA2 := Lib.hid (HA1.out.kept k1)
  have HK2 := Lib.hid (HK1.out.trans k1)
  have HD2 := Lib.hid (HD1.out.kept k1)
  obtain ⟨c0, c1⟩ := HD2.out.two
  clear k1 HA1 HK1 HD1
  go_wp2_with fail
  clear c0 c1
  refine (HC.out (some ⟨y, 0, none⟩) 1 W2 HA2.out).mono ?_
  rintro e W3 ⟨A', c', rfl, k1⟩
  have HA3 := Lib.hid (HA2.out.kept k1)
  have HK3 := Lib.hid (HK2.out.trans k1)
  have HD3 := Lib.hid (HD2.out.kept k1)
  obtain ⟨c0, c1⟩ := HD3.out.two
  clear k1 HA2 HK2 HD2
  go_wp2_with fail
  clear c0 c1
  refine (HF.out (some ⟨y, 0, none⟩) 1 W3 HA3.out).mono ?_
  rintro e W4 ⟨rfl, k1⟩
  have HA4 := Lib.hid (HA3.out.kept k1)
  have HK4 := Lib.hid (HK3.out.trans k1)
  have HD4 := Lib.hid (HD3.out.kept k1)
  obtain ⟨c0, c1⟩ := HD4.out.two
  clear k1 HA3 HK3 HD3
  go_wp2_with fail
  clear c0 c1
  refine (kids_one (some ⟨y, 0, none⟩) 1 W4 HA4.out).mono ?_
  rintro e W5 ⟨A', c', rfl, k1⟩
  have HA5 := Lib.hid (HA4.out.kept k1)
  have HK5 := Lib.hid (HK4.out.trans k1)
  have HD5 := Lib.hid (HD4.out.kept k1)
  obtain ⟨c0, c1⟩ := HD5.out.two
  clear k1 HA4 HK4 HD4
  go_wp2_with fail
  clear c0 c1
  refine (HU.out (some ⟨y, 0, none⟩) 1 W5 HA5.out).mono ?_
  rintro e W6 ⟨rfl, k1⟩
  have HA6 := Lib.hid (HA5.out.kept k1)
  have HK6 := Lib.hid (HK5.out.trans k1)
  have HD6 := Lib.hid (HD5.out.kept k1)
  obtain ⟨c0, c1⟩ := HD6.out.two
  clear k1 HA5 HK5 HD5
  go_wp2_with fail
  clear c0 c1
  refine (HX.out (some ⟨y, 0, none⟩) 1 W6 HA6.out).mono ?_
  rintro e W7 ⟨rfl, k1⟩
  have HA7 := Lib.hid (HA6.out.kept k1)
  have HK7 := Lib.hid (HK6.out.trans k1)
  have HD7 := Lib.hid (HD6.out.kept k1)
  obtain ⟨c0, c1⟩ := HD7.out.two
  clear k1 HA6 HK6 HD6
  go_wp2_with fail
  clear c0 c1
  go_ret
  exact ⟨rfl, HK7.out⟩

end Go.Proofs.Ytepgbnojbomicaa
