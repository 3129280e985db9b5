/-
  The contracts of package tree's calls May, Find and Slot.
-/
import Derived.Test.YtepgbnojbomicaaTreePlaces
namespace Go.Proofs.Ytepgbnojbomicaa
open Go.ChangeShapes Go.WideShapes Go.ChangeAt Go.RowKit

set_option maxHeartbeats 800000 in
theorem may_any (A : Option Addr) (c : Nat) (l : List Bk) (hl : l.length ≤ 1000000) (hw : WfL l) (w : World) (hA : CellsAt w w.heap.size A (blockCells l)) :
    Calls Try.prog 22 #[.slice A l.length c] w fun e w' => e = .returned (.bool (mayB l)) ∧ Kept w w' := by
  have HP := Lib.hid (places_any A c l hl hw w hA)
  clear hw hA
  go_enter Try.func22, Try.ntmps22
  go_wp2_with fail
  refine HP.out.mono ?_
  rintro e W1 ⟨k1, ⟨hm, b, m, D, rfl, _, _⟩ | ⟨hm, rfl⟩⟩
  all_goals
    have HM := Lib.hid hm
    have K1 := Lib.hid k1
    clear hm k1
    go_wp2_with fail
    go_ret
    exact ⟨by rw [HM.out]; rfl, K1.out⟩

/-- In no map nothing is found. -/
theorem look_nil {x : Id2} (hx : WfI x) (w : World) : (Instr.lookup 44 (.map none) (.agg #[.int .u64 x.1, .int .u64 x.2]) true).run Try.prog w = .ok (.tuple #[.int .i64 0, .bool false]) w := by
  have h1 : (Instr.checkKey true 10000 25 (.agg #[.int .u64 x.1, .int .u64 x.2])).run Try.prog w = .ok () w := Try.keyedID.check w true (key_of hx)
  have h2 : (Instr.findKey 25 (.agg #[.int .u64 x.1, .int .u64 x.2]) []).run Try.prog w = .ok none w := by
    rcases Try.keyedID.find w (key_of hx) [] (fun _ h => by cases h) with ⟨h, _⟩ | ⟨j, e, _, h, _⟩
    · exact h
    · simp at h
  have h3 : (zeroValue 3).run Try.prog w = .ok (.int .i64 0) w := Try.zeroValue3 w
  simp [Instr.lookup, run_underlying Try.underlying44, h1, h2, h3, Result.andThen]
theorem findC_hit {l : List Bk} {x : Id2} {i : Nat} (h : mayB l = true) (q : posB l x = some i) : findC l x = (i : Int) := by unfold findC; rw [if_pos h, q]
theorem findC_miss {l : List Bk} {x : Id2} (h : mayB l = true) (q : posB l x = none) : findC l x = -1 := by unfold findC; rw [if_pos h, q]
theorem findC_no {l : List Bk} {x : Id2} (h : mayB l = false) : findC l x = -1 := by unfold findC; rw [h]; rfl
set_option maxHeartbeats 800000 in
theorem find_any (A : Option Addr) (c : Nat) (l : List Bk) (hl : l.length ≤ 1000000) (hw : WfL l) (x : Id2) (hx : WfI x) (w : World) (hA : CellsAt w w.heap.size A (blockCells l)) :
    Calls Try.prog 24 #[.slice A l.length c, .agg #[.int .u64 x.1, .int .u64 x.2]] w fun e w' => e = .returned (.int .i64 (findC l x)) ∧ Kept w w' := by
  have HP := Lib.hid (places_any A c l hl hw _ (hA.kept ((Kept.refl w).alloc (.cells #[.int .u64 x.1, .int .u64 x.2] 25))))
  have HX := Lib.hid hx
  have HC := Lib.hid (HasCells.new w #[.int .u64 x.1, .int .u64 x.2] 25 w.heap.size rfl)
  clear hw hA hx
  go_enter Try.func24, Try.ntmps24
  go_wp2_with fail
  refine HP.out.mono ?_
  rintro e W1 ⟨k1, ⟨hm, b, m, D, rfl, _, hM⟩ | ⟨hm, rfl⟩⟩
  · have HM := Lib.hid hM
    have K1 := Lib.hid (((Kept.refl w).alloc _).trans k1)
    obtain ⟨c0, c1⟩ := (HC.out.kept k1).two
    cases q : posB l x with
    | some i =>
      have HF := Lib.hid (findC_hit hm q)
      have HQ := Lib.hid q
      clear hm k1 hM q
      go_wp2_with (at_lookup; refine wpList_place_hit _ rfl _ _ rfl _ b m D rfl HM.out x rfl HX.out i HQ.out ?_)
      go_ret
      exact ⟨by rw [HF.out]; rfl, K1.out⟩
    | none =>
      have HF := Lib.hid (findC_miss hm q)
      have HQ := Lib.hid q
      clear hm k1 hM q
      go_wp2_with (at_lookup; refine wpList_place_miss _ rfl _ _ rfl _ b m D rfl HM.out x rfl HX.out HQ.out ?_)
      go_ret
      exact ⟨by rw [HF.out]; rfl, K1.out⟩
  · have HF := Lib.hid (findC_no (x := x) hm)
    have K1 := Lib.hid (((Kept.refl w).alloc _).trans k1)
    obtain ⟨c0, c1⟩ := (HC.out.kept k1).two
    clear hm k1
    have hnil := look_nil HX.out W1
    go_wp2_with fail
    go_ret
    exact ⟨by rw [HF.out]; rfl, K1.out⟩

def slotPV (p : Int × Bool) : Value := .tuple #[.int .i64 p.1, .bool p.2]
theorem slotC_yes {l : List Bk} (x : Id2) (h : mayB l = true) : slotV (slotB l x) = slotPV (slotC l x) := by
  unfold slotC slotV slotPV
  rw [if_pos h]
  cases slotB l x <;> rfl
theorem slotC_no {l : List Bk} (x : Id2) (h : mayB l = false) : slotC l x = (0, false) := by unfold slotC; rw [h]; rfl
set_option maxHeartbeats 800000 in
theorem slot_any (A : Option Addr) (c : Nat) (l : List Bk) (hl : l.length ≤ 1000000) (hw : WfL l) (x : Id2) (hx : WfI x) (w : World) (hA : CellsAt w w.heap.size A (blockCells l)) :
    Calls Try.prog 12 #[.slice A l.length c, .agg #[.int .u64 x.1, .int .u64 x.2]] w fun e w' => e = .returned (slotPV (slotC l x)) ∧ Kept w w' := by
  have HP := Lib.hid (places_any A c l hl hw _ (hA.kept ((Kept.refl w).alloc (.cells #[.int .u64 x.1, .int .u64 x.2] 25))))
  have HX := Lib.hid hx
  have HA := Lib.hid (hA.kept ((Kept.refl w).alloc (.cells #[.int .u64 x.1, .int .u64 x.2] 25)))
  have HC := Lib.hid (HasCells.new w #[.int .u64 x.1, .int .u64 x.2] 25 w.heap.size rfl)
  clear hw hA hx
  go_enter Try.func12, Try.ntmps12
  go_wp2_with fail
  refine HP.out.mono ?_
  rintro e W1 ⟨k1, ⟨hm, b, m, D, rfl, _, hM⟩ | ⟨hm, rfl⟩⟩
  · have HM := Lib.hid hM
    have K1 := Lib.hid (((Kept.refl w).alloc _).trans k1)
    have HF := Lib.hid (slotC_yes x hm)
    have HA1 := Lib.hid (HA.out.kept k1)
    have HT := Lib.hid (show l.take l.length = l from List.take_length)
    obtain ⟨c0, c1⟩ := (HC.out.kept k1).two
    clear hm k1 hM
    go_wp2_with fail
    refine (slotOf_any A c l l.length (Nat.le_refl _) hl b m D x HX.out _ HA1.out (by rw [HT.out]; exact HM.out)).mono ?_
    rintro e W2 ⟨rfl, k2⟩
    rw [HT.out, HF.out]
    have K2 := Lib.hid (K1.out.trans k2)
    unfold slotPV
    clear k2 c0 c1
    go_wp2_with fail
    go_ret2
    exact ⟨rfl, K2.out⟩
  · have HF := Lib.hid (slotC_no x hm)
    have K1 := Lib.hid (((Kept.refl w).alloc _).trans k1)
    clear hm k1
    go_wp2_with fail
    go_ret2
    exact ⟨by rw [HF.out]; rfl, K1.out⟩

end Go.Proofs.Ytepgbnojbomicaa
