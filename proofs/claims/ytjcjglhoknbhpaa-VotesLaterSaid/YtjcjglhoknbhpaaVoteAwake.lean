/-
  The chapter's example, which every law of layer 7 asks first: it is so.
-/
import Derived.Test.YtjcjglhoknbhpaaVoteDoubles
namespace Go.Proofs.Ytjcjglhoknbhpaa
open Go.ChangeShapes Go.WideShapes Go.ChangeAt Go.RowKit

/-- The example's votes. -/
def exV : List Vt := [⟨1, 3, (0, 0)⟩, ⟨1, 3, (1, 1)⟩, ⟨2, 3, (0, 0)⟩]
theorem exV_wf : WfVs exV := fun v hv => by
  simp only [exV, List.mem_cons, List.not_mem_nil, or_false] at hv
  rcases hv with rfl | rfl | rfl <;> exact ⟨⟨by decide, by decide⟩, ⟨by decide, by decide⟩, by decide, by decide⟩
theorem exV_mem {v : Vt} : v ∈ exV ↔ v = ⟨1, 3, (0, 0)⟩ ∨ v = ⟨1, 3, (1, 1)⟩ ∨ v = ⟨2, 3, (0, 0)⟩ := by simp [exV]
theorem exV_dbl {s f : Int} : Dbl exV s f ↔ s = 3 ∧ f = 1 := by
  constructor
  · rintro ⟨a, ha, b, hb, h1, h2, h3, h4, ne⟩
    rw [exV_mem] at ha hb
    rcases ha with rfl | rfl | rfl <;> rcases hb with rfl | rfl | rfl <;> simp_all
  · rintro ⟨rfl, rfl⟩
    exact ⟨⟨1, 3, (0, 0)⟩, by simp [exV], ⟨1, 3, (1, 1)⟩, by simp [exV], rfl, rfl, rfl, rfl, by simp⟩
theorem exV_doubles : Dbls exV 3 [1] := ⟨List.pairwise_singleton _ _, fun f => by rw [exV_dbl]; simp⟩
theorem exV_cnt {q : Int → Bool} (h3 : q 3 = true) : Cnts exV q [⟨2, 3, (0, 0)⟩] := by
  refine ⟨List.pairwise_singleton _ _, fun v => ?_⟩
  constructor
  · intro h
    have : v = ⟨2, 3, (0, 0)⟩ := by simpa using h
    subst this
    refine ⟨by simp [exV], h3, fun s _ d => ?_, fun a ha e _ => ?_⟩
    · have := (exV_dbl.1 d).2
      simp at this
    · rw [exV_mem] at ha
      rcases ha with rfl | rfl | rfl <;> simp
  · rintro ⟨hv, _, hd, _⟩
    rw [exV_mem] at hv
    rcases hv with rfl | rfl | rfl
    · exact absurd (exV_dbl.2 ⟨rfl, rfl⟩) (hd 3 h3)
    · exact absurd (exV_dbl.2 ⟨rfl, rfl⟩) (hd 3 h3)
    · simp
theorem exV_none {q : Int → Bool} (h3 : q 3 = false) : Cnts exV q [] := by
  refine ⟨List.Pairwise.nil, fun v => ⟨(fun h => by cases h), ?_⟩⟩
  rintro ⟨hv, hq, _⟩
  rw [exV_mem] at hv
  rcases hv with rfl | rfl | rfl <;> simp_all
theorem HasCells.cells {w : World} {z : Nat} {xs : List Value} (h : HasCells w z xs) : CellsAt w w.heap.size (some ⟨z, 0, none⟩) xs := by
  intro j u hu
  refine ⟨_, rfl, h.1, ?_⟩
  rw [add_none, Nat.zero_add]
  exact h.2 j u hu

/-- A cell that is there. -/
def At1 (w : World) (z o : Nat) (u : Value) : Prop := z < w.heap.size ∧ w.cell? ⟨z, o, none⟩ = some u
theorem At1.kept {w w' : World} {z o : Nat} {u : Value} (h : At1 w z o u) (k : Kept w w') : At1 w' z o u := ⟨Nat.lt_of_lt_of_le h.1 k.size_le, (k.cell (p := ⟨z, o, none⟩) h.1).trans h.2⟩
section
variable (A : Option Addr) (c : Nat) (w : World) (hA : CellsAt w w.heap.size A (votesCells exV))
include hA
theorem ex_doubles : Calls Try.prog 12 #[.slice A 3 c, .int .i64 3] w fun e w' => ∃ z o c', e = .returned (.slice (some ⟨z, o, none⟩) 1 c') ∧ At1 w' z o (.int .i64 1) ∧ Kept w w' := by
  refine (doubles_any A c exV (by decide) exV_wf 3 w hA).mono ?_
  rintro e w' ⟨R, hR, _, A', c', rfl, hc, k⟩
  obtain rfl := hR.unique exV_doubles
  obtain ⟨z, o, rfl, hz, hc⟩ := hc.plain (by simp)
  exact ⟨z, o, c', rfl, ⟨hz, hc 0 _ rfl⟩, k⟩
theorem ex_of : Calls Try.prog 15 #[.slice A 3 c, .int .i64 3] w fun e w' => ∃ z o c', e = .returned (.slice (some ⟨z, o, none⟩) 1 c') ∧ At1 w' z o (.int .i64 2) ∧ Kept w w' := by
  refine (of_any A c exV (by decide) exV_wf 3 w hA).mono ?_
  rintro e w' ⟨R, hR, _, A', c', rfl, hc, k⟩
  obtain rfl := hR.unique (exV_cnt (by decide))
  obtain ⟨z, o, rfl, hz, hc⟩ := hc.plain (by rw [votesCells_length]; simp)
  exact ⟨z, o, c', rfl, ⟨hz, hc 0 _ rfl⟩, k⟩
theorem ex_last3 : Calls Try.prog 17 #[.slice A 3 c, .int .i64 3] w fun e w' => ∃ A' c', e = .returned (.slice A' 1 c') ∧ Kept w w' := by
  refine (last_any A c exV (by decide) exV_wf 3 w hA).mono ?_
  rintro e w' ⟨R, hR, _, A', c', rfl, hc, k⟩
  obtain rfl := hR.unique (exV_cnt (by decide))
  exact ⟨A', c', rfl, k⟩
theorem ex_last2 : Calls Try.prog 17 #[.slice A 3 c, .int .i64 2] w fun e w' => ∃ A' c', e = .returned (.slice A' 0 c') ∧ Kept w w' := by
  refine (last_any A c exV (by decide) exV_wf 2 w hA).mono ?_
  rintro e w' ⟨R, hR, _, A', c', rfl, hc, k⟩
  obtain rfl := hR.unique (exV_none (by decide))
  exact ⟨A', c', rfl, k⟩
end

set_option maxRecDepth 100000 in
set_option maxHeartbeats 1600000 in
theorem votesAwake (w : World) : Calls Try.prog 10 #[] w fun e w' => e = .returned (.bool true) ∧ Kept w w' := by
  go_enter Try.func10, Try.ntmps10
  go_wp2_with fail
  have HA := Lib.hid (show CellsAt (w.alloc (.cells #[.int .i64 1, .int .i64 3, .int .u64 0, .int .u64 0, .int .i64 1, .int .i64 3, .int .u64 1, .int .u64 1, .int .i64 2, .int .i64 3, .int .u64 0, .int .u64 0] 36)) (w.alloc (.cells #[.int .i64 1, .int .i64 3, .int .u64 0, .int .u64 0, .int .i64 1, .int .i64 3, .int .u64 1, .int .u64 1, .int .i64 2, .int .i64 3, .int .u64 0, .int .u64 0] 36)).heap.size (some ⟨w.heap.size, 0, none⟩) (votesCells exV) from (HasCells.new w _ _ _ rfl).cells)
  have HK := Lib.hid ((Kept.refl w).alloc (.cells #[.int .i64 1, .int .i64 3, .int .u64 0, .int .u64 0, .int .i64 1, .int .i64 3, .int .u64 1, .int .u64 1, .int .i64 2, .int .i64 3, .int .u64 0, .int .u64 0] 36))
  generalize w.alloc (.cells #[.int .i64 1, .int .i64 3, .int .u64 0, .int .u64 0, .int .i64 1, .int .i64 3, .int .u64 1, .int .u64 1, .int .i64 2, .int .i64 3, .int .u64 0, .int .u64 0] 36) = W at *
  generalize w.heap.size = z at *
  refine (ex_doubles _ _ W HA.out).mono ?_
  rintro e W1 ⟨zd, od, cd, rfl, hd, k1⟩
  have HD := Lib.hid hd
  have HA1 := Lib.hid (HA.out.kept k1)
  have HK1 := Lib.hid (HK.out.trans k1)
  clear hd k1 HA HK
  go_wp2_with fail
  refine (ex_of _ _ W1 HA1.out).mono ?_
  rintro e W2 ⟨zo, oo, co, rfl, ho, k2⟩
  have HD2 := Lib.hid (HD.out.kept k2)
  have HO2 := Lib.hid ho
  have HA2 := Lib.hid (HA1.out.kept k2)
  have HK2 := Lib.hid (HK1.out.trans k2)
  have hd1 := (HD.out.kept k2).2
  have ho1 := ho.2
  clear k2 HA1 HK1 HD ho
  go_wp2_with fail
  refine (ex_last3 _ _ W2 HA2.out).mono ?_
  rintro e W3 ⟨A3, c3, rfl, k3⟩
  have HA3 := Lib.hid (HA2.out.kept k3)
  have HK3 := Lib.hid (HK2.out.trans k3)
  clear k3 HA2 HK2 hd1 ho1
  go_wp2_with fail
  refine (ex_last2 _ _ W3 HA3.out).mono ?_
  rintro e W4 ⟨A4, c4, rfl, k4⟩
  have HK4 := Lib.hid (HK3.out.trans k4)
  clear k4 HA3 HK3
  go_wp2_with fail
  go_ret
  exact ⟨rfl, HK4.out⟩

end Go.Proofs.Ytjcjglhoknbhpaa
