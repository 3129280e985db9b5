/-
  Is a vote there; votes of all but one (the helpers of layer 7's laws).
-/
import Derived.Test.YtjcjglhoknbhpaaVoteSame
namespace Go.Proofs.Ytjcjglhoknbhpaa
open Go.ChangeShapes Go.WideShapes Go.ChangeAt Go.RowKit

attribute [local go_sem high] eqV in
set_option maxRecDepth 100000 in
set_option maxHeartbeats 1600000 in
/-- A vote that is there is found. -/
theorem there_yes (A : Option Addr) (c : Nat) (L : List Vt) (hl : L.length ≤ 1000000) (v : Vt) (hv : v ∈ L) (w : World) (hA : CellsAt w w.heap.size A (votesCells L)) :
    Calls Try.prog 19 #[.slice A L.length c, .agg #[.int .i64 v.f, .int .i64 v.s, .int .u64 v.p.1, .int .u64 v.p.2]] w fun e w' => e = .returned (.bool true) ∧ Kept w w' := by
  have HA := Lib.hid (hA.kept ((Kept.refl w).alloc (.cells #[.int .i64 v.f, .int .i64 v.s, .int .u64 v.p.1, .int .u64 v.p.2] 36)))
  have HV := Lib.hid hv
  have HB := Lib.hid (HasCells.new w #[.int .i64 v.f, .int .i64 v.s, .int .u64 v.p.1, .int .u64 v.p.2] 36 w.heap.size rfl)
  have HK := Lib.hid ((Kept.refl w).alloc (.cells #[.int .i64 v.f, .int .i64 v.s, .int .u64 v.p.1, .int .u64 v.p.2] 36))
  clear hA hv
  go_enter Try.func19, Try.ntmps19
  go_wp2_with fail
  generalize w.alloc (.cells #[.int .i64 v.f, .int .i64 v.s, .int .u64 v.p.1, .int .u64 v.p.2] 36) = W at *
  generalize w.heap.size = zv at *
  go_loopw [5] (fun i w' => ∃ j : Nat, j ≤ L.length ∧ i = .int .i64 (j : Nat) ∧ Kept W w' ∧ v ∉ L.take j) (fun i _ => L.length - (intOf i).toNat)
  case atStart => exact ⟨0, by omega, rfl, Kept.refl _, by simp⟩
  case round =>
    obtain ⟨j, hj, rfl, hKr, hN⟩ := hrel
    have HR := Lib.hid hKr
    have HN := Lib.hid hN
    clear hKr hN
    by_cases hlt : j < L.length
    · obtain ⟨z, o, rfl, hb, c0, c1, c2, c3⟩ := vote_at (HA.out.kept HR.out) hlt
      obtain ⟨b0, b1, b2, b3⟩ := (HB.out.kept HR.out).four
      have HT := Lib.hid (take_vt hlt)
      generalize L[j] = x at *
      cases hs : sameV x v with
      | true =>
        go_wp2_with fail
        go_quiet (fail)
        go_wp2_with fail
        go_ret
        exact ⟨rfl, HK.out.trans (HR.out.drewN _)⟩
      | false =>
        have HX := Lib.hid (sameV_no hs)
        go_wp2_with fail
        go_quiet (fail)
        go_wp2_with fail
        go_roundw
        case rel =>
          refine ⟨j + 1, by omega, by go_num, HR.out.drewN _, ?_⟩
          rw [HT.out]
          intro k
          rcases List.mem_append.1 k with k | k
          · exact HN.out k
          · exact HX.out (show v = x by simpa using k).symm
        case measure => simp [intOf]; omega
    · have hjl : j = L.length := by omega
      subst hjl
      exact absurd HV.out (by have := HN.out; rwa [List.take_length] at this)

/-- Votes of all but one. -/
def wo (f : Int) (L : List Vt) : List Vt := L.filter fun v => decide (v.f ≠ f)
theorem wo_snoc_yes {f : Int} {L : List Vt} {v : Vt} (h : v.f ≠ f) : wo f (L ++ [v]) = wo f L ++ [v] := by simp [wo, h]
theorem wo_snoc_no {f : Int} {L : List Vt} {v : Vt} (h : v.f = f) : wo f (L ++ [v]) = wo f L := by simp [wo, h]
theorem wo_le (f : Int) (L : List Vt) : (wo f L).length ≤ L.length := List.length_filter_le _ _
set_option maxRecDepth 100000 in
set_option maxHeartbeats 1600000 in
theorem without_any (A : Option Addr) (c : Nat) (L : List Vt) (hl : L.length ≤ 1000000) (f : Int) (w : World) (hA : CellsAt w w.heap.size A (votesCells L)) :
    Calls Try.prog 20 #[.slice A L.length c, .int .i64 f] w (VtsNew (wo f L) w) := by
  have HA := Lib.hid hA
  clear hA
  go_enter Try.func20, Try.ntmps20
  go_wp2_with fail
  go_loopw [5, 6] (fun v i w' => ∃ j : Nat, j ≤ L.length ∧ i = .int .i64 (j : Nat) ∧ Vts w (wo f (L.take j)) v w') (fun _ i _ => L.length - (intOf i).toNat)
  case atStart => exact ⟨0, by omega, rfl, Vts.nil w⟩
  case round =>
    obtain ⟨j, hj, rfl, hV⟩ := hrel
    have HV := Lib.hid hV
    have HL := Lib.hid (wo_le f (L.take j))
    clear hV
    by_cases hlt : j < L.length
    · obtain ⟨z, o, rfl, hb, c0, c1, c2, c3⟩ := vote_at (HA.out.kept HV.out.2) hlt
      have HT := Lib.hid (take_vt hlt)
      have hll : (wo f (L.take j)).length + 1 ≤ 10000000 := by have := HL.out; rw [List.length_take] at this; omega
      generalize L[j] = x at *
      by_cases hf : x.f = f
      · have HN := Lib.hid (wo_snoc_no (L := L.take j) hf)
        go_wp2_with fail
        go_roundw
        case rel => exact ⟨j + 1, by omega, by go_num, by rw [HT.out, HN.out]; exact HV.out⟩
        case measure => simp [intOf]; omega
      · have HN := Lib.hid (wo_snoc_yes (L := L.take j) hf)
        go_wp2_with (refine wpList_vts _ rfl _ _ rfl w (wo f (L.take j)) _ rfl (HV.out.alloc _) _ _ 1 1 [x] rfl rfl (votes_one_at (HasCells.new _ _ _ _ rfl)) hll ?_; intro v' w' HV' _; rw [← HN.out, ← HT.out] at HV')
        go_roundw
        case rel => exact ⟨j + 1, by omega, by go_num, HV'⟩
        case measure => simp [intOf]; omega
    · have hjl : j = L.length := by omega
      subst hjl
      have HT := Lib.hid (show L.take L.length = L from List.take_length)
      have HV2 := Lib.hid (show Vts w (wo f L) u5 wr by have := HV.out; rwa [HT.out] at this)
      obtain ⟨A', c', rfl⟩ := HV2.out.slice
      go_wp2_with fail
      go_ret
      exact HV2.out.new

end Go.Proofs.Ytjcjglhoknbhpaa
