/-
  Lists that are the same, held against one another; is a vote there; votes of all but one.
-/
import Derived.Test.YtlapcnfhnfkbmaaGreatVoteDoubles
namespace Go.Proofs.YtlapcnfhnfkbmaaGreat
set_option maxRecDepth 100000
set_option linter.unusedVariables false
set_option linter.unusedSimpArgs false
open Go.ChangeShapes Go.WideShapes Go.ChangeAt Go.RowKit

theorem num_at {w : World} {B : Nat} {A : Option Addr} {l : List Int} (h : CellsAt w B A (intCells l)) {i : Nat} (hi : i < l.length) : ∃ z o, A = some ⟨z, o, none⟩ ∧ z < B ∧ w.cell? ⟨z, o + i, none⟩ = some (.int .i64 l[i]) := by
  obtain ⟨z, o, e, hb, hc⟩ := h.plain (by rw [intCells_length]; omega)
  exact ⟨z, o, e, hb, hc i _ (by simp [intCells, hi])⟩

theorem sameV_self (v : Vt) : sameV v v = true := sameV_iff.2 rfl
attribute [local go_sem high] eqV in
set_option maxRecDepth 100000 in
set_option maxHeartbeats 1600000 in
theorem votes_same (A : Option Addr) (ca : Nat) (B : Option Addr) (cb : Nat) (l : List Vt) (w : World) (hl : l.length ≤ 1000000) (hA : CellsAt w w.heap.size A (votesCells l)) (hB : CellsAt w w.heap.size B (votesCells l)) :
    Calls Tryz.prog 11 #[.slice A l.length ca, .slice B l.length cb] w fun e w' => e = .returned (.bool true) ∧ Kept w w' := by
  have HA := Lib.hid hA
  have HB := Lib.hid hB
  clear hA hB
  go_enter Tryz.func11, Tryz.ntmps11
  go_wp2_with fail
  go_loopw [5] (fun i w' => ∃ j : Nat, j ≤ l.length ∧ i = .int .i64 (j : Nat) ∧ Kept w w') (fun i _ => l.length - (intOf i).toNat)
  case atStart => exact ⟨0, by omega, rfl, Kept.refl _⟩
  case round =>
    obtain ⟨j, hj, rfl, hKr⟩ := hrel
    have HR := Lib.hid hKr
    clear hKr
    by_cases hlt : j < l.length
    · obtain ⟨z, o, rfl, hb, c0, c1, c2, c3⟩ := vote_at (HA.out.kept HR.out) hlt
      obtain ⟨z', o', rfl, hb', d0, d1, d2, d3⟩ := vote_at (HB.out.kept HR.out) hlt
      have hss := sameV_self l[j]
      generalize l[j] = x at *
      go_wp2_with fail
      go_quiet (fail)
      go_wp2_with fail
      go_roundw
      case rel => exact ⟨j + 1, by omega, by go_num, HR.out.drewN _⟩
      case measure => simp [intOf]; omega
    · have hjl : j = l.length := by omega
      subst hjl
      go_wp2_with fail
      go_ret
      exact ⟨rfl, HR.out⟩

end Go.Proofs.YtlapcnfhnfkbmaaGreat
