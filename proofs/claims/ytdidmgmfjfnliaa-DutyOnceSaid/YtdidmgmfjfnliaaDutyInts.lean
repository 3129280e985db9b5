/-
  Two lists that are the same, held against one another by layer 5's laws.
-/
import Derived.Test.YtdidmgmfjfnliaaDutyHeld
namespace Go.Proofs.Ytdidmgmfjfnliaa
open Go.ChangeShapes Go.WideShapes Go.ChangeAt Go.RowKit

set_option maxRecDepth 100000 in
set_option maxHeartbeats 1600000 in
theorem ints_same (A : Option Addr) (ca : Nat) (B : Option Addr) (cb : Nat) (l : List Int) (w : World) (hl : l.length ≤ 1000000) (hA : CellsAt w w.heap.size A (intCells l)) (hB : CellsAt w w.heap.size B (intCells l)) :
    Calls Try.prog 13 #[.slice A l.length ca, .slice B l.length cb] w fun e w' => e = .returned (.bool true) ∧ Kept w w' := by
  have HA := Lib.hid hA
  have HB := Lib.hid hB
  clear hA hB
  go_enter Try.func13, Try.ntmps13
  go_wp2_with fail
  go_loopw [5] (fun i w' => ∃ j : Nat, j ≤ l.length ∧ i = .int .i64 (j : Nat) ∧ Kept w w') (fun i _ => l.length - (intOf i).toNat)
  case atStart => exact ⟨0, by omega, rfl, Kept.refl _⟩
  case round =>
    obtain ⟨j, hj, rfl, hKr⟩ := hrel
    have HR := Lib.hid hKr
    clear hKr
    by_cases hlt : j < l.length
    · obtain ⟨ad, rfl, hb, hcell⟩ := ints_cell HA.out hlt
      obtain ⟨bd, rfl, hb', hcell'⟩ := ints_cell HB.out hlt
      have hcx : wr.cell? (ad.add j) = some (.int .i64 (wAt l j)) := (HR.out.cell (by rw [block_add]; exact hb)).trans hcell
      have hcy : wr.cell? (bd.add j) = some (.int .i64 (wAt l j)) := (HR.out.cell (by rw [block_add]; exact hb')).trans hcell'
      clear hcell hcell'
      generalize wAt l j = x at *
      go_wp2_with fail
      go_quiet (fail)
      go_wp2_with fail
      go_roundw
      case rel => exact ⟨j + 1, by omega, by go_num, HR.out.drewN _⟩
      case measure => simp [intOf]; omega
    · have hjl : j = l.length := by omega
      subst hjl
      go_wp2_with fail
      go_ret
      exact ⟨rfl, HR.out⟩

end Go.Proofs.Ytdidmgmfjfnliaa
