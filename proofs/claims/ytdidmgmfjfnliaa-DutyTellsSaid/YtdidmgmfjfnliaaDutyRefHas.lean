/-
  The contract of Has of the given package marigoldref05.
-/
import Derived.Test.YtdidmgmfjfnliaaDutyLists
namespace Go.Proofs.Ytdidmgmfjfnliaa
open Go.ChangeShapes Go.WideShapes Go.ChangeAt Go.RowKit

def hasI (l : List Int) (n : Int) : Bool := decide (n ∈ l)
theorem take_miss {l : List Int} {j : Nat} {n : Int} (hj : j < l.length) (h : n ∉ l.take j) (hx : ¬ wAt l j = n) : n ∉ l.take (j + 1) := by
  rw [take_snoc hj]
  simp
  exact ⟨h, fun e => hx e.symm⟩
set_option maxHeartbeats 800000 in
theorem refHas_any (A : Option Addr) (c : Nat) (l : List Int) (n : Int) (w : World) (hl : l.length ≤ 1000000) (hA : CellsAt w w.heap.size A (intCells l)) :
    Calls Try.prog 24 #[.slice A l.length c, .int .i64 n] w fun e w' => e = .returned (.bool (hasI l n)) ∧ w' = w := by
  have HA := Lib.hid hA
  clear hA
  go_enter Try.func24, Try.ntmps24
  go_wp2_with fail
  go_loop [5] (fun i => ∃ j : Nat, j ≤ l.length ∧ i = .int .i64 (j : Nat) ∧ n ∉ l.take j) (fun i => l.length - (intOf i).toNat)
  case atStart => exact ⟨0, by omega, rfl, by simp⟩
  case round =>
    obtain ⟨j, hj, rfl, hno⟩ := hrel
    have HN := Lib.hid hno
    clear hno
    by_cases hlt : j < l.length
    · obtain ⟨ad, rfl, hb, hcell⟩ := ints_cell HA.out hlt
      by_cases hx : wAt l j = n
      · have HH := Lib.hid (show hasI l n = true from decide_eq_true (by rw [← hx]; exact wAt_mem hlt))
        rw [hx] at hcell
        clear hx
        go_wp2_with fail
        go_ret
        exact ⟨by rw [HH.out]; rfl, rfl⟩
      · have HM := Lib.hid (take_miss hlt HN.out hx)
        have hxb : (wAt l j == n) = false := by simpa using hx
        clear hx
        generalize wAt l j = x at *
        go_wp2_with fail
        go_round
        case rel => exact ⟨j + 1, by omega, by go_num, HM.out⟩
        case measure => simp [intOf]; omega
    · have hjl : j = l.length := by omega
      subst hjl
      have HH := Lib.hid (show hasI l n = false from decide_eq_false (by have := HN.out; rwa [List.take_length] at this))
      go_wp2_with fail
      go_ret
      exact ⟨by rw [HH.out]; rfl, rfl⟩

end Go.Proofs.Ytdidmgmfjfnliaa
