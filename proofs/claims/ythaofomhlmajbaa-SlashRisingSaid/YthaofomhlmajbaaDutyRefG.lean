/-
  The contract of Has of the given package marigoldref05.
  The contracts of the calls of the given package marigoldref05.
  The contracts of Committee and In of the given package marigoldref05.
-/
import Derived.Test.YthaofomhlmajbaaDutyG
import Derived.Test.YthaofomhlmajbaaMixG
import Derived.Test.YthaofomhlmajbaaGround
namespace Go.Proofs.Ythaofomhlmajbaa
set_option maxRecDepth 100000
set_option linter.unusedVariables false
set_option linter.unusedSimpArgs false
section
open Go.ChangeShapes Go.WideShapes Go.ChangeAt Go.RowKit

def hasI (l : List Int) (n : Int) : Bool := decide (n ∈ l)
theorem take_miss {l : List Int} {j : Nat} {n : Int} (hj : j < l.length) (h : n ∉ l.take j) (hx : ¬ wAt l j = n) : n ∉ l.take (j + 1) := by
  rw [take_snoc hj]
  simp
  exact ⟨h, fun e => hx e.symm⟩
set_option maxHeartbeats 800000 in
theorem refHas_any (A : Option Addr) (c : Nat) (l : List Int) (n : Int) (w : World) (hl : l.length ≤ 1000000) (hA : CellsAt w w.heap.size A (intCells l)) :
    Calls Try.prog 14 #[.slice A l.length c, .int .i64 n] w fun e w' => e = .returned (.bool (hasI l n)) ∧ w' = w := by
  have HA := Lib.hid hA
  clear hA
  go_enter Try.func14, Try.ntmps14
  go_wp2_with fail
  go_loop [5] (fun i => ∃ j : Nat, j ≤ l.length ∧ i = .int .i64 (j : Nat) ∧ n ∉ l.take j) (fun i => l.length - (intOf i).toNat)
  case atStart => exact ⟨0, by omega, rfl, by simp⟩
  case round =>
    obtain ⟨j, hj, rfl, hno⟩ := hrel
    have HN := Lib.hid hno
    clear hno
    by_cases hlt : j < l.length
    · obtain ⟨ad, rfl, hb, hcell⟩ := ints_cell HA.out hlt
      by_cases hx : wAt l j = n
      · have HH := Lib.hid (show hasI l n = true from decide_eq_true (by rw [← hx]; exact wAt_mem hlt))
        rw [hx] at hcell
        clear hx
        go_wp2_with fail
        go_ret
        exact ⟨by rw [HH.out]; rfl, rfl⟩
      · have HM := Lib.hid (take_miss hlt HN.out hx)
        have hxb : (wAt l j == n) = false := by simpa using hx
        clear hx
        generalize wAt l j = x at *
        go_wp2_with fail
        go_round
        case rel => exact ⟨j + 1, by omega, by go_num, HM.out⟩
        case measure => simp [intOf]; omega
    · have hjl : j = l.length := by omega
      subst hjl
      have HH := Lib.hid (show hasI l n = false from decide_eq_false (by have := HN.out; rwa [List.take_length] at this))
      go_wp2_with fail
      go_ret
      exact ⟨by rw [HH.out]; rfl, rfl⟩
end

section
open Go.ChangeShapes Go.WideShapes Go.ChangeAt Go.RowKit

theorem mayC_no {k : Cf} (h : ¬ (1 ≤ k.ws.length ∧ k.ws.length ≤ 12 ∧ 1 ≤ k.ep ∧ k.ep ≤ 8 ∧ 0 ≤ k.nu ∧ k.nu ≤ k.de ∧ 1 ≤ k.de ∧ k.de ≤ 1000)) : mayC k = false :=
  decide_eq_false fun ⟨h1, h2, _, h4, h5, h6, h7, h8, h9⟩ => h ⟨h1, h2, h4, h5, h8, h9, h6, h7⟩
theorem mayC_bad {k : Cf} {j : Nat} (hj : j < k.ws.length) (h : ¬ (0 ≤ wAt k.ws j ∧ wAt k.ws j ≤ 1099511627776)) : mayC k = false := decide_eq_false fun hm => h (hm.2.2.1 _ (wAt_mem hj))
end

section
open Go.ChangeShapes Go.WideShapes Go.ChangeAt Go.RowKit

theorem inC_has (k : Cf) (slot who : Int) : hasI (commC k slot) who = inC k slot who := by
  unfold hasI
  cases hd : dutyC k slot with
  | false => rw [commC_no hd, inC_no hd]; simp
  | true =>
    rw [commC_yes hd]
    cases hv : validC k who with
    | false =>
      rw [inC_out hv]
      refine decide_eq_false fun hm => ?_
      obtain ⟨i, hi, _, rfl⟩ := mem_commTo.1 hm
      exact of_decide_eq_false hv ⟨by omega, by omega⟩
    | true =>
      rw [inC_yes hd hv]
      have hv' := of_decide_eq_true hv
      obtain ⟨j, rfl⟩ : ∃ j : Nat, who = (j : Int) := ⟨who.toNat, by omega⟩
      rw [Int.toNat_natCast]
      exact inList_comm j (by omega)
end

end Go.Proofs.Ythaofomhlmajbaa
