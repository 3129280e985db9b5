/-
  The contract of Has of the given package marigoldref05.
  The contracts of the calls of the given package marigoldref05.
  The contracts of Committee and In of the given package marigoldref05.
-/
import Derived.Test.YtacdiicnfoejoaaDutyG
import Derived.Test.YtacdiicnfoejoaaShufG
import Derived.Test.YtacdiicnfoejoaaMixG
namespace Go.Proofs.Ytacdiicnfoejoaa
set_option maxRecDepth 100000
set_option linter.unusedVariables false
set_option linter.unusedSimpArgs false
section
open Go.ChangeShapes Go.WideShapes Go.ChangeAt Go.RowKit

def hasI (l : List Int) (n : Int) : Bool := decide (n ∈ l)
theorem take_miss {l : List Int} {j : Nat} {n : Int} (hj : j < l.length) (h : n ∉ l.take j) (hx : ¬ wAt l j = n) : n ∉ l.take (j + 1) := by
  rw [take_snoc hj]
  simp
  exact ⟨h, fun e => hx e.symm⟩
end

section
open Go.ChangeShapes Go.WideShapes Go.ChangeAt Go.RowKit

theorem mayC_no {k : Cf} (h : ¬ (1 ≤ k.ws.length ∧ k.ws.length ≤ 12 ∧ 1 ≤ k.ep ∧ k.ep ≤ 8 ∧ 0 ≤ k.nu ∧ k.nu ≤ k.de ∧ 1 ≤ k.de ∧ k.de ≤ 1000)) : mayC k = false :=
  decide_eq_false fun ⟨h1, h2, _, h4, h5, h6, h7, h8, h9⟩ => h ⟨h1, h2, h4, h5, h8, h9, h6, h7⟩
theorem mayC_bad {k : Cf} {j : Nat} (hj : j < k.ws.length) (h : ¬ (0 ≤ wAt k.ws j ∧ wAt k.ws j ≤ 1099511627776)) : mayC k = false := decide_eq_false fun hm => h (hm.2.2.1 _ (wAt_mem hj))
end

section
open Go.ChangeShapes Go.WideShapes Go.ChangeAt Go.RowKit

theorem inC_has (k : Cf) (slot who : Int) : hasI (commC k slot) who = inC k slot who := by
  unfold hasI
  cases hd : dutyC k slot with
  | false => rw [commC_no hd, inC_no hd]; simp
  | true =>
    rw [commC_yes hd]
    cases hv : validC k who with
    | false =>
      rw [inC_out hv]
      refine decide_eq_false fun hm => ?_
      obtain ⟨i, hi, _, rfl⟩ := mem_commTo.1 hm
      exact of_decide_eq_false hv ⟨by omega, by omega⟩
    | true =>
      rw [inC_yes hd hv]
      have hv' := of_decide_eq_true hv
      obtain ⟨j, rfl⟩ : ∃ j : Nat, who = (j : Int) := ⟨who.toNat, by omega⟩
      rw [Int.toNat_natCast]
      exact inList_comm j (by omega)
end

end Go.Proofs.Ytacdiicnfoejoaa
