/-
  Plain mathematics: an array worked out anew, as the given package does it: each place's children one behind the other.
-/
import Derived.Test.YtabmdilhfiembaaArraySet
namespace Go.Proofs.Ytabmdilhfiembaa
set_option maxRecDepth 100000
set_option linter.unusedVariables false
set_option linter.unusedSimpArgs false
set_option linter.unusedVariables false
set_option linter.unusedSectionVars false

def sumTo (a : List It) (i m : Nat) : Int := ((kidsTo a (i : Int) m).map (wC a)).sum
def bestToI (a : List It) (i m : Nat) : Option Nat := bestX (wC a) (fun k => (itA a k).x) (kidsTo a (i : Int) m)
def headToI (a : List It) (i m : Nat) : Nat := match bestToI a i m with | none => i | some y => hC a y
/-- Place i, its children below m gathered. -/
def nodeTo (a : List It) (i m : Nat) : It := ⟨(itA a i).x, (itA a i).p, (itA a i).o, (itA a i).o + sumTo a i m, optI (bestToI a i m), (headToI a i m : Int)⟩
theorem sumTo_start (a : List It) (i : Nat) : sumTo a i (i + 1) = 0 := by unfold sumTo; rw [kidsTo_low (by omega)]; rfl
theorem bestTo_start (a : List It) (i : Nat) : bestToI a i (i + 1) = none := by unfold bestToI; rw [kidsTo_low (by omega)]; rfl
theorem nodeTo_start (a : List It) (i : Nat) : nodeTo a i (i + 1) = ⟨(itA a i).x, (itA a i).p, (itA a i).o, (itA a i).o, -1, (i : Int)⟩ := by
  unfold nodeTo headToI
  rw [sumTo_start, bestTo_start, Int.add_zero]
  rfl
theorem nodeTo_end (a : List It) (i : Nat) : nodeTo a i a.length = nodeC a i := by
  have h1 : (itA a i).o + sumTo a i a.length = wC a i := (wC_eq a i).symm
  have h2 : bestToI a i a.length = bC a (i : Int) := rfl
  unfold nodeTo nodeC headToI
  rw [h1, h2]
  cases q : bC a (i : Int) with
  | none => rw [hC_none q]
  | some y => rw [hC_some q]
section
variable {a : List It} {i k : Nat} (hik : i < k)
include hik
theorem sumTo_hit (h : (itA a k).p = (i : Int)) : sumTo a i (k + 1) = sumTo a i k + wC a k := by
  unfold sumTo; rw [kidsTo_hit ⟨by omega, h⟩, List.map_append, List.sum_append]; simp
theorem sumTo_miss (h : ¬ (itA a k).p = (i : Int)) : sumTo a i (k + 1) = sumTo a i k := by
  unfold sumTo; rw [kidsTo_miss (fun q => h q.2)]
theorem nodeTo_miss (h : ¬ (itA a k).p = (i : Int)) : nodeTo a i (k + 1) = nodeTo a i k := by
  unfold nodeTo headToI bestToI sumTo; rw [kidsTo_miss (fun q => h q.2)]
theorem nodeTo_first (h : (itA a k).p = (i : Int)) (q : bestToI a i k = none) : nodeTo a i (k + 1) = ⟨(itA a i).x, (itA a i).p, (itA a i).o, (itA a i).o + sumTo a i k + wC a k, (k : Int), (hC a k : Int)⟩ := by
  have e : bestToI a i (k + 1) = some k := by unfold bestToI at q ⊢; rw [kidsTo_hit ⟨by omega, h⟩]; exact bestX_first q
  unfold nodeTo headToI
  rw [sumTo_hit hik h, e, ← Int.add_assoc]
  rfl
theorem nodeTo_hit (h : (itA a k).p = (i : Int)) {y : Nat} (q : bestToI a i k = some y) (m : moreI (wC a k) (wC a y) (itA a k).x (itA a y).x = true) : nodeTo a i (k + 1) = ⟨(itA a i).x, (itA a i).p, (itA a i).o, (itA a i).o + sumTo a i k + wC a k, (k : Int), (hC a k : Int)⟩ := by
  have e : bestToI a i (k + 1) = some k := by unfold bestToI at q ⊢; rw [kidsTo_hit ⟨by omega, h⟩]; exact bestX_hit q m
  unfold nodeTo headToI
  rw [sumTo_hit hik h, e, ← Int.add_assoc]
  rfl
theorem nodeTo_less (h : (itA a k).p = (i : Int)) {y : Nat} (q : bestToI a i k = some y) (m : moreI (wC a k) (wC a y) (itA a k).x (itA a y).x = false) : nodeTo a i (k + 1) = ⟨(itA a i).x, (itA a i).p, (itA a i).o, (itA a i).o + sumTo a i k + wC a k, (y : Int), (hC a y : Int)⟩ := by
  have e : bestToI a i (k + 1) = some y := by unfold bestToI at q ⊢; rw [kidsTo_hit ⟨by omega, h⟩]; exact bestX_miss q m
  unfold nodeTo headToI
  rw [sumTo_hit hik h, e, ← Int.add_assoc]
  rfl
omit hik in
theorem nodeTo_some {y : Nat} (q : bestToI a i k = some y) : nodeTo a i k = ⟨(itA a i).x, (itA a i).p, (itA a i).o, (itA a i).o + sumTo a i k, (y : Int), (hC a y : Int)⟩ ∧ y < k ∧ i < y := by
  have hy := mem_kidsTo.1 (bestX_some q).1
  refine ⟨?_, hy.1, by omega⟩
  unfold nodeTo headToI
  rw [q]; rfl
omit hik in
theorem nodeTo_none (q : bestToI a i k = none) : nodeTo a i k = ⟨(itA a i).x, (itA a i).p, (itA a i).o, (itA a i).o + sumTo a i k, -1, (i : Int)⟩ := by
  unfold nodeTo headToI
  rw [q]; rfl
end
theorem sumTo_mono {a : List It} (ho : ∀ i, i < a.length → 0 ≤ (itA a i).o) (i : Nat) : ∀ (d m : Nat), i < m → m + d = a.length → 0 ≤ sumTo a i m ∧ sumTo a i m ≤ sumTo a i a.length
  | 0, m, _, h => by
    have e : m = a.length := h
    subst e
    exact ⟨sum_nonneg fun k hk => kids_nonneg ho _ k hk, Int.le_refl _⟩
  | d + 1, m, hm, h => by
    have ih := sumTo_mono ho i d (m + 1) (by omega) (by omega)
    have hw := wC_nonneg ho a.length m (by omega) (by omega)
    have h0 : 0 ≤ sumTo a i m := sum_nonneg fun k hk => by
      have := mem_kidsTo.1 hk
      exact wC_nonneg ho a.length k (by omega) (by omega)
    by_cases e : (itA a m).p = (i : Int)
    · rw [sumTo_hit hm e] at ih; omega
    · rw [sumTo_miss hm e] at ih; omega
theorem sumTo_bounds {a : List It} (hr : AllRight a) (hl : a.length ≤ 70) (ho : ∀ i, i < a.length → 0 ≤ (itA a i).o ∧ (itA a i).o ≤ 1125899906842624) {i m : Nat} (hi : i < a.length) (him : i < m) (hm : m ≤ a.length) : 0 ≤ (itA a i).o + sumTo a i m ∧ (itA a i).o + sumTo a i m ≤ 78812993478983680 := by
  have h1 := sumTo_mono (fun i hi => (ho i hi).1) i (a.length - m) m him (by omega)
  have h2 := wC_bounds hr ho hi
  have h3 : (itA a i).o + sumTo a i a.length = wC a i := (wC_eq a i).symm
  have h4 := (ho i hi).1
  omega

end Go.Proofs.Ytabmdilhfiembaa
