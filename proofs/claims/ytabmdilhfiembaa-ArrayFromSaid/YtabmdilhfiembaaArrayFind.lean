/-
  The contracts of package array's calls isBeginning, mayBeOwn and find.
-/
import Derived.Test.YtabmdilhfiembaaArrayKids
import Derived.Test.YtabmdilhfiembaaTreeG
namespace Go.Proofs.Ytabmdilhfiembaa
set_option maxRecDepth 100000
set_option linter.unusedVariables false
set_option linter.unusedSimpArgs false
set_option linter.unusedVariables false
open Go.ChangeShapes Go.WideShapes Go.ChangeAt Go.RowKit

attribute [local go_sem high] eqIdZ in
set_option maxHeartbeats 400000 in
theorem isBegA_any (x : Id2) (w : World) :
    Calls Try.prog 43 #[.agg #[.int .u64 x.1, .int .u64 x.2]] w fun e w' => e = .returned (.bool (isZ x)) ∧ Kept w w' := by
  go_enter Try.func43, Try.ntmps43
  go_wp2_with fail
  go_ret
  exact ⟨rfl, (Kept.refl _).alloc _⟩
/-- From 0 to 2^50. -/
def ownB (n : Int) : Bool := decide (0 ≤ n ∧ n ≤ 1125899906842624)
theorem ownB_yes {n : Int} (h : ownB n = true) : 0 ≤ n ∧ n ≤ 1125899906842624 := of_decide_eq_true h
theorem ownB_no {n : Int} (h : ownB n = false) : ¬ (0 ≤ n ∧ n ≤ 1125899906842624) := of_decide_eq_false h
set_option maxHeartbeats 400000 in
theorem ownB_any (n : Int) (w : World) :
    Calls Try.prog 46 #[.int .i64 n] w fun e w' => e = .returned (.bool (ownB n)) ∧ w = w' := by
  by_cases h0 : 0 ≤ n
  · by_cases h1 : n ≤ 1125899906842624
    · have HB := Lib.hid (show ownB n = true from decide_eq_true ⟨h0, h1⟩)
      go_enter Try.func46, Try.ntmps46
      go_wp2_with fail
      go_ret
      exact ⟨by rw [HB.out]; rfl, rfl⟩
    · have HB := Lib.hid (show ownB n = false from decide_eq_false (fun h => h1 h.2))
      go_enter Try.func46, Try.ntmps46
      go_wp2_with fail
      go_ret
      exact ⟨by rw [HB.out]; first | rfl | simp, rfl⟩
  · have HB := Lib.hid (show ownB n = false from decide_eq_false (fun h => h0 h.1))
    go_enter Try.func46, Try.ntmps46
    go_wp2_with fail
    go_ret
    exact ⟨by rw [HB.out]; first | rfl | simp, rfl⟩

/-! ### find -/
attribute [local go_sem high] eqIdN in
set_option maxHeartbeats 400000 in
theorem find1_any (z : Nat) (x : Id2) (y : It) (w : World) (hz : HasCells w z [.int .u64 x.1, .int .u64 x.2]) :
    Calls Try.prog 69 #[.agg #[.int .u64 y.x.1, .int .u64 y.x.2, .int .i64 y.p, .int .i64 y.o, .int .i64 y.w, .int .i64 y.b, .int .i64 y.h], .pointer (some ⟨z, 0, none⟩)] w fun e w' => e = .returned (.bool (sameI y.x x)) ∧ Kept w w' := by
  have HK := Lib.hid ((Kept.refl w).alloc (.cells #[.int .u64 y.x.1, .int .u64 y.x.2, .int .i64 y.p, .int .i64 y.o, .int .i64 y.w, .int .i64 y.b, .int .i64 y.h] 50))
  obtain ⟨c0, c1⟩ := hz.two
  have hzl := hz.1
  clear hz
  go_enter Try.func69, Try.ntmps69
  go_wp2_with fail
  go_ret
  exact ⟨rfl, HK.out⟩
def posI (a : List It) (x : Id2) : Int := posV (idsI a) x
set_option maxRecDepth 100000 in
set_option maxHeartbeats 1600000 in
theorem indexI_any (A : Option Addr) (c : Nat) (a : List It) (hl : a.length ≤ 100000) (z : Nat) (x : Id2) (w : World) (hA : CellsAt w w.heap.size A (itemCells a)) (hz : HasCells w z [.int .u64 x.1, .int .u64 x.2]) :
    Calls Try.prog 68 #[.slice A a.length c, .func (.func 69) #[] #[.pointer (some ⟨z, 0, none⟩)]] w fun e w' => e = .returned (.int .i64 (posI a x)) ∧ Kept w w' := by
  have HA := Lib.hid hA
  have HZ := Lib.hid hz
  have HIl := Lib.hid (show (idsI a).length = a.length by simp [idsI])
  have HIg := Lib.hid (fun k (hk : k < a.length) (hn : k < (idsI a).length) => (show (idsI a)[k] = a[k].x by simp [idsI]))
  clear hA hz
  go_enter Try.func68, Try.ntmps68
  go_wp2_with fail
  go_loopw [8] (fun i w' => ∃ k : Nat, k ≤ a.length ∧ i = .int .i64 k ∧ x ∉ (idsI a).take k ∧ Kept w w') (fun i _ => a.length - (intOf i).toNat)
  case atStart => exact ⟨0, by omega, rfl, by simp, Kept.refl _⟩
  case round =>
    obtain ⟨k, hk, rfl, hx, hKr⟩ := hrel
    have HX := Lib.hid hx
    have HR := Lib.hid hKr
    clear hx hKr
    by_cases hlt : k < a.length
    · obtain ⟨zz, o, rfl, hb, c0, c1, c2, c3, c4, c5, c6⟩ := item_at (HA.out.kept HR.out) hlt
      have hkn : k < (idsI a).length := by rw [HIl.out]; exact hlt
      have HG := Lib.hid (HIg.out k hlt hkn)
      have HY := Lib.hid (posV_hit hkn HX.out)
      have HN := Lib.hid (not_in_step hkn HX.out)
      rw [HG.out] at HY HN
      have HC := Lib.hid (find1_any z x a[k] wr (HZ.out.kept HR.out))
      generalize a[k] = y at *
      clear HG
      go_wp2_with fail
      refine HC.out.mono ?_
      rintro e W1 ⟨rfl, k1⟩
      have HR1 := Lib.hid (HR.out.trans k1)
      clear c0 c1 c2 c3 c4 c5 c6 k1
      cases hs : sameI y.x x with
      | true =>
        have HP := Lib.hid (HY.out (of_decide_eq_true hs))
        clear hs HY HN
        go_wp2_with fail
        go_ret
        exact ⟨by unfold posI; rw [HP.out]; rfl, HR1.out⟩
      | false =>
        have HP := Lib.hid (HN.out (of_decide_eq_false hs))
        clear hs HY HN
        go_wp2_with fail
        go_roundw
        case rel => exact ⟨k + 1, by omega, by go_num, HP.out, HR1.out⟩
        case measure => simp [intOf]; omega
    · have hkl : k = a.length := by omega
      subst hkl
      have HV := Lib.hid (show posI a x = -1 from posV_none (show x ∉ idsI a by have := HX.out; rwa [← HIl.out, List.take_length] at this))
      go_wp2_with fail
      go_ret
      exact ⟨by rw [HV.out]; rfl, HR.out⟩
set_option maxHeartbeats 800000 in
theorem findA_any (A : Option Addr) (c : Nat) (a : List It) (hl : a.length ≤ 100000) (x : Id2) (w : World) (hA : CellsAt w w.heap.size A (itemCells a)) :
    Calls Try.prog 42 #[.slice A a.length c, .agg #[.int .u64 x.1, .int .u64 x.2]] w fun e w' => e = .returned (.int .i64 (posI a x)) ∧ Kept w w' := by
  have HK := Lib.hid ((Kept.refl w).alloc (.cells #[.int .u64 x.1, .int .u64 x.2] 29))
  have HI := Lib.hid (indexI_any A c a hl w.heap.size x _ (hA.kept HK.out) (HasCells.new w #[.int .u64 x.1, .int .u64 x.2] 29 w.heap.size rfl))
  clear hA
  generalize hn : a.length = n at *
  clear hn
  go_enter Try.func42, Try.ntmps42
  go_wp2_with fail
  refine HI.out.mono ?_
  rintro e W1 ⟨rfl, k1⟩
  have K1 := Lib.hid (HK.out.trans k1)
  clear k1
  go_wp2_with fail
  go_ret
  exact ⟨rfl, K1.out⟩
theorem posI_some {a : List It} {x : Id2} {k : Nat} (h : posI a x = (k : Int)) : k < a.length ∧ (itA a k).x = x := by
  unfold posI posV at h
  cases q : posN (idsI a) x with
  | none => rw [q] at h; simp only at h; omega
  | some i =>
    rw [q] at h
    have e : i = k := by simp only at h; omega
    subst e
    have h1 := posN_some q
    unfold idsI at h1
    rw [List.getElem?_map] at h1
    cases r : a[i]? with
    | none => rw [r] at h1; cases h1
    | some t =>
      rw [r] at h1
      have hi := (List.getElem?_eq_some_iff.1 r).1
      refine ⟨hi, ?_⟩
      unfold itA
      rw [r]
      simpa using h1
theorem posI_none {a : List It} {x : Id2} (h : posI a x < 0) : ∀ k, k < a.length → (itA a k).x ≠ x := by
  unfold posI posV at h
  cases q : posN (idsI a) x with
  | some i => rw [q] at h; simp only at h; omega
  | none =>
    have h1 := posN_none.1 q
    intro k hk e
    refine h1 ?_
    unfold idsI
    rw [List.mem_map]
    exact ⟨a[k], List.getElem_mem hk, by rw [← itA_get hk]; exact e⟩
theorem posI_ge (a : List It) (x : Id2) : -1 ≤ posI a x := by
  unfold posI posV
  cases posN (idsI a) x with
  | none => simp
  | some i => simp only; omega
theorem posI_way (a : List It) (x : Id2) : (posI a x = -1 ∧ ∀ k, k < a.length → (itA a k).x ≠ x) ∨ ∃ k : Nat, posI a x = (k : Int) ∧ k < a.length ∧ (itA a k).x = x := by
  have h := posI_ge a x
  by_cases e : posI a x < 0
  · exact Or.inl ⟨by omega, posI_none e⟩
  · obtain ⟨k, hk⟩ : ∃ k : Nat, posI a x = (k : Int) := ⟨(posI a x).toNat, by omega⟩
    exact Or.inr ⟨k, hk, posI_some hk⟩

end Go.Proofs.Ytabmdilhfiembaa
