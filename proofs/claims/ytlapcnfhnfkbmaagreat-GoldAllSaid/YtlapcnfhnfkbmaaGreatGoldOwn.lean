/-
  Votes of validators; lists of votes held against one another, whether they are the same or not.
-/
import Derived.Test.YtlapcnfhnfkbmaaGreatGoldMath
import Derived.Test.YtlapcnfhnfkbmaaGreatVoteSame
import Derived.Test.YtlapcnfhnfkbmaaGreatDutyG
namespace Go.Proofs.YtlapcnfhnfkbmaaGreat
set_option maxRecDepth 100000
set_option linter.unusedVariables false
set_option linter.unusedSimpArgs false
set_option linter.unusedSimpArgs false
set_option linter.unusedVariables false
open Go.ChangeShapes Go.WideShapes Go.ChangeAt Go.RowKit

def ownG (k : Cf) (A : List Vt) : List Vt := A.filter fun x => decide (0 ≤ x.f ∧ x.f < (k.ws.length : Int))
theorem ownG_hit {k : Cf} {A : List Vt} {j : Nat} (hj : j < A.length) (h : 0 ≤ A[j].f ∧ A[j].f < (k.ws.length : Int)) : ownG k (A.take (j + 1)) = ownG k (A.take j) ++ [A[j]] := by
  unfold ownG
  rw [List.take_succ_eq_append_getElem hj, List.filter_append]
  congr 1
  simp [h]
theorem ownG_miss {k : Cf} {A : List Vt} {j : Nat} (hj : j < A.length) (h : ¬ (0 ≤ A[j].f ∧ A[j].f < (k.ws.length : Int))) : ownG k (A.take (j + 1)) = ownG k (A.take j) := by
  unfold ownG
  rw [List.take_succ_eq_append_getElem hj, List.filter_append]
  have : List.filter (fun x : Vt => decide (0 ≤ x.f ∧ x.f < (k.ws.length : Int))) [A[j]] = [] := by
    rw [List.filter_eq_nil_iff]
    intro x hx
    rw [List.mem_singleton] at hx
    subst hx
    simpa using h
  rw [this, List.append_nil]
theorem ownG_le (k : Cf) (A : List Vt) : (ownG k A).length ≤ A.length := List.length_filter_le _ _
theorem golds_nil {k : Cf} {slot : Int} {v R : List Vt} (h : Golds k slot v R) (hn : ∀ who, inC k slot who = false) : R = [] := h.unique (golds_none hn)
theorem duty_out {k : Cf} {slot : Int} (h : slot < 1 ∨ 1048576 < slot) : dutyC k slot = false := by
  cases q : dutyC k slot with
  | false => rfl
  | true => have := dutyC_yes q; omega
theorem own_same {k : Cf} {slot : Int} {v R al : List Vt} (h1 : 1 ≤ slot) (h2 : slot ≤ 1048576) (hep : k.ep = 1) (hm : mayC k = true) (hR : Golds k slot v R) (hA : Cnts v (isQ slot) al) : R = ownG k al := by
  rw [hR.unique (golds_of (k := k) hA)]
  unfold goldL ownG
  refine List.filter_congr fun x _ => ?_
  have hd : dutyC k slot = true := by rw [dutyC_slot hm]; exact decide_eq_true ⟨h1, h2⟩
  have hme : memC k slot x.f.toNat = true := by unfold memC; rw [hep]; exact mem_one _ _ _ _
  unfold inC validC
  rw [hd, hme]
  simp
attribute [local go_sem high] eqV in
set_option maxRecDepth 100000 in
set_option maxHeartbeats 1600000 in
/-- Whatever two lists: an answer comes back. -/
theorem same_back (A : Option Addr) (ca : Nat) (B : Option Addr) (cb : Nat) (l m : List Vt) (w : World) (hl : l.length ≤ 1000000) (hm : m.length ≤ 1000000) (hA : CellsAt w w.heap.size A (votesCells l)) (hB : CellsAt w w.heap.size B (votesCells m)) :
    Calls Tryz.prog 11 #[.slice A l.length ca, .slice B m.length cb] w fun e w' => ∃ b, e = .returned (.bool b) ∧ Kept w w' := by
  have HA := Lib.hid hA
  have HB := Lib.hid hB
  clear hA hB
  go_enter Tryz.func11, Tryz.ntmps11
  by_cases hlm : l.length = m.length
  · have HLm := Lib.hid hlm
    have hlb : ((l.length : Int) != (m.length : Int)) = false := by rw [hlm]; simp
    clear hlm
    go_wp2_with fail
    go_loopw [5] (fun i w' => ∃ j : Nat, j ≤ l.length ∧ i = .int .i64 (j : Nat) ∧ Kept w w') (fun i _ => l.length - (intOf i).toNat)
    case atStart => exact ⟨0, by omega, rfl, Kept.refl _⟩
    case round =>
      obtain ⟨j, hj, rfl, hKr⟩ := hrel
      have HR := Lib.hid hKr
      clear hKr
      by_cases hlt : j < l.length
      · have hltm : j < m.length := by have := HLm.out; omega
        obtain ⟨z, o, rfl, hb, c0, c1, c2, c3⟩ := vote_at (HA.out.kept HR.out) hlt
        obtain ⟨z', o', rfl, hb', d0, d1, d2, d3⟩ := vote_at (HB.out.kept HR.out) hltm
        generalize l[j] = x at *
        generalize m[j] = y at *
        cases hxy : sameV x y with
        | true =>
          go_wp2_with fail
          go_quiet (fail)
          go_wp2_with fail
          go_roundw
          case rel => exact ⟨j + 1, by omega, by go_num, HR.out.drewN _⟩
          case measure => simp [intOf]; omega
        | false =>
          go_wp2_with fail
          go_quiet (fail)
          go_wp2_with fail
          go_ret
          exact ⟨_, rfl, HR.out.drewN _⟩
      · have hjl : j = l.length := by omega
        subst hjl
        go_wp2_with fail
        go_ret
        exact ⟨_, rfl, HR.out⟩
  · have hlb : ((l.length : Int) != (m.length : Int)) = true := by rw [bne_iff_ne]; omega
    clear hlm
    go_wp2_with fail
    go_ret
    exact ⟨_, rfl, Kept.refl _⟩

end Go.Proofs.YtlapcnfhnfkbmaaGreat
