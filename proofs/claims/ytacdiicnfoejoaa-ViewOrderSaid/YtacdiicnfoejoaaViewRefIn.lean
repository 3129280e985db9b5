/-
  The contracts of the given package marigoldref16: what may come, how often a vote is there, where a name is, and its slot.
-/
import Derived.Test.YtacdiicnfoejoaaViewSame
import Derived.Test.YtacdiicnfoejoaaViewFacts
import Derived.Test.YtacdiicnfoejoaaTreeRefG
import Derived.Test.YtacdiicnfoejoaaDutyRefG
import Derived.Test.YtacdiicnfoejoaaTreeG
namespace Go.Proofs.Ytacdiicnfoejoaa
set_option maxRecDepth 100000
set_option linter.unusedVariables false
set_option linter.unusedSimpArgs false
set_option linter.unusedSimpArgs false
set_option linter.unusedVariables false
open Go.ChangeShapes Go.WideShapes Go.ChangeAt Go.RowKit

theorem posV_yes {l : List Bk} {x : Id2} {i : Nat} (h : posB l x = some i) : posV (namesB l) x = (i : Int) := by
  unfold posV
  rw [show posN (namesB l) x = some i from h]
theorem posV_no {l : List Bk} {x : Id2} (h : posB l x = none) : posV (namesB l) x = -1 := by
  unfold posV
  rw [show posN (namesB l) x = none from h]
/-! ### What may come -/
/-! ### How often a vote is there -/
def cntV (l : List Vt) (v : Vt) : Nat := l.countP fun x => decide (x = v)
theorem cntV_le (l : List Vt) (v : Vt) : cntV l v ≤ l.length := List.countP_le_length
theorem cntV_step {l : List Vt} {v : Vt} {j : Nat} (hj : j < l.length) : cntV (l.take (j + 1)) v = cntV (l.take j) v + if l[j] = v then 1 else 0 := by
  unfold cntV
  rw [List.take_succ_eq_append_getElem hj, List.countP_append]
  congr 1
  by_cases h : l[j] = v <;> simp [h]
theorem cntV_pos {l : List Vt} {v : Vt} : 0 < cntV l v ↔ v ∈ l := by
  unfold cntV
  rw [List.countP_pos_iff]
  simp
theorem cntV_zero {l : List Vt} {v : Vt} : cntV l v = 0 ↔ v ∉ l := by
  have := cntV_pos (l := l) (v := v)
  constructor
  · intro h q; have := this.2 q; omega
  · intro h
    rcases Nat.eq_zero_or_pos (cntV l v) with q | q
    · exact q
    · exact absurd (this.1 q) h
attribute [local go_sem high] eqVd in
set_option maxRecDepth 100000 in
set_option maxHeartbeats 1600000 in
theorem refVotes16_any (A : Option Addr) (c : Nat) (l : List Vt) (hl : l.length ≤ 1000000) (v : Vt) (w : World) (hA : CellsAt w w.heap.size A (votesCells l)) :
    Calls Try.prog 54 #[.slice A l.length c, .agg #[.int .i64 v.f, .int .i64 v.s, .int .u64 v.p.1, .int .u64 v.p.2]] w fun e w' => e = .returned (.int .i64 (cntV l v)) ∧ Kept w w' := by
  have HA := Lib.hid (hA.kept ((Kept.refl w).alloc (.cells #[.int .i64 v.f, .int .i64 v.s, .int .u64 v.p.1, .int .u64 v.p.2] 45)))
  have HC := Lib.hid (HasCells.new w #[.int .i64 v.f, .int .i64 v.s, .int .u64 v.p.1, .int .u64 v.p.2] 45 w.heap.size rfl)
  have HK := Lib.hid ((Kept.refl w).alloc (.cells #[.int .i64 v.f, .int .i64 v.s, .int .u64 v.p.1, .int .u64 v.p.2] 45))
  clear hA
  go_enter Try.func54, Try.ntmps54
  go_wp2_with fail
  generalize w.alloc (.cells #[.int .i64 v.f, .int .i64 v.s, .int .u64 v.p.1, .int .u64 v.p.2] 45) = W at *
  generalize w.heap.size = z0 at *
  go_loopw [5, 6] (fun n i w' => ∃ j : Nat, j ≤ l.length ∧ i = .int .i64 (j : Nat) ∧ n = .int .i64 (cntV (l.take j) v : Nat) ∧ Kept W w') (fun _ i _ => l.length - (intOf i).toNat)
  case atStart => exact ⟨0, by omega, rfl, rfl, Kept.refl _⟩
  case round =>
    obtain ⟨j, hj, rfl, rfl, hKr⟩ := hrel
    have HR := Lib.hid hKr
    clear hKr
    by_cases hlt : j < l.length
    · obtain ⟨z, o, rfl, hb, c0, c1, c2, c3⟩ := vote_at (HA.out.kept HR.out) hlt
      obtain ⟨d0, d1, d2, d3⟩ := (HC.out.kept HR.out).four
      have hzb := (HC.out.kept HR.out).1
      have HS := Lib.hid (cntV_step (v := v) hlt)
      have hle := Nat.le_trans (cntV_le (l.take j) v) (List.length_take_le j l)
      generalize cntV (l.take j) v = n at *
      generalize l[j] = x at *
      by_cases hxy : x = v
      · have HE := Lib.hid (show cntV (l.take (j + 1)) v = n + 1 by rw [HS.out, if_pos hxy])
        have hdd : decide (x = v) = true := decide_eq_true hxy
        clear hxy HS
        go_wp2_with fail
        go_quiet (fail)
        go_wp2_with fail
        go_roundw
        case rel => exact ⟨j + 1, by omega, by go_num, by rw [HE.out]; go_num, HR.out.drewN _⟩
        case measure => simp [intOf]; omega
      · have HE := Lib.hid (show cntV (l.take (j + 1)) v = n by rw [HS.out, if_neg hxy]; rfl)
        have hdd : decide (x = v) = false := decide_eq_false hxy
        clear hxy HS
        go_wp2_with fail
        go_quiet (fail)
        go_wp2_with fail
        go_roundw
        case rel => exact ⟨j + 1, by omega, by go_num, by rw [HE.out], HR.out.drewN _⟩
        case measure => simp [intOf]; omega
    · have hjl : j = l.length := by omega
      subst hjl
      rw [List.take_length]
      go_wp2_with fail
      go_ret
      exact ⟨rfl, HK.out.trans HR.out⟩

end Go.Proofs.Ytacdiicnfoejoaa
