/-
  What the laws of layer 16 ask again and again: is a view small, are two the same, a view joined.
-/
import Derived.Test.YtacdiicnfoejoaaViewAwake
import Derived.Test.YtacdiicnfoejoaaViewSame
import Derived.Test.YtacdiicnfoejoaaViewRefAll
namespace Go.Proofs.Ytacdiicnfoejoaa
set_option maxRecDepth 100000
set_option linter.unusedVariables false
set_option linter.unusedSimpArgs false
set_option linter.unusedSimpArgs false
set_option linter.unusedVariables false
open Go.ChangeShapes Go.WideShapes Go.ChangeAt Go.RowKit

def few16C (l : List Bk) (v : List Vt) (n : Int) : Bool := decide ((l.length : Int) ≤ n) && decide ((v.length : Int) ≤ n)
theorem few16_yes {l : List Bk} {v : List Vt} {n : Nat} (h : few16C l v n = true) : l.length ≤ n ∧ v.length ≤ n := by
  unfold few16C at h
  rw [Bool.and_eq_true, decide_eq_true_iff, decide_eq_true_iff] at h
  omega
set_option maxRecDepth 100000 in
set_option maxHeartbeats 1600000 in
theorem few16_any (lA : Option Addr) (lc : Nat) (l : List Bk) (vA : Option Addr) (vc : Nat) (v : List Vt) (n : Int) (w : World) :
    Calls Try.prog 11 #[.agg #[.slice lA l.length lc, .slice vA v.length vc], .int .i64 n] w fun e w' => e = .returned (.bool (few16C l v n)) ∧ Kept w w' := by
  have HK := Lib.hid ((Kept.refl w).alloc (.cells #[.slice lA l.length lc, .slice vA v.length vc] 29))
  by_cases h1 : (l.length : Int) ≤ n
  · have g1 : decide ((l.length : Int) ≤ n) = true := decide_eq_true h1
    by_cases h2 : (v.length : Int) ≤ n
    · have g2 : decide ((v.length : Int) ≤ n) = true := decide_eq_true h2
      have HE := Lib.hid (show few16C l v n = true by unfold few16C; rw [g1, g2]; rfl)
      clear h1 h2
      go_enter Try.func11, Try.ntmps11
      go_wp2_with fail
      go_ret
      exact ⟨by rw [HE.out]; rfl, HK.out⟩
    · have g2 : decide ((v.length : Int) ≤ n) = false := decide_eq_false h2
      have HE := Lib.hid (show few16C l v n = false by unfold few16C; rw [g1, g2]; rfl)
      clear h1 h2
      go_enter Try.func11, Try.ntmps11
      go_wp2_with fail
      go_ret
      exact ⟨by rw [HE.out]; rfl, HK.out⟩
  · have g1 : decide ((l.length : Int) ≤ n) = false := decide_eq_false h1
    have HE := Lib.hid (show few16C l v n = false by unfold few16C; rw [g1]; rfl)
    clear h1
    go_enter Try.func11, Try.ntmps11
    go_wp2_with fail
    go_ret
    exact ⟨by rw [HE.out]; rfl, HK.out⟩
/-- Two views of the same lists are the same. -/
theorem same_yes (A : Option Addr) (c : Nat) (B : Option Addr) (d : Nat) (A1 : Option Addr) (c1 : Nat) (B1 : Option Addr) (d1 : Nat) (b : List Bk) (v : List Vt) (w : World) (hb : b.length ≤ 1000000) (hv : v.length ≤ 1000000)
    (h1 : CellsAt w w.heap.size A (blockCells b)) (h2 : CellsAt w w.heap.size B (votesCells v)) (h3 : CellsAt w w.heap.size A1 (blockCells b)) (h4 : CellsAt w w.heap.size B1 (votesCells v)) :
    Calls Try.prog 14 #[.agg #[.slice A b.length c, .slice B v.length d], .agg #[.slice A1 b.length c1, .slice B1 v.length d1]] w fun e w' => e = .returned (.bool true) ∧ Kept w w' :=
  (refVSame_any A c b B d v A1 c1 b B1 d1 v w hb hv hb hv h1 h2 h3 h4).mono fun e w' h => ⟨by rw [h.1]; simp, h.2⟩
/-- .. and of whichever lists they are held against one another. -/
theorem same_some (A : Option Addr) (c : Nat) (B : Option Addr) (d : Nat) (A1 : Option Addr) (c1 : Nat) (B1 : Option Addr) (d1 : Nat) (b : List Bk) (v : List Vt) (m : List Bk) (u : List Vt) (w : World) (hb : b.length ≤ 1000000) (hv : v.length ≤ 1000000) (hm : m.length ≤ 1000000) (hu : u.length ≤ 1000000)
    (h1 : CellsAt w w.heap.size A (blockCells b)) (h2 : CellsAt w w.heap.size B (votesCells v)) (h3 : CellsAt w w.heap.size A1 (blockCells m)) (h4 : CellsAt w w.heap.size B1 (votesCells u)) :
    Calls Try.prog 14 #[.agg #[.slice A b.length c, .slice B v.length d], .agg #[.slice A1 m.length c1, .slice B1 u.length d1]] w fun e w' => ∃ s : Bool, (b = m → v = u → s = true) ∧ e = .returned (.bool s) ∧ Kept w w' :=
  (refVSame_any A c b B d v A1 c1 m B1 d1 u w hb hv hm hu h1 h2 h3 h4).mono fun e w' h => ⟨_, fun e1 e2 => by simp [e1, e2], h.1, h.2⟩
theorem wfl_sub {l m : List Bk} (h : WfL m) (hs : ∀ b ∈ l, b ∈ m) : WfL l := fun b hb => h b (hs b hb)
theorem wfv_sub {l m : List Vt} (h : WfVs m) (hs : ∀ b ∈ l, b ∈ m) : WfVs l := fun b hb => h b (hs b hb)
theorem wfl_join {l m : List Bk} (h1 : WfL l) (h2 : WfL m) : WfL (joinL l m) := fun b hb => (mem_joinL.1 hb).elim (h1 b) (h2 b)
theorem wfv_join {l m : List Vt} (h1 : WfVs l) (h2 : WfVs m) : WfVs (joinL l m) := fun b hb => (mem_joinL.1 hb).elim (h1 b) (h2 b)
theorem join_take {α : Type} [DecidableEq α] (l m : List α) : (joinL l m).take l.length = l := by
  obtain ⟨n, e, _⟩ := joinL_pre l m
  rw [e, List.take_left]

end Go.Proofs.Ytacdiicnfoejoaa
