/-
  The contract of All of the given package marigoldref16: the same but for order.
-/
import Derived.Test.YtacdiicnfoejoaaViewRefJoin
namespace Go.Proofs.Ytacdiicnfoejoaa
set_option maxRecDepth 100000
set_option linter.unusedVariables false
set_option linter.unusedSimpArgs false
set_option linter.unusedSimpArgs false
set_option linter.unusedVariables false
open Go.ChangeShapes Go.WideShapes Go.ChangeAt Go.RowKit

def allW (l : List Bk) (v : List Vt) (m : List Bk) (u : List Vt) : Bool := decide (l.length = m.length) && (decide (v.length = u.length) && (decide ((joinL l m).length = l.length) && decide ((joinL v u).length = v.length)))
theorem allW_yes {l m : List Bk} {v u : List Vt} (h1 : l.Nodup) (h2 : m.Nodup) (h3 : v.Nodup) (h4 : u.Nodup) (hb : ∀ x, x ∈ l ↔ x ∈ m) (hv : ∀ x, x ∈ v ↔ x ∈ u) : allW l v m u = true := by
  unfold allW
  rw [joinL_sub fun x hx => (hb x).2 hx, joinL_sub fun x hx => (hv x).2 hx, nodup_len h1 h2 hb, nodup_len h3 h4 hv]
  simp
set_option maxRecDepth 100000 in
set_option maxHeartbeats 6400000 in
theorem refAllV_any (lA : Option Addr) (lc : Nat) (l : List Bk) (vA : Option Addr) (vc : Nat) (v : List Vt) (mA : Option Addr) (mc : Nat) (m : List Bk) (uA : Option Addr) (uc : Nat) (u : List Vt) (w : World) (hl : l.length ≤ 10000) (hv : v.length ≤ 10000) (hm : m.length ≤ 10000) (hu : u.length ≤ 10000) (hL : CellsAt w w.heap.size lA (blockCells l)) (hV : CellsAt w w.heap.size vA (votesCells v)) (hM : CellsAt w w.heap.size mA (blockCells m)) (hU : CellsAt w w.heap.size uA (votesCells u)) :
    Calls Try.prog 17 #[.agg #[.slice lA l.length lc, .slice vA v.length vc], .agg #[.slice mA m.length mc, .slice uA u.length uc]] w fun e w' => e = .returned (.bool (allW l v m u)) ∧ Kept w w' := by
  by_cases h1 : l.length = m.length
  · by_cases h2 : v.length = u.length
    · have HJ := Lib.hid (fun w' (q : Kept w w') => refJoin_any lA lc l vA vc v mA mc m uA uc u w' hl hv hm hu (hL.kept q) (hV.kept q) (hM.kept q) (hU.kept q))
      clear hL hV hM hU
      have HE := Lib.hid (show allW l v m u = (decide ((joinL l m).length = l.length) && decide ((joinL v u).length = v.length)) by unfold allW; rw [decide_eq_true h1, decide_eq_true h2]; rfl)
      rw [← h1, ← h2] at HJ ⊢
      clear h1 h2
      go_enter Try.func17, Try.ntmps17
      go_wp2_with fail
      have K0 := Lib.hid (((Kept.refl w).alloc (.cells #[.slice lA l.length lc, .slice vA v.length vc] 29)).alloc (.cells #[.slice mA l.length mc, .slice uA v.length uc] 29))
      have HB0 := Lib.hid ((HasCells.new w #[.slice lA l.length lc, .slice vA v.length vc] 29 (w.heap.size) (by simp)).alloc (.cells #[.slice mA l.length mc, .slice uA v.length uc] 29))
      have HB1 := Lib.hid (HasCells.new (w.alloc (.cells #[.slice lA l.length lc, .slice vA v.length vc] 29)) #[.slice mA l.length mc, .slice uA v.length uc] 29 (w.heap.size + 1) (by simp))
      generalize ((w.alloc (.cells #[.slice lA l.length lc, .slice vA v.length vc] 29)).alloc (.cells #[.slice mA l.length mc, .slice uA v.length uc] 29)) = W0 at *
      generalize w.heap.size + 1 = z1 at *
      generalize w.heap.size = z0 at *
      have KB0 := Lib.hid (Kept.refl W0)
      refine (HJ.out W0 K0.out).mono ?_
      rintro e W1 ⟨A, c, B, d, rfl, hb, hv3⟩
      have KJ := Lib.hid hb.2
      clear hb hv3 HJ
      obtain ⟨b00, b01⟩ := (HB0.out.kept KJ.out).two
      have bz0 := (HB0.out.kept KJ.out).1
      have HF := Lib.hid ((K0.out.trans KJ.out).alloc (.cells #[.slice A (joinW ⟨l, v⟩ ⟨m, u⟩).b.length c, .slice B (joinW ⟨l, v⟩ ⟨m, u⟩).v.length d] 29))
      have HP := Lib.hid (show ((joinW ⟨l, v⟩ ⟨m, u⟩).b.length, (joinW ⟨l, v⟩ ⟨m, u⟩).v.length) = ((joinL l m).length, (joinL v u).length) from rfl)
      generalize (joinW ⟨l, v⟩ ⟨m, u⟩).b.length = p at *
      generalize (joinW ⟨l, v⟩ ⟨m, u⟩).v.length = q at *
      by_cases h1 : p = l.length
      · by_cases h2 : q = v.length
        · have g1 : ((p : Int) == (l.length : Int)) = true := by rw [beq_iff_eq]; omega
          have g2 : ((q : Int) == (v.length : Int)) = true := by rw [beq_iff_eq]; omega
          have g3 : decide (p = l.length) = true := decide_eq_true h1
          have g4 : decide (q = v.length) = true := decide_eq_true h2
          clear h1 h2
          go_wp2_with fail
          go_ret
          exact ⟨by rw [HE.out, ← (show p = (joinL l m).length from congrArg Prod.fst HP.out), ← (show q = (joinL v u).length from congrArg Prod.snd HP.out)]; simp [g3, g4], HF.out⟩
        · have g1 : ((p : Int) == (l.length : Int)) = true := by rw [beq_iff_eq]; omega
          have g2 : ((q : Int) == (v.length : Int)) = false := by rw [beq_eq_false_iff_ne]; omega
          have g4 : decide (q = v.length) = false := decide_eq_false h2
          clear h1 h2
          go_wp2_with fail
          go_ret
          exact ⟨by rw [HE.out, ← (show p = (joinL l m).length from congrArg Prod.fst HP.out), ← (show q = (joinL v u).length from congrArg Prod.snd HP.out)]; simp [g4], HF.out⟩
      · have g1 : ((p : Int) == (l.length : Int)) = false := by rw [beq_eq_false_iff_ne]; omega
        have g3 : decide (p = l.length) = false := decide_eq_false h1
        clear h1
        go_wp2_with fail
        go_ret
        exact ⟨by rw [HE.out, ← (show p = (joinL l m).length from congrArg Prod.fst HP.out), ← (show q = (joinL v u).length from congrArg Prod.snd HP.out)]; simp [g3], HF.out⟩
    · have HJ := Lib.hid (fun w' (q : Kept w w') => refJoin_any lA lc l vA vc v mA mc m uA uc u w' hl hv hm hu (hL.kept q) (hV.kept q) (hM.kept q) (hU.kept q))
      clear hL hV hM hU
      have HE := Lib.hid (show allW l v m u = false by unfold allW; simp [h2])
      have g2 : ¬ (v.length : Int) = (u.length : Int) := by omega
      have g2' : ((v.length : Int) == (u.length : Int)) = false := by rw [beq_eq_false_iff_ne]; omega
      clear h2
      rw [← h1]
      clear h1
      go_enter Try.func17, Try.ntmps17
      go_wp2_with fail
      have K0 := Lib.hid (((Kept.refl w).alloc (.cells #[.slice lA l.length lc, .slice vA v.length vc] 29)).alloc (.cells #[.slice mA l.length mc, .slice uA u.length uc] 29))
      have HB0 := Lib.hid ((HasCells.new w #[.slice lA l.length lc, .slice vA v.length vc] 29 (w.heap.size) (by simp)).alloc (.cells #[.slice mA l.length mc, .slice uA u.length uc] 29))
      have HB1 := Lib.hid (HasCells.new (w.alloc (.cells #[.slice lA l.length lc, .slice vA v.length vc] 29)) #[.slice mA l.length mc, .slice uA u.length uc] 29 (w.heap.size + 1) (by simp))
      generalize ((w.alloc (.cells #[.slice lA l.length lc, .slice vA v.length vc] 29)).alloc (.cells #[.slice mA l.length mc, .slice uA u.length uc] 29)) = W0 at *
      generalize w.heap.size + 1 = z1 at *
      generalize w.heap.size = z0 at *
      have KB0 := Lib.hid (Kept.refl W0)
      go_ret
      exact ⟨by rw [HE.out]; rfl, K0.out.trans KB0.out⟩
  · have HE := Lib.hid (show allW l v m u = false by unfold allW; simp [h1])
    have g1 : ((l.length : Int) == (m.length : Int)) = false := by rw [beq_eq_false_iff_ne]; omega
    have g1' : ¬ (l.length : Int) = (m.length : Int) := by omega
    go_enter Try.func17, Try.ntmps17
    go_wp2_with fail
    have K0 := Lib.hid (((Kept.refl w).alloc (.cells #[.slice lA l.length lc, .slice vA v.length vc] 29)).alloc (.cells #[.slice mA m.length mc, .slice uA u.length uc] 29))
    have HL := Lib.hid (hL.kept K0.out)
    clear hL
    have HV := Lib.hid (hV.kept K0.out)
    clear hV
    have HM := Lib.hid (hM.kept K0.out)
    clear hM
    have HU := Lib.hid (hU.kept K0.out)
    clear hU
    have HB0 := Lib.hid ((HasCells.new w #[.slice lA l.length lc, .slice vA v.length vc] 29 (w.heap.size) (by simp)).alloc (.cells #[.slice mA m.length mc, .slice uA u.length uc] 29))
    have HB1 := Lib.hid (HasCells.new (w.alloc (.cells #[.slice lA l.length lc, .slice vA v.length vc] 29)) #[.slice mA m.length mc, .slice uA u.length uc] 29 (w.heap.size + 1) (by simp))
    generalize ((w.alloc (.cells #[.slice lA l.length lc, .slice vA v.length vc] 29)).alloc (.cells #[.slice mA m.length mc, .slice uA u.length uc] 29)) = W0 at *
    generalize w.heap.size + 1 = z1 at *
    generalize w.heap.size = z0 at *
    have KB0 := Lib.hid (Kept.refl W0)
    go_ret
    exact ⟨by rw [HE.out]; rfl, K0.out.trans KB0.out⟩

end Go.Proofs.Ytacdiicnfoejoaa
