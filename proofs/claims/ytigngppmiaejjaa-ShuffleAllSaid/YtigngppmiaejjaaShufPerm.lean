/-
  The contract of package shuffle's call Perm.
-/
import Derived.Test.YtigngppmiaejjaaShufAt
import Derived.Deep.OwnRows
namespace Go.Proofs.Ytigngppmiaejjaa
open Go.ChangeShapes Go.WideShapes Go.ChangeAt Go.RowKit

theorem rowIs_kept {w w' : World} {g : Nat} {t : TypeId} {n : Nat} {f : Nat → Value} (h : w.rowIs g t n f) (k : Kept w w') : w'.rowIs g t n f := h.of_block (k.heap h.lt)
theorem rowIs_but {w w' : World} {b g : Nat} {t : TypeId} {n : Nat} {f : Nat → Value} (h : w.rowIs g t n f) (k : But b w w') (hg : ¬ g = b) : w'.rowIs g t n f := h.of_block (k.block g h.lt hg)
/-- What lies in Perm's list when k places are told. -/
def toldV (seed n k j : Nat) : Value := if j < k then .int .i64 (atN seed n j) else .int .i64 0
def atV (seed n j : Nat) : Value := .int .i64 (atN seed n j)
theorem makeInts (n : Nat) (hn : n ≤ 1000) (w : World) : (Instr.makeSlice 25 (.int .i64 (n : Int)) (.int .i64 (n : Int))).run Try.prog w = .ok (.slice (some ⟨w.heap.size, 0, none⟩) n n) (w.alloc (.cells (madeCells #[.int .i64 0] n) 3)) :=
  run_make_row' 25 3 (.int .i64 0) 8 Try.underlying25 (by kernel_rfl) rfl .i64 .i64 n (by omega) (by omega) w

theorem Rnds.elsewhere {b seed n k : Nat} {w : World} (h : Rnds b seed n k w) {a : Addr} (ha : ¬ b = a.block) (u : Value) : Rnds b seed n k (w.setCell a u) := by
  have c : ∀ o, (w.setCell a u).cell? ⟨b, o, none⟩ = w.cell? ⟨b, o, none⟩ := fun o => World.cell?_setCell_other _ _ _ _ (fun e => ha (by rw [e]))
  refine ⟨by simpa using h.lt, by rw [c]; exact h.cseed, by rw [c]; exact h.cn, fun r hr => ?_, by rw [c]; exact h.asked, fun o => by simpa using h.froze o⟩
  have := h.round r hr
  unfold RoundAt at this ⊢
  simp only [c]
  exact this

set_option maxRecDepth 100000 in
set_option maxHeartbeats 1600000 in
theorem perm_yes (seed n : Nat) (w : World) (hs : seed < 18446744073709551616) (hn0 : 1 ≤ n) (hn : n ≤ 1000) :
    Calls Try.prog 13 #[.int .u64 seed, .int .i64 n] w fun e w' => ∃ g, e = .returned (.slice (some ⟨g, 0, none⟩) n n) ∧ w'.rowIs g 3 n (atV seed n) ∧ w.heap.size ≤ g ∧ Kept w w' := by
  have HD := Lib.hid (show sizeN n = true from decide_eq_true (by omega))
  have hmk := makeInts n hn
  go_enter Try.func13, Try.ntmps13
  go_wp2_with fail
  refine (isSize_any _ _).mono ?_
  rintro e w' ⟨rfl, rfl⟩
  rw [HD.out]
  go_wp2_with (first
    | refine wpList_build_eq rfl _ _ rfl (freshC seed n) (freshC_built seed n) ?_
    | refine wpList_store_new rfl _ _ _ rfl _ (freshC seed n) rfl rfl freshC_info rfl (freshC_one seed n) ?_)
  have hR0 : Rnds w.heap.size seed n 0 ((w.alloc (.cells (freshC seed n) 50)).alloc (.cells (madeCells #[.int .i64 0] n) 3)) := (fresh_rnds seed n w _).kept ((Kept.refl _).alloc _)
  have hL0 : ((w.alloc (.cells (freshC seed n) 50)).alloc (.cells (madeCells #[.int .i64 0] n) 3)).rowIs (w.heap.size + 1) 3 n (toldV seed n 0) := by
    have h := World.rowIs_made (w.alloc (.cells (freshC seed n) 50)) (.int .i64 0) n 3
    rw [show (w.alloc (.cells (freshC seed n) 50)).heap.size = w.heap.size + 1 by simp] at h
    exact h.congr fun i _ => by simp [toldV]
  have hK0 : Kept w ((w.alloc (.cells (freshC seed n) 50)).alloc (.cells (madeCells #[.int .i64 0] n) 3)) := ((Kept.refl w).alloc _).alloc _
  generalize (w.alloc (.cells (freshC seed n) 50)).alloc (.cells (madeCells #[.int .i64 0] n) 3) = W0 at *
  have HR0 := Lib.hid hR0
  have HL0 := Lib.hid hL0
  have HK0 := Lib.hid hK0
  clear hR0 hL0 hK0 hmk
  go_loopw [17] (fun c w' => ∃ j : Nat, j ≤ n ∧ c = .int .i64 j ∧ Rnds w.heap.size seed n j w' ∧ w'.rowIs (w.heap.size + 1) 3 n (toldV seed n j) ∧ Kept w w') (fun c _ => n - (intOf c).toNat)
  case atStart => exact ⟨0, by omega, rfl, HR0.out, HL0.out, HK0.out⟩
  case round =>
    obtain ⟨j, hj, rfl, hR, hL, hK⟩ := hrel
    have HR := Lib.hid hR
    have HL := Lib.hid hL
    have HK := Lib.hid hK
    clear hR hL hK
    by_cases hlt : j < n
    · go_wp2_with fail
      refine (next_any w.heap.size seed n j _ (by omega) HR.out).mono ?_
      rintro e W1 ⟨rfl, hR, hB⟩
      have HR1 := Lib.hid hR
      have HL1 := Lib.hid (rowIs_but HL.out hB (by omega))
      have HK1 := Lib.hid (hB.kept HK.out (Nat.le_refl _))
      clear hR hB HR HL HK
      go_wp2_with fail
      refine (forth_any w.heap.size seed n (j + 1) j W1 hs hn0 hn hlt HR1.out).mono ?_
      rintro e W2 ⟨rfl, hR, hB⟩
      have HR2 := Lib.hid hR
      have HL2 := Lib.hid (rowIs_but HL1.out hB (by omega))
      have HK2 := Lib.hid (hB.kept HK1.out (Nat.le_refl _))
      have hc := HL2.out.cell hlt
      have hz := HL2.out.frozen j
      clear hR hB HR1 HL1 HK1
      go_wp2_with fail
      go_roundw
      case rel =>
        refine ⟨j + 1, by omega, by go_num, HR2.out.elsewhere (by simp) _, (HL2.out.set j (.int .i64 (atN seed n j))).congr fun i _ => ?_, HK2.out.setCell (p := ⟨w.heap.size + 1, j, none⟩) (by simp) _⟩
        by_cases e : i = j
        · subst e; simp [toldV]
        · simp only [toldV, e, if_false]
          by_cases e2 : i < j
          · rw [if_pos e2, if_pos (by omega)]
          · rw [if_neg e2, if_neg (by omega)]
      case measure => simp [intOf]; omega
    · have hjn : j = n := by omega
      subst hjn
      go_wp2_with fail
      go_ret
      refine ⟨_, rfl, HL.out.congr fun i hi => ?_, by omega, HK.out⟩
      simp only [toldV, atV]
      rw [if_pos hi]

set_option maxHeartbeats 800000 in
theorem perm_no (seed : Nat) (n : Int) (w : World) (h : sizeN n = false) :
    Calls Try.prog 13 #[.int .u64 seed, .int .i64 n] w fun e w' => e = .returned (.slice none 0 0) ∧ Kept w w' := by
  have HD := Lib.hid h
  clear h
  go_enter Try.func13, Try.ntmps13
  go_wp2_with fail
  refine (isSize_any _ _).mono ?_
  rintro e w' ⟨rfl, rfl⟩
  rw [HD.out]
  go_wp2_with fail
  go_ret
  exact ⟨rfl, Kept.refl _⟩

end Go.Proofs.Ytigngppmiaejjaa
