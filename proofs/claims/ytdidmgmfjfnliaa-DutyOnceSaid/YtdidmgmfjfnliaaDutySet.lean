/-
  The contract of package duty's call validatorsIn: who is in a list, as the keys of a map.
-/
import Derived.Test.YtdidmgmfjfnliaaDutyComm
import Derived.Maps.OwnIn
import Derived.WalkArith
namespace Go.Proofs.Ytdidmgmfjfnliaa
open Go.ChangeShapes Go.WideShapes Go.ChangeAt Go.RowKit

/-- Block b is a map whose keys, as far as they are validators, are those in l. -/
def SetOf (n : Nat) (l : List Int) (b m : Nat) (D : DataW Unit) (w : World) : Prop := w.ownsMap Try.prog 3 unitElem b m D ∧ ∀ j : Nat, j < n → Maps.has D (.int .i64 (j : Int)) = inList l j

/-- .. which is new, and all that lay in w lies as it was. -/
def NewSet (n : Nat) (l : List Int) (w : World) (b : Nat) (w' : World) : Prop := w.heap.size ≤ b ∧ (∃ m D, SetOf n l b m D w') ∧ Kept w w'

theorem inList_nil (j : Nat) : inList [] j = false := rfl
theorem inList_snoc (l : List Int) (x : Int) (j : Nat) : inList (l ++ [x]) j = (inList l j || decide ((j : Int) = x)) := by
  unfold inList
  rw [Bool.eq_iff_iff]
  simp
theorem SetOf.made (n : Nat) (w : World) : SetOf n [] w.heap.size 0 (.map []) (w.alloc (.map #[] 0)) := ⟨World.ownsMap_made w _ _ _, fun _ _ => rfl⟩
theorem SetOf.kept {n : Nat} {l : List Int} {b m : Nat} {D : DataW Unit} {w w' : World} (h : SetOf n l b m D w) (k : Kept w w') : SetOf n l b m D w' := by
  refine ⟨?_, h.2⟩
  obtain ⟨es, clock, hb, r⟩ := h.1
  exact ⟨es, clock, (k.heap (Array.getElem?_eq_some_iff.1 hb).1).trans hb, r⟩
theorem SetOf.skip {n : Nat} {l : List Int} {b m : Nat} {D : DataW Unit} {w : World} (h : SetOf n l b m D w) {x : Int} (hx : ¬ (0 ≤ x ∧ x < n)) : SetOf n (l ++ [x]) b m D w := by
  refine ⟨h.1, fun j hj => ?_⟩
  rw [h.2 j hj, inList_snoc, decide_eq_false (by omega)]
  simp
theorem has_put {n : Nat} {l : List Int} {D : DataW Unit} (hD : Maps.IsMap D) (h : ∀ j : Nat, j < n → Maps.has D (.int .i64 (j : Int)) = inList l j) (x : Int) (d : DataW Unit) (j : Nat) (hj : j < n) :
    Maps.has (D.put (.int .i64 x) d) (.int .i64 (j : Int)) = inList (l ++ [x]) j := by
  rw [inList_snoc]
  by_cases e : (j : Int) = x
  · subst e
    rw [Maps.has_put_same hD (show WideAt.IsKeyLit (.int .i64 (j : Int)) from trivial)]
    simp
  · rw [Maps.has_put_other (by intro h; cases h; exact e rfl), h j hj, decide_eq_false e]
    simp

theorem take_snoc {l : List Int} {j : Nat} (h : j < l.length) : l.take (j + 1) = l.take j ++ [wAt l j] := by
  rw [List.take_succ_eq_append_getElem h]
  simp [wAt, h]

set_option maxRecDepth 100000 in
set_option maxHeartbeats 1600000 in
theorem ins_any (A : Option Addr) (c : Nat) (k : Cf) (B : Option Addr) (l : List Int) (cb : Nat) (w : World) (hn : k.ws.length ≤ 1000) (hl : l.length ≤ 1000000) (hB : CellsAt w w.heap.size B (intCells l)) :
    Calls Try.prog 32 #[.agg #[.slice A k.ws.length c, .int .u64 k.seed, .int .i64 k.ep, .int .i64 k.nu, .int .i64 k.de], .slice B l.length cb] w fun e w' => ∃ b, e = .returned (.map (some b)) ∧ NewSet k.ws.length l w b w' := by
  have HB := Lib.hid hB
  have hmm := @run_makeMap Try.prog
  clear hB
  go_enter Try.func32, Try.ntmps32
  go_wp2_with fail
  have HC := Lib.hid (HasCells.new w #[.slice A k.ws.length c, .int .u64 k.seed, .int .i64 k.ep, .int .i64 k.nu, .int .i64 k.de] 25 w.heap.size rfl)
  have HK := Lib.hid ((Kept.refl w).alloc (.cells #[.slice A k.ws.length c, .int .u64 k.seed, .int .i64 k.ep, .int .i64 k.nu, .int .i64 k.de] 25))
  have HZ := Lib.hid (show (w.alloc (.cells #[.slice A k.ws.length c, .int .u64 k.seed, .int .i64 k.ep, .int .i64 k.nu, .int .i64 k.de] 25)).heap.size = w.heap.size + 1 by simp)
  generalize w.alloc (.cells #[.slice A k.ws.length c, .int .u64 k.seed, .int .i64 k.ep, .int .i64 k.nu, .int .i64 k.de] 25) = W at *
  have HM := Lib.hid (SetOf.made k.ws.length W)
  go_loopw [11] (fun i w' => ∃ j m D, j ≤ l.length ∧ m ≤ j ∧ i = .int .i64 (j : Nat) ∧ SetOf k.ws.length (l.take j) (w.heap.size + 1) m D w' ∧ Kept W w') (fun i _ => l.length - (intOf i).toNat)
  case atStart =>
    refine ⟨0, 0, .map [], by omega, by omega, rfl, ?_, (Kept.refl W).alloc _⟩
    rw [← HZ.out]
    exact HM.out
  case round =>
    obtain ⟨j, m, D, hj, hmj, rfl, hS, hKr⟩ := hrel
    have HS := Lib.hid hS
    have HR := Lib.hid hKr
    clear hS hKr HM
    by_cases hlt : j < l.length
    · obtain ⟨ad, rfl, hb, hcell⟩ := ints_cell HB.out hlt
      have HT := Lib.hid (take_snoc hlt)
      have hcx : wr.cell? (ad.add j) = some (.int .i64 (wAt l j)) := ((HK.out.trans HR.out).cell (by rw [block_add]; exact hb)).trans hcell
      obtain ⟨c0, c1, c2, c3, c4⟩ := (HC.out.kept HR.out).five
      clear hcell
      generalize wAt l j = x at *
      go_wp2_with fail
      refine (valid_any A c k x _).mono ?_
      rintro e W2 ⟨rfl, k2⟩
      have HR2 := Lib.hid (HR.out.trans k2)
      have HS2 := Lib.hid (HS.out.kept k2)
      clear k2 HR HS c0 c1 c2 c3 c4 hcx
      by_cases hv : 0 ≤ x ∧ x < k.ws.length
      · have HV := Lib.hid (show validC k x = true from decide_eq_true hv)
        have hown := HS2.out.1
        have HP := Lib.hid (has_put hown.isMap HS2.out.2 x (.agg []))
        have hkey : keyOf Try.prog 3 (.int .i64 x) = some (.int .i64 x) := Maps.keyOf_int_mk Try.underlying3 (Go.WalkArith.wf_i64 (by omega))
        have hmx : m < maxLen := by unfold maxLen; omega
        rw [HV.out]
        clear hv
        go_wp2_with (at_mapUpdate; refine wpList_mapUpdate_own _ rfl _ _ _ 46 rfl 3 48 (Maps.int_keyed Try.underlying3) Try.underlying46 _ _ _ _ rfl hown hmx _ _ _ rfl rfl hkey (.agg []) [] unitElem_mk ?_; intro w1 hown1 hgrow1)
        go_roundw
        case rel => exact ⟨j + 1, m + 1, D.put (.int .i64 x) (.agg []), by omega, by omega, by go_num, by rw [HT.out]; exact ⟨hown1, HP.out⟩, HR2.out.grown hgrow1 (fun i hi => by cases hi; rw [HZ.out]; exact Nat.le_refl _)⟩
        case measure => simp [intOf]; omega
      · have HV := Lib.hid (show validC k x = false from decide_eq_false hv)
        have HN := Lib.hid (HS2.out.skip hv)
        rw [HV.out]
        clear hv
        go_wp2_with fail
        go_roundw
        case rel => exact ⟨j + 1, m, D, by omega, by omega, by go_num, by rw [HT.out]; exact HN.out, HR2.out⟩
        case measure => simp [intOf]; omega
    · have hjl : j = l.length := by omega
      subst hjl
      have HT := Lib.hid (show l.take l.length = l from List.take_length)
      go_wp2_with fail
      go_ret
      exact ⟨w.heap.size + 1, rfl, by omega, ⟨m, D, by rw [HT.out] at HS; exact HS.out⟩, HK.out.trans HR.out⟩

end Go.Proofs.Ytdidmgmfjfnliaa
