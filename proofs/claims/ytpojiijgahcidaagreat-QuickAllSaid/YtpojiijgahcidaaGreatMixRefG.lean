/-
  The contracts of the calls fold, Word and Step of the given package marigoldref02.
  The contract of the call Of of the given package marigoldref02.
-/
import Derived.Test.YtpojiijgahcidaaGreatMixG
namespace Go.Proofs.YtpojiijgahcidaaGreat
set_option maxRecDepth 100000
set_option linter.unusedVariables false
set_option linter.unusedSimpArgs false
section
open Go.ChangeShapes Go.WideShapes Go.ChangeAt Go.RowKit

/-! ### fold, Word, Step -/
set_option maxHeartbeats 400000 in
theorem refFold_any (x n : Nat) (hx : x < 18446744073709551616) (hn : n ≤ 63) (w : World) :
    Calls Tryz.prog 103 #[.int .u64 x, .int .u64 n] w fun e w' => e = .returned (.int .u64 (foldN x n)) ∧ w = w' := by
  go_enter Tryz.func103, Tryz.ntmps103
  go_wp2
  go_ret
  exact ⟨ret_int (fold_int x n hx), rfl⟩

set_option maxHeartbeats 400000 in
theorem refWord_any (x : Nat) (hx : x < 18446744073709551616) (w : World) :
    Calls Tryz.prog 78 #[.int .u64 x] w fun e w' => e = .returned (.int .u64 (wordN x)) ∧ w = w' := by
  go_enter Tryz.func78, Tryz.ntmps78
  go_wp2_with fail
  refine (refFold_any _ 30 hx (by omega) _).mono ?_
  rintro e w' ⟨rfl, rfl⟩
  go_wp2_with fail
  rw [mul1_int]
  refine (refFold_any _ 27 (mulM_lt _ _) (by omega) _).mono ?_
  rintro e w' ⟨rfl, rfl⟩
  go_wp2_with fail
  rw [mul2_int]
  refine (refFold_any _ 31 (mulM_lt _ _) (by omega) _).mono ?_
  rintro e w' ⟨rfl, rfl⟩
  go_wp2_with fail
  go_ret
  exact ⟨rfl, rfl⟩
set_option maxHeartbeats 400000 in
theorem refStep_any (h x : Nat) (hh : h < 18446744073709551616) (hx : x < 18446744073709551616) (w : World) :
    Calls Tryz.prog 51 #[.int .u64 h, .int .u64 x] w fun e w' => e = .returned (.int .u64 (stepN h x)) ∧ w = w' := by
  go_enter Tryz.func51, Tryz.ntmps51
  go_wp2_with fail
  rw [add_int _ _ hh hx]
  refine (refWord_any _ (Nat.mod_lt _ (by decide)) _).mono ?_
  rintro e w' ⟨rfl, rfl⟩
  go_wp2_with fail
  go_ret
  exact ⟨rfl, rfl⟩
end

section
open Go.ChangeShapes Go.WideShapes Go.ChangeAt Go.RowKit

/-! ### Of -/
theorem idOf_fold (l : List Nat) : idFold (l ++ [l.length]) = idOf l := by rw [idFold_snoc]; rfl
theorem take_next (L : List Nat) (k x : Nat) (h : L[k]? = some x) : idFold (L.take (k + 1)) = idStep (idFold (L.take k)) x := by
  obtain ⟨hk, rfl⟩ := List.getElem?_eq_some_iff.1 h
  rw [List.take_succ_eq_append_getElem hk, idFold_snoc]
theorem sub_int (x : Nat) (hx : x < 18446744073709551616) : 18446744073709551615 - (x : Int) = ((notN x : Nat) : Int) := by unfold notN; omega
theorem sub_wrap (x : Nat) (hx : x < 18446744073709551616) : IntKind.u64.wrap (18446744073709551615 - (x : Int)) = ((notN x : Nat) : Int) := by rw [IntKind.wrap_u64]; unfold notN; omega
theorem step_fst (p : Nat × Nat) (x : Nat) : (stepN p.1 x, stepN p.2 (notN x)) = idStep p x := by unfold idStep; rfl

set_option maxHeartbeats 800000 in
theorem refOf_any (A : Option Addr) (n c : Nat) (l : List Nat) (hl : l.length = n) (hn : n ≤ 65536) (w : World) (hx : ∀ x ∈ l, x < 18446744073709551616) (hc : WordsAt w w.heap.size A l) :
    Calls Tryz.prog 108 #[.slice A n c] w fun e w' => e = .returned (.agg #[.int .u64 (idOf l).1, .int .u64 (idOf l).2]) ∧ Kept w w' := by
  have HL := Lib.hid hl
  have HX := Lib.hid hx
  have HC := Lib.hid hc
  clear hl hx hc
  go_enter Tryz.func108, Tryz.ntmps108
  go_wp2_with fail
  go_loop [3, 4, 5] (fun a b i => ∃ (k : Nat) (p : Nat × Nat), k ≤ n + 1 ∧ i = .int .i64 k ∧ p = idFold ((l ++ [n]).take k) ∧ a = .int .u64 p.1 ∧ b = .int .u64 p.2) (fun _ _ i => n + 1 - (intOf i).toNat)
  case atStart => exact ⟨0, (1, 2), by omega, rfl, rfl, rfl, rfl⟩
  case round =>
    obtain ⟨k, p, hk, rfl, hp, rfl, rfl⟩ := hrel
    have hb : p.1 < 18446744073709551616 ∧ p.2 < 18446744073709551616 := by rw [hp]; exact idFold_lt _
    have HP := Lib.hid hp
    clear hp
    by_cases h1 : k < n
    · have hkl : k < l.length := by rw [HL.out]; exact h1
      have hj : l[k]? = some l[k] := List.getElem?_eq_getElem hkl
      have hxk := HX.out l[k] (List.getElem_mem hkl)
      obtain ⟨ad, rfl, hB, hcell⟩ := HC.out k _ hj
      have HS := Lib.hid (take_next (l ++ [n]) k l[k] (by rw [List.getElem?_append_left hkl]; exact hj))
      have hw : (w.alloc (.cells #[.int .u64 0, .int .u64 0] 31)).cell? (ad.add k) = some (.int .u64 (l[k] : Nat)) := by
        rw [World.cell?_alloc_lt _ _ _ (by rw [block_add]; exact hB)]; exact hcell
      clear hj hcell
      generalize l[k] = x at *
      go_wp2_with fail
      refine (refStep_any _ _ hb.1 hxk _).mono ?_
      rintro e w' ⟨rfl, rfl⟩
      go_wp2_with fail
      rw [sub_int _ hxk]
      refine (refStep_any _ _ hb.2 (notN_lt _) _).mono ?_
      rintro e w' ⟨rfl, rfl⟩
      have HE := Lib.hid (step_fst p x)
      generalize stepN p.1 x = s1 at *
      generalize stepN p.2 (notN x) = s2 at *
      go_wp2_with fail
      go_round
      case rel => exact ⟨k + 1, (s1, s2), by omega, by go_num, by rw [HE.out, HS.out, HP.out], rfl, rfl⟩
      case measure => simp [intOf]; omega
    · by_cases h2 : k = n
      · subst h2
        have hxk : k < 18446744073709551616 := by omega
        have HS := Lib.hid (take_next (l ++ [k]) k k (by rw [List.getElem?_append_right (by rw [HL.out]; omega), HL.out]; simp))
        go_wp2_with fail
        refine (refStep_any _ _ hb.1 hxk _).mono ?_
        rintro e w' ⟨rfl, rfl⟩
        go_wp2_with fail
        rw [sub_int _ hxk]
        refine (refStep_any _ _ hb.2 (notN_lt _) _).mono ?_
        rintro e w' ⟨rfl, rfl⟩
        have HE := Lib.hid (step_fst p k)
        generalize stepN p.1 k = s1 at *
        generalize stepN p.2 (notN k) = s2 at *
        go_wp2_with fail
        go_round
        case rel => exact ⟨k + 1, (s1, s2), by omega, by go_num, by rw [HE.out, HS.out, HP.out], rfl, rfl⟩
        case measure => simp [intOf]
      · have h3 : n < k := by omega
        have HQ := Lib.hid (show p = idOf l by
          rw [HP.out, List.take_of_length_le (by simp [HL.out]; omega), ← idOf_fold l, HL.out])
        clear hb HP h1 h2
        go_wp2_with fail
        refine bodyPost_ret (v := .agg #[.int .u64 p.1, .int .u64 p.2]) (by simp [results, Tryz.results108, go_sem]) rfl ⟨by rw [HQ.out], ?_⟩
        exact (Kept.refl _).alloc _
end

end Go.Proofs.YtpojiijgahcidaaGreat
