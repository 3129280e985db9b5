/-
  The chapter's example, which every law of layer 5 asks first: it is so; the arguments of layer 5's laws, opened.
-/
import Derived.Test.YtdidmgmfjfnliaaDutyWeight
import Derived.Test.YtdidmgmfjfnliaaNumOpen
namespace Go.Proofs.Ytdidmgmfjfnliaa
open Go.ChangeShapes Go.WideShapes Go.ChangeAt Go.RowKit

/-- The example's conf. -/
def kOne : Cf := ⟨[5], 0, 1, 0, 4⟩
theorem one_may : mayC kOne = true := decide_eq_true (by simp [kOne])
theorem one_total : totalC kOne = 5 := by rw [totalC_yes one_may]; decide
theorem mem_one (seed n s who : Nat) : memN seed n 1 s who = true := decide_eq_true (by rw [Nat.mod_one, Nat.mod_one])
theorem one_duty : dutyC kOne 3 = true := by rw [dutyC_slot one_may]; decide
theorem one_mem (j : Nat) : memC kOne 3 j = true := mem_one _ _ _ _
theorem one_comm : commC kOne 3 = [0] := by
  rw [commC_yes one_duty]
  show commTo (memC kOne 3) (0 + 1) = [0]
  rw [commTo_hit (one_mem 0)]
  rfl
theorem one_in : inC kOne 3 0 = true := by rw [inC_yes one_duty (by decide)]; exact one_mem _
theorem one_prop : propC kOne 3 = 0 := by
  unfold propC
  rw [if_pos one_duty]
  unfold propN
  show (((_ % 1 : Nat) : Nat) : Int) = 0
  rw [Nat.mod_one]
  rfl

section
variable (A : Option Addr) (c : Nat) (w : World) (hA : CellsAt w w.heap.size A (intCells [5]))
include hA
theorem one_may_any : Calls Try.prog 16 #[.agg #[.slice A 1 c, .int .u64 0, .int .i64 1, .int .i64 0, .int .i64 4]] w fun e w' => e = .returned (.bool true) ∧ Kept w w' := by
  have h := may_any A c kOne w hA
  rw [one_may] at h
  exact h
theorem one_total_any : Calls Try.prog 19 #[.agg #[.slice A 1 c, .int .u64 0, .int .i64 1, .int .i64 0, .int .i64 4]] w fun e w' => e = .returned (.int .i64 5) ∧ Kept w w' := by
  have h := total_any A c kOne w hA
  rw [one_total] at h
  exact h
theorem one_comm_any : Calls Try.prog 14 #[.agg #[.slice A 1 c, .int .u64 0, .int .i64 1, .int .i64 0, .int .i64 4], .int .i64 3] w fun e w' => ∃ A' c', e = .returned (.slice A' 1 c') ∧ Kept w w' := by
  have h := comm_any A c kOne 3 w hA (by decide)
  rw [one_comm] at h
  exact h.mono fun e w' ⟨A', c', he, _, hk⟩ => ⟨A', c', he, hk⟩
theorem one_in_any : Calls Try.prog 21 #[.agg #[.slice A 1 c, .int .u64 0, .int .i64 1, .int .i64 0, .int .i64 4], .int .i64 3, .int .i64 0] w fun e w' => e = .returned (.bool true) ∧ Kept w w' := by
  have h := in_any A c kOne 3 0 w hA (by decide)
  rw [one_in] at h
  exact h
theorem one_prop_any : Calls Try.prog 22 #[.agg #[.slice A 1 c, .int .u64 0, .int .i64 1, .int .i64 0, .int .i64 4], .int .i64 3] w fun e w' => e = .returned (.int .i64 0) ∧ Kept w w' := by
  have h := prop_any A c kOne 3 w hA (by decide)
  rw [one_prop] at h
  exact h
end

set_option maxHeartbeats 1600000 in
theorem dutyAwake (w : World) : Calls Try.prog 10 #[] w fun e w' => e = .returned (.bool true) ∧ Kept w w' := by
  go_enter Try.func10, Try.ntmps10
  go_wp2_with fail
  have HC := Lib.hid (HasCells.new (w.alloc (.cells #[.int .i64 5] 3)) #[.slice (some ⟨w.heap.size, 0, none⟩) 1 1, .int .u64 0, .int .i64 1, .int .i64 0, .int .i64 4] 25 (w.heap.size + 1) (by simp))
  have HA := Lib.hid ((CellsAt.one w (.int .i64 5) 3 w.heap.size rfl).kept ((Kept.refl _).alloc (.cells #[.slice (some ⟨w.heap.size, 0, none⟩) 1 1, .int .u64 0, .int .i64 1, .int .i64 0, .int .i64 4] 25)))
  have HK := Lib.hid (((Kept.refl w).alloc (.cells #[.int .i64 5] 3)).alloc (.cells #[.slice (some ⟨w.heap.size, 0, none⟩) 1 1, .int .u64 0, .int .i64 1, .int .i64 0, .int .i64 4] 25))
  generalize (w.alloc (.cells #[.int .i64 5] 3)).alloc (.cells #[.slice (some ⟨w.heap.size, 0, none⟩) 1 1, .int .u64 0, .int .i64 1, .int .i64 0, .int .i64 4] 25) = W at *
  generalize w.heap.size = z at *
  refine (one_may_any (some ⟨z, 0, none⟩) 1 W HA.out).mono ?_
  rintro e W1 ⟨rfl, k1⟩
  have HC1 := Lib.hid (HC.out.kept k1)
  have HA1 := Lib.hid (HA.out.kept k1)
  have HK1 := Lib.hid (HK.out.trans k1)
  obtain ⟨c0, c1, c2, c3, c4⟩ := HC1.out.five
  clear k1 HC HA HK
  go_wp2_with fail
  clear c0 c1 c2 c3 c4
  refine (one_total_any (some ⟨z, 0, none⟩) 1 W1 HA1.out).mono ?_
  rintro e W2 ⟨rfl, k1⟩
  have HC2 := Lib.hid (HC1.out.kept k1)
  have HA2 := Lib.hid (HA1.out.kept k1)
  have HK2 := Lib.hid (HK1.out.trans k1)
  obtain ⟨c0, c1, c2, c3, c4⟩ := HC2.out.five
  clear k1 HC1 HA1 HK1
  go_wp2_with fail
  clear c0 c1 c2 c3 c4
  refine (one_comm_any (some ⟨z, 0, none⟩) 1 W2 HA2.out).mono ?_
  rintro e W3 ⟨A', c', rfl, k1⟩
  have HC3 := Lib.hid (HC2.out.kept k1)
  have HA3 := Lib.hid (HA2.out.kept k1)
  have HK3 := Lib.hid (HK2.out.trans k1)
  obtain ⟨c0, c1, c2, c3, c4⟩ := HC3.out.five
  clear k1 HC2 HA2 HK2
  go_wp2_with fail
  clear c0 c1 c2 c3 c4
  refine (one_in_any (some ⟨z, 0, none⟩) 1 W3 HA3.out).mono ?_
  rintro e W4 ⟨rfl, k1⟩
  have HC4 := Lib.hid (HC3.out.kept k1)
  have HA4 := Lib.hid (HA3.out.kept k1)
  have HK4 := Lib.hid (HK3.out.trans k1)
  obtain ⟨c0, c1, c2, c3, c4⟩ := HC4.out.five
  clear k1 HC3 HA3 HK3
  go_wp2_with fail
  clear c0 c1 c2 c3 c4
  refine (one_prop_any (some ⟨z, 0, none⟩) 1 W4 HA4.out).mono ?_
  rintro e W5 ⟨rfl, k1⟩
  have HC5 := Lib.hid (HC4.out.kept k1)
  have HA5 := Lib.hid (HA4.out.kept k1)
  have HK5 := Lib.hid (HK4.out.trans k1)
  obtain ⟨c0, c1, c2, c3, c4⟩ := HC5.out.five
  clear k1 HC4 HA4 HK4
  go_wp2_with fail
  clear c0 c1 c2 c3 c4
  go_ret
  exact ⟨rfl, HK5.out⟩

/-! ### Arguments, opened -/
section
variable {H : Type} {enc : TypeId × Value → H} {W : World} {base : Nat} {sp : Nat → Bool} {held : Bool} {r : Reach} {b0 : Nat} {v : Value} {d : DataW H} {ps : List MemPlace}

theorem Try.oneI : Try.prog.cellsOf 3 = 1 := by kernel_rfl
theorem Try.oneL : Try.prog.cellsOf 22 = 1 := by kernel_rfl
theorem Try.oneU : Try.prog.cellsOf 23 = 1 := by kernel_rfl
theorem Try.fiveC : Try.prog.cellsOf 25 = 5 := by kernel_rfl
theorem read_list {fuel : Nat} {cs : List Value} {x : DataW H × List MemPlace} (h : DataW.trod enc Try.prog W base sp held fuel 22 cs = some x) :
    ∃ (A : Option Addr) (c : Nat) (l : List Int), cs = [.slice A l.length c] ∧ l.length ≤ maxLen ∧ (∀ x ∈ l, -9223372036854775808 ≤ x ∧ x ≤ 9223372036854775807) ∧ CellsAt W W.heap.size A (intCells l) := by
  rcases open_ints Try.underlying22 Try.underlying3 Try.oneI h with ⟨hcs, _⟩ | ⟨a, len, cap, zs, hcs, _, hle, hmax, hall, _, hcell, hwf⟩
  · exact ⟨none, 0, [], hcs, Nat.zero_le _, by simp, CellsAt.nil⟩
  · have hzl : len ≤ zs.length := by rw [hall]; split <;> omega
    have hlen : (zs.take len).length = len := by simp; omega
    refine ⟨some a, cap, zs.take len, by rw [hlen]; exact hcs, by rw [hlen]; omega, ?_, ?_⟩
    · intro z hz
      exact bounds_i64 (hwf z (List.mem_of_mem_take hz))
    · intro j u hu
      have hj : j < len := by
        have := (List.getElem?_eq_some_iff.1 hu).1
        simp at this; omega
      have hc := hcell j (by omega)
      have hb := World.block_lt_of_cell? W _ hc
      rw [block_add] at hb
      refine ⟨a, rfl, hb, ?_⟩
      rw [hc]
      have hz : zs.getD j 0 = zs[j]'(by omega) := by simp [List.getD, List.getElem?_eq_getElem (show j < zs.length by omega)]
      simp only [intCells, List.getElem?_map] at hu
      rw [List.getElem?_take_of_lt hj, List.getElem?_eq_getElem (show j < zs.length by omega)] at hu
      simp at hu
      rw [hz, ← hu]
theorem open_list (hval : Value.okWide Try.prog W r b0 22 v) (hd : DataW.Trod enc Try.prog W base sp held 22 v d ps) :
    ∃ (A : Option Addr) (c : Nat) (l : List Int), v = .slice A l.length c ∧ l.length ≤ maxLen ∧ (∀ x ∈ l, -9223372036854775808 ≤ x ∧ x ≤ 9223372036854775807) ∧ CellsAt W W.heap.size A (intCells l) := by
  obtain ⟨A, n, c, rfl⟩ := okWide_slice Try.underlying22 hval
  obtain ⟨fuel, hf⟩ := hd
  obtain ⟨A', c', l, hcs, h1, h2, h3⟩ := read_list hf
  simp [Value.cells] at hcs
  obtain ⟨rfl, rfl, rfl⟩ := hcs
  exact ⟨_, _, l, rfl, h1, h2, h3⟩
theorem read_num {fuel : Nat} {c : Value} {x : DataW H × List MemPlace} (h : DataW.trod enc Try.prog W base sp held fuel 3 [c] = some x) : ∃ a : Int, c = .int .i64 a ∧ -9223372036854775808 ≤ a ∧ a ≤ 9223372036854775807 := by
  obtain ⟨a, ea, _, wa⟩ := DataW.trod_int Try.underlying3 h
  simp at ea
  have := bounds_i64 wa
  exact ⟨a, ea, this.1, this.2⟩
theorem read_word {fuel : Nat} {c : Value} {x : DataW H × List MemPlace} (h : DataW.trod enc Try.prog W base sp held fuel 23 [c] = some x) : ∃ a : Nat, c = .int .u64 a ∧ a < 18446744073709551616 := by
  obtain ⟨a, ea, _, wa⟩ := DataW.trod_int Try.underlying23 h
  simp at ea
  obtain ⟨x, rfl, hx⟩ := nat_of_u64 wa
  exact ⟨x, ea, hx⟩
/-- A conf as read. -/
theorem open_conf (hval : Value.okWide Try.prog W r b0 25 v) (hd : DataW.Trod enc Try.prog W base sp held 25 v d ps) :
    ∃ (A : Option Addr) (c : Nat) (k : Cf), v = .agg #[.slice A k.ws.length c, .int .u64 k.seed, .int .i64 k.ep, .int .i64 k.nu, .int .i64 k.de] ∧ k.ws.length ≤ maxLen ∧ k.seed < 18446744073709551616 ∧ CellsAt W W.heap.size A (intCells k.ws) := by
  simp only [Value.okWide, Try.underlying25] at hval
  obtain ⟨cs, rfl, _, _⟩ := hval
  obtain ⟨fuel, hf⟩ := hd
  generalize hcs : (Value.agg cs).cells.toList = l at hf
  obtain ⟨xs, m, _, _, hl, hn, hi⟩ := DataW.trod_struct Try.underlying25 hf
  rw [Try.fiveC] at hl
  match l, hl with
  | [c0, c1, c2, c3, c4], _ =>
    have hn' : xs.length = 5 := hn
    have h0 : DataW.trod enc Try.prog W base sp held m 22 (([c0, c1, c2, c3, c4].drop 0).take (Try.prog.cellsOf 22)) = xs[0]? := hi 0 _ rfl
    have h1 : DataW.trod enc Try.prog W base sp held m 23 (([c0, c1, c2, c3, c4].drop 1).take (Try.prog.cellsOf 23)) = xs[1]? := hi 1 _ rfl
    have h2 : DataW.trod enc Try.prog W base sp held m 3 (([c0, c1, c2, c3, c4].drop 2).take (Try.prog.cellsOf 3)) = xs[2]? := hi 2 _ rfl
    have h3 : DataW.trod enc Try.prog W base sp held m 3 (([c0, c1, c2, c3, c4].drop 3).take (Try.prog.cellsOf 3)) = xs[3]? := hi 3 _ rfl
    have h4 : DataW.trod enc Try.prog W base sp held m 3 (([c0, c1, c2, c3, c4].drop 4).take (Try.prog.cellsOf 3)) = xs[4]? := hi 4 _ rfl
    rw [List.getElem?_eq_getElem (by omega)] at h0 h1 h2 h3 h4
    rw [Try.oneL] at h0
    rw [Try.oneU] at h1
    rw [Try.oneI] at h2 h3 h4
    obtain ⟨A, c, ws, e0, hw1, _, hw3⟩ := read_list (cs := [c0]) h0
    obtain ⟨a, rfl, ha⟩ := read_word (c := c1) h1
    obtain ⟨e, rfl, _⟩ := read_num (c := c2) h2
    obtain ⟨n, rfl, _⟩ := read_num (c := c3) h3
    obtain ⟨f, rfl, _⟩ := read_num (c := c4) h4
    obtain rfl : c0 = .slice A ws.length c := by simpa using e0
    refine ⟨A, c, ⟨ws, a, e, n, f⟩, ?_, hw1, ha, hw3⟩
    simp only [Value.cells] at hcs
    rw [← Array.toArray_toList (xs := cs), hcs]
end

end Go.Proofs.Ytdidmgmfjfnliaa
