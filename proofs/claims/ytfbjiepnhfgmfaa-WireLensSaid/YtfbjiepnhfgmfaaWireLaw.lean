/-
  What the laws of layer 3 share: Get of any bytes, strings of bytes, blocks and votes held against one another.
-/
import Derived.Test.YtfbjiepnhfgmfaaWireGot
import Derived.Test.YtfbjiepnhfgmfaaApiOpen
import Derived.Laws.BytesArg
namespace Go.Proofs.Ytfbjiepnhfgmfaa
open Go.ChangeShapes Go.WideShapes Go.ChangeAt Go.RowKit

/-! ### Bytes that lie anywhere, by their slice -/
def Lies (w : World) (l : List Nat) (A : Option Addr) (n c : Nat) : Prop := l.length = n ∧ n ≤ c ∧ (∀ b ∈ l, b < 256) ∧ (0 < n → ∃ ad, A = some ad ∧ LiesAt w w.heap.size ad l)
theorem Lies.kept {w w' : World} {l : List Nat} {A : Option Addr} {n c : Nat} (h : Lies w l A n c) (k : Kept w w') : Lies w' l A n c := by
  refine ⟨h.1, h.2.1, h.2.2.1, fun hn => ?_⟩
  obtain ⟨ad, e, h1⟩ := h.2.2.2 hn
  exact ⟨ad, e, (h1.keep fun p hp => k.cell hp).mono k.size_le⟩
theorem Bytes.lies {W w : World} {l : List Nat} {v : Value} (h : Bytes W l v w) (hb : ∀ b ∈ l, b < 256) : ∃ A c, v = .slice A l.length c ∧ Lies w l A l.length c := by
  rcases h.1.2 with ⟨rfl, h0⟩ | ⟨g, cap, cur, rfl, _, hg, hn, _⟩
  · exact ⟨none, 0, by rw [h0], rfl, by omega, hb, fun hn => by omega⟩
  · refine ⟨_, cap, rfl, rfl, hn, hb, fun _ => ⟨_, rfl, (h.1.lt g rfl).2, fun j x hx => ?_⟩⟩
    exact h.1.cells (g := g) rfl j _ (by simp [byteCells, List.getElem?_map, hx])
theorem get_any (A : Option Addr) (n c : Nat) (l : List Nat) (w : World) (hn : n ≤ 1000) (h : Lies w l A n c) :
    Calls Try.prog 14 #[.slice A n c] w fun e w' => e = .returned (getV (getN l)) ∧ Kept w w' := by
  obtain ⟨hl, hc, hx, hA⟩ := h
  cases f1 : isVoteL l
  · cases f2 : isBlockL l
    · rw [getN_none f1 f2]
      exact get_none A n c l w hl hn hA f1 f2
    · obtain ⟨h30, _⟩ := of_decide_eq_true f2
      obtain rfl : n = 30 := by omega
      obtain ⟨ad, rfl, h1⟩ := hA (by omega)
      cases hm : made (seg l 1 4) (seg l 5 1)
      · rw [getN_bad hm]
        exact get_block_bad ad c l w hl hc hx h1 f1 f2 hm
      · rw [getN_block f2 hm]
        exact get_block ad c l w hl hc hx h1 f1 f2 hm
  · obtain ⟨h22, _⟩ := of_decide_eq_true f1
    obtain rfl : n = 22 := by omega
    obtain ⟨ad, rfl, h1⟩ := hA (by omega)
    cases hm : made (seg l 1 4) (seg l 5 1)
    · rw [getN_bad hm]
      exact get_vote_bad ad c l w hl hc hx h1 f1 hm
    · rw [getN_vote f1 hm]
      exact get_vote ad c l w hl hc hx h1 f1 hm

/-! ### Strings -/
def strL (l : List Nat) : ByteArray := strOfNums (l.map fun x : Nat => (x : Int))
theorem run_str {w : World} {l : List Nat} {A : Option Addr} {n c : Nat} (h : Lies w l A n c) : (convert 29 9 (.slice A n c)).run Try.prog w = .ok (.string (strL l)) w := by
  rcases Nat.eq_zero_or_pos n with h0 | h0
  · have hl : l = [] := List.eq_nil_of_length_eq_zero (by rw [h.1]; exact h0)
    subst hl h0
    rw [run_convert_bytes_string w _ _ _ _ _ _ Try.underlying29 Try.underlying5 Try.underlying9]
    rcases A with _ | a
    · simp [Conv.bytesToString]; rfl
    · rw [run_bytesToString w a 0 c [] (by
        have := run_loadCells_list (P := Try.prog) w a [] (by simp)
        simpa using this)]
      rfl
  · obtain ⟨ad, rfl, h1⟩ := h.2.2.2 h0
    have hc := run_loadCells_list (P := Try.prog) w ad (byteCells l) (fun j u hu => by
      simp only [byteCells, List.getElem?_map, Option.map_eq_some_iff] at hu
      obtain ⟨x, hx, rfl⟩ := hu
      exact h1.2 j x hx)
    rw [byteCells_length, h.1] at hc
    rw [run_convert_bytes_string w _ _ _ _ _ _ Try.underlying29 Try.underlying5 Try.underlying9,
      run_bytesToString w ad n c (l.map fun x : Nat => (x : Int)) (by rw [hc]; simp [byteCells, Function.comp_def]), foldl_push_bytes]
    simp [strL, strOfNums, ByteArray.empty, ByteArray.emptyWithCapacity]
    rfl
theorem strL_inj {l m : List Nat} (hl : ∀ b ∈ l, b < 256) (hm : ∀ b ∈ m, b < 256) (h : (strL l).toList = (strL m).toList) : l = m := by
  rw [ByteArray.toList_eq, ByteArray.toList_eq] at h
  have e : (strL l).data.toList.map UInt8.toNat = (strL m).data.toList.map UInt8.toNat := by rw [h]
  have k : ∀ x : List Nat, (∀ b ∈ x, b < 256) → (strL x).data.toList.map UInt8.toNat = x := fun x hx => by
    unfold strL
    rw [strOfNums_data, List.map_map, List.map_map]
    conv => rhs; rw [← List.map_id x]
    refine List.map_congr_left fun b hb => ?_
    have := hx b hb
    simp [Function.comp]
    omega
  rw [k l hl, k m hm] at e
  exact e
theorem strL_ne {l m : List Nat} (hl : ∀ b ∈ l, b < 256) (hm : ∀ b ∈ m, b < 256) (h : l ≠ m) : ((strL l).toList == (strL m).toList) = false :=
  beq_eq_false_iff_ne.2 fun e => h (strL_inj hl hm e)

/-! ### A list of bytes, opened -/
section
variable {H : Type} {enc : TypeId × Value → H} {W : World} {base : Nat} {sp : Nat → Bool} {held : Bool} {r : Reach} {b0 : Nat} {v : Value} {d : DataW H} {ps : List MemPlace}
theorem Try.cB : Try.prog.cellsOf 5 = 1 := by kernel_rfl
theorem open_bytes (hval : Value.okWide Try.prog W r b0 29 v) (hd : DataW.Trod enc Try.prog W base sp held 29 v d ps) :
    ∃ (A : Option Addr) (n c : Nat) (l : List Nat), v = .slice A n c ∧ n ≤ maxLen ∧ Lies W l A n c := by
  obtain ⟨A, n, c, rfl⟩ := okWide_slice Try.underlying29 hval
  obtain ⟨fuel, hf⟩ := hd
  rcases open_ints Try.underlying29 Try.underlying5 Try.cB hf with ⟨hcs, _⟩ | ⟨a, len, cap, zs, hcs, _, hle, hmax, hall, _, hcell, hwf⟩
  · simp [Value.cells] at hcs
    obtain ⟨rfl, rfl, rfl⟩ := hcs
    exact ⟨_, _, _, [], rfl, by unfold maxLen; omega, rfl, by omega, by simp, fun h => by omega⟩
  · simp [Value.cells] at hcs
    obtain ⟨rfl, rfl, rfl⟩ := hcs
    have hzl : n ≤ zs.length := by rw [hall]; split <;> omega
    have hlx : ((zs.take n).map Int.toNat).length = n := by simp; omega
    have hcx : ∀ j x : Nat, ((zs.take n).map Int.toNat)[j]? = some x → W.cell? (a.add j) = some (.int .u8 (x : Nat)) := fun j x hx => by
      have hj : j < n := by
        have := (List.getElem?_eq_some_iff.1 hx).1
        omega
      have hc := hcell j (by omega)
      rw [hc]
      have hz : zs.getD j 0 = zs[j]'(by omega) := by simp [List.getD, List.getElem?_eq_getElem (show j < zs.length by omega)]
      have hb0 := bounds_u8 (hwf _ (List.getElem_mem (show j < zs.length by omega)))
      rw [List.getElem?_map, List.getElem?_take_of_lt hj, List.getElem?_eq_getElem (show j < zs.length by omega)] at hx
      simp at hx
      rw [hz, ← hx]
      congr 2
      omega
    refine ⟨_, _, _, (zs.take n).map Int.toNat, rfl, by omega, hlx, hle, ?_, fun hn => ⟨a, rfl, ?_, hcx⟩⟩
    · intro x hx
      obtain ⟨z, hz, rfl⟩ := List.mem_map.1 hx
      have := bounds_u8 (hwf z (List.mem_of_mem_take hz))
      omega
    · have hc := hcell 0 (by omega)
      have hb := World.block_lt_of_cell? W _ hc
      rw [block_add] at hb
      exact hb
end

end Go.Proofs.Ytfbjiepnhfgmfaa
