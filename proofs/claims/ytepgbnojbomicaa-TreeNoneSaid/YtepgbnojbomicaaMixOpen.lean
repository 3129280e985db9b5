/-
  The arguments of layer 2's laws, opened: a word, an id, a list of words.
-/
import Derived.Test.YtepgbnojbomicaaMixOf
import Derived.Test.YtepgbnojbomicaaNumOpen
namespace Go.Proofs.Ytepgbnojbomicaa
open Go.ChangeShapes Go.WideShapes Go.ChangeAt Go.RowKit

section
variable {H : Type} {enc : TypeId × Value → H} {W : World} {base : Nat} {sp : Nat → Bool} {held : Bool} {r : Reach} {b0 : Nat} {v : Value} {d : DataW H} {ps : List MemPlace}

theorem Try.cellsID : Try.prog.cellsOf 25 = 2 := by kernel_rfl
theorem Try.cellsU : Try.prog.cellsOf 23 = 1 := by kernel_rfl
theorem id_cells {fuel : Nat} {cs : List Value} {x : DataW H × List MemPlace} (h : DataW.trod enc Try.prog W base sp held fuel 25 cs = some x) :
    ∃ p : Nat × Nat, cs = [.int .u64 p.1, .int .u64 p.2] ∧ p.1 < 18446744073709551616 ∧ p.2 < 18446744073709551616 := by
  obtain ⟨xs, m, _, _, hl, hn, hi⟩ := DataW.trod_array Try.underlying25 h
  rw [Try.cellsID] at hl
  match cs, hl with
  | [c0, c1], _ =>
    have h0 := hi 0 (by omega)
    have h1 := hi 1 (by omega)
    rw [List.getElem?_eq_getElem (by omega), Try.cellsU] at h0 h1
    obtain ⟨a, ea, _, wa⟩ := DataW.trod_int Try.underlying23 h0
    obtain ⟨b, eb, _, wb⟩ := DataW.trod_int Try.underlying23 h1
    obtain ⟨x, rfl, hx⟩ := nat_of_u64 wa
    obtain ⟨y, rfl, hy⟩ := nat_of_u64 wb
    simp at ea eb
    exact ⟨(x, y), by rw [ea, eb], hx, hy⟩
theorem open_id (hval : Value.okWide Try.prog W r b0 25 v) (hd : DataW.Trod enc Try.prog W base sp held 25 v d ps) :
    ∃ p : Nat × Nat, v = .agg #[.int .u64 p.1, .int .u64 p.2] ∧ p.1 < 18446744073709551616 ∧ p.2 < 18446744073709551616 := by
  simp only [Value.okWide, Try.underlying25] at hval
  obtain ⟨cs, rfl, _, _⟩ := hval
  obtain ⟨fuel, hf⟩ := hd
  obtain ⟨p, hp, h1, h2⟩ := id_cells hf
  refine ⟨p, ?_, h1, h2⟩
  simp only [Value.cells] at hp
  rw [← Array.toArray_toList (xs := cs), hp]

theorem open_words (hval : Value.okWide Try.prog W r b0 52 v) (hd : DataW.Trod enc Try.prog W base sp held 52 v d ps) :
    ∃ (A : Option Addr) (n c : Nat) (l : List Nat), v = .slice A n c ∧ l.length = n ∧ n ≤ maxLen ∧ (∀ x ∈ l, x < 18446744073709551616) ∧ WordsAt W W.heap.size A l := by
  obtain ⟨A, n, c, rfl⟩ := okWide_slice Try.underlying52 hval
  obtain ⟨fuel, hf⟩ := hd
  rcases open_ints Try.underlying52 Try.underlying23 Try.cellsU hf with ⟨hcs, _⟩ | ⟨a, len, cap, zs, hcs, _, hle, hmax, hall, _, hcell, hwf⟩
  · simp [Value.cells] at hcs
    obtain ⟨rfl, rfl, rfl⟩ := hcs
    exact ⟨_, _, _, [], rfl, rfl, by unfold maxLen; omega, by simp, fun j x hx => by simp at hx⟩
  · simp [Value.cells] at hcs
    obtain ⟨rfl, rfl, rfl⟩ := hcs
    have hzl : n ≤ zs.length := by rw [hall]; split <;> omega
    refine ⟨_, _, _, (zs.take n).map Int.toNat, rfl, by simp; omega, by omega, ?_, ?_⟩
    · intro x hx
      obtain ⟨z, hz, rfl⟩ := List.mem_map.1 hx
      have := bounds_u64 (hwf z (List.mem_of_mem_take hz))
      omega
    · intro j x hx
      have hj : j < n := by
        have := (List.getElem?_eq_some_iff.1 hx).1
        simp at this; omega
      have hc := hcell j (by omega)
      have hb := World.block_lt_of_cell? W _ hc
      rw [block_add] at hb
      refine ⟨a, rfl, hb, ?_⟩
      rw [hc]
      have hz : zs.getD j 0 = zs[j]'(by omega) := by simp [List.getD, List.getElem?_eq_getElem (show j < zs.length by omega)]
      have hb0 := bounds_u64 (hwf _ (List.getElem_mem (show j < zs.length by omega)))
      rw [List.getElem?_map, List.getElem?_take_of_lt hj, List.getElem?_eq_getElem (show j < zs.length by omega)] at hx
      simp at hx
      rw [hz, ← hx]
      congr 2
      omega
end

/-! ### Ids that lie in a block of their own -/
def HasId (w : World) (b : Nat) (p : Nat × Nat) : Prop := w.cell? ⟨b, 0, none⟩ = some (.int .u64 p.1) ∧ w.cell? ⟨b, 1, none⟩ = some (.int .u64 p.2) ∧ b < w.heap.size
theorem HasId.kept {w w' : World} {b : Nat} {p : Nat × Nat} (h : HasId w b p) (k : Kept w w') : HasId w' b p :=
  ⟨(k.cell (p := ⟨b, 0, none⟩) h.2.2).trans h.1, (k.cell (p := ⟨b, 1, none⟩) h.2.2).trans h.2.1, Nat.lt_of_lt_of_le h.2.2 k.size_le⟩
theorem HasId.new (w : World) (b : Nat) (p : Nat × Nat) (hb : b = w.heap.size) : HasId (w.alloc (.cells #[.int .u64 p.1, .int .u64 p.2] 25)) b p := by
  subst hb
  exact ⟨by simp [go_sem], by simp [go_sem], by simp⟩
theorem HasId.alloc {w : World} {b : Nat} {p : Nat × Nat} (h : HasId w b p) (o : Obj) : HasId (w.alloc o) b p := h.kept ((Kept.refl _).alloc _)
theorem HasId.drew {w : World} {b : Nat} {p : Nat × Nat} (h : HasId w b p) : HasId w.drew b p := h

theorem lessN_self (a : Nat × Nat) : lessN a a = false := decide_eq_false (by omega)
theorem lessN_tri (a b : Nat × Nat) : a = b ∨ (lessN a b = true ∧ lessN b a = false) ∨ (lessN a b = false ∧ lessN b a = true) := by
  obtain ⟨a0, a1⟩ := a
  obtain ⟨b0, b1⟩ := b
  by_cases h : a0 < b0 ∨ (a0 = b0 ∧ a1 < b1)
  · exact Or.inr (Or.inl ⟨decide_eq_true h, decide_eq_false (by simp; omega)⟩)
  · by_cases k : b0 < a0 ∨ (b0 = a0 ∧ b1 < a1)
    · exact Or.inr (Or.inr ⟨decide_eq_false h, decide_eq_true k⟩)
    · left; simp; omega
theorem lessN_trans {a b c : Nat × Nat} (h : lessN a b = true) (k : lessN b c = true) : lessN a c = true := by
  have h' := of_decide_eq_true h
  have k' := of_decide_eq_true k
  exact decide_eq_true (by omega)
theorem id_ne {a b : Nat × Nat} (h : a ≠ b) : (((a.1 : Int) == (b.1 : Int)) && ((a.2 : Int) == (b.2 : Int))) = false := by
  obtain ⟨a0, a1⟩ := a
  obtain ⟨b0, b1⟩ := b
  simp at h ⊢
  omega
theorem lessN_ne {a b : Nat × Nat} (h : lessN a b = true) : a ≠ b := fun e => by subst e; rw [lessN_self] at h; cases h

end Go.Proofs.Ytepgbnojbomicaa
