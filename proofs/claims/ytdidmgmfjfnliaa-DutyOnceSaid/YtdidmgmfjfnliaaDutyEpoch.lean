/-
  An epoch's slots, as plain numbers: each validator is of just one of their committees, and all of these weigh the total.
-/
import Derived.Test.YtdidmgmfjfnliaaDutyLists
import Derived.Deep.OwnRows
namespace Go.Proofs.Ytdidmgmfjfnliaa
open Go.ChangeShapes Go.WideShapes Go.ChangeAt Go.RowKit

theorem rowIs_kept' {w w' : World} {g : Nat} {t : TypeId} {n : Nat} {f : Nat → Value} (h : w.rowIs g t n f) (k : Kept w w') : w'.rowIs g t n f := h.of_block (k.heap h.lt)
theorem makeNums (n : Nat) (hn : n ≤ 1000) (w : World) : (Instr.makeSlice 22 (.int .i64 (n : Int)) (.int .i64 (n : Int))).run Try.prog w = .ok (.slice (some ⟨w.heap.size, 0, none⟩) n n) (w.alloc (.cells (madeCells #[.int .i64 0] n) 3)) :=
  run_make_row' 22 3 (.int .i64 0) 8 Try.underlying22 (by kernel_rfl) rfl .i64 .i64 n (by omega) (by omega) w

theorem once_keep {W w w' : World} {b : Nat} {p : Addr} {y x0 x1 x2 x3 x4 : Value} (hb : b < W.heap.size) (hp : p.block < W.heap.size)
    (h : w.cell? p = some y ∧ w.cell? ⟨b, 0, none⟩ = some x0 ∧ w.cell? ⟨b, 1, none⟩ = some x1 ∧ w.cell? ⟨b, 2, none⟩ = some x2 ∧ w.cell? ⟨b, 3, none⟩ = some x3 ∧ w.cell? ⟨b, 4, none⟩ = some x4 ∧ Kept W w) (k : Kept w w') :
    w'.cell? p = some y ∧ w'.cell? ⟨b, 0, none⟩ = some x0 ∧ w'.cell? ⟨b, 1, none⟩ = some x1 ∧ w'.cell? ⟨b, 2, none⟩ = some x2 ∧ w'.cell? ⟨b, 3, none⟩ = some x3 ∧ w'.cell? ⟨b, 4, none⟩ = some x4 ∧ Kept W w' := by
  obtain ⟨h0, h⟩ := h
  exact ⟨(k.cell (Nat.lt_of_lt_of_le hp h.2.2.2.2.2.size_le)).trans h0, five_keep hb h k⟩
theorem once_keep2 {W w w' : World} {b : Nat} {p q : Addr} {y z x0 x1 x2 x3 x4 : Value} (hb : b < W.heap.size) (hp : p.block < W.heap.size) (hq : q.block < W.heap.size)
    (h : w.cell? q = some z ∧ w.cell? p = some y ∧ w.cell? ⟨b, 0, none⟩ = some x0 ∧ w.cell? ⟨b, 1, none⟩ = some x1 ∧ w.cell? ⟨b, 2, none⟩ = some x2 ∧ w.cell? ⟨b, 3, none⟩ = some x3 ∧ w.cell? ⟨b, 4, none⟩ = some x4 ∧ Kept W w) (k : Kept w w') :
    w'.cell? q = some z ∧ w'.cell? p = some y ∧ w'.cell? ⟨b, 0, none⟩ = some x0 ∧ w'.cell? ⟨b, 1, none⟩ = some x1 ∧ w'.cell? ⟨b, 2, none⟩ = some x2 ∧ w'.cell? ⟨b, 3, none⟩ = some x3 ∧ w'.cell? ⟨b, 4, none⟩ = some x4 ∧ Kept W w' := by
  obtain ⟨h0, h⟩ := h
  exact ⟨(k.cell (Nat.lt_of_lt_of_le hq h.2.2.2.2.2.2.size_le)).trans h0, once_keep hb hp h k⟩

/-! ### A committee's list -/
theorem comm_sorted (p : Nat → Bool) (n : Nat) : (commTo p n).Pairwise (· < ·) := by
  unfold commTo commOf
  rw [List.pairwise_map]
  exact (List.Pairwise.filter p List.pairwise_lt_range).imp (fun h => by omega)
theorem comm_at {p : Nat → Bool} {n i : Nat} (hi : i < (commTo p n).length) : ∃ y : Nat, wAt (commTo p n) i = (y : Int) ∧ y < n ∧ p y = true ∧ (y : Int) ∉ (commTo p n).take i ∧ ∀ j, j < i → wAt (commTo p n) j < wAt (commTo p n) i := by
  have hs := List.pairwise_iff_getElem.1 (comm_sorted p n)
  have e : ∀ j (hj : j < (commTo p n).length), wAt (commTo p n) j = (commTo p n)[j] := fun j hj => by simp [wAt, hj]
  have hl : ∀ j, j < i → wAt (commTo p n) j < wAt (commTo p n) i := fun j hj => by
    rw [e j (by omega), e i hi]
    exact hs j i (by omega) hi hj
  obtain ⟨y, hy, hp, ey⟩ := mem_commTo.1 (wAt_mem hi)
  refine ⟨y, ey, hy, hp, fun hm => ?_, hl⟩
  obtain ⟨j, hj, hx⟩ := List.mem_iff_getElem.1 hm
  have hj' : j < i := by simp at hj; omega
  have hlt := hl j hj'
  rw [e j (by omega), ey] at hlt
  rw [List.getElem_take] at hx
  omega

/-! ### An epoch -/
def gAt (seed n E e j : Nat) : Nat := atN (stepN seed e) n j % E
theorem mem_slot {seed n E e r : Nat} (hr : r < E) (j : Nat) : memN seed n E (e * E + r) j = decide (gAt seed n E e j = r) := by
  unfold memN gAt
  have h1 : (e * E + r) / E = e := by rw [Nat.mul_comm, Nat.mul_add_div (by omega), Nat.div_eq_of_lt hr, Nat.add_zero]
  have h2 : (e * E + r) % E = r := by rw [Nat.mul_comm, Nat.mul_add_mod, Nat.mod_eq_of_lt hr]
  rw [h1, h2]
theorem weight_comm {k : Cf} (hm : mayC k = true) (p : Nat → Bool) : weightC k (commTo p k.ws.length) = weighTo p k.ws k.ws.length := by
  rw [weightC_yes _ hm]
  exact weighTo_congr fun j hj => inList_comm j hj
theorem weigh_next (g : Nat → Nat) (ws : List Int) (r n : Nat) : weighTo (fun j => decide (g j < r)) ws n + weighTo (fun j => decide (g j = r)) ws n = weighTo (fun j => decide (g j < r + 1)) ws n := by
  induction n with
  | zero => simp [weighTo]
  | succ n ih =>
    simp only [weighTo]
    by_cases h1 : g n < r
    · have h2 : ¬ g n = r := by omega
      have h3 : g n < r + 1 := by omega
      simp [h1, h2, h3]
      omega
    · by_cases h2 : g n = r
      · have h3 : g n < r + 1 := by omega
        simp [h1, h2] at ih ⊢
        omega
      · have h3 : ¬ g n < r + 1 := by omega
        simp [h1, h2, h3]
        omega

/-! ### How often each one was met -/
def timesV (g : Nat → Nat) (r : Nat) (q : List Int) (j : Nat) : Value := .int .i64 (if g j < r ∨ (j : Int) ∈ q then 1 else 0)
theorem times_zero (g : Nat → Nat) (j : Nat) : timesV g 0 [] j = .int .i64 0 := by simp [timesV]
theorem times_old {g : Nat → Nat} {r : Nat} {q : List Int} {y : Nat} (h : g y = r) (hq : (y : Int) ∉ q) : timesV g r q y = .int .i64 0 := by simp [timesV, h, hq]
theorem times_next (g : Nat → Nat) (r : Nat) (q : List Int) (y j : Nat) : (if j = y then Value.int .i64 1 else timesV g r q j) = timesV g r (q ++ [(y : Int)]) j := by
  by_cases e : j = y
  · subst e; simp [timesV]
  · have e' : ¬ (j : Int) = (y : Int) := by omega
    simp [timesV, e, e']
theorem times_end (g : Nat → Nat) (r n j : Nat) (hj : j < n) : timesV g r (commTo (fun j => decide (g j = r)) n) j = timesV g (r + 1) [] j := by
  unfold timesV
  congr 1
  have : (g j < r ∨ (j : Int) ∈ commTo (fun j => decide (g j = r)) n) ↔ (g j < r + 1 ∨ (j : Int) ∈ ([] : List Int)) := by
    rw [mem_commTo]
    constructor
    · rintro (h | ⟨i, _, hp, e⟩)
      · exact Or.inl (by omega)
      · have : j = i := by omega
        subst this
        have := of_decide_eq_true hp
        exact Or.inl (by omega)
    · rintro (h | h)
      · by_cases h2 : g j < r
        · exact Or.inl h2
        · exact Or.inr ⟨j, hj, decide_eq_true (by omega), rfl⟩
      · simp at h
  simp only [this]
theorem times_all {g : Nat → Nat} {E : Nat} {j : Nat} (h : g j < E) : timesV g E [] j = .int .i64 1 := by simp [timesV, h]

end Go.Proofs.Ytdidmgmfjfnliaa
