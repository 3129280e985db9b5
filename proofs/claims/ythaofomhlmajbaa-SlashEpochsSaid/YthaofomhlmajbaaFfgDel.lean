/-
  The contract of the library's DeleteFunc at checkpoints.
-/
import Derived.Lib.SliceRun
import Derived.Test.YthaofomhlmajbaaFfgIndex
import Derived.Test.YthaofomhlmajbaaFfgRefG
import Derived.Test.YthaofomhlmajbaaSeqBack
namespace Go.Proofs.Ythaofomhlmajbaa
set_option maxRecDepth 100000
set_option linter.unusedVariables false
set_option linter.unusedSimpArgs false
set_option linter.unusedSimpArgs false
set_option linter.unusedVariables false
open Go.ChangeShapes Go.WideShapes Go.ChangeAt Go.RowKit Go.Lib

/-- What lay below lo lies as it was, and what lies from hi on in w. -/
def RDel (lo hi : Nat) (w V : World) : Prop := Below lo w V ∧ w.heap.size ≤ V.heap.size ∧ ∀ i, hi ≤ i → i < w.heap.size → V.heap[i]? = w.heap[i]?
theorem RDel.refl (lo hi : Nat) (w : World) : RDel lo hi w w := ⟨Below.refl _ _, Nat.le_refl _, fun _ _ _ => rfl⟩
theorem RDel.kept {lo hi : Nat} {w V V' : World} (hl : lo ≤ w.heap.size) (h : RDel lo hi w V) (k : Kept V V') : RDel lo hi w V' :=
  ⟨h.1.trans (k.mono (Nat.le_trans hl h.2.1)), Nat.le_trans h.2.1 k.size_le, fun i h1 h2 => (k.heap (by have := h.2.1; omega)).trans (h.2.2 i h1 h2)⟩
theorem heap_set {w : World} {p : Addr} {u : Value} {i : Nat} (h : i ≠ p.block) : (w.setCell p u).heap[i]? = w.heap[i]? := Below.heap_setCell _ _ _ i h
theorem RDel.set {lo hi gr : Nat} {w V : World} (h1 : lo ≤ gr) (h2 : gr < hi) (h : RDel lo hi w V) (o : Nat) (u : Value) : RDel lo hi w (V.setCell ⟨gr, o, none⟩ u) :=
  ⟨Below.setCell (p := ⟨gr, o, none⟩) h.1 h1 u, by simpa using h.2.1, fun i p q => (heap_set (p := ⟨gr, o, none⟩) (show i ≠ gr by omega)).trans (h.2.2 i p q)⟩
theorem below_setCells {lo b : Nat} (hb : lo ≤ b) : ∀ (vs : List Value) (o : Nat) (w : World), Below lo w (w.setCells b o vs)
  | [], _, w => Below.refl _ _
  | v :: r, o, w => (Below.setCell (p := ⟨b, o, none⟩) (Below.refl lo w) hb v).trans (below_setCells hb r (o + 1) _)
theorem size_setCells {b : Nat} : ∀ (vs : List Value) (o : Nat) (w : World), (w.setCells b o vs).heap.size = w.heap.size
  | [], _, w => rfl
  | v :: r, o, w => by rw [World.setCells, size_setCells r]; simp
theorem run_clear_ck (w : World) (ty : TypeId) (b o n c : Nat) (hn : 0 < n) (hc : ∀ j, j < n * 3 → (w.cell? ⟨b, o + j, none⟩).isSome = true) (hf : ∀ j, j < n * 3 → w.frozen? ⟨b, o + j, none⟩ = false) :
    ∃ vs : List Value, vs.length = n * 3 ∧ (Builtin.clear_ #[42] ty #[.slice (some ⟨b, o, none⟩) n c]).run Try.prog w = .ok (.tuple #[]) (w.setCells b o vs) := by
  have hl : (Builtin.zeroCells (Value.agg #[.int .i64 0, .int .u64 0, .int .u64 0]).cells n).toList.length = n * 3 := by simp [Builtin.zeroCells, Value.cells]
  refine ⟨(Builtin.zeroCells (Value.agg #[.int .i64 0, .int .u64 0, .int .u64 0]).cells n).toList, hl, ?_⟩
  have hst := run_storeCells_cells (P := Try.prog) b o (Builtin.zeroCells (Value.agg #[.int .i64 0, .int .u64 0, .int .u64 0]).cells n).toList 0 w (by rw [hl]; simpa using hc) (by rw [hl]; simpa using hf) (by
    intro v hv
    simp only [Builtin.zeroCells, Array.toList_map, List.mem_map] at hv
    obtain ⟨i, _, rfl⟩ := hv
    have h3 : i % (Value.agg #[.int .i64 0, .int .u64 0, .int .u64 0]).cells.size = 0 ∨ i % (Value.agg #[.int .i64 0, .int .u64 0, .int .u64 0]).cells.size = 1 ∨ i % (Value.agg #[.int .i64 0, .int .u64 0, .int .u64 0]).cells.size = 2 := by
      show i % 3 = 0 ∨ i % 3 = 1 ∨ i % 3 = 2
      omega
    rcases h3 with e | e | e <;> rw [e] <;> rfl)
  simp only [Nat.add_zero] at hst
  obtain ⟨m, rfl⟩ : ∃ m, n = m + 1 := ⟨n - 1, by omega⟩
  simp [Builtin.clear_, run_underlying Try.underlying42, Try.zeroValue26, hst]
theorem Cks.set3 {W w : World} {l : List Ck} {g n c : Nat} (h : Cks W l (.slice (some ⟨g, 0, none⟩) n c) w) {i : Nat} (hi : i < l.length) (x : Ck) :
    Cks W (l.set i x) (.slice (some ⟨g, 0, none⟩) n c) (((w.setCell ⟨g, i * 3, none⟩ (.int .i64 x.e)).setCell ⟨g, i * 3 + 1, none⟩ (.int .u64 x.r.1)).setCell ⟨g, i * 3 + 2, none⟩ (.int .u64 x.r.2)) := by
  have h1 := h.set hi (j := 0) (by omega) (u := .int .i64 x.e) (t := ⟨x.e, l[i].r⟩) rfl
  have h2 := h1.set (i := i) (by simpa using hi) (j := 1) (by omega) (u := .int .u64 x.r.1) (t := ⟨x.e, (x.r.1, l[i].r.2)⟩) (by rw [List.getElem_set_self]; rfl)
  have h3 := h2.set (i := i) (by simpa using hi) (j := 2) (by omega) (u := .int .u64 x.r.2) (t := x) (by rw [List.getElem_set_self]; rfl)
  rw [List.set_set, List.set_set] at h3
  exact h3
theorem cks_at {W w : World} {l : List Ck} {g n c : Nat} (h : Cks W l (.slice (some ⟨g, 0, none⟩) n c) w) {i : Nat} (hi : i < l.length) :
    w.cell? ⟨g, i * 3, none⟩ = some (.int .i64 l[i].e) ∧ w.cell? ⟨g, i * 3 + 1, none⟩ = some (.int .u64 l[i].r.1) ∧ w.cell? ⟨g, i * 3 + 2, none⟩ = some (.int .u64 l[i].r.2) := by
  have hn : n = l.length := by
    obtain ⟨A, c', e⟩ := h.slice
    injection e
  obtain ⟨z, o, e, _, h0, h1, h2⟩ := ck_at (h.cells hn) hi
  injection e with e
  cases e
  rw [Nat.zero_add] at h0 h1 h2
  exact ⟨h0, h1, h2⟩
/-- What lies in the row, when those ahead of number j are gone through, and i of them stay. -/
structure DelI (q : Ck → Bool) (l : List Ck) (i j : Nat) (S : List Ck) : Prop where
  lt : i < j
  le : j ≤ l.length
  len : S.length = l.length
  head : S.take i = (l.take j).filter fun x => !q x
  tail : ∀ m, j ≤ m → S[m]? = l[m]?
theorem DelI.start {q : Ck → Bool} {l : List Ck} {i : Nat} (hi : i < l.length) (h : ∀ m (hm : m < l.length), m < i → q l[m] = false) (h2 : q l[i] = true) : DelI q l i (i + 1) l := by
  refine ⟨by omega, hi, rfl, ?_, fun _ _ => rfl⟩
  rw [List.take_succ_eq_append_getElem hi, List.filter_append, List.filter_cons_of_neg (by rw [h2]; decide), List.filter_nil, List.append_nil, Eq.comm, List.filter_eq_self]
  intro x hx
  obtain ⟨m, hm, rfl⟩ := List.getElem_of_mem hx
  rw [List.length_take] at hm
  rw [List.getElem_take, h m (by omega) (by omega)]
  rfl
theorem DelI.skip {q : Ck → Bool} {l : List Ck} {i j : Nat} {S : List Ck} (I : DelI q l i j S) (hj : j < l.length) (h : q l[j] = true) : DelI q l i (j + 1) S := by
  refine ⟨by have := I.lt; omega, hj, I.len, ?_, fun m hm => I.tail m (by omega)⟩
  rw [List.take_succ_eq_append_getElem hj, List.filter_append, List.filter_cons_of_neg (by rw [h]; decide), List.filter_nil, List.append_nil]
  exact I.head
theorem DelI.keep {q : Ck → Bool} {l : List Ck} {i j : Nat} {S : List Ck} (I : DelI q l i j S) (hj : j < l.length) (h : q l[j] = false) : DelI q l (i + 1) (j + 1) (S.set i l[j]) := by
  have hlt := I.lt
  have hlen := I.len
  refine ⟨by omega, hj, by simp [hlen], ?_, fun m hm => ?_⟩
  · rw [List.take_succ_eq_append_getElem (by simp; omega), List.getElem_set_self, List.take_succ_eq_append_getElem hj, List.filter_append, List.filter_cons_of_pos (by rw [h]; rfl), List.filter_nil, ← I.head]
    congr 1
    rw [List.take_set, List.set_eq_of_length_le (by rw [List.length_take]; omega)]
  · rw [List.getElem?_set_ne (by omega)]
    exact I.tail m (by omega)
theorem DelI.at {q : Ck → Bool} {l : List Ck} {i j : Nat} {S : List Ck} (I : DelI q l i j S) (hj : j < l.length) : ∃ h : j < S.length, S[j] = l[j] := by
  have h := I.tail j (Nat.le_refl _)
  refine ⟨by rw [I.len]; exact hj, ?_⟩
  rw [List.getElem?_eq_getElem (by rw [I.len]; exact hj), List.getElem?_eq_getElem hj] at h
  injection h
theorem idxK_cases (q : Ck → Bool) (l : List Ck) : (idxK q l = -1 ∧ l.filter (fun x => !q x) = l) ∨ ∃ i, ∃ h : i < l.length, idxK q l = i ∧ DelI q l i (i + 1) l := by
  unfold idxK
  by_cases h : l.findIdx q < l.length
  · rw [if_pos h]
    refine Or.inr ⟨_, h, rfl, DelI.start h (fun m hm hlt => ?_) (List.findIdx_getElem (w := h))⟩
    have := List.not_of_lt_findIdx hlt
    simpa using this
  · rw [if_neg h]
    refine Or.inl ⟨rfl, List.filter_eq_self.2 fun x hx => ?_⟩
    have e : l.findIdx q = l.length := by have := List.findIdx_le_length (p := q) (xs := l); omega
    have := List.findIdx_eq_length.1 e x hx
    simp [this]

end Go.Proofs.Ythaofomhlmajbaa
