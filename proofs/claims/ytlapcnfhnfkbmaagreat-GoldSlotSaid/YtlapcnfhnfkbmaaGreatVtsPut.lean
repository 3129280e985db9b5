/-
  A list of votes of one's own, whose cells are written; a slice cut at its length and its room.
-/
import Derived.Test.YtlapcnfhnfkbmaaGreatVoteG
namespace Go.Proofs.YtlapcnfhnfkbmaaGreat
set_option maxRecDepth 100000
set_option linter.unusedVariables false
set_option linter.unusedSimpArgs false
set_option linter.unusedSimpArgs false
set_option linter.unusedVariables false
open Go.ChangeShapes Go.WideShapes Go.ChangeAt Go.RowKit

theorem vtCells_length (x : Vt) : (vtCells x).length = 4 := rfl
theorem votesCells_set : ∀ {l : List Vt} {i j : Nat} {u : Value} {t : Vt} (hi : i < l.length) (_ : j < 4) (_ : (vtCells l[i]).set j u = vtCells t), (votesCells l).set (i * 4 + j) u = votesCells (l.set i t)
  | b :: l, 0, j, u, t, _, hj, h => by
    show (vtCells b ++ votesCells l).set (0 * 4 + j) u = vtCells t ++ votesCells l
    rw [Nat.zero_mul, Nat.zero_add, List.set_append_left _ _ (by rw [vtCells_length]; exact hj)]
    rw [show (vtCells b).set j u = vtCells t from h]
  | b :: l, i + 1, j, u, t, hi, hj, h => by
    show (vtCells b ++ votesCells l).set ((i + 1) * 4 + j) u = vtCells b ++ votesCells (l.set i t)
    have h5 : (vtCells b).length = 4 := rfl
    rw [List.set_append_right _ _ (by omega), h5, show (i + 1) * 4 + j - 4 = i * 4 + j by omega]
    rw [votesCells_set (l := l) (by simpa using hi) hj h]
theorem vtown_set {w : World} {base : Nat} {e : TypeId} {size n n' cap g : Nat} {xs : List Value} (h : w.ownsRow base e size (.slice (some ⟨g, 0, .none⟩) n cap) n' xs) (j : Nat) (u : Value) (hj : j < xs.length) :
    (w.setCell ⟨g, j, .none⟩ u).ownsRow base e size (.slice (some ⟨g, 0, .none⟩) n cap) n' (xs.set j u) := by
  refine ⟨by rw [List.length_set]; exact h.1, ?_⟩
  rcases h.2 with ⟨hv, _⟩ | ⟨g', cap', cur, hv, hb, hg, hn, hm, hs, ht⟩
  · cases hv
  · cases hv
    refine Or.inr ⟨g, cap, cur.setIfInBounds j u, rfl, hb, ?_, hn, hm, by simpa using hs, ?_⟩
    · simp [World.setCell, Array.getElem?_modify, hg]
    · rw [Array.toList_setIfInBounds, List.take_set, ht]
theorem Vts.cells {W w : World} {l : List Vt} {A : Option Addr} {n c : Nat} (h : Vts W l (.slice A n c) w) (hn : n = l.length) : CellsAt w w.heap.size A (votesCells l) := by
  subst hn; exact CellsAt.of_own h.1
theorem Vts.long {W w : World} {l : List Vt} {A : Option Addr} {n c : Nat} (h : Vts W l (.slice A n c) w) : n = l.length := by
  obtain ⟨A', c', e⟩ := h.slice
  injection e
theorem Vts.cap {W w : World} {l : List Vt} {A : Option Addr} {n c : Nat} (h : Vts W l (.slice A n c) w) : n ≤ c := by
  rcases h.1.2 with ⟨e, _⟩ | ⟨g, cap, cur, hv, hg, hh, h1, _⟩
  · injection e; omega
  · rw [h.long]; injection hv; omega
/-- One that is not empty lies in a block that is new. -/
theorem Vts.form {W w : World} {l : List Vt} {A : Option Addr} {n c : Nat} (h : Vts W l (.slice A n c) w) (h0 : 0 < l.length) : ∃ g, A = some ⟨g, 0, .none⟩ ∧ W.heap.size ≤ g ∧ g < w.heap.size := by
  rcases h.1.2 with ⟨_, e⟩ | ⟨g, cap, cur, hv, hg, hh, _⟩
  · omega
  · injection hv with e1
    exact ⟨g, e1, hg, (Array.getElem?_eq_some_iff.1 hh).1⟩
theorem Vts.frozen {W w : World} {l : List Vt} {g n c : Nat} (h : Vts W l (.slice (some ⟨g, 0, .none⟩) n c) w) (j : Nat) : w.frozen? ⟨g, j, .none⟩ = false := by
  rcases h.1.2 with ⟨hv, _⟩ | ⟨g', cap', cur, hv, hb, hg, _⟩
  · cases hv
  · cases hv
    simp [World.frozen?, hg]
theorem Vts.ge {W w : World} {l : List Vt} {g n c : Nat} (h : Vts W l (.slice (some ⟨g, 0, .none⟩) n c) w) : W.heap.size ≤ g ∧ g < w.heap.size := h.1.lt g rfl
/-- A cell of number i is written. -/
theorem Vts.set {W w : World} {l : List Vt} {g n c : Nat} (h : Vts W l (.slice (some ⟨g, 0, .none⟩) n c) w) {i : Nat} (hi : i < l.length) {j : Nat} (hj : j < 4) {u : Value} {t : Vt} (ht : (vtCells l[i]).set j u = vtCells t) :
    Vts W (l.set i t) (.slice (some ⟨g, 0, .none⟩) n c) (w.setCell ⟨g, i * 4 + j, .none⟩ u) := by
  refine ⟨?_, h.2.setCell (p := ⟨g, i * 4 + j, .none⟩) h.ge.1 u⟩
  have := vtown_set h.1 (i * 4 + j) u (by rw [votesCells_length]; omega)
  rw [votesCells_set hi hj ht] at this
  rw [List.length_set]
  exact this
theorem Vts.step {W w : World} {l : List Vt} {g n c i j : Nat} {x y : Vt} {u : Value} (h : Vts W (l.set i x) (.slice (some ⟨g, 0, .none⟩) n c) w) (hi : i < l.length) (hj : j < 4) (ht : (vtCells x).set j u = vtCells y) :
    Vts W (l.set i y) (.slice (some ⟨g, 0, .none⟩) n c) (w.setCell ⟨g, i * 4 + j, .none⟩ u) := by
  have h2 := h.set (i := i) (j := j) (u := u) (t := y) (by rw [List.length_set]; exact hi) hj (by rw [List.getElem_set_self]; exact ht)
  rwa [List.set_set] at h2
/-- A place is written. -/
theorem Vts.put {W w : World} {l : List Vt} {g n c i : Nat} (h : Vts W l (.slice (some ⟨g, 0, .none⟩) n c) w) (hi : i < l.length) (t : Vt) :
    Vts W (l.set i t) (.slice (some ⟨g, 0, .none⟩) n c) ((((w.setCell ⟨g, i * 4, .none⟩ (.int .i64 t.f)).setCell ⟨g, i * 4 + 1, .none⟩ (.int .i64 t.s)).setCell ⟨g, i * 4 + 2, .none⟩ (.int .u64 t.p.1)).setCell ⟨g, i * 4 + 3, .none⟩ (.int .u64 t.p.2)) := by
  obtain ⟨a0, a1, a2, a3⟩ := t
  have h0 : Vts W (l.set i l[i]) (.slice (some ⟨g, 0, .none⟩) n c) w := by rw [List.set_getElem_self]; exact h
  generalize l[i] = x at h0
  obtain ⟨b0, b1, b2, b3⟩ := x
  have h1 := h0.step (j := 0) (u := .int .i64 a0) (y := ⟨a0, b1, (b2, b3)⟩) hi (by omega) rfl
  have h2 := h1.step (j := 1) (u := .int .i64 a1) (y := ⟨a0, a1, (b2, b3)⟩) hi (by omega) rfl
  have h3 := h2.step (j := 2) (u := .int .u64 a2) (y := ⟨a0, a1, (a2, b3)⟩) hi (by omega) rfl
  exact h3.step (j := 3) (u := .int .u64 a3) (y := ⟨a0, a1, (a2, a3)⟩) hi (by omega) rfl
theorem Vts.at {W w : World} {l : List Vt} {g n c : Nat} (h : Vts W l (.slice (some ⟨g, 0, .none⟩) n c) w) {i : Nat} (hi : i < l.length) :
    w.cell? ⟨g, i * 4, .none⟩ = some (.int .i64 l[i].f) ∧ w.cell? ⟨g, i * 4 + 1, .none⟩ = some (.int .i64 l[i].s) ∧ w.cell? ⟨g, i * 4 + 2, .none⟩ = some (.int .u64 l[i].p.1) ∧ w.cell? ⟨g, i * 4 + 3, .none⟩ = some (.int .u64 l[i].p.2) := by
  obtain ⟨z, o, e, _, h0, h1, h2, h3⟩ := vote_at (h.cells h.long) hi
  injection e with e
  cases e
  rw [Nat.zero_add] at h0 h1 h2 h3
  exact ⟨h0, h1, h2, h3⟩
/-- s[:k:k]. -/
theorem run_upto3 (t e : TypeId) (i : TypeInfo) (ht : Tryz.prog.underlying t = some (.slice e)) (hi : Tryz.prog.info? e = some i) (A : Option Addr) (n c k : Nat) (hk : k ≤ c) (w : World) :
    (Instr.slice t (.slice A n c) none (some (.int .i64 (k : Int))) (some (.int .i64 (k : Int)))).run Tryz.prog w = .ok (.slice A k k) w := by
  have hb : ∀ m code, k ≤ m → (Instr.sliceBound (.int .i64 (k : Int)) m code).run Tryz.prog w = .ok k w := fun m code hm => by
    rw [run_sliceBound _ _ _ _ _ (by omega) (by omega)]; simp
  have hz : A.map (fun x => x.add 0) = A := by have := map_add0 0 A; simpa using this
  simp [Instr.slice, run_underlying ht, Instr.sliceBounds, hb c _ hk, hb k _ (Nat.le_refl k), sizeOf, typeInfo, hi, Result.andThen, hz]
theorem upto3_votes (A : Option Addr) (n c k : Nat) (hk : k ≤ c) (w : World) : (Instr.slice 27 (.slice A n c) none (some (.int .i64 (k : Int))) (some (.int .i64 (k : Int)))).run Tryz.prog w = .ok (.slice A k k) w := by
  obtain ⟨i, hi, _⟩ := info_of Tryz.infoV
  exact run_upto3 _ _ i Tryz.underlying27 hi A n c k hk w
theorem cells_votes_take {w : World} {B : Nat} {A : Option Addr} {l : List Vt} (h : CellsAt w B A (votesCells l)) (k : Nat) : CellsAt w B A (votesCells (l.take k)) := by
  have e : votesCells l = votesCells (l.take k) ++ votesCells (l.drop k) := by rw [votesCells_append, List.take_append_drop]
  rw [e] at h
  exact cells_prefix h
/-- What lies in the row, when those ahead of number j are gone through, and the i of them that q takes are put in front. -/
structure CutI (q : Vt → Bool) (l : List Vt) (i j : Nat) (S : List Vt) : Prop where
  ij : i ≤ j
  le : j ≤ l.length
  len : S.length = l.length
  head : S.take i = (l.take j).filter q
  tail : ∀ m, j ≤ m → S[m]? = l[m]?
theorem CutI.start (q : Vt → Bool) (l : List Vt) : CutI q l 0 0 l := ⟨Nat.le_refl _, Nat.zero_le _, rfl, rfl, fun _ _ => rfl⟩
theorem CutI.skip {q : Vt → Bool} {l : List Vt} {i j : Nat} {S : List Vt} (I : CutI q l i j S) (hj : j < l.length) (h : q l[j] = false) : CutI q l i (j + 1) S := by
  refine ⟨by have := I.ij; omega, hj, I.len, ?_, fun m hm => I.tail m (by omega)⟩
  rw [List.take_succ_eq_append_getElem hj, List.filter_append, List.filter_cons_of_neg (by rw [h]; decide), List.filter_nil, List.append_nil]
  exact I.head
theorem CutI.keep {q : Vt → Bool} {l : List Vt} {i j : Nat} {S : List Vt} (I : CutI q l i j S) (hj : j < l.length) (h : q l[j] = true) : CutI q l (i + 1) (j + 1) (S.set i l[j]) := by
  have hij := I.ij
  have hlen := I.len
  refine ⟨by omega, hj, by simp [hlen], ?_, fun m hm => ?_⟩
  · rw [List.take_succ_eq_append_getElem (by simp; omega), List.getElem_set_self, List.take_succ_eq_append_getElem hj, List.filter_append, List.filter_cons_of_pos h, List.filter_nil, ← I.head]
    congr 1
    rw [List.take_set, List.set_eq_of_length_le (by rw [List.length_take]; omega)]
  · rw [List.getElem?_set_ne (by omega)]
    exact I.tail m (by omega)
theorem CutI.at {q : Vt → Bool} {l : List Vt} {i j : Nat} {S : List Vt} (I : CutI q l i j S) (hj : j < l.length) : ∃ h : j < S.length, S[j] = l[j] := by
  have h := I.tail j (Nat.le_refl _)
  refine ⟨by rw [I.len]; exact hj, ?_⟩
  rw [List.getElem?_eq_getElem (by rw [I.len]; exact hj), List.getElem?_eq_getElem hj] at h
  injection h

end Go.Proofs.YtlapcnfhnfkbmaaGreat
