/-
  Votes as arguments and as cells; a list of votes, cell by cell.
-/
import Derived.Test.YtjcjglhoknbhpaaVoteMath
import Derived.Test.YtjcjglhoknbhpaaPlain
import Derived.Test.YtjcjglhoknbhpaaHas
import Derived.Test.YtjcjglhoknbhpaaVoteEq
namespace Go.Proofs.Ytjcjglhoknbhpaa
open Go.ChangeShapes Go.WideShapes Go.ChangeAt Go.RowKit

/-- Its numbers are numbers, its words are words. -/
def Wf64 (a : Int) : Prop := -9223372036854775808 ≤ a ∧ a ≤ 9223372036854775807
theorem Wf64.wf {a : Int} (h : Wf64 a) : (Lit.int .i64 a).wf = true := Go.WalkArith.wf_i64 h
theorem Wf64.of {a : Int} (h : (Lit.int .i64 a).wf = true) : Wf64 a := bounds_i64 h
def WfV (v : Vt) : Prop := Wf64 v.f ∧ Wf64 v.s ∧ v.p.1 < 18446744073709551616 ∧ v.p.2 < 18446744073709551616
def WfVs (L : List Vt) : Prop := ∀ v ∈ L, WfV v
def vtCells (v : Vt) : List Value := [.int .i64 v.f, .int .i64 v.s, .int .u64 v.p.1, .int .u64 v.p.2]
def votesCells (l : List Vt) : List Value := l.flatMap vtCells
theorem votesCells_at : ∀ {l : List Vt} {i : Nat} (hi : i < l.length) {j : Nat} {u : Value}, (vtCells l[i])[j]? = some u → (votesCells l)[i * 4 + j]? = some u
  | b :: l, 0, _, j, u, h => by
    have hj : j < (vtCells b).length := (List.getElem?_eq_some_iff.1 h).1
    show (vtCells b ++ votesCells l)[0 * 4 + j]? = _
    rw [Nat.zero_mul, Nat.zero_add, List.getElem?_append_left hj]; exact h
  | b :: l, i + 1, hi, j, u, h => by
    show (vtCells b ++ votesCells l)[(i + 1) * 4 + j]? = _
    have h5 : (vtCells b).length = 4 := rfl
    rw [List.getElem?_append_right (by omega), h5, show (i + 1) * 4 + j - 4 = i * 4 + j by omega]
    exact votesCells_at (l := l) (by simpa using hi) h
theorem votesCells_length (l : List Vt) : (votesCells l).length = l.length * 4 := by
  induction l with
  | nil => rfl
  | cons b l ih => show (vtCells b ++ votesCells l).length = _; rw [List.length_append, ih, List.length_cons]; show 4 + _ = _; omega
theorem votesCells_append (l m : List Vt) : votesCells l ++ votesCells m = votesCells (l ++ m) := by simp [votesCells]
theorem votesCells_one (l : List Vt) : ∀ u ∈ votesCells l, u.oneCell' = true := fun u hu => by
  simp only [votesCells, List.mem_flatMap] at hu
  obtain ⟨x, _, hu⟩ := hu
  simp [vtCells] at hu
  rcases hu with rfl | rfl | rfl | rfl <;> rfl
theorem votesCells_inv {l : List Vt} {j : Nat} {u : Value} (h : (votesCells l)[j]? = some u) : ∃ (i k : Nat) (hi : i < l.length), k < 4 ∧ j = i * 4 + k ∧ (vtCells l[i])[k]? = some u := by
  have hj := (List.getElem?_eq_some_iff.1 h).1
  rw [votesCells_length] at hj
  have hi : j / 4 < l.length := by omega
  have hk : j % 4 < (vtCells l[j / 4]).length := by show j % 4 < 4; omega
  refine ⟨j / 4, j % 4, hi, by omega, by omega, ?_⟩
  have e := votesCells_at hi (List.getElem?_eq_getElem hk)
  rw [show j / 4 * 4 + j % 4 = j by omega, h] at e
  rw [List.getElem?_eq_getElem hk]
  exact e.symm
/-- Vote i of a list. -/
theorem vote_at {w : World} {B : Nat} {A : Option Addr} {l : List Vt} (h : CellsAt w B A (votesCells l)) {i : Nat} (hi : i < l.length) :
    ∃ z o, A = some ⟨z, o, none⟩ ∧ z < B ∧ w.cell? ⟨z, o + i * 4, none⟩ = some (.int .i64 l[i].f) ∧ w.cell? ⟨z, o + i * 4 + 1, none⟩ = some (.int .i64 l[i].s) ∧ w.cell? ⟨z, o + i * 4 + 2, none⟩ = some (.int .u64 l[i].p.1) ∧ w.cell? ⟨z, o + i * 4 + 3, none⟩ = some (.int .u64 l[i].p.2) := by
  obtain ⟨z, o, e, hb, hc⟩ := h.plain (by rw [votesCells_length]; omega)
  exact ⟨z, o, e, hb, hc _ _ (votesCells_at hi (j := 0) rfl), hc _ _ (votesCells_at hi (j := 1) rfl), hc _ _ (votesCells_at hi (j := 2) rfl), hc _ _ (votesCells_at hi (j := 3) rfl)⟩
/-- Are two votes the same? -/
def sameV (a b : Vt) : Bool := decide (a.f = b.f ∧ a.s = b.s ∧ a.p.1 = b.p.1 ∧ a.p.2 = b.p.2)
theorem sameV_iff {a b : Vt} : sameV a b = true ↔ a = b := by
  unfold sameV
  rw [decide_eq_true_iff]
  constructor
  · rintro ⟨h1, h2, h3, h4⟩
    cases a; cases b
    simp only at h1 h2 h3 h4
    rw [Vt.mk.injEq]
    exact ⟨h1, h2, Prod.ext h3 h4⟩
  · rintro rfl; exact ⟨rfl, rfl, rfl, rfl⟩
theorem sameV_no {a b : Vt} (h : sameV a b = false) : a ≠ b := fun e => by rw [sameV_iff.2 e] at h; cases h
theorem eqV (a b : Vt) (w : World) : Sem.run Try.prog (Op.equalIn 10000 36 (.agg #[.int .i64 a.f, .int .i64 a.s, .int .u64 a.p.1, .int .u64 a.p.2]) (.agg #[.int .i64 b.f, .int .i64 b.s, .int .u64 b.p.1, .int .u64 b.p.2])) w = .ok (sameV a b) w := by
  rw [eqVote]
  congr 1
  rw [Bool.eq_iff_iff]
  unfold sameV
  simp
  omega

/-! ### A list of votes of one's own -/
theorem Try.infoV : (Try.prog.info? 36).map (fun i => (i.zero, i.size, i.bytes)) = some (some (.agg #[.int .i64 0, .int .i64 0, .int .u64 0, .int .u64 0]), 4, 32) := by kernel_rfl
/-- v holds the votes of l, in a row of its own; all that lay in W lies as it was. -/
def Vts (W : World) (l : List Vt) (v : Value) (w : World) : Prop := w.ownsRow W.heap.size 36 4 v l.length (votesCells l) ∧ Kept W w
theorem Vts.nil (W : World) : Vts W [] (.slice none 0 0) W := ⟨World.ownsRow_nil _ _ _ _, Kept.refl _⟩
theorem Vts.none {W w : World} (k : Kept W w) : Vts W [] (.slice none 0 0) w := ⟨World.ownsRow_nil _ _ _ _, k⟩
theorem Vts.alloc {W w : World} {l : List Vt} {v : Value} (h : Vts W l v w) (o : Obj) : Vts W l v (w.alloc o) := ⟨h.1.alloc o, h.2.alloc o⟩
theorem Vts.kept {W w w' : World} {l : List Vt} {v : Value} (h : Vts W l v w) (k : Kept w w') : Vts W l v w' := by
  refine ⟨⟨h.1.1, ?_⟩, h.2.trans k⟩
  rcases h.1.2 with h2 | ⟨g, cap, cur, hv, hg, hh, r⟩
  · exact Or.inl h2
  · exact Or.inr ⟨g, cap, cur, hv, hg, by rw [k.heap (h.1.lt g (by rw [hv]; rfl)).2]; exact hh, r⟩
theorem votes_one_at {w : World} {z : Nat} {x : Vt} (h : HasCells w z [.int .i64 x.f, .int .i64 x.s, .int .u64 x.p.1, .int .u64 x.p.2]) : CellsAt w w.heap.size (some ⟨z, 0, none⟩) (votesCells [x]) := by
  intro j u hu
  refine ⟨_, rfl, h.1, ?_⟩
  rw [add_none, Nat.zero_add]
  exact h.2 j u (by simpa [votesCells, vtCells] using hu)
/-- append of votes. -/
theorem wpList_vts {ops : Array Oper} {rest : List Oper} {o : Oper} {a : Act} {Q : Exit → Act → World → Prop} (w : World) (hgd : o.guard = none) (s x : Operand)
    (ho : o.op = .call { callee := .builtin .append, args := #[s, x], argTypes := #[22, 22] })
    (W : World) (l : List Vt) (v : Value) (hs : a.eval s = v) (HB : Vts W l v w) (B : Nat) (A : Option Addr) (m c : Nat) (news : List Vt) (hx : a.eval x = .slice A m c) (hl : news.length = m)
    (hr : CellsAt w B A (votesCells news)) (hlen : l.length + m ≤ 10000000)
    (h : ∀ v' w', Vts W (l ++ news) v' w' → w.grownBy w' v.ownBlock → wpList Try.prog ops Q rest (a.put o.dst v') w') : wpList Try.prog ops Q (o :: rest) a w := by
  obtain ⟨i0, hi0, hz0, hz1, hz2⟩ := info_of Try.infoV
  refine wpList_app w hgd s x _ ho W.heap.size 36 i0 _ 4 32 Try.underlying22 hi0 hz0 hz1 hz2 rfl (by omega) v l.length (votesCells l) hs HB.1 B A m c (votesCells news) hx (by rw [votesCells_length, hl]) hr (votesCells_one _)
    (by unfold maxLen; omega) (by omega) HB.2.size_le ?_
  intro v' w' own g _
  refine h v' w' ⟨?_, HB.2.grown g fun i hi => (HB.1.lt i hi).1⟩ g
  rw [votesCells_append] at own
  rw [List.length_append, hl]
  exact own
/-- What hands back the votes of l, as a list that is new. -/
def VtsNew (l : List Vt) (w : World) (e : Ending) (w' : World) : Prop :=
  ∃ A c, e = .returned (.slice A l.length c) ∧ CellsAt w' w'.heap.size A (votesCells l) ∧ Kept w w'
theorem Vts.slice {W w : World} {l : List Vt} {v : Value} (h : Vts W l v w) : ∃ A c, v = .slice A l.length c := by
  rcases h.1.2 with ⟨hv, h0⟩ | ⟨g, cap, cur, hv, _⟩
  · rw [h0]; exact ⟨_, _, hv⟩
  · exact ⟨_, _, hv⟩
theorem Vts.new {W w : World} {l : List Vt} {A : Option Addr} {c : Nat} (h : Vts W l (.slice A l.length c) w) : VtsNew l W (.returned (.slice A l.length c)) w := ⟨A, c, rfl, CellsAt.of_own h.1, h.2⟩
/-- The votes from place k on. -/
theorem from_votes {w : World} {B : Nat} {A : Option Addr} {l : List Vt} (h : CellsAt w B A (votesCells l)) (c k : Nat) (hk : k ≤ l.length) (hc : l.length ≤ c) :
    ∃ A', (∀ w', (Instr.slice 22 (.slice A l.length c) (some (.int .i64 (k : Int))) none none).run Try.prog w' = .ok (.slice A' (l.length - k) (c - k)) w') ∧ CellsAt w B A' (votesCells (l.drop k)) := by
  obtain ⟨i, hi, _, hs, _⟩ := info_of Try.infoV
  refine ⟨_, fun w' => run_from _ _ i Try.underlying22 hi A l.length c k hk w', ?_⟩
  have e : votesCells l = votesCells (l.take k) ++ votesCells (l.drop k) := by rw [votesCells_append, List.take_append_drop]
  by_cases q : c = k
  · have : l.drop k = [] := List.drop_eq_nil_of_le (by omega)
    rw [this]
    exact CellsAt.nil
  · rw [if_neg q, hs]
    rw [e] at h
    have := cells_from h
    rw [votesCells_length, List.length_take, Nat.min_eq_left hk] at this
    exact this

end Go.Proofs.Ytjcjglhoknbhpaa
