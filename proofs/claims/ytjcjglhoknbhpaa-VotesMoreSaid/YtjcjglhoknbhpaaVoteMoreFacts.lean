/-
  One more vote: what follows; append of votes at a step of a region that draws its order.
-/
import Derived.Test.YtjcjglhoknbhpaaVoteFacts
import Derived.Test.YtjcjglhoknbhpaaVoteThere
import Derived.Test.YtjcjglhoknbhpaaRowStep
import Derived.Deep.RegionHeld3
namespace Go.Proofs.Ytjcjglhoknbhpaa
open Go.ChangeShapes Go.WideShapes Go.ChangeAt Go.RowKit

theorem more_cnt {L : List Vt} {q : Int → Bool} {u v : Vt} (hf : u.f ≠ v.f) : Cnt (L ++ [v]) q u ↔ Cnt L q u := by
  have hm : u ∈ L ++ [v] ↔ u ∈ L := by
    rw [List.mem_append]
    constructor
    · rintro (h | h)
      · exact h
      · exact absurd (by rw [show u = v by simpa using h]) hf
    · exact Or.inl
  have hd : ∀ s, Dbl (L ++ [v]) s u.f ↔ Dbl L s u.f := fun s => dbl_snoc_other fun k => hf k.1.symm
  unfold Cnt
  rw [hm]
  constructor
  · rintro ⟨h1, h2, h3, h4⟩
    exact ⟨h1, h2, fun s hs d => h3 s hs ((hd s).2 d), fun a ha => h4 a (List.mem_append_left _ ha)⟩
  · rintro ⟨h1, h2, h3, h4⟩
    refine ⟨h1, h2, fun s hs d => h3 s hs ((hd s).1 d), fun a ha e => ?_⟩
    rcases List.mem_append.1 ha with h | h
    · exact h4 a h e
    · have : a = v := by simpa using h
      rw [this] at e
      exact absurd e.symm hf
theorem mem_wo {f : Int} {R : List Vt} {u : Vt} : u ∈ wo f R ↔ u ∈ R ∧ u.f ≠ f := by simp [wo, List.mem_filter]
theorem more_wo {L : List Vt} {q : Int → Bool} {v : Vt} {R S : List Vt} (hR : Cnts L q R) (hS : Cnts (L ++ [v]) q S) : wo v.f R = wo v.f S := by
  refine rise_eq Vt.f (hR.1.filter _) (hS.1.filter _) fun u => ?_
  rw [mem_wo, mem_wo]
  constructor
  · rintro ⟨h1, h2⟩; exact ⟨(hS.2 u).2 ((more_cnt h2).2 ((hR.2 u).1 h1)), h2⟩
  · rintro ⟨h1, h2⟩; exact ⟨(hR.2 u).2 ((more_cnt h2).1 ((hS.2 u).1 h1)), h2⟩
theorem count_le_one {α : Type} (k : α → Int) (f : Int) {R : List α} (h : R.Pairwise (fun a b => k a < k b)) : R.countP (fun a => decide (k a = f)) ≤ 1 := by
  by_cases e : ∃ v ∈ R, k v = f
  · obtain ⟨v, hv, e⟩ := e
    rw [count_one k h v hv e]; exact Nat.le_refl _
  · rw [count_none k fun v hv q => e ⟨v, hv, q⟩]; omega
theorem split_len {α : Type} (k : α → Int) (f : Int) (R : List α) : R.length = (R.filter fun a => decide (k a ≠ f)).length + R.countP (fun a => decide (k a = f)) := by
  induction R with
  | nil => rfl
  | cons a R ih =>
    rw [List.length_cons, List.filter_cons, List.countP_cons, ih]
    by_cases e : k a = f
    · simp [e]; omega
    · simp [e]; omega
theorem more_len {L : List Vt} {q : Int → Bool} {v : Vt} {R S : List Vt} (hR : Cnts L q R) (hS : Cnts (L ++ [v]) q S) : S.length ≤ R.length + 1 := by
  have h1 := split_len Vt.f v.f S
  have h2 := split_len Vt.f v.f R
  have h3 := count_le_one Vt.f v.f hS.1
  have h4 := more_wo hR hS
  unfold wo at h4
  rw [← h4] at h1
  omega
theorem more_dbls {L : List Vt} {s : Int} {v : Vt} {D E : List Int} (hD : Dbls L s D) (hE : Dbls (L ++ [v]) s E) : D.length ≤ E.length ∧ E.length ≤ D.length + 1 := by
  have h1 := split_len (fun x : Int => x) v.f D
  have h2 := split_len (fun x : Int => x) v.f E
  have h3 := count_le_one (fun x : Int => x) v.f hE.1
  have h4 : (D.filter fun a => decide (a ≠ v.f)) = E.filter fun a => decide (a ≠ v.f) := by
    refine rise_eq (fun x : Int => x) (hD.1.filter _) (hE.1.filter _) fun u => ?_
    simp only [List.mem_filter, decide_eq_true_eq]
    constructor
    · rintro ⟨a, b⟩; exact ⟨(hE.2 u).2 (Dbl.of (fun x hx => List.mem_append_left _ hx) ((hD.2 u).1 a)), b⟩
    · rintro ⟨a, b⟩; exact ⟨(hD.2 u).2 ((dbl_snoc_other fun k => b k.1.symm).1 ((hE.2 u).1 a)), b⟩
  have h5 : D.countP (fun a => decide (a = v.f)) ≤ E.countP (fun a => decide (a = v.f)) := by
    by_cases e : v.f ∈ D
    · rw [count_one (fun x : Int => x) hD.1 v.f e rfl, count_one (fun x : Int => x) hE.1 v.f ((hE.2 _).2 (Dbl.of (fun x hx => List.mem_append_left _ hx) ((hD.2 _).1 e))) rfl]
      exact Nat.le_refl _
    · rw [count_none (fun x : Int => x) fun x hx q => e (by rw [← show x = v.f from q]; exact hx)]
      exact Nat.zero_le _
  rw [h4] at h1
  omega
theorem wf_more {L : List Vt} {v : Vt} (h : WfVs L) (hv : WfV v) : WfVs (L ++ [v]) := fun u hu => by
  rcases List.mem_append.1 hu with k | k
  · exact h u k
  · rw [show u = v by simpa using k]; exact hv

/-! ### append at a step -/
theorem wp_vts {o : Oper} {a : Act} {K : Act → World → Prop} {Q : Exit → Act → World → Prop} (w : World) (s x : Operand)
    (ho : o.op = .call { callee := .builtin .append, args := #[s, x], argTypes := #[22, 22] })
    (W : World) (l : List Vt) (v : Value) (hs : a.eval s = v) (HB : Vts W l v w) (B : Nat) (A : Option Addr) (m c : Nat) (news : List Vt) (hx : a.eval x = .slice A m c) (hl : news.length = m)
    (hr : CellsAt w B A (votesCells news)) (hlen : l.length + m ≤ 1000000)
    (h : ∀ A' c' w', Vts W (l ++ news) (.slice A' (l ++ news).length c') w' → K (a.put o.dst (.slice A' (l ++ news).length c')) w') : o.wp Try.prog a w K Q := by
  obtain ⟨i0, hi0, hz0, hz1, hz2⟩ := info_of Try.infoV
  refine wp_app w s x _ ho W.heap.size 36 i0 _ 4 32 Try.underlying22 hi0 hz0 hz1 hz2 rfl (by omega) v l.length (votesCells l) hs HB.1 B A m c (votesCells news) hx (by rw [votesCells_length, hl]) hr (votesCells_one _)
    (by unfold maxLen; omega) (by omega) HB.2.size_le ?_
  intro v' w' own g _
  have e : (l ++ news).length = l.length + m := by rw [List.length_append, hl]
  rw [← e, votesCells_append] at own
  obtain ⟨A', c', rfl⟩ : ∃ A c, v' = .slice A (l ++ news).length c := by
    rcases own.2 with ⟨hv, h0⟩ | ⟨g, cap, cur, hv, _⟩
    · rw [h0]; exact ⟨_, _, hv⟩
    · exact ⟨_, _, hv⟩
  exact h A' c' w' ⟨own, HB.2.grown g fun i hi => (HB.1.lt i hi).1⟩
theorem step_vts {ops : Array Oper} {o : Oper} {a : Act} {K : Act → World → Prop} {Q : Exit → Act → World → Prop} {E : Prop} (w : World) (hgd : Region.wanted o (yielded ops a.tmps) = true) (s x : Operand)
    (ho : o.op = .call { callee := .builtin .append, args := #[s, x], argTypes := #[22, 22] })
    (W : World) (l : List Vt) (v : Value) (hs : a.eval s = v) (HB : Vts W l v w) (B : Nat) (A : Option Addr) (m c : Nat) (news : List Vt) (hx : a.eval x = .slice A m c) (hl : news.length = m)
    (hr : CellsAt w B A (votesCells news)) (hlen : l.length + m ≤ 1000000)
    (h : ∀ A' c' w', Vts W (l ++ news) (.slice A' (l ++ news).length c') w' → K (a.put o.dst (.slice A' (l ++ news).length c')) w') :
    if Region.wanted o (yielded ops a.tmps) = true then Oper.wp Try.prog o a w K Q else E := by
  rw [if_pos hgd]
  exact wp_vts w s x ho W l v hs HB B A m c news hx hl hr hlen h
theorem step_vnil {ops : Array Oper} {o : Oper} {a : Act} {K : Act → World → Prop} {Q : Exit → Act → World → Prop} {E : Prop} (w : World) (hgd : Region.wanted o (yielded ops a.tmps) = true) (x : Operand)
    (ho : o.op = .call { callee := .builtin .append, args := #[.const (.slice none 0 0), x], argTypes := #[22, 22] })
    (B : Nat) (A : Option Addr) (m c : Nat) (news : List Vt) (hx : a.eval x = .slice A m c) (hl : news.length = m)
    (hr : CellsAt w B A (votesCells news)) (hlen : m ≤ 1000000)
    (h : ∀ A' c' w', Vts w news (.slice A' news.length c') w' → K (a.put o.dst (.slice A' news.length c')) w') :
    if Region.wanted o (yielded ops a.tmps) = true then Oper.wp Try.prog o a w K Q else E :=
  step_vts w hgd _ x ho w [] _ rfl (Vts.nil w) B A m c news hx hl hr (by simp; omega) h
theorem keep4 {W w w' : World} {b : Nat} {x0 x1 x2 x3 : Value} (hb : b < W.heap.size)
    (h : w.cell? ⟨b, 0, none⟩ = some x0 ∧ w.cell? ⟨b, 1, none⟩ = some x1 ∧ w.cell? ⟨b, 2, none⟩ = some x2 ∧ w.cell? ⟨b, 3, none⟩ = some x3 ∧ Kept W w) (k : Kept w w') :
    w'.cell? ⟨b, 0, none⟩ = some x0 ∧ w'.cell? ⟨b, 1, none⟩ = some x1 ∧ w'.cell? ⟨b, 2, none⟩ = some x2 ∧ w'.cell? ⟨b, 3, none⟩ = some x3 ∧ Kept W w' := by
  obtain ⟨h0, h1, h2, h3, hk⟩ := h
  have hb' : b < w.heap.size := Nat.lt_of_lt_of_le hb hk.size_le
  exact ⟨(k.cell (p := ⟨b, 0, none⟩) hb').trans h0, (k.cell (p := ⟨b, 1, none⟩) hb').trans h1, (k.cell (p := ⟨b, 2, none⟩) hb').trans h2, (k.cell (p := ⟨b, 3, none⟩) hb').trans h3, hk.trans k⟩
theorem keep0 {W w w' : World} {b : Nat} {x0 : Value} (hb : b < W.heap.size) (h : w.cell? ⟨b, 0, none⟩ = some x0 ∧ Kept W w) (k : Kept w w') : w'.cell? ⟨b, 0, none⟩ = some x0 ∧ Kept W w' :=
  ⟨(k.cell (p := ⟨b, 0, none⟩) (Nat.lt_of_lt_of_le hb h.2.size_le)).trans h.1, h.2.trans k⟩
theorem votes_one (w : World) (t : TypeId) (b : Vt) (z : Nat) (hz : z = w.heap.size) : CellsAt (w.alloc (.cells #[.int .i64 b.f, .int .i64 b.s, .int .u64 b.p.1, .int .u64 b.p.2] t)) (w.alloc (.cells #[.int .i64 b.f, .int .i64 b.s, .int .u64 b.p.1, .int .u64 b.p.2] t)).heap.size (some ⟨z, 0, none⟩) (votesCells [b]) := votes_one_at (HasCells.new w #[.int .i64 b.f, .int .i64 b.s, .int .u64 b.p.1, .int .u64 b.p.2] t z hz)

end Go.Proofs.Ytjcjglhoknbhpaa
