/-
  The contract of Guilty of the given package marigoldref12.
-/
import Derived.Test.YthaofomhlmajbaaGreatSlashMath
import Derived.Test.YthaofomhlmajbaaGreatSlashEq
import Derived.Test.YthaofomhlmajbaaGreatFfgRefG
import Derived.Test.YthaofomhlmajbaaGreatFfgOpen
import Derived.Test.YthaofomhlmajbaaGreatGround
namespace Go.Proofs.YthaofomhlmajbaaGreat
set_option maxRecDepth 100000
set_option linter.unusedVariables false
set_option linter.unusedSimpArgs false
set_option linter.unusedSimpArgs false
set_option linter.unusedVariables false
open Go.ChangeShapes Go.WideShapes Go.ChangeAt Go.RowKit

/-- A row's beginning, as a row of one's own. -/
theorem Ints.upto {W w : World} {l : List Int} {A : Option Addr} {n c k : Nat} (h : Ints W l (.slice A n c) w) (hn : n = l.length) (hk : k ≤ n) : Ints W (l.take k) (.slice A k c) w := by
  obtain ⟨⟨hlen, hor⟩, hK⟩ := h
  refine ⟨⟨by rw [intCells_length, List.length_take]; omega, ?_⟩, hK⟩
  have hl : (l.take k).length = k := by rw [List.length_take]; omega
  rw [hl]
  rcases hor with ⟨hv, h0⟩ | ⟨g, cap, cur, hv, hb, hg, hc, hm, hs, ht⟩
  · injection hv with h1 h2 h3
    have : k = 0 := by omega
    subst this
    exact Or.inl ⟨by rw [h1, h3], rfl⟩
  · injection hv with h1 h2 h3
    refine Or.inr ⟨g, cap, cur, by rw [h1, h3], hb, hg, by omega, hm, hs, ?_⟩
    have e : intCells (l.take k) = (intCells l).take (k * 1) := by unfold intCells; rw [List.map_take, Nat.mul_one]
    rw [e, ← ht, List.take_take]
    congr 1
    omega
theorem step_intsG {ops : Array Oper} {o : Oper} {a : Act} {K : Act → World → Prop} {Q : Exit → Act → World → Prop} {E : Prop} (w : World) (hgd : Region.wanted o (yielded ops a.tmps) = true) (s x : Operand)
    (ho : o.op = .call { callee := .builtin .append, args := #[s, x], argTypes := #[22, 22] })
    (W : World) (l : List Int) (v : Value) (hs : a.eval s = v) (HB : Ints W l v w) (B : Nat) (A : Option Addr) (m c : Nat) (news : List Int) (hx : a.eval x = .slice A m c) (hl : news.length = m)
    (hr : CellsAt w B A (intCells news)) (hlen : l.length + m ≤ 1000000)
    (h : ∀ A' c' w', Ints W (l ++ news) (.slice A' (l ++ news).length c') w' → w.grownBy w' v.ownBlock → K (a.put o.dst (.slice A' (l ++ news).length c')) w') :
    if Region.wanted o (yielded ops a.tmps) = true then Oper.wp Tryz.prog o a w K Q else E := by
  rw [if_pos hgd]
  obtain ⟨i0, hi0, hz0, hz1, hz2⟩ := info_three Tryz.infoI
  refine wp_app w s x _ ho W.heap.size 3 i0 _ 1 8 Tryz.underlying22 hi0 hz0 hz1 hz2 rfl (by omega) v l.length (intCells l) hs HB.1 B A m c (intCells news) hx (by simp [hl]) hr (intCells_one _)
    (by unfold maxLen; omega) (by omega) HB.2.size_le ?_
  intro v' w' own g _
  have e : (l ++ news).length = l.length + m := by rw [List.length_append, hl]
  rw [← e, intCells_append] at own
  obtain ⟨A', c', rfl⟩ := row_slice own
  exact h A' c' w' ⟨own, HB.2.grown g fun i hi => (HB.1.lt i hi).1⟩ g
theorem upto_intsS (A : Option Addr) (n c k : Nat) (hk : k ≤ c) (w : World) : (Instr.slice 22 (.slice A n c) none (some (.int .i64 (k : Int))) none).run Tryz.prog w = .ok (.slice A k c) w := by
  obtain ⟨i, hi, _⟩ := info_of Tryz.infoI
  exact run_upto _ _ i Tryz.underlying22 hi A n c k hk w
theorem from_intsS {w : World} {B : Nat} {A : Option Addr} {l : List Int} (h : CellsAt w B A (intCells l)) (c k : Nat) (hk : k ≤ l.length) (hc : l.length ≤ c) :
    ∃ A', (∀ w', (Instr.slice 22 (.slice A l.length c) (some (.int .i64 (k : Int))) none none).run Tryz.prog w' = .ok (.slice A' (l.length - k) (c - k)) w') ∧ CellsAt w B A' (intCells (l.drop k)) := by
  obtain ⟨i, hi, _, hs, _⟩ := info_of Tryz.infoI
  refine ⟨_, fun w' => run_from _ _ i Tryz.underlying22 hi A l.length c k hk w', ?_⟩
  have e : intCells l = intCells (l.take k) ++ intCells (l.drop k) := by rw [intCells_append, List.take_append_drop]
  by_cases q : c = k
  · have : l.drop k = [] := List.drop_eq_nil_of_le (by omega)
    rw [this]
    exact CellsAt.nil
  · rw [if_neg q, hs]
    rw [e] at h
    have := cells_from h
    rw [intCells_length, List.length_take, Nat.min_eq_left hk] at this
    rw [Nat.mul_one]
    exact this
theorem Ints.capS {W w : World} {l : List Int} {A : Option Addr} {n c : Nat} (h : Ints W l (.slice A n c) w) : n ≤ c := by
  rcases h.1.2 with ⟨hv, _⟩ | ⟨g, cap, cur, hv, _, _, hn, _⟩
  · injection hv with _ h1 h2; omega
  · injection hv with _ h1 h2; omega
theorem Ints.ownGe {W w : World} {l : List Int} {v : Value} (h : Ints W l v w) : ∀ k, v.ownBlock = some k → W.heap.size ≤ k ∧ k < w.heap.size := fun k e => h.1.lt k e
theorem Ints.monoS {W W' w : World} {l : List Int} {v : Value} (h : Ints W' l v w) (k : Kept W W') : Ints W l v w :=
  ⟨⟨h.1.1, h.1.2.imp id fun ⟨g, cap, cur, h1, h2, h3⟩ => ⟨g, cap, cur, h1, Nat.le_trans k.size_le h2, h3⟩⟩, k.trans h.2⟩
/-- A row of one's own, where another one's block has grown. -/
theorem Ints.besides {W w w' : World} {l : List Int} {v : Value} {row : Option Nat} (h : Ints W l v w) (hg : w.grownBy w' row) (hne : ∀ k, v.ownBlock = some k → some k ≠ row) (hr : ∀ k, row = some k → W.heap.size ≤ k) : Ints W l v w' := by
  refine ⟨⟨h.1.1, ?_⟩, h.2.grown hg hr⟩
  rcases h.1.2 with h2 | ⟨g, cap, cur, hv, hb, hh, k⟩
  · exact Or.inl h2
  · refine Or.inr ⟨g, cap, cur, hv, hb, ?_, k⟩
    rw [hg.block g (h.1.lt g (by rw [hv]; rfl)).2 (hne g (by rw [hv]; rfl))]
    exact hh

theorem int_atS {w : World} {B : Nat} {A : Option Addr} {l : List Int} (h : CellsAt w B A (intCells l)) {i : Nat} (hi : i < l.length) : ∃ z o, A = some ⟨z, o, none⟩ ∧ z < B ∧ w.cell? ⟨z, o + i, none⟩ = some (.int .i64 l[i]) := by
  obtain ⟨z, o, e, hb, hc⟩ := h.plain (by rw [intCells_length]; omega)
  exact ⟨z, o, e, hb, hc i _ (by simp [intCells, hi])⟩

theorem ints_newS (x : Int) (w w' : World) (k : Kept (w.alloc (.cells #[.int .i64 x] 3)) w') : CellsAt w' w'.heap.size (some ⟨w.heap.size, 0, none⟩) (intCells [x]) :=
  CellsAt.kept (show CellsAt (w.alloc (.cells #[.int .i64 x] 3)) (w.alloc (.cells #[.int .i64 x] 3)).heap.size (some ⟨w.heap.size, 0, none⟩) (intCells [x]) from fun j y hy => by
    refine ⟨_, rfl, by simp, ?_⟩
    have := (HasCells.new w #[.int .i64 x] 3 w.heap.size rfl).2 j y hy
    have e : (⟨w.heap.size, 0, none⟩ : Addr).add j = ⟨w.heap.size, j, none⟩ := by
      unfold Addr.add
      split
      · rename_i h; subst h; rfl
      · simp
    rw [e]; exact this) k
theorem keepX {w w' : World} {p : Addr} {x : Value} (hx : w.cell? p = some x) (hb : p.block < w.heap.size) (k : Kept w w') : w'.cell? p = some x ∧ Kept w w' := ⟨(k.cell hb).trans hx, k⟩
/-! ### What is gathered -/
def anyP (v : List Lk) (x : Lk) (m : Nat) : Bool := (v.take m).any (pairL x)
theorem anyP_zero (v : List Lk) (x : Lk) : anyP v x 0 = false := by simp [anyP]
theorem anyP_step {v : List Lk} {x : Lk} {m : Nat} (hm : m < v.length) : anyP v x (m + 1) = (anyP v x m || pairL x v[m]) := by
  unfold anyP
  rw [List.take_succ_eq_append_getElem hm, List.any_append]
  simp
theorem anyP_all {v : List Lk} {x : Lk} : anyP v x v.length = true ↔ ∃ b ∈ v, pairL x b = true := by
  unfold anyP; rw [List.take_length, List.any_eq_true]
/-- Who of the first j has a pair. -/
def GTo (v : List Lk) (j : Nat) (G : List Int) : Prop := G.Pairwise (fun a b => a < b) ∧ ∀ f, f ∈ G ↔ ∃ a ∈ v.take j, a.f = f ∧ ∃ b ∈ v, pairL a b = true
theorem GTo.zero (v : List Lk) : GTo v 0 [] := ⟨List.Pairwise.nil, fun f => by simp⟩
theorem GTo.end {v : List Lk} {G : List Int} (h : GTo v v.length G) : Guils v G := ⟨h.1, fun f => by rw [h.2, List.take_length]; rfl⟩
theorem GTo.skip {v : List Lk} {j : Nat} {G : List Int} (h : GTo v j G) (hj : j < v.length) (hs : (∃ b ∈ v, pairL v[j] b = true) → v[j].f ∈ G) : GTo v (j + 1) G := by
  refine ⟨h.1, fun f => ?_⟩
  rw [h.2, List.take_succ_eq_append_getElem hj]
  constructor
  · rintro ⟨a, ha, r⟩; exact ⟨a, List.mem_append_left _ ha, r⟩
  · rintro ⟨a, ha, e, b, hb, p⟩
    rcases List.mem_append.1 ha with q | q
    · exact ⟨a, q, e, b, hb, p⟩
    · rw [List.mem_singleton] at q; subst q
      rw [← e]
      exact (h.2 _).1 (hs ⟨b, hb, p⟩)
theorem GTo.put {v : List Lk} {j n : Nat} {G : List Int} (h : GTo v j G) (hj : j < v.length) (hp : ∃ b ∈ v, pairL v[j] b = true) (hlo : ∀ g ∈ G.take n, g < v[j].f) (hhi : ∀ g ∈ G.drop n, v[j].f < g) : GTo v (j + 1) (G.take n ++ [v[j].f] ++ G.drop n) := by
  have e := List.take_append_drop n G
  have h1 := h.1
  rw [← e, List.pairwise_append] at h1
  refine ⟨?_, fun f => ?_⟩
  · rw [List.pairwise_append, List.pairwise_append]
    refine ⟨⟨h1.1, List.pairwise_singleton _ _, fun a ha b hb => ?_⟩, h1.2.1, fun a ha b hb => ?_⟩
    · rw [List.mem_singleton] at hb; subst hb; exact hlo a ha
    · rcases List.mem_append.1 ha with q | q
      · exact h1.2.2 a q b hb
      · rw [List.mem_singleton] at q; subst q; exact hhi b hb
  · have hm : f ∈ G.take n ++ [v[j].f] ++ G.drop n ↔ f ∈ G ∨ f = v[j].f := by
      have : f ∈ G ↔ f ∈ G.take n ∨ f ∈ G.drop n := by rw [← List.mem_append, e]
      rw [this]
      simp only [List.mem_append, List.mem_singleton]
      constructor
      · rintro ((q | q) | q)
        · exact Or.inl (Or.inl q)
        · exact Or.inr q
        · exact Or.inl (Or.inr q)
      · rintro ((q | q) | q)
        · exact Or.inl (Or.inl q)
        · exact Or.inr q
        · exact Or.inl (Or.inr q)
    rw [hm, h.2, List.take_succ_eq_append_getElem hj]
    constructor
    · rintro (⟨a, ha, r⟩ | rfl)
      · exact ⟨a, List.mem_append_left _ ha, r⟩
      · exact ⟨v[j], List.mem_append_right _ (by simp), rfl, hp⟩
    · rintro ⟨a, ha, e2, r⟩
      rcases List.mem_append.1 ha with q | q
      · exact Or.inl ⟨a, q, e2, r⟩
      · rw [List.mem_singleton] at q; subst q; exact Or.inr e2.symm
theorem rise_low {G : List Int} (h : G.Pairwise fun a b => a < b) {m : Nat} (hm : m < G.length) {x : Int} (hx : G[m] < x) : ∀ g ∈ G.take (m + 1), g < x := fun g hg => by
  rw [List.take_succ_eq_append_getElem hm] at hg
  rcases List.mem_append.1 hg with q | q
  · obtain ⟨i, hi, rfl⟩ := List.mem_iff_getElem.1 q
    rw [List.length_take] at hi
    rw [List.getElem_take]
    have := List.pairwise_iff_getElem.1 h i m (by omega) hm (by omega)
    omega
  · rw [List.mem_singleton] at q; subst q; exact hx
def GuilNew (v : List Lk) (w : World) (e : Ending) (w' : World) : Prop := ∃ G A' c', Guils v G ∧ G.length ≤ v.length ∧ e = .returned (.slice A' G.length c') ∧ CellsAt w' w'.heap.size A' (intCells G) ∧ G.length ≤ c' ∧ Kept w w'

end Go.Proofs.YthaofomhlmajbaaGreat
