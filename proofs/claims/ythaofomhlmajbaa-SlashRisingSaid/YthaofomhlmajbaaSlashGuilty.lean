/-
  The contract of Guilty of the given package marigoldref12.
-/
import Derived.Test.YthaofomhlmajbaaSlashRef
namespace Go.Proofs.Ythaofomhlmajbaa
set_option maxRecDepth 100000
set_option linter.unusedVariables false
set_option linter.unusedSimpArgs false
set_option linter.unusedSimpArgs false
set_option linter.unusedVariables false
open Go.ChangeShapes Go.WideShapes Go.ChangeAt Go.RowKit

/-- A row's beginning, as a row of one's own. -/
theorem Ints.upto {W w : World} {l : List Int} {A : Option Addr} {n c k : Nat} (h : Ints W l (.slice A n c) w) (hn : n = l.length) (hk : k ≤ n) : Ints W (l.take k) (.slice A k c) w := by
  obtain ⟨⟨hlen, hor⟩, hK⟩ := h
  refine ⟨⟨by rw [intCells_length, List.length_take]; omega, ?_⟩, hK⟩
  have hl : (l.take k).length = k := by rw [List.length_take]; omega
  rw [hl]
  rcases hor with ⟨hv, h0⟩ | ⟨g, cap, cur, hv, hb, hg, hc, hm, hs, ht⟩
  · injection hv with h1 h2 h3
    have : k = 0 := by omega
    subst this
    exact Or.inl ⟨by rw [h1, h3], rfl⟩
  · injection hv with h1 h2 h3
    refine Or.inr ⟨g, cap, cur, by rw [h1, h3], hb, hg, by omega, hm, hs, ?_⟩
    have e : intCells (l.take k) = (intCells l).take (k * 1) := by unfold intCells; rw [List.map_take, Nat.mul_one]
    rw [e, ← ht, List.take_take]
    congr 1
    omega
theorem step_intsG {ops : Array Oper} {o : Oper} {a : Act} {K : Act → World → Prop} {Q : Exit → Act → World → Prop} {E : Prop} (w : World) (hgd : Region.wanted o (yielded ops a.tmps) = true) (s x : Operand)
    (ho : o.op = .call { callee := .builtin .append, args := #[s, x], argTypes := #[32, 32] })
    (W : World) (l : List Int) (v : Value) (hs : a.eval s = v) (HB : Ints W l v w) (B : Nat) (A : Option Addr) (m c : Nat) (news : List Int) (hx : a.eval x = .slice A m c) (hl : news.length = m)
    (hr : CellsAt w B A (intCells news)) (hlen : l.length + m ≤ 1000000)
    (h : ∀ A' c' w', Ints W (l ++ news) (.slice A' (l ++ news).length c') w' → w.grownBy w' v.ownBlock → K (a.put o.dst (.slice A' (l ++ news).length c')) w') :
    if Region.wanted o (yielded ops a.tmps) = true then Oper.wp Try.prog o a w K Q else E := by
  rw [if_pos hgd]
  obtain ⟨i0, hi0, hz0, hz1, hz2⟩ := info_three Try.infoI
  refine wp_app w s x _ ho W.heap.size 3 i0 _ 1 8 Try.underlying32 hi0 hz0 hz1 hz2 rfl (by omega) v l.length (intCells l) hs HB.1 B A m c (intCells news) hx (by simp [hl]) hr (intCells_one _)
    (by unfold maxLen; omega) (by omega) HB.2.size_le ?_
  intro v' w' own g _
  have e : (l ++ news).length = l.length + m := by rw [List.length_append, hl]
  rw [← e, intCells_append] at own
  obtain ⟨A', c', rfl⟩ := row_slice own
  exact h A' c' w' ⟨own, HB.2.grown g fun i hi => (HB.1.lt i hi).1⟩ g
theorem upto_intsS (A : Option Addr) (n c k : Nat) (hk : k ≤ c) (w : World) : (Instr.slice 32 (.slice A n c) none (some (.int .i64 (k : Int))) none).run Try.prog w = .ok (.slice A k c) w := by
  obtain ⟨i, hi, _⟩ := info_of Try.infoI
  exact run_upto _ _ i Try.underlying32 hi A n c k hk w
theorem from_intsS {w : World} {B : Nat} {A : Option Addr} {l : List Int} (h : CellsAt w B A (intCells l)) (c k : Nat) (hk : k ≤ l.length) (hc : l.length ≤ c) :
    ∃ A', (∀ w', (Instr.slice 32 (.slice A l.length c) (some (.int .i64 (k : Int))) none none).run Try.prog w' = .ok (.slice A' (l.length - k) (c - k)) w') ∧ CellsAt w B A' (intCells (l.drop k)) := by
  obtain ⟨i, hi, _, hs, _⟩ := info_of Try.infoI
  refine ⟨_, fun w' => run_from _ _ i Try.underlying32 hi A l.length c k hk w', ?_⟩
  have e : intCells l = intCells (l.take k) ++ intCells (l.drop k) := by rw [intCells_append, List.take_append_drop]
  by_cases q : c = k
  · have : l.drop k = [] := List.drop_eq_nil_of_le (by omega)
    rw [this]
    exact CellsAt.nil
  · rw [if_neg q, hs]
    rw [e] at h
    have := cells_from h
    rw [intCells_length, List.length_take, Nat.min_eq_left hk] at this
    rw [Nat.mul_one]
    exact this
theorem Ints.capS {W w : World} {l : List Int} {A : Option Addr} {n c : Nat} (h : Ints W l (.slice A n c) w) : n ≤ c := by
  rcases h.1.2 with ⟨hv, _⟩ | ⟨g, cap, cur, hv, _, _, hn, _⟩
  · injection hv with _ h1 h2; omega
  · injection hv with _ h1 h2; omega
theorem Ints.ownGe {W w : World} {l : List Int} {v : Value} (h : Ints W l v w) : ∀ k, v.ownBlock = some k → W.heap.size ≤ k ∧ k < w.heap.size := fun k e => h.1.lt k e
theorem Ints.monoS {W W' w : World} {l : List Int} {v : Value} (h : Ints W' l v w) (k : Kept W W') : Ints W l v w :=
  ⟨⟨h.1.1, h.1.2.imp id fun ⟨g, cap, cur, h1, h2, h3⟩ => ⟨g, cap, cur, h1, Nat.le_trans k.size_le h2, h3⟩⟩, k.trans h.2⟩
/-- A row of one's own, where another one's block has grown. -/
theorem Ints.besides {W w w' : World} {l : List Int} {v : Value} {row : Option Nat} (h : Ints W l v w) (hg : w.grownBy w' row) (hne : ∀ k, v.ownBlock = some k → some k ≠ row) (hr : ∀ k, row = some k → W.heap.size ≤ k) : Ints W l v w' := by
  refine ⟨⟨h.1.1, ?_⟩, h.2.grown hg hr⟩
  rcases h.1.2 with h2 | ⟨g, cap, cur, hv, hb, hh, k⟩
  · exact Or.inl h2
  · refine Or.inr ⟨g, cap, cur, hv, hb, ?_, k⟩
    rw [hg.block g (h.1.lt g (by rw [hv]; rfl)).2 (hne g (by rw [hv]; rfl))]
    exact hh

theorem int_atS {w : World} {B : Nat} {A : Option Addr} {l : List Int} (h : CellsAt w B A (intCells l)) {i : Nat} (hi : i < l.length) : ∃ z o, A = some ⟨z, o, none⟩ ∧ z < B ∧ w.cell? ⟨z, o + i, none⟩ = some (.int .i64 l[i]) := by
  obtain ⟨z, o, e, hb, hc⟩ := h.plain (by rw [intCells_length]; omega)
  exact ⟨z, o, e, hb, hc i _ (by simp [intCells, hi])⟩

theorem ints_newS (x : Int) (w w' : World) (k : Kept (w.alloc (.cells #[.int .i64 x] 3)) w') : CellsAt w' w'.heap.size (some ⟨w.heap.size, 0, none⟩) (intCells [x]) :=
  CellsAt.kept (show CellsAt (w.alloc (.cells #[.int .i64 x] 3)) (w.alloc (.cells #[.int .i64 x] 3)).heap.size (some ⟨w.heap.size, 0, none⟩) (intCells [x]) from fun j y hy => by
    refine ⟨_, rfl, by simp, ?_⟩
    have := (HasCells.new w #[.int .i64 x] 3 w.heap.size rfl).2 j y hy
    have e : (⟨w.heap.size, 0, none⟩ : Addr).add j = ⟨w.heap.size, j, none⟩ := by
      unfold Addr.add
      split
      · rename_i h; subst h; rfl
      · simp
    rw [e]; exact this) k
theorem keepX {w w' : World} {p : Addr} {x : Value} (hx : w.cell? p = some x) (hb : p.block < w.heap.size) (k : Kept w w') : w'.cell? p = some x ∧ Kept w w' := ⟨(k.cell hb).trans hx, k⟩
/-! ### What is gathered -/
def anyP (v : List Lk) (x : Lk) (m : Nat) : Bool := (v.take m).any (pairL x)
theorem anyP_zero (v : List Lk) (x : Lk) : anyP v x 0 = false := by simp [anyP]
theorem anyP_step {v : List Lk} {x : Lk} {m : Nat} (hm : m < v.length) : anyP v x (m + 1) = (anyP v x m || pairL x v[m]) := by
  unfold anyP
  rw [List.take_succ_eq_append_getElem hm, List.any_append]
  simp
theorem anyP_all {v : List Lk} {x : Lk} : anyP v x v.length = true ↔ ∃ b ∈ v, pairL x b = true := by
  unfold anyP; rw [List.take_length, List.any_eq_true]
/-- Who of the first j has a pair. -/
def GTo (v : List Lk) (j : Nat) (G : List Int) : Prop := G.Pairwise (fun a b => a < b) ∧ ∀ f, f ∈ G ↔ ∃ a ∈ v.take j, a.f = f ∧ ∃ b ∈ v, pairL a b = true
theorem GTo.zero (v : List Lk) : GTo v 0 [] := ⟨List.Pairwise.nil, fun f => by simp⟩
theorem GTo.end {v : List Lk} {G : List Int} (h : GTo v v.length G) : Guils v G := ⟨h.1, fun f => by rw [h.2, List.take_length]; rfl⟩
theorem GTo.skip {v : List Lk} {j : Nat} {G : List Int} (h : GTo v j G) (hj : j < v.length) (hs : (∃ b ∈ v, pairL v[j] b = true) → v[j].f ∈ G) : GTo v (j + 1) G := by
  refine ⟨h.1, fun f => ?_⟩
  rw [h.2, List.take_succ_eq_append_getElem hj]
  constructor
  · rintro ⟨a, ha, r⟩; exact ⟨a, List.mem_append_left _ ha, r⟩
  · rintro ⟨a, ha, e, b, hb, p⟩
    rcases List.mem_append.1 ha with q | q
    · exact ⟨a, q, e, b, hb, p⟩
    · rw [List.mem_singleton] at q; subst q
      rw [← e]
      exact (h.2 _).1 (hs ⟨b, hb, p⟩)
theorem GTo.put {v : List Lk} {j n : Nat} {G : List Int} (h : GTo v j G) (hj : j < v.length) (hp : ∃ b ∈ v, pairL v[j] b = true) (hlo : ∀ g ∈ G.take n, g < v[j].f) (hhi : ∀ g ∈ G.drop n, v[j].f < g) : GTo v (j + 1) (G.take n ++ [v[j].f] ++ G.drop n) := by
  have e := List.take_append_drop n G
  have h1 := h.1
  rw [← e, List.pairwise_append] at h1
  refine ⟨?_, fun f => ?_⟩
  · rw [List.pairwise_append, List.pairwise_append]
    refine ⟨⟨h1.1, List.pairwise_singleton _ _, fun a ha b hb => ?_⟩, h1.2.1, fun a ha b hb => ?_⟩
    · rw [List.mem_singleton] at hb; subst hb; exact hlo a ha
    · rcases List.mem_append.1 ha with q | q
      · exact h1.2.2 a q b hb
      · rw [List.mem_singleton] at q; subst q; exact hhi b hb
  · have hm : f ∈ G.take n ++ [v[j].f] ++ G.drop n ↔ f ∈ G ∨ f = v[j].f := by
      have : f ∈ G ↔ f ∈ G.take n ∨ f ∈ G.drop n := by rw [← List.mem_append, e]
      rw [this]
      simp only [List.mem_append, List.mem_singleton]
      constructor
      · rintro ((q | q) | q)
        · exact Or.inl (Or.inl q)
        · exact Or.inr q
        · exact Or.inl (Or.inr q)
      · rintro ((q | q) | q)
        · exact Or.inl (Or.inl q)
        · exact Or.inr q
        · exact Or.inl (Or.inr q)
    rw [hm, h.2, List.take_succ_eq_append_getElem hj]
    constructor
    · rintro (⟨a, ha, r⟩ | rfl)
      · exact ⟨a, List.mem_append_left _ ha, r⟩
      · exact ⟨v[j], List.mem_append_right _ (by simp), rfl, hp⟩
    · rintro ⟨a, ha, e2, r⟩
      rcases List.mem_append.1 ha with q | q
      · exact Or.inl ⟨a, q, e2, r⟩
      · rw [List.mem_singleton] at q; subst q; exact Or.inr e2.symm
theorem rise_low {G : List Int} (h : G.Pairwise fun a b => a < b) {m : Nat} (hm : m < G.length) {x : Int} (hx : G[m] < x) : ∀ g ∈ G.take (m + 1), g < x := fun g hg => by
  rw [List.take_succ_eq_append_getElem hm] at hg
  rcases List.mem_append.1 hg with q | q
  · obtain ⟨i, hi, rfl⟩ := List.mem_iff_getElem.1 q
    rw [List.length_take] at hi
    rw [List.getElem_take]
    have := List.pairwise_iff_getElem.1 h i m (by omega) hm (by omega)
    omega
  · rw [List.mem_singleton] at q; subst q; exact hx
def GuilNew (v : List Lk) (w : World) (e : Ending) (w' : World) : Prop := ∃ G A' c', Guils v G ∧ G.length ≤ v.length ∧ e = .returned (.slice A' G.length c') ∧ CellsAt w' w'.heap.size A' (intCells G) ∧ G.length ≤ c' ∧ Kept w w'

set_option maxRecDepth 100000 in
set_option maxHeartbeats 12800000 in
theorem refGuilty_any (V : Option Addr) (cv : Nat) (v : List Lk) (w : World) (hv : v.length ≤ 10000) (hV : CellsAt w w.heap.size V (lksCells v)) :
    Calls Try.prog 12 #[.slice V v.length cv] w (GuilNew v w) := by
  have HV := Lib.hid hV
  clear hV
  go_enter Try.func12, Try.ntmps12
  go_wp2_with fail
  go_loopw [3, 4] (fun u i w' => ∃ (j : Nat) (G : List Int) (A : Option Addr) (c : Nat), j ≤ v.length ∧ i = .int .i64 j ∧ GTo v j G ∧ G.length ≤ j ∧ u = .slice A G.length c ∧ Ints w G (.slice A G.length c) w') (fun _ i _ => v.length - (intOf i).toNat)
  case atStart => exact ⟨0, [], none, 0, by omega, rfl, GTo.zero v, by simp, rfl, Ints.nil w⟩
  case round =>
    obtain ⟨j, G, A, c, hj, rfl, hG, hGl, rfl, hI⟩ := hrel
    have HG := Lib.hid hG
    have HI := Lib.hid hI
    clear hG hI
    by_cases hlt : j < v.length
    · obtain ⟨zv, ov, rfl, hbv, x0, x1, x2, x3, x4, x5, x6⟩ := lk_at HV.out hlt
      have HSk := Lib.hid (fun hs => HG.out.skip hlt hs)
      have HPt := Lib.hid (fun n hp hlo hhi => HG.out.put (n := n) hlt hp hlo hhi)
      have HX := Lib.hid (⟨x0, x1, x2, x3, x4, x5, x6⟩ : _ ∧ _ ∧ _ ∧ _ ∧ _ ∧ _ ∧ _)
      have HAl := Lib.hid (anyP_all (v := v) (x := v[j]))
      have HRi := Lib.hid HG.out.1
      clear x0 x1 x2 x3 x4 x5 x6 HG
      generalize hxg : v[j] = x at *
      clear hxg
      go_wp2_with fail
      have HKo := Lib.hid (Kept.refl wr)
      obtain ⟨W0, hW0⟩ : ∃ W0, W0 = wr := ⟨_, rfl⟩
      have HI0 := Lib.hid (show Ints w G (.slice A G.length c) W0 by rw [hW0]; exact HI.out)
      go_loopw [5, 6] (fun u i w' => ∃ m : Nat, m ≤ v.length ∧ i = .int .i64 m ∧ u = .bool (anyP v x m) ∧ Kept W0 w') (fun _ i _ => v.length - (intOf i).toNat)
      case atStart => exact ⟨0, by omega, rfl, by rw [anyP_zero], by rw [hW0]; exact HKo.out⟩
      case round =>
        clear HI HKo hW0
        obtain ⟨m, hm, rfl, rfl, hK⟩ := hrel
        have HK := Lib.hid hK
        have HKw := Lib.hid (HI0.out.2.trans hK)
        clear hK
        have x0 := (HKw.out.cell (p := ⟨zv, ov + j * 7, none⟩) hbv).trans HX.out.1
        have x1 := (HKw.out.cell (p := ⟨zv, ov + j * 7 + 1, none⟩) hbv).trans HX.out.2.1
        have x2 := (HKw.out.cell (p := ⟨zv, ov + j * 7 + 2, none⟩) hbv).trans HX.out.2.2.1
        have x3 := (HKw.out.cell (p := ⟨zv, ov + j * 7 + 3, none⟩) hbv).trans HX.out.2.2.2.1
        have x4 := (HKw.out.cell (p := ⟨zv, ov + j * 7 + 4, none⟩) hbv).trans HX.out.2.2.2.2.1
        have x5 := (HKw.out.cell (p := ⟨zv, ov + j * 7 + 5, none⟩) hbv).trans HX.out.2.2.2.2.2.1
        have x6 := (HKw.out.cell (p := ⟨zv, ov + j * 7 + 6, none⟩) hbv).trans HX.out.2.2.2.2.2.2
        have hbw := Nat.lt_of_lt_of_le hbv HKw.out.size_le
        by_cases hml : m < v.length
        · obtain ⟨zy, oy, hzy, hby, y0, y1, y2, y3, y4, y5, y6⟩ := lk_at (HV.out.kept HKw.out) hml
          injection hzy with hzy
          injection hzy with hz1 hz2 _
          subst hz1 hz2
          have HSt := Lib.hid (anyP_step (x := x) hml)
          generalize v[m] = y at *
          have HPr := Lib.hid (fun w' => refPair12_any x y w')
          generalize anyP v x m = an at *
          generalize hpr : pairL x y = pr at *
          clear hpr
          go_wp2_with fail
          go_region_held3 (fun w' => w'.cell? ⟨zv, ov + j * 7, none⟩ = some (.int .i64 x.f) ∧ w'.cell? ⟨zv, ov + j * 7 + 1, none⟩ = some (.int .i64 x.s.e) ∧ w'.cell? ⟨zv, ov + j * 7 + 2, none⟩ = some (.int .u64 x.s.r.1) ∧ w'.cell? ⟨zv, ov + j * 7 + 3, none⟩ = some (.int .u64 x.s.r.2) ∧ w'.cell? ⟨zv, ov + j * 7 + 4, none⟩ = some (.int .i64 x.t.e) ∧ w'.cell? ⟨zv, ov + j * 7 + 5, none⟩ = some (.int .u64 x.t.r.1) ∧ w'.cell? ⟨zv, ov + j * 7 + 6, none⟩ = some (.int .u64 x.t.r.2) ∧ w'.cell? ⟨zv, ov + m * 7, none⟩ = some (.int .i64 y.f) ∧ w'.cell? ⟨zv, ov + m * 7 + 1, none⟩ = some (.int .i64 y.s.e) ∧ w'.cell? ⟨zv, ov + m * 7 + 2, none⟩ = some (.int .u64 y.s.r.1) ∧ w'.cell? ⟨zv, ov + m * 7 + 3, none⟩ = some (.int .u64 y.s.r.2) ∧ w'.cell? ⟨zv, ov + m * 7 + 4, none⟩ = some (.int .i64 y.t.e) ∧ w'.cell? ⟨zv, ov + m * 7 + 5, none⟩ = some (.int .u64 y.t.r.1) ∧ w'.cell? ⟨zv, ov + m * 7 + 6, none⟩ = some (.int .u64 y.t.r.2) ∧ Kept wr w')
            (first | exact ⟨x0, x1, x2, x3, x4, x5, x6, y0, y1, y2, y3, y4, y5, y6, Kept.refl _⟩ | exact ⟨x0, x1, x2, x3, x4, x5, x6, y0, y1, y2, y3, y4, y5, y6, (Kept.refl _).drew⟩ | assumption | exact keepP14 hbw hbw hbw hbw hbw hbw hbw hby hby hby hby hby hby hby (by assumption) (by assumption))
            (first
              | (go_at_call 10; ((first | (with_reducible refine (HPr.out _).mono ?_)); rintro e w' ⟨rfl, kk⟩)))
          rename_i hh
          have k := hh.2.2.2.2.2.2.2.2.2.2.2.2.2.2
          clear hh
          generalize w' = V1 at *
          have HK2 := Lib.hid (HK.out.trans k)
          clear k x0 x1 x2 x3 x4 x5 x6 y0 y1 y2 y3 y4 y5 y6 hbw hby HPr
          cases an with
          | true =>
            have HN := Lib.hid (show anyP v x (m + 1) = true by rw [HSt.out]; rfl)
            clear HSt
            go_wp2_with fail
            go_roundw
            case rel => exact ⟨m + 1, by omega, by go_num, by rw [HN.out], HK2.out⟩
            case measure => simp [intOf]; omega
          | false =>
            have HN := Lib.hid (show anyP v x (m + 1) = pr by rw [HSt.out]; rfl)
            clear HSt
            go_wp2_with fail
            go_roundw
            case rel => exact ⟨m + 1, by omega, by go_num, by rw [HN.out], HK2.out⟩
            case measure => simp [intOf]; omega
        · have hmv : m = v.length := by omega
          subst hmv
          have HI1 := Lib.hid (HI0.out.kept HK.out)
          clear HK HI0 HKw
          clear x1 x2 x3 x4 x5 x6
          cases han : anyP v x v.length with
          | false =>
            have HN := Lib.hid (HSk.out (fun h => by rw [HAl.out.2 h] at han; cases han))
            clear HSk HPt HAl han
            go_wp2_with fail
            go_roundw
            case rel => exact ⟨j + 1, G, A, c, by omega, by go_num, HN.out, by omega, rfl, HI1.out⟩
            case measure => simp [intOf]; omega
          | true =>
            have HAn := Lib.hid (HAl.out.1 han)
            clear HAl han
            go_wp2_with fail
            have HGc := Lib.hid (HI1.out.cells rfl)
            obtain ⟨V0, hV0⟩ : ∃ V0, V0 = wr := ⟨_, rfl⟩
            have HI2 := Lib.hid (show Ints w G (.slice A G.length c) V0 by rw [hV0]; exact HI1.out)
            go_loopw [8] (fun i w' => ∃ n : Nat, n ≤ G.length ∧ i = .int .i64 n ∧ (∀ g ∈ G.drop n, x.f < g) ∧ Kept V0 w') (fun i _ => (intOf i).toNat)
            case atStart => exact ⟨G.length, by omega, rfl, (fun g h => by rw [List.drop_length] at h; cases h), (by rw [hV0]; exact Kept.refl _)⟩
            case round =>
              clear HI1 HGc hV0 x0 hbw
              obtain ⟨n, hn, rfl, hhi, hK⟩ := hrel
              have HHi := Lib.hid hhi
              have HI3 := Lib.hid (HI2.out.kept hK)
              have HKn := Lib.hid hK
              clear hhi hK
              have x0 := (HI3.out.2.cell (p := ⟨zv, ov + j * 7, none⟩) hbv).trans HX.out.1
              have hbw := Nat.lt_of_lt_of_le hbv HI3.out.2.size_le
              have HGc := Lib.hid (HI3.out.cells rfl)
              have hcap := HI3.out.capS
              have hup : ∀ w', (Instr.slice 32 (.slice A G.length c) none (some (.int .i64 (n : Int))) none).run Try.prog w' = .ok (.slice A n c) w' := fun w' => upto_intsS A G.length c n (by omega) w'
              obtain ⟨A', hfr, hA'⟩ := from_intsS HGc.out c n hn hcap
              have HD := Lib.hid hA'
              have HLd := Lib.hid (show (G.drop n).length = G.length - n from List.length_drop)
              clear hA'
              by_cases h0 : n = 0
              · have HLo := Lib.hid (show ∀ g ∈ G.take n, g < x.f from fun g h => by rw [h0] at h; simp at h)
                have hq : ¬ 0 < n := by omega
                have hq2 : decide (0 < n) = false := decide_eq_false hq
                have hq3 : decide ((0 : Int) < (n : Int)) = false := decide_eq_false (by omega)
                clear h0
                go_wp2_with fail
                go_quiet (fail)
                go_wp2_with fail
                go_quiet (fail)
                have hlw : ([] : List Int).length + (G.length - n) ≤ 1000000 := by simp; omega
                go_wp2_with (refine wpList_ints _ rfl _ _ rfl _ [] _ rfl (Ints.nil _) _ _ _ _ (G.drop n) rfl HLd.out (HD.out.kept ((Kept.refl _).drewN _)) hlw ?_; intro v1 V1 HR1)
                obtain ⟨A1, c1, rfl⟩ := row_slice HR1.1
                simp only [List.nil_append] at HR1
                have HNe := Lib.hid (show ∀ k, (Value.slice A1 (G.drop n).length c1).ownBlock = some k → some k ≠ (Value.slice A n c).ownBlock from fun k hk h => by
                  have e : (Value.slice A G.length c).ownBlock = (Value.slice A n c).ownBlock := by cases A <;> rfl
                  have h1 := (HR1.ownGe k hk).1
                  have h2 := (HI3.out.ownGe k (by rw [e]; exact h.symm)).2
                  exact absurd (Nat.lt_of_lt_of_le h2 h1) (Nat.lt_irrefl _))
                have HR1 := Lib.hid HR1
                have HI4 := Lib.hid ((HI3.out.kept ((Kept.refl _).drewN _)).kept HR1.out.2)
                have HI5 := Lib.hid HI4.out.2
                have HT1 := Lib.hid ((HI4.out.upto rfl hn).kept (((Kept.refl V1).alloc (.cells #[.int .i64 x.f] 3)).drew))
                have HLt := Lib.hid (show (G.take n).length = n by rw [List.length_take]; omega)
                have hlt2 : (G.take n).length + 1 ≤ 1000000 := by rw [HLt.out]; omega
                have hl3 : (G.take n ++ [x.f]).length = n + 1 := by rw [List.length_append, HLt.out]; rfl
                have hlt3 : (G.take n ++ [x.f]).length + (G.length - n) ≤ 1000000 := by rw [hl3]; omega
                have HL3 := Lib.hid hl3
                clear hl3
                refine wp_region_noPanic ?_
                refine wp_region_held_drew (S := (fun w' => w'.cell? ⟨zv, ov + j * 7, none⟩ = some (.int .i64 x.f) ∧ Kept w w')) (by kernel_rfl) ?_ (fun hHeld => ?_)
                · exact keepX HX.out.1 hbv HI5.out.drew
                refine wpAnyH_take (i := 0) (v := ?_) (by simp only [List.getElem?_toArray, List.getElem?_cons_succ, List.getElem?_cons_zero]; rfl) (by kernel_rfl) (by kernel_rfl) (by kernel_rfl) (fun _ _ _ h => h) (Or.inl ⟨by rfl, ?_⟩) (by assumption) ?_
                rotate_left
                · intro w hSw
                  (try dsimp only at hSw)
                  go_simp
                  (try with_reducible rfl)
                simp only [Act.put, List.setIfInBounds_toArray, List.set_cons_zero, List.set_cons_succ]
                refine wpAnyH_take (i := 1) (v := ?_) (by simp only [List.getElem?_toArray, List.getElem?_cons_succ, List.getElem?_cons_zero]; rfl) (by kernel_rfl) (by kernel_rfl) (by kernel_rfl) (fun _ _ _ h => h) (Or.inl ⟨by rfl, ?_⟩) (by assumption) ?_
                rotate_left
                · intro w hSw
                  (try dsimp only at hSw)
                  go_simp
                  (try with_reducible rfl)
                simp only [Act.put, List.setIfInBounds_toArray, List.set_cons_zero, List.set_cons_succ]
                refine wpAnyH_take (i := 2) (v := ?_) (by simp only [List.getElem?_toArray, List.getElem?_cons_succ, List.getElem?_cons_zero]; rfl) (by kernel_rfl) (by kernel_rfl) (by kernel_rfl) (fun _ _ _ h => h) (Or.inl ⟨by rfl, ?_⟩) (by assumption) ?_
                rotate_left
                · intro w hSw
                  (try dsimp only at hSw)
                  go_simp
                  (try with_reducible rfl)
                simp only [Act.put, List.setIfInBounds_toArray, List.set_cons_zero, List.set_cons_succ]
                refine wpAnyH_take (i := 3) (v := ?_) (by simp only [List.getElem?_toArray, List.getElem?_cons_succ, List.getElem?_cons_zero]; rfl) (by kernel_rfl) (by kernel_rfl) (by kernel_rfl) (fun _ _ _ h => h) (Or.inl ⟨by rfl, ?_⟩) (by assumption) ?_
                rotate_left
                · intro w hSw
                  (try dsimp only at hSw)
                  go_simp
                  (try with_reducible rfl)
                simp only [Act.put, List.setIfInBounds_toArray, List.set_cons_zero, List.set_cons_succ]
                refine wpAnyH_take (i := 4) (v := ?_) (by simp only [List.getElem?_toArray, List.getElem?_cons_succ, List.getElem?_cons_zero]; rfl) (by kernel_rfl) (by kernel_rfl) (by kernel_rfl) (fun _ _ _ h => h) (Or.inl ⟨by rfl, ?_⟩) (by assumption) ?_
                rotate_left
                · intro w hSw
                  (try dsimp only at hSw)
                  go_simp
                  (try with_reducible rfl)
                simp only [Act.put, List.setIfInBounds_toArray, List.set_cons_zero, List.set_cons_succ]
                refine wpAnyH_take (i := 5) (v := ?_) (by simp only [List.getElem?_toArray, List.getElem?_cons_succ, List.getElem?_cons_zero]; rfl) (by kernel_rfl) (by kernel_rfl) (by kernel_rfl) (fun _ _ _ h => h) (Or.inl ⟨by rfl, ?_⟩) (by assumption) ?_
                rotate_left
                · intro w hSw
                  (try dsimp only at hSw)
                  go_simp
                  (try with_reducible rfl)
                simp only [Act.put, List.setIfInBounds_toArray, List.set_cons_zero, List.set_cons_succ]
                refine wpAnyH_take (i := 6) (v := ?_) (by simp only [List.getElem?_toArray, List.getElem?_cons_succ, List.getElem?_cons_zero]; rfl) (by kernel_rfl) (by kernel_rfl) (by kernel_rfl) (fun _ _ _ h => h) (Or.inl ⟨by rfl, ?_⟩) (by assumption) ?_
                rotate_left
                · intro w hSw
                  (try dsimp only at hSw)
                  go_simp
                  (try with_reducible rfl)
                simp only [Act.put, List.setIfInBounds_toArray, List.set_cons_zero, List.set_cons_succ]
                refine wpAnyH_take (i := 7) (v := ?_) (by simp only [List.getElem?_toArray, List.getElem?_cons_succ, List.getElem?_cons_zero]; rfl) (by kernel_rfl) (by kernel_rfl) (by kernel_rfl) (fun _ _ _ h => h) (Or.inl ⟨by rfl, ?_⟩) (by assumption) ?_
                rotate_left
                · intro w hSw
                  (try dsimp only at hSw)
                  go_simp
                  (try with_reducible rfl)
                simp only [Act.put, List.setIfInBounds_toArray, List.set_cons_zero, List.set_cons_succ]
                refine wpAnyH_ready (rs := [8]) (by kernel_rfl) (by simp) ?_
                refine AllReadyH.cons (by simp only [List.getElem?_toArray, List.getElem?_cons_succ, List.getElem?_cons_zero]; rfl) (fun K hK => ?_) AllReadyH.nil
                go_simp
                try go_wp2_with fail
                refine hK.out _ _ ?_ (fun hHeld2 => ?_)
                · exact keepX HX.out.1 hbv (by first | exact HI6.out.2 | exact (HI5.out.alloc _).drew)
                clear hK K hHeld
                have hHeld := hHeld2
                clear hHeld2
                try simp only [Act.put, List.setIfInBounds_toArray, List.set_cons_zero, List.set_cons_succ]
                refine wpAnyH_ready (rs := [9]) (by kernel_rfl) (by simp) ?_
                refine AllReadyH.cons (by simp only [List.getElem?_toArray, List.getElem?_cons_succ, List.getElem?_cons_zero]; rfl) (fun K hK => ?_) AllReadyH.nil
                refine step_intsG _ (by rfl) _ _ rfl w (G.take n) _ (by rfl) HT1.out _ _ 1 1 [x.f] (by rfl) (by rfl) (ints_newS _ _ _ ((Kept.refl _).drew)) hlt2 ?_
                intro A2 c2 w2 HI6 g6
                have HI6 := Lib.hid (show Ints w (G.take n ++ [x.f]) (.slice A2 (n + 1) c2) w2 by have h := HI6; rw [HL3.out] at h; exact h)
                have HG6 := Lib.hid g6
                clear g6
                try go_wp2_with fail
                refine hK.out _ _ ?_ (fun hHeld2 => ?_)
                · exact keepX HX.out.1 hbv (by first | exact HI6.out.2 | exact (HI5.out.alloc _).drew)
                clear hK K hHeld
                have hHeld := hHeld2
                clear hHeld2
                try simp only [Act.put, List.setIfInBounds_toArray, List.set_cons_zero, List.set_cons_succ]
                refine wpAnyH_take (i := 10) (v := ?_) (by simp only [List.getElem?_toArray, List.getElem?_cons_succ, List.getElem?_cons_zero]; rfl) (by kernel_rfl) (by kernel_rfl) (by kernel_rfl) (fun _ _ _ h => h) (Or.inl ⟨by rfl, ?_⟩) (by assumption) ?_
                rotate_left
                · intro w hSw
                  (try dsimp only at hSw)
                  go_simp
                  (try with_reducible rfl)
                simp only [Act.put, List.setIfInBounds_toArray, List.set_cons_zero, List.set_cons_succ]
                refine wpAnyH_done (by kernel_rfl) ?_ _
                refine NoPanic.normal ?_
                have HRB := Lib.hid (((HR1.out.monoS (HI3.out.2.drewN _)).kept (((Kept.refl _).alloc (.cells #[.int .i64 x.f] 3)).drew)).besides HG6.out HNe.out (fun k hk => (HT1.out.ownGe k hk).1))
                go_wp2_with (refine wpList_ints _ rfl _ _ rfl w (G.take n ++ [x.f]) _ rfl HI6.out _ _ _ _ (G.drop n) rfl HLd.out (HRB.out.cells rfl) hlt3 ?_; intro v3 W3 HR3)
                obtain ⟨A3, c3, rfl⟩ := row_slice HR3.1
                go_roundw
                case rel => exact ⟨j + 1, G.take n ++ [x.f] ++ G.drop n, A3, c3, by omega, by go_num, HPt.out n HAn.out HLo.out HHi.out, by rw [List.length_append, HL3.out, HLd.out]; omega, rfl, HR3⟩
                case measure => simp [intOf]; omega
              · obtain ⟨m, hm⟩ : ∃ m, n = m + 1 := ⟨n - 1, by omega⟩
                have hml : m < G.length := by omega
                have hw : IntKind.i64.wrap ((n : Int) - 1) = (m : Int) := by rw [IntKind.wrap_i64]; omega
                have hq : 0 < n := by omega
                have hq2 : decide (0 < n) = true := decide_eq_true hq
                have hq3 : decide ((0 : Int) < (n : Int)) = true := decide_eq_true (by omega)
                obtain ⟨zg, og, hAe, hbg, g0⟩ := int_atS HGc.out hml
                have HRl := Lib.hid (fun (h : G[m] < x.f) => (show ∀ g ∈ G.take n, g < x.f from by rw [hm]; exact rise_low HRi.out hml h))
                have HRh := Lib.hid (fun (h : x.f < G[m]) => (show ∀ g ∈ G.drop m, x.f < g from fun g hg => by
                  rw [List.drop_eq_getElem_cons hml] at hg
                  rcases List.mem_cons.1 hg with q | q
                  · rw [q]; exact h
                  · exact HHi.out g (by rw [hm]; exact q)))
                have HMe := Lib.hid (List.getElem_mem hml)
                have HM := Lib.hid hm
                generalize G[m] = gv at *
                clear hm h0
                subst hAe
                by_cases hgt : x.f < gv
                · have hgb : decide (x.f < gv) = true := decide_eq_true hgt
                  have HN := Lib.hid (HRh.out hgt)
                  clear HRl HRh hgt
                  go_wp2_with fail
                  go_quiet (fail)
                  go_wp2_with fail
                  go_roundw
                  case rel => exact ⟨m, by have := HM.out; omega, by first | rw [hw] | go_num, HN.out, HKn.out.drewN _⟩
                  case measure => have := HM.out; first | (simp [intOf, hw]; omega) | (simp [intOf]; omega)
                · have hgb : decide (x.f < gv) = false := decide_eq_false hgt
                  by_cases heq : gv = x.f
                  · have heb : (gv == x.f) = true := by rw [beq_iff_eq]; exact heq
                    have HN := Lib.hid (HSk.out (fun _ => by rw [← heq]; exact HMe.out))
                    clear HSk HPt HRl HRh hgt heq
                    go_wp2_with fail
                    go_quiet (fail)
                    go_wp2_with fail
                    go_quiet (fail)
                    go_wp2_with fail
                    go_roundw
                    case rel => exact ⟨j + 1, G, _, c, by omega, by go_num, HN.out, by omega, rfl, HI3.out.kept ((Kept.refl _).drewN _)⟩
                    case measure => simp [intOf]; omega
                  · have heb : (gv == x.f) = false := by rw [beq_eq_false_iff_ne]; exact heq
                    have HLo := Lib.hid (HRl.out (by omega))
                    clear HRl HRh hgt heq
                    go_wp2_with fail
                    go_quiet (fail)
                    go_wp2_with fail
                    go_quiet (fail)
                    have hlw : ([] : List Int).length + (G.length - n) ≤ 1000000 := by simp; omega
                    go_wp2_with (refine wpList_ints _ rfl _ _ rfl _ [] _ rfl (Ints.nil _) _ _ _ _ (G.drop n) rfl HLd.out (HD.out.kept ((Kept.refl _).drewN _)) hlw ?_; intro v1 V1 HR1)
                    obtain ⟨A1, c1, rfl⟩ := row_slice HR1.1
                    simp only [List.nil_append] at HR1
                    have HNe := Lib.hid (show ∀ k, (Value.slice A1 (G.drop n).length c1).ownBlock = some k → some k ≠ (Value.slice (some ⟨zg, og, none⟩) n c).ownBlock from fun k hk h => by
                      have e : (Value.slice (some ⟨zg, og, none⟩) G.length c).ownBlock = (Value.slice (some ⟨zg, og, none⟩) n c).ownBlock := rfl
                      have h1 := (HR1.ownGe k hk).1
                      have h2 := (HI3.out.ownGe k (by rw [e]; exact h.symm)).2
                      exact absurd (Nat.lt_of_lt_of_le h2 h1) (Nat.lt_irrefl _))
                    have HR1 := Lib.hid HR1
                    have HI4 := Lib.hid ((HI3.out.kept ((Kept.refl _).drewN _)).kept HR1.out.2)
                    have HI5 := Lib.hid HI4.out.2
                    have HT1 := Lib.hid ((HI4.out.upto rfl hn).kept (((Kept.refl V1).alloc (.cells #[.int .i64 x.f] 3)).drew))
                    have HLt := Lib.hid (show (G.take n).length = n by rw [List.length_take]; omega)
                    have hlt2 : (G.take n).length + 1 ≤ 1000000 := by rw [HLt.out]; omega
                    have hl3 : (G.take n ++ [x.f]).length = n + 1 := by rw [List.length_append, HLt.out]; rfl
                    have hlt3 : (G.take n ++ [x.f]).length + (G.length - n) ≤ 1000000 := by rw [hl3]; omega
                    have HL3 := Lib.hid hl3
                    clear hl3
                    refine wp_region_noPanic ?_
                    refine wp_region_held_drew (S := (fun w' => w'.cell? ⟨zv, ov + j * 7, none⟩ = some (.int .i64 x.f) ∧ Kept w w')) (by kernel_rfl) ?_ (fun hHeld => ?_)
                    · exact keepX HX.out.1 hbv HI5.out.drew
                    refine wpAnyH_take (i := 0) (v := ?_) (by simp only [List.getElem?_toArray, List.getElem?_cons_succ, List.getElem?_cons_zero]; rfl) (by kernel_rfl) (by kernel_rfl) (by kernel_rfl) (fun _ _ _ h => h) (Or.inl ⟨by rfl, ?_⟩) (by assumption) ?_
                    rotate_left
                    · intro w hSw
                      (try dsimp only at hSw)
                      go_simp
                      (try with_reducible rfl)
                    simp only [Act.put, List.setIfInBounds_toArray, List.set_cons_zero, List.set_cons_succ]
                    refine wpAnyH_take (i := 1) (v := ?_) (by simp only [List.getElem?_toArray, List.getElem?_cons_succ, List.getElem?_cons_zero]; rfl) (by kernel_rfl) (by kernel_rfl) (by kernel_rfl) (fun _ _ _ h => h) (Or.inl ⟨by rfl, ?_⟩) (by assumption) ?_
                    rotate_left
                    · intro w hSw
                      (try dsimp only at hSw)
                      go_simp
                      (try with_reducible rfl)
                    simp only [Act.put, List.setIfInBounds_toArray, List.set_cons_zero, List.set_cons_succ]
                    refine wpAnyH_take (i := 2) (v := ?_) (by simp only [List.getElem?_toArray, List.getElem?_cons_succ, List.getElem?_cons_zero]; rfl) (by kernel_rfl) (by kernel_rfl) (by kernel_rfl) (fun _ _ _ h => h) (Or.inl ⟨by rfl, ?_⟩) (by assumption) ?_
                    rotate_left
                    · intro w hSw
                      (try dsimp only at hSw)
                      go_simp
                      (try with_reducible rfl)
                    simp only [Act.put, List.setIfInBounds_toArray, List.set_cons_zero, List.set_cons_succ]
                    refine wpAnyH_take (i := 3) (v := ?_) (by simp only [List.getElem?_toArray, List.getElem?_cons_succ, List.getElem?_cons_zero]; rfl) (by kernel_rfl) (by kernel_rfl) (by kernel_rfl) (fun _ _ _ h => h) (Or.inl ⟨by rfl, ?_⟩) (by assumption) ?_
                    rotate_left
                    · intro w hSw
                      (try dsimp only at hSw)
                      go_simp
                      (try with_reducible rfl)
                    simp only [Act.put, List.setIfInBounds_toArray, List.set_cons_zero, List.set_cons_succ]
                    refine wpAnyH_take (i := 4) (v := ?_) (by simp only [List.getElem?_toArray, List.getElem?_cons_succ, List.getElem?_cons_zero]; rfl) (by kernel_rfl) (by kernel_rfl) (by kernel_rfl) (fun _ _ _ h => h) (Or.inl ⟨by rfl, ?_⟩) (by assumption) ?_
                    rotate_left
                    · intro w hSw
                      (try dsimp only at hSw)
                      go_simp
                      (try with_reducible rfl)
                    simp only [Act.put, List.setIfInBounds_toArray, List.set_cons_zero, List.set_cons_succ]
                    refine wpAnyH_take (i := 5) (v := ?_) (by simp only [List.getElem?_toArray, List.getElem?_cons_succ, List.getElem?_cons_zero]; rfl) (by kernel_rfl) (by kernel_rfl) (by kernel_rfl) (fun _ _ _ h => h) (Or.inl ⟨by rfl, ?_⟩) (by assumption) ?_
                    rotate_left
                    · intro w hSw
                      (try dsimp only at hSw)
                      go_simp
                      (try with_reducible rfl)
                    simp only [Act.put, List.setIfInBounds_toArray, List.set_cons_zero, List.set_cons_succ]
                    refine wpAnyH_take (i := 6) (v := ?_) (by simp only [List.getElem?_toArray, List.getElem?_cons_succ, List.getElem?_cons_zero]; rfl) (by kernel_rfl) (by kernel_rfl) (by kernel_rfl) (fun _ _ _ h => h) (Or.inl ⟨by rfl, ?_⟩) (by assumption) ?_
                    rotate_left
                    · intro w hSw
                      (try dsimp only at hSw)
                      go_simp
                      (try with_reducible rfl)
                    simp only [Act.put, List.setIfInBounds_toArray, List.set_cons_zero, List.set_cons_succ]
                    refine wpAnyH_take (i := 7) (v := ?_) (by simp only [List.getElem?_toArray, List.getElem?_cons_succ, List.getElem?_cons_zero]; rfl) (by kernel_rfl) (by kernel_rfl) (by kernel_rfl) (fun _ _ _ h => h) (Or.inl ⟨by rfl, ?_⟩) (by assumption) ?_
                    rotate_left
                    · intro w hSw
                      (try dsimp only at hSw)
                      go_simp
                      (try with_reducible rfl)
                    simp only [Act.put, List.setIfInBounds_toArray, List.set_cons_zero, List.set_cons_succ]
                    refine wpAnyH_ready (rs := [8]) (by kernel_rfl) (by simp) ?_
                    refine AllReadyH.cons (by simp only [List.getElem?_toArray, List.getElem?_cons_succ, List.getElem?_cons_zero]; rfl) (fun K hK => ?_) AllReadyH.nil
                    go_simp
                    try go_wp2_with fail
                    refine hK.out _ _ ?_ (fun hHeld2 => ?_)
                    · exact keepX HX.out.1 hbv (by first | exact HI6.out.2 | exact (HI5.out.alloc _).drew)
                    clear hK K hHeld
                    have hHeld := hHeld2
                    clear hHeld2
                    try simp only [Act.put, List.setIfInBounds_toArray, List.set_cons_zero, List.set_cons_succ]
                    refine wpAnyH_ready (rs := [9]) (by kernel_rfl) (by simp) ?_
                    refine AllReadyH.cons (by simp only [List.getElem?_toArray, List.getElem?_cons_succ, List.getElem?_cons_zero]; rfl) (fun K hK => ?_) AllReadyH.nil
                    refine step_intsG _ (by rfl) _ _ rfl w (G.take n) _ (by rfl) HT1.out _ _ 1 1 [x.f] (by rfl) (by rfl) (ints_newS _ _ _ ((Kept.refl _).drew)) hlt2 ?_
                    intro A2 c2 w2 HI6 g6
                    have HI6 := Lib.hid (show Ints w (G.take n ++ [x.f]) (.slice A2 (n + 1) c2) w2 by have h := HI6; rw [HL3.out] at h; exact h)
                    have HG6 := Lib.hid g6
                    clear g6
                    try go_wp2_with fail
                    refine hK.out _ _ ?_ (fun hHeld2 => ?_)
                    · exact keepX HX.out.1 hbv (by first | exact HI6.out.2 | exact (HI5.out.alloc _).drew)
                    clear hK K hHeld
                    have hHeld := hHeld2
                    clear hHeld2
                    try simp only [Act.put, List.setIfInBounds_toArray, List.set_cons_zero, List.set_cons_succ]
                    refine wpAnyH_take (i := 10) (v := ?_) (by simp only [List.getElem?_toArray, List.getElem?_cons_succ, List.getElem?_cons_zero]; rfl) (by kernel_rfl) (by kernel_rfl) (by kernel_rfl) (fun _ _ _ h => h) (Or.inl ⟨by rfl, ?_⟩) (by assumption) ?_
                    rotate_left
                    · intro w hSw
                      (try dsimp only at hSw)
                      go_simp
                      (try with_reducible rfl)
                    simp only [Act.put, List.setIfInBounds_toArray, List.set_cons_zero, List.set_cons_succ]
                    refine wpAnyH_done (by kernel_rfl) ?_ _
                    refine NoPanic.normal ?_
                    have HRB := Lib.hid (((HR1.out.monoS (HI3.out.2.drewN _)).kept (((Kept.refl _).alloc (.cells #[.int .i64 x.f] 3)).drew)).besides HG6.out HNe.out (fun k hk => (HT1.out.ownGe k hk).1))
                    go_wp2_with (refine wpList_ints _ rfl _ _ rfl w (G.take n ++ [x.f]) _ rfl HI6.out _ _ _ _ (G.drop n) rfl HLd.out (HRB.out.cells rfl) hlt3 ?_; intro v3 W3 HR3)
                    obtain ⟨A3, c3, rfl⟩ := row_slice HR3.1
                    go_roundw
                    case rel => exact ⟨j + 1, G.take n ++ [x.f] ++ G.drop n, A3, c3, by omega, by go_num, HPt.out n HAn.out HLo.out HHi.out, by rw [List.length_append, HL3.out, HLd.out]; omega, rfl, HR3⟩
                    case measure => simp [intOf]; omega
    · have hjl : j = v.length := by omega
      subst hjl
      have HN := Lib.hid HG.out.end
      go_wp2_with fail
      go_ret
      exact ⟨G, A, c, HN.out, hGl, rfl, HI.out.cells rfl, HI.out.capS, HI.out.2⟩

end Go.Proofs.Ythaofomhlmajbaa
