/-
  A list of slash's own links of one's own: made at its full length, and written place by place.
  The library's contract of Compare at numbers, laid at this program's numbers.
  The library's Or of two numbers; how slash's links are compared: blocks are laid, nothing else.
  The library's contracts of SortFunc at slash's links, laid at this program's numbers.
  Slash's links put into order by the library's SortFunc.
  The library's contract of Compact at numbers, laid at this program's numbers.
  Numbers of one's own, neighbours that are equal made one by the library's Compact.
  The contracts of slash's methods: which two of its links are rivals, span one another, are a pair.
  Slash's inOrder: the links of each one beside each other, rising by their Tgt's Epoch.
  Slash's whose: of links in order, held against their neighbours alone; Guilty.
-/
import Derived.Deep.MidRow
import Derived.Shelf.SlicesG.Cmp
import Derived.RowKit
import Derived.KernelRfl
import Derived.Test.YthaofomhlmajbaaRows
import Derived.Sort.Grow
import Derived.Deep.Draws
import Derived.Shelf.SlSortCmp.NoneTotal
import Derived.Shelf.Slices.CompactI
import Derived.Test.YthaofomhlmajbaaLkRow
import Derived.Test.YthaofomhlmajbaaSlashNext
import Derived.Test.YthaofomhlmajbaaSlashGuilty
import Derived.Test.YthaofomhlmajbaaDutyG
import Derived.Test.YthaofomhlmajbaaGround
import Derived.Test.YthaofomhlmajbaaVoteOfG
import Derived.Test.YthaofomhlmajbaaSlashMath
import Derived.Test.YthaofomhlmajbaaSlashEq
import Derived.Test.YthaofomhlmajbaaFfgOpen
namespace Go.Proofs.Ythaofomhlmajbaa
set_option maxRecDepth 100000
set_option linter.unusedVariables false
set_option linter.unusedSimpArgs false
section
set_option linter.unusedSimpArgs false
set_option linter.unusedVariables false
open Go.ChangeShapes Go.WideShapes Go.ChangeAt Go.RowKit

theorem Try.infoLn : (Try.prog.info? 51).map (fun i => (i.zero, i.size, i.bytes)) = some (some (.agg #[.int .i64 0, .int .i64 0, .int .u64 0, .int .u64 0, .int .i64 0, .int .u64 0, .int .u64 0]), 7, 56) := by kernel_rfl
/-- v holds the links of l, in a row of its own; all that lay in W lies as it was. -/
def Lns (W : World) (l : List Lk) (v : Value) (w : World) : Prop := w.ownsRow W.heap.size 51 7 v l.length (lksCells l) ∧ Kept W w
theorem Lns.nil (W : World) : Lns W [] (.slice none 0 0) W := ⟨World.ownsRow_nil _ _ _ _, Kept.refl _⟩
theorem Lns.nilK {W w : World} (k : Kept W w) : Lns W [] (.slice none 0 0) w := ⟨World.ownsRow_nil _ _ _ _, k⟩
theorem Lns.alloc {W w : World} {l : List Lk} {v : Value} (h : Lns W l v w) (o : Obj) : Lns W l v (w.alloc o) := ⟨h.1.alloc o, h.2.alloc o⟩
theorem Lns.kept {W w w' : World} {l : List Lk} {v : Value} (h : Lns W l v w) (k : Kept w w') : Lns W l v w' := by
  refine ⟨⟨h.1.1, ?_⟩, h.2.trans k⟩
  rcases h.1.2 with h2 | ⟨g, cap, cur, hv, hg, hh, r⟩
  · exact Or.inl h2
  · exact Or.inr ⟨g, cap, cur, hv, hg, by rw [k.heap (h.1.lt g (by rw [hv]; rfl)).2]; exact hh, r⟩
theorem Lns.drewN {W w : World} {l : List Lk} {v : Value} (h : Lns W l v w) (n : Nat) : Lns W l v (w.drewN n) := h.kept ((Kept.refl w).drewN n)
theorem Lns.drew {W w : World} {l : List Lk} {v : Value} (h : Lns W l v w) : Lns W l v w.drew := h.kept (Kept.refl w).drew
theorem Lns.slice {W w : World} {l : List Lk} {v : Value} (h : Lns W l v w) : ∃ A c, v = .slice A l.length c := by
  rcases h.1.2 with ⟨hv, h0⟩ | ⟨g, cap, cur, hv, _⟩
  · rw [h0]; exact ⟨_, _, hv⟩
  · exact ⟨_, _, hv⟩
theorem Lns.cells {W w : World} {l : List Lk} {A : Option Addr} {n c : Nat} (h : Lns W l (.slice A n c) w) (hn : n = l.length) : CellsAt w w.heap.size A (lksCells l) := by
  subst hn; exact CellsAt.of_own h.1
/-- One that is not empty lies in a block that is new. -/
theorem Lns.form {W w : World} {l : List Lk} {v : Value} (h : Lns W l v w) (h0 : 0 < l.length) : ∃ g c, v = .slice (some ⟨g, 0, none⟩) l.length c ∧ W.heap.size ≤ g ∧ g < w.heap.size := by
  rcases h.1.2 with ⟨_, e⟩ | ⟨g, cap, cur, hv, hg, hh, _⟩
  · omega
  · exact ⟨g, cap, hv, hg, (Array.getElem?_eq_some_iff.1 hh).1⟩
theorem Lns.frozen {W w : World} {l : List Lk} {g n c : Nat} (h : Lns W l (.slice (some ⟨g, 0, none⟩) n c) w) (j : Nat) : w.frozen? ⟨g, j, none⟩ = false := by
  rcases h.1.2 with ⟨hv, _⟩ | ⟨g', cap', cur, hv, hb, hg, _⟩
  · cases hv
  · cases hv
    simp [World.frozen?, hg]
theorem Lns.ge {W w : World} {l : List Lk} {g n c : Nat} (h : Lns W l (.slice (some ⟨g, 0, none⟩) n c) w) : W.heap.size ≤ g ∧ g < w.heap.size := h.1.lt g rfl
/-- A cell of number i is written. -/
theorem Lns.set {W w : World} {l : List Lk} {g n c : Nat} (h : Lns W l (.slice (some ⟨g, 0, none⟩) n c) w) {i : Nat} (hi : i < l.length) {j : Nat} (hj : j < 7) {u : Value} {t : Lk} (ht : (lkCells l[i]).set j u = lkCells t) :
    Lns W (l.set i t) (.slice (some ⟨g, 0, none⟩) n c) (w.setCell ⟨g, i * 7 + j, none⟩ u) := by
  refine ⟨?_, h.2.setCell (p := ⟨g, i * 7 + j, none⟩) h.ge.1 u⟩
  have := lkown_set h.1 (i * 7 + j) u (by rw [lksCells_length]; omega)
  rw [lksCells_set hi hj ht] at this
  rw [List.length_set]
  exact this
theorem Lns.step {W w : World} {l : List Lk} {g n c i j : Nat} {x y : Lk} {u : Value} (h : Lns W (l.set i x) (.slice (some ⟨g, 0, none⟩) n c) w) (hi : i < l.length) (hj : j < 7) (ht : (lkCells x).set j u = lkCells y) :
    Lns W (l.set i y) (.slice (some ⟨g, 0, none⟩) n c) (w.setCell ⟨g, i * 7 + j, none⟩ u) := by
  have h2 := h.set (i := i) (j := j) (u := u) (t := y) (by rw [List.length_set]; exact hi) hj (by rw [List.getElem_set_self]; exact ht)
  rwa [List.set_set] at h2
/-- A place is written. -/
theorem Lns.put {W w : World} {l : List Lk} {g n c i : Nat} (h : Lns W l (.slice (some ⟨g, 0, none⟩) n c) w) (hi : i < l.length) (t : Lk) :
    Lns W (l.set i t) (.slice (some ⟨g, 0, none⟩) n c) (w.setCells g (i * 7) (lkCells t)) := by
  obtain ⟨a0, ⟨a1, a2, a3⟩, a4, a5, a6⟩ := t
  have h0 : Lns W (l.set i l[i]) (.slice (some ⟨g, 0, none⟩) n c) w := by rw [List.set_getElem_self]; exact h
  generalize l[i] = x at h0
  obtain ⟨b0, ⟨b1, b2, b3⟩, b4, b5, b6⟩ := x
  have h1 := h0.step (j := 0) (u := .int .i64 a0) (y := ⟨a0, ⟨b1, b2, b3⟩, b4, b5, b6⟩) hi (by omega) rfl
  have h2 := h1.step (j := 1) (u := .int .i64 a1) (y := ⟨a0, ⟨a1, b2, b3⟩, b4, b5, b6⟩) hi (by omega) rfl
  have h3 := h2.step (j := 2) (u := .int .u64 a2) (y := ⟨a0, ⟨a1, a2, b3⟩, b4, b5, b6⟩) hi (by omega) rfl
  have h4 := h3.step (j := 3) (u := .int .u64 a3) (y := ⟨a0, ⟨a1, a2, a3⟩, b4, b5, b6⟩) hi (by omega) rfl
  have h5 := h4.step (j := 4) (u := .int .i64 a4) (y := ⟨a0, ⟨a1, a2, a3⟩, a4, b5, b6⟩) hi (by omega) rfl
  have h6 := h5.step (j := 5) (u := .int .u64 a5) (y := ⟨a0, ⟨a1, a2, a3⟩, a4, a5, b6⟩) hi (by omega) rfl
  exact h6.step (j := 6) (u := .int .u64 a6) (y := ⟨a0, ⟨a1, a2, a3⟩, a4, a5, a6⟩) hi (by omega) rfl
theorem Lns.there {W w : World} {l : List Lk} {g n c i : Nat} (h : Lns W l (.slice (some ⟨g, 0, none⟩) n c) w) (hn : n = l.length) (hi : i < l.length) : w.there g (i * 7) 7 := fun j hj => by
  subst hn
  refine ⟨?_, h.frozen _⟩
  rw [h.1.cellAt (i * 7 + j) (by omega), List.getElem?_eq_getElem (by rw [lksCells_length]; omega)]
  rfl
theorem Try.sizeLn : (Try.prog.info? 51).map (·.size) = some 7 := by kernel_rfl
def zeroLk : Lk := ⟨0, ⟨0, (0, 0)⟩, ⟨0, (0, 0)⟩⟩
theorem made_lks (n : Nat) : (madeCells (lkCells zeroLk).toArray (n * 7)).toList = lksCells (List.replicate n zeroLk) := by
  apply List.ext_getElem?
  intro j
  by_cases hj : j < n * 7
  · have hi : j / 7 < (List.replicate n zeroLk).length := by rw [List.length_replicate]; omega
    have hk : j % 7 < (lkCells zeroLk).length := by show j % 7 < 7; omega
    have e := lksCells_at hi (j := j % 7) (u := (lkCells zeroLk)[j % 7]) (by rw [List.getElem_replicate]; exact List.getElem?_eq_getElem hk)
    rw [show j / 7 * 7 + j % 7 = j by omega] at e
    rw [e]
    have hs : (lkCells zeroLk).toArray.size = 7 := rfl
    have h7 : j % 7 < (lkCells zeroLk).toArray.size := hk
    simp only [madeCells, hs, Array.toList_map, Array.toList_range, List.getElem?_map, List.getElem?_range hj, Option.map_some]
    rw [getElem!_pos (lkCells zeroLk).toArray (j % 7) h7]
    rfl
  · rw [List.getElem?_eq_none (by simp [size_madeCells]; omega), List.getElem?_eq_none (by rw [lksCells_length, List.length_replicate]; omega)]
theorem wpList_makeLn {ops : Array Oper} {rest : List Oper} {o : Oper} {a : Act} {Q : Exit → Act → World → Prop} (w : World) (hg : o.guard = none) (l c : Operand) (hop : o.op = Op.makeSlice 52 l c)
    (n : Nat) (hl : a.eval l = .int .i64 (n : Int)) (hc : a.eval c = .int .i64 (n : Int)) (hn : n ≤ 1000000)
    (hK : ∀ w', Lns w (List.replicate n zeroLk) (.slice (some ⟨w.heap.size, 0, none⟩) n n) w' → wpList Try.prog ops Q rest (a.put o.dst (.slice (some ⟨w.heap.size, 0, none⟩) n n)) w') : wpList Try.prog ops Q (o :: rest) a w := by
  obtain ⟨i, hi, hz, hs, hb⟩ := info_of Try.infoLn
  refine wpList_make_full w hg l c 52 hop w.heap.size 51 i _ 7 Try.underlying52 hi hz hs .i64 .i64 n n n hl hc rfl rfl (by rw [hb]; omega) (by unfold maxLen; omega) (Nat.le_refl _) fun w' h1 h2 => hK w' ⟨?_, ?_⟩
  · have e : (madeCells (Value.agg #[.int .i64 0, .int .i64 0, .int .u64 0, .int .u64 0, .int .i64 0, .int .u64 0, .int .u64 0]).cells (n * 7)).toList = lksCells (List.replicate n zeroLk) := made_lks n
    rw [e] at h1
    rw [List.length_replicate]
    exact h1
  · exact (Kept.refl w).grown h2 fun k hk => by cases hk
end

section
open Go.Shelf Go.RowKit

def cmpN_ren : Go.Shelf.Ren := ⟨fun | 5 => 52 | 7 => 73 | n => n, fun | 22 => 3 | 3 => 3 | 4 => 4 | n => n, fun n => n⟩
theorem cmpN : Go.Proofs.SlLaysC2.n5 Try.prog cmpN_ren := {
  mixed := by kernel_rfl,
  f5 := ⟨Try.f52.name, by decide, Try.func52.trans (congrArg some (by kernel_rfl))⟩,
  f7 := ⟨Try.f73.name, by decide, Try.func73.trans (congrArg some (by kernel_rfl))⟩,
  t3 := Try.underlying3,
  a3 := Try.isAgg3,
  z3 := Try.sizeOf3,
  v3 := Try.zeroValue3,
  t4 := Try.underlying4,
  a4 := Try.isAgg4,
  z4 := Try.sizeOf4,
  v4 := Try.zeroValue4,
  t22 := Try.underlying3,
  a22 := Try.isAgg3,
  z22 := Try.sizeOf3,
  v22 := Try.zeroValue3 }
end

section
set_option linter.unusedSimpArgs false
set_option linter.unusedVariables false
open Go.ChangeShapes Go.WideShapes Go.ChangeAt Go.RowKit Go.Sort Go.Shelf

/-- Blocks are laid, orders are drawn, nothing else. -/
def GrewL (W w : World) : Prop := ∃ q os, w = grow (W.drewN q) os
theorem GrewL.refl (W : World) : GrewL W W := ⟨0, #[], (grow_empty _).symm⟩
theorem GrewL.drew {W w : World} (h : GrewL W w) : GrewL W w.drew := by obtain ⟨q, os, rfl⟩ := h; exact ⟨q + 1, os, rfl⟩
theorem GrewL.alloc {W w : World} (h : GrewL W w) (o : Obj) : GrewL W (w.alloc o) := by
  obtain ⟨q, os, rfl⟩ := h
  exact ⟨q, os ++ #[o], by rw [alloc_eq_grow, grow_grow]⟩
theorem GrewL.kept {W w : World} (h : GrewL W w) : Kept W w := by
  obtain ⟨q, os, rfl⟩ := h
  exact ((Kept.refl W).drewN q).grown (row := none) ⟨rfl, rfl, rfl, by simp, fun k hk _ => heap_grow_old _ _ (by simpa using hk)⟩ fun k hk => by cases hk
theorem keepG4 {W w w' : World} {a0 a1 a2 a3 : Addr} {x0 x1 x2 x3 : Value} (h0 : a0.block < W.heap.size) (h1 : a1.block < W.heap.size) (h2 : a2.block < W.heap.size) (h3 : a3.block < W.heap.size)
    (h : w.cell? a0 = some x0 ∧ w.cell? a1 = some x1 ∧ w.cell? a2 = some x2 ∧ w.cell? a3 = some x3 ∧ GrewL W w) (g : GrewL W w') : w'.cell? a0 = some x0 ∧ w'.cell? a1 = some x1 ∧ w'.cell? a2 = some x2 ∧ w'.cell? a3 = some x3 ∧ GrewL W w' := by
  obtain ⟨e0, e1, e2, e3, k⟩ := h
  have c : ∀ {p : Addr}, p.block < W.heap.size → w'.cell? p = w.cell? p := fun hp => (g.kept.cell hp).trans (k.kept.cell hp).symm
  exact ⟨(c h0).trans e0, (c h1).trans e1, (c h2).trans e2, (c h3).trans e3, g⟩
def orI (x y : Int) : Int := if x = 0 then y else x
set_option maxRecDepth 100000 in
set_option maxHeartbeats 3200000 in
theorem or2_any (A : Option Addr) (x y : Int) (w : World) (h : CellsAt w w.heap.size A (intCells [x, y])) : Calls Try.prog 51 #[.slice A 2 2] w fun e w' => e = .returned (.int .i64 (orI x y)) ∧ w' = w := by
  obtain ⟨z, o, rfl, hb, x0⟩ := int_atS h (i := 0) (by simp)
  obtain ⟨z', o', hz, hb', y0⟩ := int_atS h (i := 1) (by simp)
  injection hz with hz
  injection hz with hz1 hz2 _
  subst hz1 hz2
  simp only [List.getElem_cons_zero, List.getElem_cons_succ, Nat.add_zero] at x0 y0
  clear h hb'
  go_enter Try.func51, Try.ntmps51
  go_wp2_with fail
  go_loopw [8] (fun i w' => ∃ j : Nat, j ≤ 2 ∧ i = .int .i64 j ∧ (1 ≤ j → x = 0) ∧ (2 ≤ j → y = 0) ∧ w' = w) (fun i _ => 2 - (intOf i).toNat)
  case atStart => exact ⟨0, by omega, rfl, by omega, by omega, rfl⟩
  case round =>
    obtain ⟨j, hj, rfl, h1, h2, rfl⟩ := hrel
    rcases (show j = 0 ∨ j = 1 ∨ j = 2 by omega) with hj' | hj' | hj'
    · clear h1 h2 hj
      subst hj'
      by_cases hx : x = 0
      · have hxb : (x != 0) = false := by rw [hx]; rfl
        have HX := Lib.hid hx
        clear hx
        go_wp2_with fail
        go_roundw
        case rel => exact ⟨1, by omega, by go_num, fun _ => HX.out, by omega, by first | rfl | trivial⟩
        case measure => simp [intOf]
      · have hxb : (x != 0) = true := by rw [bne_iff_ne]; exact hx
        have HX := Lib.hid (show orI x y = x from if_neg hx)
        clear hx
        go_wp2_with fail
        go_ret
        exact ⟨by rw [HX.out]; first | rfl | (simp; done), rfl⟩
    · have HX := Lib.hid (h1 (by omega))
      have HO := Lib.hid (show orI x y = y from if_pos HX.out)
      clear h1 h2 hj
      subst hj'
      by_cases hx : y = 0
      · have hxb : (y != 0) = false := by rw [hx]; rfl
        have HY := Lib.hid hx
        clear hx
        go_wp2_with fail
        go_roundw
        case rel => exact ⟨2, by omega, by go_num, fun _ => HX.out, fun _ => HY.out, by first | rfl | trivial⟩
        case measure => simp [intOf]
      · have hxb : (y != 0) = true := by rw [bne_iff_ne]; exact hx
        clear hx
        go_wp2_with fail
        go_ret
        exact ⟨by rw [HO.out]; first | rfl | (simp; done), rfl⟩
    · have HX := Lib.hid (h1 (by omega))
      have HY := Lib.hid (h2 (by omega))
      have HO := Lib.hid (show orI x y = 0 by rw [show orI x y = y from if_pos HX.out, HY.out])
      clear h1 h2 hj
      subst hj'
      go_wp2_with fail
      go_ret
      exact ⟨by rw [HO.out]; first | rfl | (simp; done), rfl⟩
def cfL (x y : Lk) : Int := orI (Lib.compareInt x.f y.f) (Lib.compareInt x.t.e y.t.e)
set_option maxRecDepth 100000 in
set_option maxHeartbeats 6400000 in
/-- compare: blocks are laid, nothing else. -/
theorem cmpL_any (x y : Lk) (W : World) : Calls Try.prog 35 #[.agg #[.int .i64 x.f, .int .i64 x.s.e, .int .u64 x.s.r.1, .int .u64 x.s.r.2, .int .i64 x.t.e, .int .u64 x.t.r.1, .int .u64 x.t.r.2], .agg #[.int .i64 y.f, .int .i64 y.s.e, .int .u64 y.s.r.1, .int .u64 y.s.r.2, .int .i64 y.t.e, .int .u64 y.t.r.1, .int .u64 y.t.r.2]] W fun e w' => e = .returned (.int .i64 (cfL x y)) ∧ ∃ q os', w' = grow (W.drewN q) os' := by
  have HC := Lib.hid (fun a b W' => AnyG.cmp_Compare_int cmpN a b W')
  change Hid (∀ a b W', Calls Try.prog 52 _ _ _) at HC
  have G0 := Lib.hid (((GrewL.refl W).alloc (.cells #[.int .i64 x.f, .int .i64 x.s.e, .int .u64 x.s.r.1, .int .u64 x.s.r.2, .int .i64 x.t.e, .int .u64 x.t.r.1, .int .u64 x.t.r.2] 51)).alloc (.cells #[.int .i64 y.f, .int .i64 y.s.e, .int .u64 y.s.r.1, .int .u64 y.s.r.2, .int .i64 y.t.e, .int .u64 y.t.r.1, .int .u64 y.t.r.2] 51))
  have HS := Lib.hid ((HasCells.new W #[.int .i64 x.f, .int .i64 x.s.e, .int .u64 x.s.r.1, .int .u64 x.s.r.2, .int .i64 x.t.e, .int .u64 x.t.r.1, .int .u64 x.t.r.2] 51 W.heap.size rfl).alloc (.cells #[.int .i64 y.f, .int .i64 y.s.e, .int .u64 y.s.r.1, .int .u64 y.s.r.2, .int .i64 y.t.e, .int .u64 y.t.r.1, .int .u64 y.t.r.2] 51))
  have HT := Lib.hid (HasCells.new (W.alloc (.cells #[.int .i64 x.f, .int .i64 x.s.e, .int .u64 x.s.r.1, .int .u64 x.s.r.2, .int .i64 x.t.e, .int .u64 x.t.r.1, .int .u64 x.t.r.2] 51)) #[.int .i64 y.f, .int .i64 y.s.e, .int .u64 y.s.r.1, .int .u64 y.s.r.2, .int .i64 y.t.e, .int .u64 y.t.r.1, .int .u64 y.t.r.2] 51 (W.heap.size + 1) (by simp))
  have H1 := Lib.hid (HC.out x.f y.f)
  have H2 := Lib.hid (HC.out x.t.e y.t.e)
  unfold cfL
  generalize Lib.compareInt x.f y.f = p at *
  generalize Lib.compareInt x.t.e y.t.e = q at *
  clear HC
  go_enter Try.func35, Try.ntmps35
  go_wp2_with fail
  generalize ((W.alloc (.cells #[.int .i64 x.f, .int .i64 x.s.e, .int .u64 x.s.r.1, .int .u64 x.s.r.2, .int .i64 x.t.e, .int .u64 x.t.r.1, .int .u64 x.t.r.2] 51)).alloc (.cells #[.int .i64 y.f, .int .i64 y.s.e, .int .u64 y.s.r.1, .int .u64 y.s.r.2, .int .i64 y.t.e, .int .u64 y.t.r.1, .int .u64 y.t.r.2] 51)) = W0 at *
  generalize W.heap.size + 1 = z2 at *
  generalize W.heap.size = z1 at *
  have hz1 := HS.out.1
  have hz2 := HT.out.1
  obtain ⟨s0, s1, s2, s3, s4, s5, s6⟩ := HS.out.seven
  obtain ⟨t0, t1, t2, t3, t4, t5, t6⟩ := HT.out.seven
  clear s1 s2 s3 s5 s6 t1 t2 t3 t5 t6
  refine wp_region_noPanic ?_
  refine wp_region_held_drew (S := (fun w' => w'.cell? ⟨z1, 0, none⟩ = some (.int .i64 x.f) ∧ w'.cell? ⟨z1, 4, none⟩ = some (.int .i64 x.t.e) ∧ w'.cell? ⟨z2, 0, none⟩ = some (.int .i64 y.f) ∧ w'.cell? ⟨z2, 4, none⟩ = some (.int .i64 y.t.e) ∧ GrewL W0 w')) (by kernel_rfl) ?_ (fun hHeld => ?_)
  · exact ⟨s0, s4, t0, t4, (GrewL.refl W0).drew⟩
  refine wpAnyH_take (i := 0) (v := ?_) (by simp only [List.getElem?_toArray, List.getElem?_cons_succ, List.getElem?_cons_zero]; rfl) (by kernel_rfl) (by kernel_rfl) (by kernel_rfl) (fun _ _ _ h => h) (Or.inl ⟨by rfl, ?_⟩) (by assumption) ?_
  rotate_left
  · intro w hSw
    (try dsimp only at hSw)
    go_simp
    (try with_reducible rfl)
  simp only [Act.put, List.setIfInBounds_toArray, List.set_cons_zero, List.set_cons_succ]
  refine wpAnyH_take (i := 1) (v := ?_) (by simp only [List.getElem?_toArray, List.getElem?_cons_succ, List.getElem?_cons_zero]; rfl) (by kernel_rfl) (by kernel_rfl) (by kernel_rfl) (fun _ _ _ h => h) (Or.inl ⟨by rfl, ?_⟩) (by assumption) ?_
  rotate_left
  · intro w hSw
    (try dsimp only at hSw)
    go_simp
    (try with_reducible rfl)
  simp only [Act.put, List.setIfInBounds_toArray, List.set_cons_zero, List.set_cons_succ]
  refine wpAnyH_take (i := 2) (v := ?_) (by simp only [List.getElem?_toArray, List.getElem?_cons_succ, List.getElem?_cons_zero]; rfl) (by kernel_rfl) (by kernel_rfl) (by kernel_rfl) (fun _ _ _ h => h) (Or.inl ⟨by rfl, ?_⟩) (by assumption) ?_
  rotate_left
  · intro w hSw
    (try dsimp only at hSw)
    go_simp
    (try with_reducible rfl)
  simp only [Act.put, List.setIfInBounds_toArray, List.set_cons_zero, List.set_cons_succ]
  refine wpAnyH_take (i := 3) (v := ?_) (by simp only [List.getElem?_toArray, List.getElem?_cons_succ, List.getElem?_cons_zero]; rfl) (by kernel_rfl) (by kernel_rfl) (by kernel_rfl) (fun _ _ _ h => h) (Or.inl ⟨by rfl, ?_⟩) (by assumption) ?_
  rotate_left
  · intro w hSw
    (try dsimp only at hSw)
    go_simp
    (try with_reducible rfl)
  simp only [Act.put, List.setIfInBounds_toArray, List.set_cons_zero, List.set_cons_succ]
  refine wpAnyH_take (i := 5) (v := ?_) (by simp only [List.getElem?_toArray, List.getElem?_cons_succ, List.getElem?_cons_zero]; rfl) (by kernel_rfl) (by kernel_rfl) (by kernel_rfl) (fun _ _ _ h => h) (Or.inl ⟨by rfl, ?_⟩) (by assumption) ?_
  rotate_left
  · intro w hSw
    (try dsimp only at hSw)
    go_simp
    (try with_reducible rfl)
  simp only [Act.put, List.setIfInBounds_toArray, List.set_cons_zero, List.set_cons_succ]
  refine wpAnyH_take (i := 6) (v := ?_) (by simp only [List.getElem?_toArray, List.getElem?_cons_succ, List.getElem?_cons_zero]; rfl) (by kernel_rfl) (by kernel_rfl) (by kernel_rfl) (fun _ _ _ h => h) (Or.inl ⟨by rfl, ?_⟩) (by assumption) ?_
  rotate_left
  · intro w hSw
    (try dsimp only at hSw)
    go_simp
    (try with_reducible rfl)
  simp only [Act.put, List.setIfInBounds_toArray, List.set_cons_zero, List.set_cons_succ]
  refine wpAnyH_take (i := 7) (v := ?_) (by simp only [List.getElem?_toArray, List.getElem?_cons_succ, List.getElem?_cons_zero]; rfl) (by kernel_rfl) (by kernel_rfl) (by kernel_rfl) (fun _ _ _ h => h) (Or.inl ⟨by rfl, ?_⟩) (by assumption) ?_
  rotate_left
  · intro w hSw
    (try dsimp only at hSw)
    go_simp
    (try with_reducible rfl)
  simp only [Act.put, List.setIfInBounds_toArray, List.set_cons_zero, List.set_cons_succ]
  refine wpAnyH_take (i := 8) (v := ?_) (by simp only [List.getElem?_toArray, List.getElem?_cons_succ, List.getElem?_cons_zero]; rfl) (by kernel_rfl) (by kernel_rfl) (by kernel_rfl) (fun _ _ _ h => h) (Or.inl ⟨by rfl, ?_⟩) (by assumption) ?_
  rotate_left
  · intro w hSw
    (try dsimp only at hSw)
    go_simp
    (try with_reducible rfl)
  simp only [Act.put, List.setIfInBounds_toArray, List.set_cons_zero, List.set_cons_succ]
  refine wpAnyH_take (i := 9) (v := ?_) (by simp only [List.getElem?_toArray, List.getElem?_cons_succ, List.getElem?_cons_zero]; rfl) (by kernel_rfl) (by kernel_rfl) (by kernel_rfl) (fun _ _ _ h => h) (Or.inl ⟨by rfl, ?_⟩) (by assumption) ?_
  rotate_left
  · intro w hSw
    (try dsimp only at hSw)
    go_simp
    (try with_reducible rfl)
  simp only [Act.put, List.setIfInBounds_toArray, List.set_cons_zero, List.set_cons_succ]
  refine wpAnyH_take (i := 10) (v := ?_) (by simp only [List.getElem?_toArray, List.getElem?_cons_succ, List.getElem?_cons_zero]; rfl) (by kernel_rfl) (by kernel_rfl) (by kernel_rfl) (fun _ _ _ h => h) (Or.inl ⟨by rfl, ?_⟩) (by assumption) ?_
  rotate_left
  · intro w hSw
    (try dsimp only at hSw)
    go_simp
    (try with_reducible rfl)
  simp only [Act.put, List.setIfInBounds_toArray, List.set_cons_zero, List.set_cons_succ]
  refine wpAnyH_ready (rs := [4]) (by kernel_rfl) (by simp) ?_
  refine AllReadyH.cons (by simp only [List.getElem?_toArray, List.getElem?_cons_succ, List.getElem?_cons_zero]; rfl) (fun K hK => ?_) AllReadyH.nil
  go_simp
  go_at_call 52; with_reducible refine (H1.out _).mono ?_
  rintro e w' ⟨rfl, rfl⟩
  try go_wp2_with fail
  refine hK.out _ _ ?_ (fun hHeld2 => ?_)
  · (first | exact hHeld | exact keepG4 hz1 hz1 hz2 hz2 hHeld (hHeld.2.2.2.2.alloc _))
  clear hK K hHeld
  have hHeld := hHeld2
  clear hHeld2
  try simp only [Act.put, List.setIfInBounds_toArray, List.set_cons_zero, List.set_cons_succ]
  refine wpAnyH_ready (rs := [11]) (by kernel_rfl) (by simp) ?_
  refine AllReadyH.cons (by simp only [List.getElem?_toArray, List.getElem?_cons_succ, List.getElem?_cons_zero]; rfl) (fun K hK => ?_) AllReadyH.nil
  go_simp
  go_at_call 52; with_reducible refine (H2.out _).mono ?_
  rintro e w' ⟨rfl, rfl⟩
  try go_wp2_with fail
  refine hK.out _ _ ?_ (fun hHeld2 => ?_)
  · (first | exact hHeld | exact keepG4 hz1 hz1 hz2 hz2 hHeld (hHeld.2.2.2.2.alloc _))
  clear hK K hHeld
  have hHeld := hHeld2
  clear hHeld2
  try simp only [Act.put, List.setIfInBounds_toArray, List.set_cons_zero, List.set_cons_succ]
  refine wpAnyH_ready (rs := [12]) (by kernel_rfl) (by simp) ?_
  refine AllReadyH.cons (by simp only [List.getElem?_toArray, List.getElem?_cons_succ, List.getElem?_cons_zero]; rfl) (fun K hK => ?_) AllReadyH.nil
  go_simp
  try go_wp2_with fail
  refine hK.out _ _ ?_ (fun hHeld2 => ?_)
  · (first | exact hHeld | exact keepG4 hz1 hz1 hz2 hz2 hHeld (hHeld.2.2.2.2.alloc _))
  clear hK K hHeld
  have hHeld := hHeld2
  clear hHeld2
  try simp only [Act.put, List.setIfInBounds_toArray, List.set_cons_zero, List.set_cons_succ]
  refine wpAnyH_ready (rs := [13]) (by kernel_rfl) (by simp) ?_
  refine AllReadyH.cons (by simp only [List.getElem?_toArray, List.getElem?_cons_succ, List.getElem?_cons_zero]; rfl) (fun K hK => ?_) AllReadyH.nil
  go_simp
  go_at_call 51; with_reducible refine (or2_any _ p q _ (show CellsAt _ _ _ (intCells [p, q]) from CellsAt.new _ #[.int .i64 p, .int .i64 q] _ _ rfl)).mono ?_
  rintro e w' ⟨rfl, rfl⟩
  try go_wp2_with fail
  refine hK.out _ _ ?_ (fun hHeld2 => ?_)
  · (first | exact hHeld | exact keepG4 hz1 hz1 hz2 hz2 hHeld (hHeld.2.2.2.2.alloc _))
  clear hK K hHeld
  have hHeld := hHeld2
  clear hHeld2
  try simp only [Act.put, List.setIfInBounds_toArray, List.set_cons_zero, List.set_cons_succ]
  refine wpAnyH_take (i := 14) (v := ?_) (by simp only [List.getElem?_toArray, List.getElem?_cons_succ, List.getElem?_cons_zero]; rfl) (by kernel_rfl) (by kernel_rfl) (by kernel_rfl) (fun _ _ _ h => h) (Or.inl ⟨by rfl, ?_⟩) (by assumption) ?_
  rotate_left
  · intro w hSw
    (try dsimp only at hSw)
    go_simp
    (try with_reducible rfl)
  simp only [Act.put, List.setIfInBounds_toArray, List.set_cons_zero, List.set_cons_succ]
  refine wpAnyH_done (by kernel_rfl) ?_ _
  refine NoPanic.normal ?_
  have k := hHeld.2.2.2.2
  clear hHeld s0 s4 t0 t4
  go_wp2_with fail
  go_ret
  obtain ⟨q1, o1, e1⟩ := k
  obtain ⟨q2, o2, e2⟩ := G0.out
  exact ⟨rfl, q2 + q1, o2 ++ o1, by rw [e1, e2, show (grow (W.drewN q2) o2).drewN q1 = grow ((W.drewN q2).drewN q1) o2 from rfl, World.drewN_drewN, grow_grow]⟩
end

section
open Go.Shelf Go.RowKit

def sortN_ren : Go.Shelf.Ren := ⟨fun | 6 => 34 | 15 => 50 | 14 => 49 | 28 => 71 | 29 => 72 | 20 => 63 | 21 => 64 | 22 => 65 | 23 => 66 | 24 => 67 | 25 => 68 | 26 => 69 | 27 => 70 | 46 => 84 | 47 => 85 | 48 => 86 | 49 => 87 | 50 => 88 | 57 => 101 | n => n, fun | 22 => 52 | 24 => 51 | 25 => 75 | 3 => 3 | 39 => 101 | 0 => 0 | 53 => 125 | 55 => 22 | 4 => 4 | 46 => 118 | 45 => 117 | 50 => 122 | 5 => 5 | 9 => 9 | 66 => 139 | 70 => 143 | 76 => 155 | 77 => 156 | n => n, fun n => n⟩
theorem sortN : Go.Proofs.SlLaysF0.n6 Try.prog sortN_ren := {
  mixed := by kernel_rfl,
  f6 := ⟨Try.f34.name, by decide, Try.func34.trans (congrArg some (by kernel_rfl))⟩,
  f14 := ⟨Try.f49.name, by decide, Try.func49.trans (congrArg some (by kernel_rfl))⟩,
  f15 := Try.func50.trans (congrArg some (by kernel_rfl)),
  f20 := ⟨Try.f63.name, by decide, Try.func63.trans (congrArg some (by kernel_rfl))⟩,
  f21 := ⟨Try.f64.name, by decide, Try.func64.trans (congrArg some (by kernel_rfl))⟩,
  f22 := ⟨Try.f65.name, by decide, Try.func65.trans (congrArg some (by kernel_rfl))⟩,
  f23 := ⟨Try.f66.name, by decide, Try.func66.trans (congrArg some (by kernel_rfl))⟩,
  f24 := ⟨Try.f67.name, by decide, Try.func67.trans (congrArg some (by kernel_rfl))⟩,
  f25 := ⟨Try.f68.name, by decide, Try.func68.trans (congrArg some (by kernel_rfl))⟩,
  f26 := ⟨Try.f69.name, by decide, Try.func69.trans (congrArg some (by kernel_rfl))⟩,
  f27 := ⟨Try.f70.name, by decide, Try.func70.trans (congrArg some (by kernel_rfl))⟩,
  f28 := Try.func71.trans (congrArg some (by kernel_rfl)),
  f29 := Try.func72.trans (congrArg some (by kernel_rfl)),
  f46 := ⟨Try.f84.name, by decide, Try.func84.trans (congrArg some (by kernel_rfl))⟩,
  f47 := Try.func85.trans (congrArg some (by kernel_rfl)),
  f48 := Try.func86.trans (congrArg some (by kernel_rfl)),
  f49 := ⟨Try.f87.name, by decide, Try.func87.trans (congrArg some (by kernel_rfl))⟩,
  f50 := ⟨Try.f88.name, by decide, Try.func88.trans (congrArg some (by kernel_rfl))⟩,
  f57 := ⟨Try.f101.name, by decide, Try.func101.trans (congrArg some (by kernel_rfl))⟩,
  t0 := Try.underlying0,
  a0 := Try.isAgg0,
  z0 := Try.sizeOf0,
  v0 := Try.zeroValue0,
  t3 := Try.underlying3,
  a3 := Try.isAgg3,
  z3 := Try.sizeOf3,
  v3 := Try.zeroValue3,
  t4 := Try.underlying4,
  a4 := Try.isAgg4,
  z4 := Try.sizeOf4,
  v4 := Try.zeroValue4,
  t5 := Try.underlying5,
  a5 := Try.isAgg5,
  z5 := Try.sizeOf5,
  v5 := Try.zeroValue5,
  t9 := Try.underlying9,
  a9 := Try.isAgg9,
  z9 := Try.sizeOf9,
  v9 := Try.zeroValue9,
  t22 := Try.underlying52,
  a22 := Try.isAgg52,
  z22 := Try.sizeOf52,
  v22 := Try.zeroValue52,
  t25 := Try.underlying75,
  a25 := Try.isAgg75,
  z25 := Try.sizeOf75,
  v25 := Try.zeroValue75,
  t39 := Try.underlying101,
  a39 := Try.isAgg101,
  z39 := Try.sizeOf101,
  v39 := Try.zeroValue101,
  t45 := Try.underlying117,
  a45 := Try.isAgg117,
  z45 := Try.sizeOf117,
  v45 := Try.zeroValue117,
  t46 := Try.underlying118,
  a46 := Try.isAgg118,
  z46 := Try.sizeOf118,
  v46 := Try.zeroValue118,
  t50 := Try.underlying122,
  a50 := Try.isAgg122,
  z50 := Try.sizeOf122,
  v50 := Try.zeroValue122,
  t53 := Try.underlying125,
  a53 := Try.isAgg125,
  z53 := Try.sizeOf125,
  v53 := Try.zeroValue125,
  t55 := Try.underlying22,
  a55 := Try.isAgg22,
  z55 := Try.sizeOf22,
  v55 := Try.zeroValue22,
  t66 := Try.underlying139,
  a66 := Try.isAgg139,
  z66 := Try.sizeOf139,
  v66 := Try.zeroValue139,
  t70 := Try.underlying143,
  a70 := Try.isAgg143,
  z70 := Try.sizeOf143,
  v70 := Try.zeroValue143,
  t76 := Try.underlying155,
  a76 := Try.isAgg155,
  z76 := Try.sizeOf155,
  v76 := Try.zeroValue155,
  t77 := Try.underlying156,
  a77 := Try.isAgg156,
  z77 := Try.sizeOf156,
  v77 := Try.zeroValue156 }
end

section
set_option linter.unusedSimpArgs false
set_option linter.unusedVariables false
open Go.ChangeShapes Go.WideShapes Go.ChangeAt Go.RowKit Go.Sort Go.Lib Go.Shelf

instance : Inhabited Lk := ⟨⟨0, ⟨0, (0, 0)⟩, ⟨0, (0, 0)⟩⟩⟩
theorem flat_lks (l : List Lk) : (flatK lkCells 7 l.toArray).toList = lksCells l := by
  apply List.ext_getElem?
  intro j
  by_cases hj : j < l.length * 7
  · have hi : j / 7 < l.length := by omega
    have hk : j % 7 < (lkCells l[j / 7]).length := by show j % 7 < 7; omega
    have e := lksCells_at hi (List.getElem?_eq_getElem hk)
    rw [show j / 7 * 7 + j % 7 = j by omega] at e
    rw [e]
    have h2 := get_flatK lkCells 7 l.toArray j (by simpa using hj)
    have h3 : j < (flatK lkCells 7 l.toArray).size := by rw [size_flatK]; simpa using hj
    rw [getElem!_pos (flatK lkCells 7 l.toArray) j h3] at h2
    rw [Array.getElem?_toList, Array.getElem?_eq_getElem h3, h2]
    have h4 : l.toArray[j / 7]! = l[j / 7] := by simp [hi]
    rw [h4, getElem!_pos (lkCells l[j / 7]) (j % 7) hk]
  · rw [List.getElem?_eq_none (by simp; omega), List.getElem?_eq_none (by rw [lksCells_length]; omega)]
theorem ltL (x y : Lk) : ltOf cfL x y = decide (x.f < y.f ∨ (x.f = y.f ∧ x.t.e < y.t.e)) := by
  unfold ltOf cfL orI Lib.compareInt
  rcases Int.lt_trichotomy x.f y.f with h | h | h
  · simp [h]
  · rcases Int.lt_trichotomy x.t.e y.t.e with k | k | k
    · simp [h, k]
    · simp [h, k]
    · have : ¬ x.t.e < y.t.e := by omega
      simp [h, k, this]
  · have h1 : ¬ x.f < y.f := by omega
    have h2 : ¬ x.f = y.f := by omega
    simp [h, h1, h2]
theorem swoL : SWO (ltOf cfL) where
  irrefl x := by rw [ltL]; simp
  trans x y z h1 h2 := by rw [ltL, decide_eq_true_iff] at *; omega
  ntrans x y z h1 h2 := by rw [ltL, decide_eq_false_iff_not] at *; omega
theorem perm_ofL {d d' : Array Lk} (h : PermIn 0 d.size d d') : d'.toList.Perm d.toList := by
  obtain ⟨h1, _, h3⟩ := h
  have e1 : d'.extract 0 d.size = d' := by rw [← h1]; simp
  have e2 : d.extract 0 d.size = d := by simp
  rw [e1, e2] at h3
  exact h3
theorem sorted_ofL {d : Array Lk} (h : SortedIn (ltOf cfL) 0 d.size d) : d.toList.Pairwise LeqL := by
  rw [List.pairwise_iff_getElem]
  intro i j hi hj hij
  have h1 : i < d.size := by simpa using hi
  have h2 : j < d.size := by simpa using hj
  have := h i j (Nat.zero_le _) hij h2
  rw [ltL, getElem!_pos d i h1, getElem!_pos d j h2, decide_eq_false_iff_not] at this
  show LeqL d[i] d[j]
  unfold LeqL
  omega
theorem cmpLaysL (blk off size : Nat) (w : World) : CmpLays Try.prog 35 #[] lkCells 7 cfL blk off size w :=
  fun _ _ _ _ x y => cmpL_any x y _
/-- A row of links, put into order. -/
theorem sortN_any (W w : World) (l : List Lk) (v : Value) (hl : l.length ≤ 10000000) (h : Lns W l v w) :
    Calls Try.prog 34 #[v, .func (.func 35) #[] #[]] w fun e w' => e = .returned (.tuple #[]) ∧ ∃ S, S.Perm l ∧ S.Pairwise LeqL ∧ Lns W S v w' := by
  rcases h.1.2 with ⟨rfl, h0⟩ | ⟨g, cap, cur, rfl, hbase, hb, h1, h2, h3, h4⟩
  · have hcon := AnyF.slices_SortFunc_none sortN none 0 (.func (.func 35) #[] #[]) w
    change Calls Try.prog 34 _ _ _ at hcon
    have hn : l = [] := List.eq_nil_of_length_eq_zero h0
    subst hn
    exact hcon.mono fun e w' ⟨he, hw⟩ => ⟨he, [], List.Perm.refl _, List.Pairwise.nil, by rw [hw]; exact h⟩
  · have eg : ∀ args w, (callFunc 35 args).run Try.prog w = .ok (.enter 35 args) w := enters_of Try.func35 (by kernel_rfl) rfl
    have hH : HoldsK lkCells 7 w g 0 l.toArray := by
      refine holds_row id hb ?_
      rw [size_flatK, List.map_id, flat_lks, ← h4]
      simp
    have hcon := AnyQ.slices_SortFunc sortN 7 Try.isAgg51 Try.sizeOf51 lkCells (fun _ => rfl) (fun x v hv => by simp [lkCells] at hv; rcases hv with rfl | rfl | rfl | rfl | rfl | rfl | rfl <;> rfl) cfL swoL 35 #[] g 0 cap l.toArray w eg (cmpLaysL g 0 _ w) hH (Array.getElem?_eq_some_iff.1 hb).1 (by simp; omega)
    change Calls Try.prog 34 #[.slice (some ⟨g, 0, none⟩) l.length cap, _] _ _ at hcon
    refine hcon.mono ?_
    rintro e w' ⟨he, d', n, os, hp, hs, rfl⟩
    have hsz : d'.size = l.length := by have := hp.1; simpa using this
    have hs' : SortedIn (ltOf cfL) 0 d'.size d' := by rw [hsz]; simpa using hs
    have hpm : d'.toList.Perm l := by simpa using perm_ofL hp
    refine ⟨he, d'.toList, hpm, sorted_ofL hs', ?_, ?_⟩
    · have k := ownsRow_rowed (α := Value) id (w := w) (base := W.heap.size) (n := n) (os := os) (m := l.length) (size := 7) (d := flatK lkCells 7 d') (by rw [size_flatK, hsz]) hbase hb h1 h2 h3
      have e1 : (flatK lkCells 7 d').toList.map id = lksCells d'.toList := by
        rw [List.map_id, ← flat_lks]
      rw [e1] at k
      have e2 : d'.toList.length = l.length := by simp [hsz]
      rw [e2]
      exact k
    · exact h.2.grown (grownBy_rowed id _) fun k hk => by cases hk; exact hbase
end

section
open Go.Shelf Go.RowKit

def compI_ren : Go.Shelf.Ren := ⟨fun | 20 => 31 | n => n, fun | 0 => 0 | 3 => 3 | 4 => 4 | 22 => 32 | n => n, fun n => n⟩
theorem compI : Go.Proofs.Lays2.n20 Try.prog compI_ren := {
  mixed := by kernel_rfl,
  f20 := Try.func31.trans (congrArg some (by kernel_rfl)),
  t0 := Try.underlying0,
  a0 := Try.isAgg0,
  z0 := Try.sizeOf0,
  v0 := Try.zeroValue0,
  t3 := Try.underlying3,
  a3 := Try.isAgg3,
  z3 := Try.sizeOf3,
  v3 := Try.zeroValue3,
  t4 := Try.underlying4,
  a4 := Try.isAgg4,
  z4 := Try.sizeOf4,
  v4 := Try.zeroValue4,
  t22 := Try.underlying32,
  a22 := Try.isAgg32,
  z22 := Try.sizeOf32,
  v22 := Try.zeroValue32,
  i3 := by kernel_rfl }
end

section
set_option linter.unusedSimpArgs false
set_option linter.unusedVariables false
open Go.ChangeShapes Go.WideShapes Go.ChangeAt Go.RowKit Go.Sort Go.Lib Go.Shelf

theorem mem_upTo (d : Array Int) {x : Int} : ∀ {m : Nat}, x ∈ compactUpTo d m ↔ ∃ j, j < m ∧ d[j]! = x
  | 0 => ⟨fun h => (by simp [compactUpTo] at h), fun ⟨_, h, _⟩ => absurd h (Nat.not_lt_zero _)⟩
  | m + 1 => by
    rw [compactUpTo_succ, List.mem_append, mem_upTo d]
    constructor
    · rintro (⟨j, hj, e⟩ | h)
      · exact ⟨j, by omega, e⟩
      · split at h
        · exact ⟨m, by omega, (List.mem_singleton.1 h).symm⟩
        · cases h
    · rintro ⟨j, hj, e⟩
      by_cases q : j = m
      · subst q
        by_cases hk : keeps d j = true
        · rw [if_pos hk]; exact Or.inr (List.mem_singleton.2 e.symm)
        · have : ¬ (j = 0 ∨ d[j]! ≠ d[j - 1]!) := fun h => hk (decide_eq_true h)
          have h0 : ¬ j = 0 := fun h => this (Or.inl h)
          have h1 : d[j]! = d[j - 1]! := Decidable.not_not.1 fun h => this (Or.inr h)
          exact Or.inl ⟨j - 1, by omega, by rw [← h1]; exact e⟩
      · exact Or.inl ⟨j, by omega, e⟩
theorem rise_upTo {d : Array Int} (hd : ∀ i j, i ≤ j → j < d.size → d[i]! ≤ d[j]!) : ∀ {m : Nat}, m ≤ d.size → (compactUpTo d m).Pairwise (fun a b => a < b)
  | 0, _ => by simp [compactUpTo]
  | m + 1, hm => by
    rw [compactUpTo_succ, List.pairwise_append]
    refine ⟨rise_upTo hd (by omega), ?_, ?_⟩
    · split
      · exact List.pairwise_singleton _ _
      · exact List.Pairwise.nil
    · intro a ha b hb
      obtain ⟨j, hj, rfl⟩ := (mem_upTo d).1 ha
      split at hb
      · rename_i hk
        rw [List.mem_singleton] at hb
        subst hb
        have hk2 : m = 0 ∨ d[m]! ≠ d[m - 1]! := of_decide_eq_true hk
        rcases hk2 with h0 | h0
        · omega
        · have h1 := hd j (m - 1) (by omega) (by omega)
          have h2 := hd (m - 1) m (by omega) (by omega)
          omega
      · cases hb
theorem mem_compact {l : List Int} {x : Int} : x ∈ compact l ↔ x ∈ l := by
  unfold compact
  rw [mem_upTo, List.mem_iff_getElem]
  constructor
  · rintro ⟨j, hj, e⟩
    refine ⟨j, hj, ?_⟩
    rw [getElem!_pos l.toArray j (by simpa using hj)] at e
    simpa using e
  · rintro ⟨j, hj, e⟩
    refine ⟨j, hj, ?_⟩
    rw [getElem!_pos l.toArray j (by simpa using hj)]
    simpa using e
theorem rise_compact {l : List Int} (h : l.Pairwise fun a b => a ≤ b) : (compact l).Pairwise fun a b => a < b := by
  unfold compact
  refine rise_upTo (fun i j hij hj => ?_) (by simp)
  have hj' : j < l.length := by simpa using hj
  rw [getElem!_pos l.toArray i (by simp; omega), getElem!_pos l.toArray j hj]
  by_cases e : i = j
  · subst e; exact Int.le_refl _
  · have := List.pairwise_iff_getElem.1 h i j (by omega) hj' (by omega)
    simpa using this
theorem compact_le (l : List Int) : (compact l).length ≤ l.length := by
  unfold compact compactUpTo
  rw [List.length_map]
  have := List.length_filter_le (keeps l.toArray) (List.range l.length)
  simpa using this

theorem compI_any (W w : World) (l : List Int) (v : Value) (hl : l.length ≤ 10000000) (h : Ints W l v w) :
    Calls Try.prog 31 #[v] w fun e w' => ∃ A c, e = .returned (.slice A (compact l).length c) ∧ Ints W (compact l) (.slice A (compact l).length c) w' := by
  rcases h.1.2 with ⟨rfl, h0⟩ | ⟨g, cap, cur, rfl, hbase, hb, h1, h2, h3, h4⟩
  · have hcon := Any.slices_Compact_int_empty compI none 0 w
    change Calls Try.prog 31 _ _ _ at hcon
    have hn : l = [] := List.eq_nil_of_length_eq_zero h0
    subst hn
    exact hcon.mono fun e w' ⟨he, hw⟩ => ⟨none, 0, he, by rw [hw]; exact h⟩
  · have hH : Holds (Value.int .i64) w g 0 l.toArray := by
      refine holds_row _ hb ?_
      have : (l.toArray.toList.map fun x => Value.int .i64 x) = intCells l := rfl
      rw [this, ← h4]
      simp
    have hcon := Any.slices_Compact_int compI g 0 cap l w hH (by omega) h1
    change Calls Try.prog 31 _ _ _ at hcon
    refine hcon.mono ?_
    rintro e w' ⟨he, q, rfl⟩
    have hk := compact_le l
    refine ⟨_, _, he, ?_⟩
    have hz : (compact l ++ List.replicate (l.length - (compact l).length) (0 : Int)).length = l.length := by rw [List.length_append, List.length_replicate]; omega
    have k : Ints W (compact l ++ List.replicate (l.length - (compact l).length) 0) (.slice (some ⟨g, 0, none⟩) l.length cap) (grow (putRow (Value.int .i64) (Sort.ahead w q) g 0 (compact l ++ List.replicate (l.length - (compact l).length) 0).toArray) #[]) := by
      refine ⟨?_, ?_⟩
      · have k := ownsRow_rowed (Value.int .i64) (w := w) (base := W.heap.size) (n := q) (os := #[]) (m := l.length) (size := 1) (d := (compact l ++ List.replicate (l.length - (compact l).length) (0 : Int)).toArray) (by rw [Nat.mul_one, ← hz]; simp) hbase hb h1 h2 h3
        rw [hz]
        exact k
      · exact h.2.grown (grownBy_rowed _ _) fun k hk => by cases hk; exact hbase
    have k2 := k.upto (k := (compact l).length) hz.symm (by omega)
    rw [List.take_left] at k2
    have e2 : ∀ x : World, grow x #[] = x := fun x => by simp [grow]
    rw [e2] at k2
    exact k2
end

section
set_option linter.unusedSimpArgs false
set_option linter.unusedVariables false
open Go.ChangeShapes Go.WideShapes Go.ChangeAt Go.RowKit

theorem eqLinkN (a b c d e f g a' b' c' d' e' f' g' : Int) (w : World) :
    Sem.run Try.prog (Op.equalIn 10000 51 (.agg #[.int .i64 a, .int .i64 b, .int .u64 c, .int .u64 d, .int .i64 e, .int .u64 f, .int .u64 g]) (.agg #[.int .i64 a', .int .i64 b', .int .u64 c', .int .u64 d', .int .i64 e', .int .u64 f', .int .u64 g'])) w = .ok ((a == a') && (((b == b') && ((c == c') && (d == d'))) && ((e == e') && ((f == f') && (g == g'))))) w := by
  rw [show (10000 : Nat) = 9996 + 1 + 1 + 1 + 1 from rfl]
  go_simp
  simp only [eqId98]
  by_cases h1 : a = a' <;> by_cases h2 : b = b' <;> by_cases h3 : c = c' <;> by_cases h4 : d = d' <;> by_cases h5 : e = e' <;> by_cases h6 : f = f' <;> by_cases h7 : g = g' <;> simp [h1, h2, h3, h4, h5, h6, h7]
theorem eqLn (a b : Lk) (w : World) : Sem.run Try.prog (Op.equalIn 10000 51 (.agg #[.int .i64 a.f, .int .i64 a.s.e, .int .u64 a.s.r.1, .int .u64 a.s.r.2, .int .i64 a.t.e, .int .u64 a.t.r.1, .int .u64 a.t.r.2]) (.agg #[.int .i64 b.f, .int .i64 b.s.e, .int .u64 b.s.r.1, .int .u64 b.s.r.2, .int .i64 b.t.e, .int .u64 b.t.r.1, .int .u64 b.t.r.2])) w = .ok (sameLk a b) w := by rw [eqLinkN, sameLk_int]
def rivalL (a b : Lk) : Bool := decide (a.t.e = b.t.e) && !sameLk a b
theorem pairL_parts (a b : Lk) : pairL a b = (decide (a.f = b.f) && (rivalL a b || (spansL a b || spansL b a))) := by
  rw [Bool.eq_iff_iff, pairL_iff]
  simp only [rivalL, spansL, sameLk, Bool.and_eq_true, Bool.or_eq_true, decide_eq_true_iff, Bool.not_eq_true', decide_eq_false_iff_not]
  constructor
  · rintro ⟨h, h2 | h2 | h2⟩
    · exact ⟨h, Or.inr (Or.inl h2)⟩
    · exact ⟨h, Or.inr (Or.inr h2)⟩
    · exact ⟨h, Or.inl ⟨h2.2, h2.1⟩⟩
  · rintro ⟨h, h2 | h2 | h2⟩
    · exact ⟨h, Or.inr (Or.inr ⟨h2.2, h2.1⟩)⟩
    · exact ⟨h, Or.inl h2⟩
    · exact ⟨h, Or.inr (Or.inl h2)⟩
set_option maxRecDepth 100000 in
set_option maxHeartbeats 1600000 in
theorem spansN_any (a b : Lk) (w : World) :
    Calls Try.prog 33 #[.agg #[.int .i64 a.f, .int .i64 a.s.e, .int .u64 a.s.r.1, .int .u64 a.s.r.2, .int .i64 a.t.e, .int .u64 a.t.r.1, .int .u64 a.t.r.2], .agg #[.int .i64 b.f, .int .i64 b.s.e, .int .u64 b.s.r.1, .int .u64 b.s.r.2, .int .i64 b.t.e, .int .u64 b.t.r.1, .int .u64 b.t.r.2]] w fun e w' => e = .returned (.bool (spansL a b)) ∧ Kept w w' := by
  have K0 := Lib.hid (((Kept.refl w).alloc (.cells #[.int .i64 a.f, .int .i64 a.s.e, .int .u64 a.s.r.1, .int .u64 a.s.r.2, .int .i64 a.t.e, .int .u64 a.t.r.1, .int .u64 a.t.r.2] 51)).alloc (.cells #[.int .i64 b.f, .int .i64 b.s.e, .int .u64 b.s.r.1, .int .u64 b.s.r.2, .int .i64 b.t.e, .int .u64 b.t.r.1, .int .u64 b.t.r.2] 51))
  have HS := Lib.hid ((HasCells.new w #[.int .i64 a.f, .int .i64 a.s.e, .int .u64 a.s.r.1, .int .u64 a.s.r.2, .int .i64 a.t.e, .int .u64 a.t.r.1, .int .u64 a.t.r.2] 51 w.heap.size rfl).alloc (.cells #[.int .i64 b.f, .int .i64 b.s.e, .int .u64 b.s.r.1, .int .u64 b.s.r.2, .int .i64 b.t.e, .int .u64 b.t.r.1, .int .u64 b.t.r.2] 51))
  have HT := Lib.hid (HasCells.new (w.alloc (.cells #[.int .i64 a.f, .int .i64 a.s.e, .int .u64 a.s.r.1, .int .u64 a.s.r.2, .int .i64 a.t.e, .int .u64 a.t.r.1, .int .u64 a.t.r.2] 51)) #[.int .i64 b.f, .int .i64 b.s.e, .int .u64 b.s.r.1, .int .u64 b.s.r.2, .int .i64 b.t.e, .int .u64 b.t.r.1, .int .u64 b.t.r.2] 51 (w.heap.size + 1) (by simp))
  by_cases h1 : a.s.e < b.s.e
  · by_cases h2 : b.t.e < a.t.e
    · have HE := Lib.hid (show spansL a b = true from decide_eq_true ⟨h1, h2⟩)
      go_enter Try.func33, Try.ntmps33
      go_wp2_with fail
      go_ret
      exact ⟨by rw [HE.out]; first | rfl | (simp; done) | (simp; omega), K0.out⟩
    · have HE := Lib.hid (show spansL a b = false from decide_eq_false (fun h => h2 h.2))
      go_enter Try.func33, Try.ntmps33
      go_wp2_with fail
      go_ret
      exact ⟨by rw [HE.out]; first | rfl | (simp; done) | (simp; omega), K0.out⟩
  · have HE := Lib.hid (show spansL a b = false from decide_eq_false (fun h => h1 h.1))
    go_enter Try.func33, Try.ntmps33
    go_wp2_with fail
    go_ret
    exact ⟨by rw [HE.out]; first | rfl | (simp; done) | (simp; omega), K0.out⟩
attribute [local go_sem high] eqLn in
set_option maxRecDepth 100000 in
set_option maxHeartbeats 3200000 in
theorem rivalN_any (a b : Lk) (w : World) :
    Calls Try.prog 32 #[.agg #[.int .i64 a.f, .int .i64 a.s.e, .int .u64 a.s.r.1, .int .u64 a.s.r.2, .int .i64 a.t.e, .int .u64 a.t.r.1, .int .u64 a.t.r.2], .agg #[.int .i64 b.f, .int .i64 b.s.e, .int .u64 b.s.r.1, .int .u64 b.s.r.2, .int .i64 b.t.e, .int .u64 b.t.r.1, .int .u64 b.t.r.2]] w fun e w' => e = .returned (.bool (rivalL a b)) ∧ Kept w w' := by
  have K0 := Lib.hid (((Kept.refl w).alloc (.cells #[.int .i64 a.f, .int .i64 a.s.e, .int .u64 a.s.r.1, .int .u64 a.s.r.2, .int .i64 a.t.e, .int .u64 a.t.r.1, .int .u64 a.t.r.2] 51)).alloc (.cells #[.int .i64 b.f, .int .i64 b.s.e, .int .u64 b.s.r.1, .int .u64 b.s.r.2, .int .i64 b.t.e, .int .u64 b.t.r.1, .int .u64 b.t.r.2] 51))
  have HS := Lib.hid ((HasCells.new w #[.int .i64 a.f, .int .i64 a.s.e, .int .u64 a.s.r.1, .int .u64 a.s.r.2, .int .i64 a.t.e, .int .u64 a.t.r.1, .int .u64 a.t.r.2] 51 w.heap.size rfl).alloc (.cells #[.int .i64 b.f, .int .i64 b.s.e, .int .u64 b.s.r.1, .int .u64 b.s.r.2, .int .i64 b.t.e, .int .u64 b.t.r.1, .int .u64 b.t.r.2] 51))
  have HT := Lib.hid (HasCells.new (w.alloc (.cells #[.int .i64 a.f, .int .i64 a.s.e, .int .u64 a.s.r.1, .int .u64 a.s.r.2, .int .i64 a.t.e, .int .u64 a.t.r.1, .int .u64 a.t.r.2] 51)) #[.int .i64 b.f, .int .i64 b.s.e, .int .u64 b.s.r.1, .int .u64 b.s.r.2, .int .i64 b.t.e, .int .u64 b.t.r.1, .int .u64 b.t.r.2] 51 (w.heap.size + 1) (by simp))
  cases hs : sameLk a b with
  | true =>
    by_cases h2 : a.t.e = b.t.e
    · have HE := Lib.hid (show rivalL a b = false by unfold rivalL; rw [hs, decide_eq_true h2]; rfl)
      have h2b : (a.t.e == b.t.e) = true := by rw [beq_iff_eq]; exact h2
      clear h2
      go_enter Try.func32, Try.ntmps32
      go_wp2_with fail
      go_ret
      exact ⟨by rw [HE.out]; first | rfl | (simp; done), K0.out⟩
    · exact absurd (by rw [sameLk_iff.1 hs]) h2
  | false =>
    by_cases h2 : a.t.e = b.t.e
    · have HE := Lib.hid (show rivalL a b = true by unfold rivalL; rw [hs, decide_eq_true h2]; rfl)
      have h2b : (a.t.e == b.t.e) = true := by rw [beq_iff_eq]; exact h2
      clear h2
      go_enter Try.func32, Try.ntmps32
      go_wp2_with fail
      go_ret
      exact ⟨by rw [HE.out]; first | rfl | (simp; done), K0.out⟩
    · have HE := Lib.hid (show rivalL a b = false by unfold rivalL; rw [decide_eq_false h2]; rfl)
      have h2b : (a.t.e == b.t.e) = false := by rw [beq_eq_false_iff_ne]; exact h2
      clear h2 hs
      go_enter Try.func32, Try.ntmps32
      go_wp2_with fail
      go_ret
      exact ⟨by rw [HE.out]; first | rfl | (simp; done), K0.out⟩
set_option maxRecDepth 100000 in
set_option maxHeartbeats 3200000 in
theorem pairN_any (a b : Lk) (w : World) :
    Calls Try.prog 21 #[.agg #[.int .i64 a.f, .int .i64 a.s.e, .int .u64 a.s.r.1, .int .u64 a.s.r.2, .int .i64 a.t.e, .int .u64 a.t.r.1, .int .u64 a.t.r.2], .agg #[.int .i64 b.f, .int .i64 b.s.e, .int .u64 b.s.r.1, .int .u64 b.s.r.2, .int .i64 b.t.e, .int .u64 b.t.r.1, .int .u64 b.t.r.2]] w fun e w' => e = .returned (.bool (pairL a b)) ∧ Kept w w' := by
  have K0 := Lib.hid (((Kept.refl w).alloc (.cells #[.int .i64 a.f, .int .i64 a.s.e, .int .u64 a.s.r.1, .int .u64 a.s.r.2, .int .i64 a.t.e, .int .u64 a.t.r.1, .int .u64 a.t.r.2] 51)).alloc (.cells #[.int .i64 b.f, .int .i64 b.s.e, .int .u64 b.s.r.1, .int .u64 b.s.r.2, .int .i64 b.t.e, .int .u64 b.t.r.1, .int .u64 b.t.r.2] 51))
  have HS := Lib.hid ((HasCells.new w #[.int .i64 a.f, .int .i64 a.s.e, .int .u64 a.s.r.1, .int .u64 a.s.r.2, .int .i64 a.t.e, .int .u64 a.t.r.1, .int .u64 a.t.r.2] 51 w.heap.size rfl).alloc (.cells #[.int .i64 b.f, .int .i64 b.s.e, .int .u64 b.s.r.1, .int .u64 b.s.r.2, .int .i64 b.t.e, .int .u64 b.t.r.1, .int .u64 b.t.r.2] 51))
  have HT := Lib.hid (HasCells.new (w.alloc (.cells #[.int .i64 a.f, .int .i64 a.s.e, .int .u64 a.s.r.1, .int .u64 a.s.r.2, .int .i64 a.t.e, .int .u64 a.t.r.1, .int .u64 a.t.r.2] 51)) #[.int .i64 b.f, .int .i64 b.s.e, .int .u64 b.s.r.1, .int .u64 b.s.r.2, .int .i64 b.t.e, .int .u64 b.t.r.1, .int .u64 b.t.r.2] 51 (w.heap.size + 1) (by simp))
  have HP := Lib.hid (pairL_parts a b)
  generalize pairL a b = res at *
  go_enter Try.func21, Try.ntmps21
  by_cases h1 : a.f = b.f
  · have HP1 := Lib.hid (show res = (rivalL a b || (spansL a b || spansL b a)) by rw [HP.out, decide_eq_true h1]; simp)
    have h1b : (a.f == b.f) = true := by rw [beq_iff_eq]; exact h1
    clear HP h1
    go_wp2_with fail
    generalize ((w.alloc (.cells #[.int .i64 a.f, .int .i64 a.s.e, .int .u64 a.s.r.1, .int .u64 a.s.r.2, .int .i64 a.t.e, .int .u64 a.t.r.1, .int .u64 a.t.r.2] 51)).alloc (.cells #[.int .i64 b.f, .int .i64 b.s.e, .int .u64 b.s.r.1, .int .u64 b.s.r.2, .int .i64 b.t.e, .int .u64 b.t.r.1, .int .u64 b.t.r.2] 51)) = W at *
    generalize w.heap.size + 1 = z2 at *
    generalize w.heap.size = z1 at *
    refine (rivalN_any a b W).mono ?_
    rintro e W1 ⟨rfl, k1⟩
    have K1 := Lib.hid k1
    clear k1
    generalize rivalL a b = o at *
    obtain ⟨s0, s1, s2, s3, s4, s5, s6⟩ := (HS.out.kept K1.out).seven
    obtain ⟨t0, t1, t2, t3, t4, t5, t6⟩ := (HT.out.kept K1.out).seven
    cases o with
    | true =>
      have HE := Lib.hid (show res = true by rw [HP1.out]; rfl)
      clear HP1
      go_wp2_with fail
      go_ret
      exact ⟨by rw [HE.out]; first | rfl | (simp; done), K0.out.trans K1.out⟩
    | false =>
      go_wp2_with fail
      refine (spansN_any a b W1).mono ?_
      rintro e W2 ⟨rfl, k2⟩
      have K2 := Lib.hid (K1.out.trans k2)
      clear k2 s0 s1 s2 s3 s4 s5 s6 t0 t1 t2 t3 t4 t5 t6
      generalize spansL a b = p at *
      obtain ⟨s0, s1, s2, s3, s4, s5, s6⟩ := (HS.out.kept K2.out).seven
      obtain ⟨t0, t1, t2, t3, t4, t5, t6⟩ := (HT.out.kept K2.out).seven
      cases p with
      | true =>
        have HE := Lib.hid (show res = true by rw [HP1.out]; rfl)
        clear HP1
        go_wp2_with fail
        go_ret
        exact ⟨by rw [HE.out]; first | rfl | (simp; done), K0.out.trans K2.out⟩
      | false =>
        go_wp2_with fail
        refine (spansN_any b a W2).mono ?_
        rintro e W3 ⟨rfl, k3⟩
        have K3 := Lib.hid (K2.out.trans k3)
        have HE := Lib.hid (show res = spansL b a by rw [HP1.out]; simp)
        clear k3 HP1 s0 s1 s2 s3 s4 s5 s6 t0 t1 t2 t3 t4 t5 t6
        generalize spansL b a = q at *
        cases q <;> (go_wp2_with fail; go_ret; exact ⟨by rw [HE.out]; first | rfl | (simp; done), K0.out.trans K3.out⟩)
  · have HE := Lib.hid (show res = false by rw [HP.out, decide_eq_false h1]; rfl)
    have h1b : (a.f == b.f) = false := by rw [beq_eq_false_iff_ne]; exact h1
    clear HP h1
    go_wp2_with fail
    go_ret
    exact ⟨by rw [HE.out]; first | rfl | (simp; done), K0.out⟩
set_option maxRecDepth 100000 in
set_option maxHeartbeats 3200000 in
theorem slashPair_any (a b : Lk) (w : World) (ha : WfLk a) (hb : WfLk b) :
    Calls Try.prog 13 #[.agg #[.int .i64 a.f, .int .i64 a.s.e, .int .u64 a.s.r.1, .int .u64 a.s.r.2, .int .i64 a.t.e, .int .u64 a.t.r.1, .int .u64 a.t.r.2], .agg #[.int .i64 b.f, .int .i64 b.s.e, .int .u64 b.s.r.1, .int .u64 b.s.r.2, .int .i64 b.t.e, .int .u64 b.t.r.1, .int .u64 b.t.r.2]] w fun e w' => e = .returned (.bool (pairL a b)) ∧ Kept w w' := by
  have K0 := Lib.hid (((Kept.refl w).alloc (.cells #[.int .i64 a.f, .int .i64 a.s.e, .int .u64 a.s.r.1, .int .u64 a.s.r.2, .int .i64 a.t.e, .int .u64 a.t.r.1, .int .u64 a.t.r.2] 28)).alloc (.cells #[.int .i64 b.f, .int .i64 b.s.e, .int .u64 b.s.r.1, .int .u64 b.s.r.2, .int .i64 b.t.e, .int .u64 b.t.r.1, .int .u64 b.t.r.2] 28))
  go_enter Try.func13, Try.ntmps13
  go_wp2_with fail
  refine (pairN_any a b _).mono ?_
  rintro e W1 ⟨rfl, k1⟩
  have K1 := Lib.hid (K0.out.trans k1)
  clear k1
  go_wp2_with fail
  go_ret
  exact ⟨rfl, K1.out⟩
end

section
set_option linter.unusedSimpArgs false
set_option linter.unusedVariables false
open Go.ChangeShapes Go.WideShapes Go.ChangeAt Go.RowKit

theorem fill_first (v : List Lk) : v.take 0 ++ List.replicate (v.length - 0) zeroLk = List.replicate v.length zeroLk := by simp
theorem fill_next {v : List Lk} {j : Nat} (hj : j < v.length) : (v.take j ++ List.replicate (v.length - j) zeroLk).set j v[j] = v.take (j + 1) ++ List.replicate (v.length - (j + 1)) zeroLk := by
  have hl : (v.take j).length = j := by rw [List.length_take]; omega
  rw [List.set_append_right _ _ (by omega), hl, Nat.sub_self]
  obtain ⟨m, hm⟩ : ∃ m, v.length - j = m + 1 := ⟨v.length - j - 1, by omega⟩
  rw [hm, show v.length - (j + 1) = m by omega, List.replicate_succ, List.set_cons_zero, List.take_succ_eq_append_getElem hj, List.append_assoc]
  rfl
theorem fill_len (v : List Lk) {j : Nat} (hj : j ≤ v.length) : (v.take j ++ List.replicate (v.length - j) zeroLk).length = v.length := by simp; omega
theorem fill_end (v : List Lk) : v.take v.length ++ List.replicate (v.length - v.length) zeroLk = v := by simp
set_option maxRecDepth 100000 in
set_option maxHeartbeats 6400000 in
theorem linkOrder_of (hSo : ∀ (W w : World) (l : List Lk) (v : Value), l.length ≤ 10000000 → Lns W l v w → Calls Try.prog 34 #[v, .func (.func 35) #[] #[]] w fun e w' => e = .returned (.tuple #[]) ∧ ∃ S, S.Perm l ∧ S.Pairwise LeqL ∧ Lns W S v w')
    (V : Option Addr) (cv : Nat) (v : List Lk) (w : World) (hv : v.length ≤ 10000) (hV : CellsAt w w.heap.size V (lksCells v)) :
    Calls Try.prog 22 #[.slice V v.length cv] w fun e w' => ∃ S A c, S.Perm v ∧ S.Pairwise LeqL ∧ e = .returned (.slice A S.length c) ∧ Lns w S (.slice A S.length c) w' := by
  have HSo := Lib.hid hSo
  have HV := Lib.hid hV
  clear hV hSo
  go_enter Try.func22, Try.ntmps22
  go_wp2_with (refine wpList_makeLn _ rfl _ _ rfl v.length (by rfl) (by rfl) (by omega) ?_; intro w1 hL)
  have HL := Lib.hid hL
  clear hL
  obtain ⟨g, hg⟩ : ∃ g, g = w.heap.size := ⟨_, rfl⟩
  rw [← hg] at HL ⊢
  clear hg
  have hzl := HL.out.ge
  go_loopw [11] (fun i w' => ∃ j : Nat, j ≤ v.length ∧ i = .int .i64 j ∧ Lns w (v.take j ++ List.replicate (v.length - j) zeroLk) (.slice (some ⟨g, 0, none⟩) v.length v.length) w') (fun i _ => v.length - (intOf i).toNat)
  case atStart => exact ⟨0, by omega, rfl, by rw [fill_first]; exact HL.out⟩
  case round =>
    clear HL hzl
    obtain ⟨j, hj, rfl, hL⟩ := hrel
    have HL := Lib.hid hL
    clear hL
    by_cases hlt : j < v.length
    · obtain ⟨zv, ov, rfl, hbv, x0, x1, x2, x3, x4, x5, x6⟩ := lk_at (HV.out.kept HL.out.2) hlt
      have hgw := HL.out.ge
      have HF := Lib.hid (fill_next hlt)
      have HLn := Lib.hid (fill_len v hj)
      generalize v[j] = x at *
      have hth := HL.out.there HLn.out.symm (show j < _ by rw [HLn.out]; exact hlt)
      obtain ⟨e0, r0⟩ := hth 0 (by omega)
      obtain ⟨e1, r1⟩ := hth 1 (by omega)
      obtain ⟨e2, r2⟩ := hth 2 (by omega)
      obtain ⟨e3, r3⟩ := hth 3 (by omega)
      obtain ⟨e4, r4⟩ := hth 4 (by omega)
      obtain ⟨e5, r5⟩ := hth 5 (by omega)
      obtain ⟨e6, r6⟩ := hth 6 (by omega)
      rw [Nat.add_zero] at e0 r0
      obtain ⟨u0, e0⟩ := Option.isSome_iff_exists.1 e0
      obtain ⟨u1, e1⟩ := Option.isSome_iff_exists.1 e1
      obtain ⟨u2, e2⟩ := Option.isSome_iff_exists.1 e2
      obtain ⟨u3, e3⟩ := Option.isSome_iff_exists.1 e3
      obtain ⟨u4, e4⟩ := Option.isSome_iff_exists.1 e4
      obtain ⟨u5, e5⟩ := Option.isSome_iff_exists.1 e5
      obtain ⟨u6, e6⟩ := Option.isSome_iff_exists.1 e6
      have hgw2 := hgw.2
      clear hth hgw
      go_wp2_with fail
      have HP := Lib.hid (HL.out.put (show j < _ by rw [HLn.out]; exact hlt) x)
      rw [HF.out] at HP
      go_roundw
      case rel => exact ⟨j + 1, by omega, by go_num, HP.out.alloc _⟩
      case measure => simp [intOf]; omega
    · have hjl : j = v.length := by omega
      subst hjl
      rw [fill_end] at HL
      go_wp2_with fail
      refine (HSo.out w wr v _ (by omega) HL.out).mono ?_
      rintro e W2 ⟨rfl, S, hS, hR, hL2⟩
      have hl : v.length = S.length := hS.length_eq.symm
      rw [hl] at hL2
      have HH := Lib.hid (⟨hS, hR, hL2⟩ : _ ∧ _ ∧ _)
      have HE := Lib.hid hl
      clear hS hR hL2 hl HL hlt
      go_wp2_with fail
      go_ret
      exact ⟨S, _, _, HH.out.1, HH.out.2.1, by rw [← HE.out]; first | rfl | (simp; done), HH.out.2.2⟩
theorem linkOrder_any (V : Option Addr) (cv : Nat) (v : List Lk) (w : World) (hv : v.length ≤ 10000) (hV : CellsAt w w.heap.size V (lksCells v)) :
    Calls Try.prog 22 #[.slice V v.length cv] w fun e w' => ∃ S A c, S.Perm v ∧ S.Pairwise LeqL ∧ e = .returned (.slice A S.length c) ∧ Lns w S (.slice A S.length c) w' :=
  linkOrder_of sortN_any V cv v w hv hV
end

section
set_option linter.unusedSimpArgs false
set_option linter.unusedVariables false
open Go.ChangeShapes Go.WideShapes Go.ChangeAt Go.RowKit

theorem next_step {S : List Lk} {n : Nat} (h0 : 0 < n) (h : n < S.length) : nextL S (n + 1) = nextL S n ++ (if pairL S[n - 1] S[n] then [S[n].f] else []) := by
  show nextL S n ++ _ = _
  rw [dif_pos ⟨h0, h⟩]
/-- Neighbours that are a pair, made one where they are of one: who is guilty. -/
theorem next_guils {v S : List Lk} (hp : S.Perm v) (hS : S.Pairwise LeqL) : Guils v (Lib.compact (nextL S S.length)) :=
  ⟨rise_compact (nextL_rise hS _), fun f => by rw [mem_compact, next_guil hS, guil_perm hp]⟩
set_option maxRecDepth 100000 in
set_option maxHeartbeats 12800000 in
theorem whose_any (A : Option Addr) (c : Nat) (S : List Lk) (w : World) (hv : S.length ≤ 10000) (hS : CellsAt w w.heap.size A (lksCells S)) :
    Calls Try.prog 20 #[.func (.func 21) #[] #[], .slice A S.length c] w fun e w' => ∃ A' c', e = .returned (.slice A' (Lib.compact (nextL S S.length)).length c') ∧ Ints w (Lib.compact (nextL S S.length)) (.slice A' (Lib.compact (nextL S S.length)).length c') w' := by
  have HS := Lib.hid hS
  clear hS
  have eg : ∀ args w, (callFunc 21 args).run Try.prog w = .ok (.enter 21 args) w := enters_of Try.func21 (by kernel_rfl) rfl
  go_enter Try.func20, Try.ntmps20
  go_wp2_with fail
  go_loopw [5, 10] (fun u i w' => ∃ (j : Nat) (B : Option Addr) (d : Nat), j ≤ S.length ∧ i = .int .i64 j ∧ u = .slice B (nextL S j).length d ∧ Ints w (nextL S j) (.slice B (nextL S j).length d) w') (fun _ i _ => S.length - (intOf i).toNat)
  case atStart => exact ⟨0, none, 0, by omega, rfl, rfl, Ints.nil w⟩
  case round =>
    obtain ⟨j, B, d, hj, rfl, rfl, hI⟩ := hrel
    have HI := Lib.hid hI
    clear hI
    by_cases hlt : j < S.length
    · have HK := Lib.hid HI.out.2
      obtain ⟨zv, ov, rfl, hbv, x0, x1, x2, x3, x4, x5, x6⟩ := lk_at (HS.out.kept HK.out) hlt
      have HLe := Lib.hid (nextL_len S j)
      by_cases h0 : j = 0
      · subst h0
        have HN := Lib.hid (show nextL S (0 + 1) = nextL S 0 by rw [nextL_first]; rfl)
        have hq : decide ((0 : Int) < ((0 : Nat) : Int)) = false := decide_eq_false (by omega)
        have hq2 : decide ((0 : Int) < 0) = false := decide_eq_false (by omega)
        generalize nextL S 0 = R at *
        generalize S[0] = x at *
        simp only [Nat.zero_mul, Nat.add_zero] at x0 x1 x2 x3 x4 x5 x6
        go_wp2_with fail
        go_quiet (fail)
        go_wp2_with fail
        go_roundw
        case rel => exact ⟨0 + 1, B, d, by omega, by go_num, by rw [HN.out], by rw [HN.out]; exact (HI.out.alloc _).kept ((Kept.refl _).drewN _)⟩
        case measure => simp [intOf]; omega
      · obtain ⟨m, hm⟩ : ∃ m, j = m + 1 := ⟨j - 1, by omega⟩
        subst hm
        have hml : m < S.length := by omega
        obtain ⟨zy, oy, hzy, hby, y0, y1, y2, y3, y4, y5, y6⟩ := lk_at (HS.out.kept HK.out) hml
        injection hzy with hzy
        injection hzy with hz1 hz2 _
        subst hz1 hz2
        have HN := Lib.hid (next_step (S := S) (show 0 < m + 1 by omega) hlt)
        simp only [Nat.add_sub_cancel] at HN
        have hq : decide ((0 : Int) < ((m + 1 : Nat) : Int)) = true := decide_eq_true (by omega)
        have hw : IntKind.i64.wrap (((m + 1 : Nat) : Int) - 1) = (m : Int) := by rw [IntKind.wrap_i64]; omega
        have hwm : IntKind.i64.wrap (m : Int) = (m : Int) := by rw [IntKind.wrap_i64]; omega
        clear h0
        generalize S[m + 1] = x at *
        generalize S[m] = y at *
        have HPr := Lib.hid (fun w' => pairN_any y x w')
        generalize pairL y x = pr at *
        generalize nextL S (m + 1) = R at *
        have HB := Lib.hid (HasCells.new wr #[.int .i64 x.f, .int .i64 x.s.e, .int .u64 x.s.r.1, .int .u64 x.s.r.2, .int .i64 x.t.e, .int .u64 x.t.r.1, .int .u64 x.t.r.2] 51 wr.heap.size rfl)
        have HA := Lib.hid ((Kept.refl wr).alloc (.cells #[.int .i64 x.f, .int .i64 x.s.e, .int .u64 x.s.r.1, .int .u64 x.s.r.2, .int .i64 x.t.e, .int .u64 x.t.r.1, .int .u64 x.t.r.2] 51))
        have HI1 := Lib.hid (HI.out.alloc (.cells #[.int .i64 x.f, .int .i64 x.s.e, .int .u64 x.s.r.1, .int .u64 x.s.r.2, .int .i64 x.t.e, .int .u64 x.t.r.1, .int .u64 x.t.r.2] 51))
        go_wp2_with fail
        clear HI x0 x1 x2 x3 x4 x5 x6
        have y0 := (HA.out.cell (p := ⟨zv, ov + m * 7, none⟩) hby).trans y0
        have y1 := (HA.out.cell (p := ⟨zv, ov + m * 7 + 1, none⟩) hby).trans y1
        have y2 := (HA.out.cell (p := ⟨zv, ov + m * 7 + 2, none⟩) hby).trans y2
        have y3 := (HA.out.cell (p := ⟨zv, ov + m * 7 + 3, none⟩) hby).trans y3
        have y4 := (HA.out.cell (p := ⟨zv, ov + m * 7 + 4, none⟩) hby).trans y4
        have y5 := (HA.out.cell (p := ⟨zv, ov + m * 7 + 5, none⟩) hby).trans y5
        have y6 := (HA.out.cell (p := ⟨zv, ov + m * 7 + 6, none⟩) hby).trans y6
        have hy1 := Nat.lt_of_lt_of_le hby HA.out.size_le
        clear HA hby hbv HK
        generalize (wr.alloc (.cells #[.int .i64 x.f, .int .i64 x.s.e, .int .u64 x.s.r.1, .int .u64 x.s.r.2, .int .i64 x.t.e, .int .u64 x.t.r.1, .int .u64 x.t.r.2] 51)) = W1 at *
        generalize wr.heap.size = zb at *
        obtain ⟨b0, b1, b2, b3, b4, b5, b6⟩ := HB.out.seven
        have hb1 := HB.out.1
        refine wp_region_noPanic ?_
        refine wp_region_held_drew (S := (fun w' => w'.cell? ⟨zb, 0, none⟩ = some (.int .i64 x.f) ∧ w'.cell? ⟨zb, 1, none⟩ = some (.int .i64 x.s.e) ∧ w'.cell? ⟨zb, 2, none⟩ = some (.int .u64 x.s.r.1) ∧ w'.cell? ⟨zb, 3, none⟩ = some (.int .u64 x.s.r.2) ∧ w'.cell? ⟨zb, 4, none⟩ = some (.int .i64 x.t.e) ∧ w'.cell? ⟨zb, 5, none⟩ = some (.int .u64 x.t.r.1) ∧ w'.cell? ⟨zb, 6, none⟩ = some (.int .u64 x.t.r.2) ∧ w'.cell? ⟨zv, ov + m * 7, none⟩ = some (.int .i64 y.f) ∧ w'.cell? ⟨zv, ov + m * 7 + 1, none⟩ = some (.int .i64 y.s.e) ∧ w'.cell? ⟨zv, ov + m * 7 + 2, none⟩ = some (.int .u64 y.s.r.1) ∧ w'.cell? ⟨zv, ov + m * 7 + 3, none⟩ = some (.int .u64 y.s.r.2) ∧ w'.cell? ⟨zv, ov + m * 7 + 4, none⟩ = some (.int .i64 y.t.e) ∧ w'.cell? ⟨zv, ov + m * 7 + 5, none⟩ = some (.int .u64 y.t.r.1) ∧ w'.cell? ⟨zv, ov + m * 7 + 6, none⟩ = some (.int .u64 y.t.r.2) ∧ Kept W1 w')) (by kernel_rfl) ?_ (fun hHeld => ?_)
        · exact ⟨b0, b1, b2, b3, b4, b5, b6, y0, y1, y2, y3, y4, y5, y6, (Kept.refl _).drew⟩
        refine wpAnyH_take (i := 0) (v := ?_) (by simp only [List.getElem?_toArray, List.getElem?_cons_succ, List.getElem?_cons_zero]; rfl) (by kernel_rfl) (by kernel_rfl) (by kernel_rfl) (fun _ _ _ h => h) (Or.inl ⟨by rfl, ?_⟩) (by assumption) ?_
        rotate_left
        · intro w hSw
          (try dsimp only at hSw)
          go_simp
          (try with_reducible rfl)
        simp only [Act.put, List.setIfInBounds_toArray, List.set_cons_zero, List.set_cons_succ]
        refine wpAnyH_take (i := 1) (v := ?_) (by simp only [List.getElem?_toArray, List.getElem?_cons_succ, List.getElem?_cons_zero]; rfl) (by kernel_rfl) (by kernel_rfl) (by kernel_rfl) (fun _ _ _ h => h) (Or.inl ⟨by rfl, ?_⟩) (by assumption) ?_
        rotate_left
        · intro w hSw
          (try dsimp only at hSw)
          go_simp
          (try with_reducible rfl)
        simp only [Act.put, List.setIfInBounds_toArray, List.set_cons_zero, List.set_cons_succ]
        try simp only [hq]
        refine wpAnyH_take (i := 2) (v := ?_) (by simp only [List.getElem?_toArray, List.getElem?_cons_succ, List.getElem?_cons_zero]; rfl) (by kernel_rfl) (by kernel_rfl) (by kernel_rfl) (fun _ _ _ h => h) (Or.inl ⟨by rfl, ?_⟩) (by assumption) ?_
        rotate_left
        · intro w hSw
          (try dsimp only at hSw)
          go_simp
          (try with_reducible rfl)
        simp only [Act.put, List.setIfInBounds_toArray, List.set_cons_zero, List.set_cons_succ]
        refine wpAnyH_take (i := 3) (v := ?_) (by simp only [List.getElem?_toArray, List.getElem?_cons_succ, List.getElem?_cons_zero]; rfl) (by kernel_rfl) (by kernel_rfl) (by kernel_rfl) (fun _ _ _ h => h) (Or.inl ⟨by rfl, ?_⟩) (by assumption) ?_
        rotate_left
        · intro w hSw
          (try dsimp only at hSw)
          go_simp
          (try with_reducible rfl)
        simp only [Act.put, List.setIfInBounds_toArray, List.set_cons_zero, List.set_cons_succ]
        refine wpAnyH_take (i := 4) (v := ?_) (by simp only [List.getElem?_toArray, List.getElem?_cons_succ, List.getElem?_cons_zero]; rfl) (by kernel_rfl) (by kernel_rfl) (by kernel_rfl) (fun _ _ _ h => h) (Or.inl ⟨by rfl, ?_⟩) (by assumption) ?_
        rotate_left
        · intro w hSw
          (try dsimp only at hSw)
          go_simp
          (try with_reducible rfl)
        simp only [Act.put, List.setIfInBounds_toArray, List.set_cons_zero, List.set_cons_succ]
        refine wpAnyH_take (i := 5) (v := ?_) (by simp only [List.getElem?_toArray, List.getElem?_cons_succ, List.getElem?_cons_zero]; rfl) (by kernel_rfl) (by kernel_rfl) (by kernel_rfl) (fun _ _ _ h => h) (Or.inl ⟨by rfl, ?_⟩) (by assumption) ?_
        rotate_left
        · intro w hSw
          (try dsimp only at hSw)
          go_simp
          (try with_reducible rfl)
        simp only [Act.put, List.setIfInBounds_toArray, List.set_cons_zero, List.set_cons_succ]
        refine wpAnyH_take (i := 6) (v := ?_) (by simp only [List.getElem?_toArray, List.getElem?_cons_succ, List.getElem?_cons_zero]; rfl) (by kernel_rfl) (by kernel_rfl) (by kernel_rfl) (fun _ _ _ h => h) (Or.inl ⟨by rfl, ?_⟩) (by assumption) ?_
        rotate_left
        · intro w hSw
          (try dsimp only at hSw)
          go_simp
          (try with_reducible rfl)
        simp only [Act.put, List.setIfInBounds_toArray, List.set_cons_zero, List.set_cons_succ]
        try simp only [hw]
        refine wpAnyH_take (i := 7) (v := ?_) (by simp only [List.getElem?_toArray, List.getElem?_cons_succ, List.getElem?_cons_zero]; rfl) (by kernel_rfl) (by kernel_rfl) (by kernel_rfl) (fun _ _ _ h => h) (Or.inl ⟨by rfl, ?_⟩) (by assumption) ?_
        rotate_left
        · intro w hSw
          (try dsimp only at hSw)
          go_simp
          (try with_reducible rfl)
        simp only [Act.put, List.setIfInBounds_toArray, List.set_cons_zero, List.set_cons_succ]
        refine wpAnyH_take (i := 8) (v := ?_) (by simp only [List.getElem?_toArray, List.getElem?_cons_succ, List.getElem?_cons_zero]; rfl) (by kernel_rfl) (by kernel_rfl) (by kernel_rfl) (fun _ _ _ h => h) (Or.inl ⟨by rfl, ?_⟩) (by assumption) ?_
        rotate_left
        · intro w hSw
          (try dsimp only at hSw)
          go_simp
          (try with_reducible rfl)
        simp only [Act.put, List.setIfInBounds_toArray, List.set_cons_zero, List.set_cons_succ]
        refine wpAnyH_take (i := 9) (v := ?_) (by simp only [List.getElem?_toArray, List.getElem?_cons_succ, List.getElem?_cons_zero]; rfl) (by kernel_rfl) (by kernel_rfl) (by kernel_rfl) (fun _ _ _ h => h) (Or.inl ⟨by rfl, ?_⟩) (by assumption) ?_
        rotate_left
        · intro w hSw
          (try dsimp only at hSw)
          go_simp
          (try with_reducible rfl)
        simp only [Act.put, List.setIfInBounds_toArray, List.set_cons_zero, List.set_cons_succ]
        refine wpAnyH_ready (rs := [10]) (by kernel_rfl) (by simp) ?_
        refine AllReadyH.cons (by simp only [List.getElem?_toArray, List.getElem?_cons_succ, List.getElem?_cons_zero]; rfl) (fun K hK => ?_) AllReadyH.nil
        go_simp
        go_at_call 21; with_reducible refine (HPr.out _).mono ?_
        rintro e w' ⟨rfl, kk⟩
        try go_wp2_with fail
        refine hK.out _ _ ?_ (fun hHeld2 => ?_)
        · exact keepP14 hb1 hb1 hb1 hb1 hb1 hb1 hb1 hy1 hy1 hy1 hy1 hy1 hy1 hy1 hHeld kk
        clear hK K hHeld
        have hHeld := hHeld2
        clear hHeld2
        try simp only [Act.put, List.setIfInBounds_toArray, List.set_cons_zero, List.set_cons_succ]
        refine wpAnyH_take (i := 11) (v := ?_) (by simp only [List.getElem?_toArray, List.getElem?_cons_succ, List.getElem?_cons_zero]; rfl) (by kernel_rfl) (by kernel_rfl) (by kernel_rfl) (fun _ _ _ h => h) (Or.inl ⟨by rfl, ?_⟩) (by assumption) ?_
        rotate_left
        · intro w hSw
          (try dsimp only at hSw)
          go_simp
          (try with_reducible rfl)
        simp only [Act.put, List.setIfInBounds_toArray, List.set_cons_zero, List.set_cons_succ]
        refine wpAnyH_done (by kernel_rfl) ?_ _
        refine NoPanic.normal ?_
        have k := hHeld.2.2.2.2.2.2.2.2.2.2.2.2.2.2
        clear hHeld b1 b2 b3 b4 b5 b6 y0 y1 y2 y3 y4 y5 y6 HPr
        have b0 := (k.cell (p := ⟨zb, 0, none⟩) hb1).trans b0
        have HI2 := Lib.hid (HI1.out.kept k)
        clear HI1 k
        generalize w' = W2 at *
        cases pr with
        | false =>
          have HN2 := Lib.hid (show nextL S (m + 1 + 1) = R by rw [HN.out]; simp)
          clear HN
          go_wp2_with fail
          go_roundw
          case rel => exact ⟨m + 1 + 1, B, d, by omega, by go_num, by rw [HN2.out], by rw [HN2.out]; exact HI2.out⟩
          case measure => simp [intOf]; omega
        | true =>
          have HN2 := Lib.hid (show nextL S (m + 1 + 1) = R ++ [x.f] by rw [HN.out]; simp)
          clear HN
          have hrl : R.length + 1 ≤ 1000000 := by have := HLe.out; omega
          go_wp2_with (refine wpList_ints _ rfl _ _ rfl w R _ (by rfl) (HI2.out.alloc _) _ _ 1 1 [x.f] (by rfl) (by rfl) (ints_newS _ _ _ (Kept.refl _)) hrl ?_; intro v3 W3 HR3)
          obtain ⟨A3, c3, rfl⟩ := row_slice HR3.1
          have HI3 := Lib.hid HR3
          clear HR3
          go_roundw
          case rel => exact ⟨m + 1 + 1, A3, c3, by omega, by go_num, by rw [HN2.out], by rw [HN2.out]; exact HI3.out⟩
          case measure => simp [intOf]; omega
    · have hjl : j = S.length := by omega
      subst hjl
      have HLe := nextL_len S S.length
      have HC := Lib.hid (compI_any w wr (nextL S S.length) _ (by omega) HI.out)
      go_wp2_with fail
      refine HC.out.mono ?_
      rintro e W2 ⟨A', c', rfl, h⟩
      have HH := Lib.hid h
      clear h HC HI
      go_wp2_with fail
      go_ret
      exact ⟨A', c', rfl, HH.out⟩
set_option maxRecDepth 100000 in
set_option maxHeartbeats 3200000 in
theorem slashGuilty_any (V : Option Addr) (cv : Nat) (v : List Lk) (w : World) (hv : v.length ≤ 10000) (hwv : WfLks v) (hV : CellsAt w w.heap.size V (lksCells v)) :
    Calls Try.prog 11 #[.slice V v.length cv] w (GuilNew v w) := by
  have HV := Lib.hid hV
  clear hV
  go_enter Try.func11, Try.ntmps11
  go_wp2_with fail
  refine (linkOrder_any V cv v _ hv HV.out).mono ?_
  rintro e W1 ⟨S, A, c, hS, hR, rfl, hL⟩
  have HLq := Lib.hid hS.length_eq
  have hlS : S.length ≤ 10000 := by rw [HLq.out]; exact hv
  have HL := Lib.hid hL
  have HG := Lib.hid (next_guils hS hR)
  have HN := Lib.hid (Nat.le_trans (compact_le (nextL S S.length)) (nextL_len S S.length))
  clear hL hS hR
  go_wp2_with fail
  refine (whose_any A c S W1 hlS (HL.out.cells rfl)).mono ?_
  rintro e W2 ⟨A', c', rfl, h⟩
  have HH := Lib.hid h
  clear h
  generalize Lib.compact (nextL S S.length) = G at *
  have HL2 := Lib.hid (show G.length ≤ v.length by have := HN.out; have := HLq.out; omega)
  go_wp2_with fail
  go_ret
  exact ⟨G, A', c', HG.out, HL2.out, rfl, HH.out.cells rfl, HH.out.capS, HL.out.2.trans HH.out.2⟩
end

end Go.Proofs.Ythaofomhlmajbaa
