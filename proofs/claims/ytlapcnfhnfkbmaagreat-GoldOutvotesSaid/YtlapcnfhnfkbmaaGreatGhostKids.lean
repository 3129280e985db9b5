/-
  The contract of package ghost's call allKids.
-/
import Derived.Test.YtlapcnfhnfkbmaaGreatGhost
import Derived.Test.YtlapcnfhnfkbmaaGreatTreeG
namespace Go.Proofs.YtlapcnfhnfkbmaaGreat
set_option maxRecDepth 100000
set_option linter.unusedVariables false
set_option linter.unusedSimpArgs false
set_option linter.unusedSimpArgs false
set_option linter.unusedVariables false
open Go.ChangeShapes Go.WideShapes Go.ChangeAt Go.RowKit

/-- v is a map of the lists of f, or nil, where f has none. -/
def KidsMap (f : Id2 → List Id2) (v : Value) (w : World) : Prop := (v = .map none ∧ ∀ y, f y = []) ∨ ∃ b m B, v = .map (some b) ∧ Groups B f b m w
theorem KidsMap.kept {f : Id2 → List Id2} {v : Value} {w w' : World} (h : KidsMap f v w) (k : Kept w w') : KidsMap f v w' := by
  rcases h with h | ⟨b, m, B, e, h⟩
  · exact Or.inl h
  · exact Or.inr ⟨b, m, B, e, h.kept k⟩
theorem cell_lt {w : World} {z j : Nat} {u : Value} (h : w.cell? ⟨z, j, none⟩ = some u) : z < w.heap.size := by
  cases q : w.heap[z]? with
  | none => simp [World.cell?, q] at h
  | some o => exact (Array.getElem?_eq_some_iff.1 q).1
/-- Five cells, held. -/
def Five (y : Nat) (x0 x1 x2 x3 x4 : Value) (w : World) : Prop := w.cell? ⟨y, 0, none⟩ = some x0 ∧ w.cell? ⟨y, 1, none⟩ = some x1 ∧ w.cell? ⟨y, 2, none⟩ = some x2 ∧ w.cell? ⟨y, 3, none⟩ = some x3 ∧ w.cell? ⟨y, 4, none⟩ = some x4
theorem five_grown {y : Nat} {x0 x1 x2 x3 x4 : Value} {w w' : World} {row : Option Nat} (h : w.cell? ⟨y, 0, none⟩ = some x0 ∧ w.cell? ⟨y, 1, none⟩ = some x1 ∧ w.cell? ⟨y, 2, none⟩ = some x2 ∧ w.cell? ⟨y, 3, none⟩ = some x3 ∧ w.cell? ⟨y, 4, none⟩ = some x4) (g : w.grownBy w' row) (hne : some y ≠ row) :
    w'.cell? ⟨y, 0, none⟩ = some x0 ∧ w'.cell? ⟨y, 1, none⟩ = some x1 ∧ w'.cell? ⟨y, 2, none⟩ = some x2 ∧ w'.cell? ⟨y, 3, none⟩ = some x3 ∧ w'.cell? ⟨y, 4, none⟩ = some x4 :=
  ⟨g.cell h.1 hne, g.cell h.2.1 hne, g.cell h.2.2.1 hne, g.cell h.2.2.2.1 hne, g.cell h.2.2.2.2 hne⟩
theorem five_kept {y : Nat} {x0 x1 x2 x3 x4 : Value} {w w' : World} (h : w.cell? ⟨y, 0, none⟩ = some x0 ∧ w.cell? ⟨y, 1, none⟩ = some x1 ∧ w.cell? ⟨y, 2, none⟩ = some x2 ∧ w.cell? ⟨y, 3, none⟩ = some x3 ∧ w.cell? ⟨y, 4, none⟩ = some x4) (k : Kept w w') :
    w'.cell? ⟨y, 0, none⟩ = some x0 ∧ w'.cell? ⟨y, 1, none⟩ = some x1 ∧ w'.cell? ⟨y, 2, none⟩ = some x2 ∧ w'.cell? ⟨y, 3, none⟩ = some x3 ∧ w'.cell? ⟨y, 4, none⟩ = some x4 := by
  have hy := cell_lt h.1
  exact ⟨(k.cell (p := ⟨y, 0, none⟩) hy).trans h.1, (k.cell (p := ⟨y, 1, none⟩) hy).trans h.2.1, (k.cell (p := ⟨y, 2, none⟩) hy).trans h.2.2.1, (k.cell (p := ⟨y, 3, none⟩) hy).trans h.2.2.2.1, (k.cell (p := ⟨y, 4, none⟩) hy).trans h.2.2.2.2⟩
theorem HasCells.grown {w w' : World} {z : Nat} {xs : List Value} {row : Option Nat} (h : HasCells w z xs) (g : w.grownBy w' row) (hne : some z ≠ row) : HasCells w' z xs :=
  ⟨Nat.lt_of_lt_of_le h.1 g.size, fun j u hu => g.cell (h.2 j u hu) hne⟩
theorem Groups.lt {B : Nat} {f : Id2 → List Id2} {b m : Nat} {w : World} (h : Groups B f b m w) : b < B ∧ B ≤ w.heap.size := by
  obtain ⟨_, _, _, h0, hB, _⟩ := h
  exact ⟨h0, hB⟩

/-- .. with the whole block known, and all that lay in W as it was. -/
theorem fiveO_grown {W w w' : World} {y : Nat} {x0 x1 x2 x3 x4 : Value} {t : TypeId} {row : Option Nat} (h : w.cell? ⟨y, 0, none⟩ = some x0 ∧ w.cell? ⟨y, 1, none⟩ = some x1 ∧ w.cell? ⟨y, 2, none⟩ = some x2 ∧ w.cell? ⟨y, 3, none⟩ = some x3 ∧ w.cell? ⟨y, 4, none⟩ = some x4 ∧ w.heap[y]? = some (.cells #[x0, x1, x2, x3, x4] t) ∧ Kept W w)
    (g : w.grownBy w' row) (hne : some y ≠ row) (hr : ∀ k, row = some k → W.heap.size ≤ k) :
    w'.cell? ⟨y, 0, none⟩ = some x0 ∧ w'.cell? ⟨y, 1, none⟩ = some x1 ∧ w'.cell? ⟨y, 2, none⟩ = some x2 ∧ w'.cell? ⟨y, 3, none⟩ = some x3 ∧ w'.cell? ⟨y, 4, none⟩ = some x4 ∧ w'.heap[y]? = some (.cells #[x0, x1, x2, x3, x4] t) ∧ Kept W w' :=
  ⟨g.cell h.1 hne, g.cell h.2.1 hne, g.cell h.2.2.1 hne, g.cell h.2.2.2.1 hne, g.cell h.2.2.2.2.1 hne, (g.block y (Array.getElem?_eq_some_iff.1 h.2.2.2.2.2.1).1 hne).trans h.2.2.2.2.2.1, h.2.2.2.2.2.2.grown g hr⟩
theorem fiveO_kept {W w w' : World} {y : Nat} {x0 x1 x2 x3 x4 : Value} {t : TypeId} (h : w.cell? ⟨y, 0, none⟩ = some x0 ∧ w.cell? ⟨y, 1, none⟩ = some x1 ∧ w.cell? ⟨y, 2, none⟩ = some x2 ∧ w.cell? ⟨y, 3, none⟩ = some x3 ∧ w.cell? ⟨y, 4, none⟩ = some x4 ∧ w.heap[y]? = some (.cells #[x0, x1, x2, x3, x4] t) ∧ Kept W w)
    (k : Kept w w') :
    w'.cell? ⟨y, 0, none⟩ = some x0 ∧ w'.cell? ⟨y, 1, none⟩ = some x1 ∧ w'.cell? ⟨y, 2, none⟩ = some x2 ∧ w'.cell? ⟨y, 3, none⟩ = some x3 ∧ w'.cell? ⟨y, 4, none⟩ = some x4 ∧ w'.heap[y]? = some (.cells #[x0, x1, x2, x3, x4] t) ∧ Kept W w' := by
  have hy := cell_lt h.1
  exact ⟨(k.cell (p := ⟨y, 0, none⟩) hy).trans h.1, (k.cell (p := ⟨y, 1, none⟩) hy).trans h.2.1, (k.cell (p := ⟨y, 2, none⟩) hy).trans h.2.2.1, (k.cell (p := ⟨y, 3, none⟩) hy).trans h.2.2.2.1, (k.cell (p := ⟨y, 4, none⟩) hy).trans h.2.2.2.2.1, (k.heap hy).trans h.2.2.2.2.2.1, h.2.2.2.2.2.2.trans k⟩
theorem Pend.apart {B : Nat} {f : Id2 → List Id2} {b m : Nat} {x : Id2} {v : Value} {st : Nat} {w : World} (h : Pend B f b m x v st w) (hx : WfI x) {y : Nat} {xs : Array Value} {t : TypeId} (hy : w.heap[y]? = some (.cells xs t)) (ht : t ≠ 35) : some y ≠ v.ownBlock := by
  obtain ⟨_, _, D, V, es, clock, _, _, _, rfl, _, h2, _⟩ := h
  intro e
  rcases (h2 x hx).2 with ⟨hv, _⟩ | ⟨g, cap, cur, hv, _, hg, _⟩
  · rw [hv] at e; cases e
  · rw [hv] at e
    injection e with e
    simp only at e
    subst e
    rw [hy] at hg
    injection hg with hg
    injection hg with _ hg
    exact ht hg

set_option maxRecDepth 100000 in
set_option maxHeartbeats 3200000 in
theorem allKids_any (A : Option Addr) (c : Nat) (l : List Bk) (hl : l.length ≤ 1000000) (hw : WfL l) (w : World) (hA : CellsAt w w.heap.size A (blockCells l)) :
    Calls Tryz.prog 45 #[.slice A l.length c] w fun e w' => ∃ v, e = .returned v ∧ KidsMap (kidsC l) v w' ∧ Kept w w' := by
  have HP := Lib.hid (may_any A c l hl hw _ hA)
  have HA := Lib.hid hA
  have HW := Lib.hid hw
  have hmm := @run_makeMap Tryz.prog
  clear hw hA
  go_enter Tryz.func45, Tryz.ntmps45
  go_wp2_with fail
  refine HP.out.mono ?_
  rintro e W ⟨rfl, k1⟩
  have HK := Lib.hid k1
  have HA1 := Lib.hid (HA.out.kept k1)
  clear k1 HA HP
  cases hm : mayB l with
  | false =>
    have HR := Lib.hid (fun y => kidsC_no (l := l) y hm)
    clear hm
    go_wp2_with fail
    go_ret
    exact ⟨_, rfl, Or.inl ⟨rfl, HR.out⟩, HK.out⟩
  | true =>
    have HR := Lib.hid (fun y => kidsC_yes (l := l) y hm)
    have HG := Lib.hid (Groups.made W)
    have HK1 := Lib.hid (HK.out.alloc (.map #[] 0))
    have HKW := Lib.hid ((Kept.refl W).alloc (.map #[] 0))
    have hWb := HK.out.size_le
    clear hm
    go_wp2_with fail
    obtain ⟨b, hb⟩ : ∃ b, b = W.heap.size := ⟨_, rfl⟩
    rw [← hb] at HG ⊢
    have HBl := Lib.hid (show w.heap.size ≤ b by rw [hb]; exact hWb)
    have HWl := Lib.hid (show W.heap.size ≤ b by rw [hb]; exact Nat.le_refl _)
    generalize W.alloc (.map #[] 0) = W1 at *
    clear hb hWb
    go_loopw [12] (fun i w' => ∃ j : Nat, j ≤ l.length ∧ i = .int .i64 (j : Nat) ∧ Groups (b + 1) (kidsB (l.take j)) b j w' ∧ Kept W w') (fun i _ => l.length - (intOf i).toNat)
    case atStart => exact ⟨0, by omega, rfl, HG.out, HKW.out⟩
    case round =>
      obtain ⟨j, hj, rfl, hG, hK⟩ := hrel
      have HGr := Lib.hid hG
      have HKr := Lib.hid hK
      clear hG hK HG
      by_cases hlt : j < l.length
      · obtain ⟨z, o, rfl, hbn, c0, c1, c2, c3, c4⟩ := block_at (HA1.out.kept HKr.out) hlt
        have HX := Lib.hid (HW.out l[j] (List.getElem_mem hlt))
        have HNx := Lib.hid (fun y => grow_hit hlt y)
        have HLe := Lib.hid (fun y => Nat.le_trans (kidsB_le (l.take j) y) (by rw [List.length_take]; exact Nat.min_le_left _ _))
        generalize l[j] = y at *
        go_wp2_with fail
        have HN := Lib.hid (fun w' => name_any y HX.out w')
        have HNw := Lib.hid (nameB_lt y)
        generalize nameB y = n at *
        have HGW := Lib.hid (HGr.out.kept ((Kept.refl wr).alloc (.cells #[.int .i64 y.s, .int .i64 y.f, .int .u64 y.p.1, .int .u64 y.p.2, .int .u64 y.t] 56)))
        have HKW1 := Lib.hid (HKr.out.alloc (.cells #[.int .i64 y.s, .int .i64 y.f, .int .u64 y.p.1, .int .u64 y.p.2, .int .u64 y.t] 56))
        have HY := Lib.hid ((HasCells.new wr #[.int .i64 y.s, .int .i64 y.f, .int .u64 y.p.1, .int .u64 y.p.2, .int .u64 y.t] 56 wr.heap.size rfl))
        have HO := Lib.hid (heap_alloc_new wr (.cells #[.int .i64 y.s, .int .i64 y.f, .int .u64 y.p.1, .int .u64 y.p.2, .int .u64 y.t] 56))
        have hyb : some wr.heap.size ≠ some b := fun e => by
          have := HGr.out.lt
          injection e with e
          omega
        have HRow := Lib.hid (show ∀ k, some b = some k → W.heap.size ≤ k from fun k e => by injection e with e; rw [← e]; exact HWl.out)
        have hle := Lib.hid (HLe.out y.p)
        have hjm : j < maxLen := by unfold maxLen; omega
        clear c0 c1 c2 c3 c4 HLe
        generalize wr.alloc (.cells #[.int .i64 y.s, .int .i64 y.f, .int .u64 y.p.1, .int .u64 y.p.2, .int .u64 y.t] 56) = W2 at *
        generalize wr.heap.size = bk at *
        obtain ⟨c0, c1, c2, c3, c4⟩ := HY.out.five
        refine wp_region_noPanic ?_
        refine wp_region_held_drew (S := (fun w' => w'.cell? ⟨bk, 0, none⟩ = some (.int .i64 y.s) ∧ w'.cell? ⟨bk, 1, none⟩ = some (.int .i64 y.f) ∧ w'.cell? ⟨bk, 2, none⟩ = some (.int .u64 y.p.1) ∧ w'.cell? ⟨bk, 3, none⟩ = some (.int .u64 y.p.2) ∧ w'.cell? ⟨bk, 4, none⟩ = some (.int .u64 y.t) ∧ w'.heap[bk]? = some (.cells #[.int .i64 y.s, .int .i64 y.f, .int .u64 y.p.1, .int .u64 y.p.2, .int .u64 y.t] 56) ∧ Kept W w')) (by kernel_rfl) ?_ (fun hHeld => ?_)
        · exact ⟨c0, c1, c2, c3, c4, HO.out, HKW1.out.drew⟩
        refine wpAnyH_take (i := 0) (v := ?_) (by simp only [List.getElem?_toArray, List.getElem?_cons_succ, List.getElem?_cons_zero]; rfl) (by kernel_rfl) (by kernel_rfl) (by kernel_rfl) (fun _ _ _ h => h) (Or.inl ⟨by rfl, ?_⟩) (by assumption) ?_
        rotate_left
        · intro w hSw
          (try dsimp only at hSw)
          go_simp
          (try with_reducible rfl)
        simp only [Act.put, List.setIfInBounds_toArray, List.set_cons_zero, List.set_cons_succ]
        refine wpAnyH_take (i := 1) (v := ?_) (by simp only [List.getElem?_toArray, List.getElem?_cons_succ, List.getElem?_cons_zero]; rfl) (by kernel_rfl) (by kernel_rfl) (by kernel_rfl) (fun _ _ _ h => h) (Or.inl ⟨by rfl, ?_⟩) (by assumption) ?_
        rotate_left
        · intro w hSw
          (try dsimp only at hSw)
          go_simp
          (try with_reducible rfl)
        simp only [Act.put, List.setIfInBounds_toArray, List.set_cons_zero, List.set_cons_succ]
        refine wpAnyH_take (i := 2) (v := ?_) (by simp only [List.getElem?_toArray, List.getElem?_cons_succ, List.getElem?_cons_zero]; rfl) (by kernel_rfl) (by kernel_rfl) (by kernel_rfl) (fun _ _ _ h => h) (Or.inl ⟨by rfl, ?_⟩) (by assumption) ?_
        rotate_left
        · intro w hSw
          (try dsimp only at hSw)
          go_simp
          (try with_reducible rfl)
        simp only [Act.put, List.setIfInBounds_toArray, List.set_cons_zero, List.set_cons_succ]
        refine wpAnyH_take (i := 3) (v := ?_) (by simp only [List.getElem?_toArray, List.getElem?_cons_succ, List.getElem?_cons_zero]; rfl) (by kernel_rfl) (by kernel_rfl) (by kernel_rfl) (fun _ _ _ h => h) (Or.inl ⟨by rfl, ?_⟩) (by assumption) ?_
        rotate_left
        · intro w hSw
          (try dsimp only at hSw)
          go_simp
          (try with_reducible rfl)
        simp only [Act.put, List.setIfInBounds_toArray, List.set_cons_zero, List.set_cons_succ]
        refine wpAnyH_ready (rs := [4]) (by kernel_rfl) (by simp) ?_
        refine AllReadyH.cons (by simp only [List.getElem?_toArray, List.getElem?_cons_succ, List.getElem?_cons_zero]; rfl) (fun K hK => ?_) (AllReadyH.nil)
        go_simp
        go_at_call 27; with_reducible refine (HN.out _).mono ?_
        rintro e w4 ⟨rfl, kk⟩
        have hG4 := HGW.out.kept (Kept.trans (Kept.drew (Kept.refl _)) kk)
        refine hK.out _ _ ?_ (fun hHeld2 => ?_)
        · exact fiveO_kept hHeld kk
        clear hK K hHeld
        have hHeld := hHeld2
        clear hHeld2
        try simp only [Act.put, List.setIfInBounds_toArray, List.set_cons_zero, List.set_cons_succ]
        refine wpAnyH_ready (rs := [5]) (by kernel_rfl) (by simp) ?_
        refine AllReadyH.cons (by simp only [List.getElem?_toArray, List.getElem?_cons_succ, List.getElem?_cons_zero]; rfl) (fun K hK => ?_) (AllReadyH.nil)
        go_simp
        refine hK.out _ _ ?_ (fun hHeld2 => ?_)
        · exact fiveO_kept hHeld ((Kept.refl _).alloc _)
        clear hK K hHeld
        have hHeld := hHeld2
        clear hHeld2
        try simp only [Act.put, List.setIfInBounds_toArray, List.set_cons_zero, List.set_cons_succ]
        refine wpAnyH_ready (rs := [6]) (by kernel_rfl) (by simp) ?_
        refine AllReadyH.cons (by simp only [List.getElem?_toArray, List.getElem?_cons_succ, List.getElem?_cons_zero]; rfl) (fun K hK => ?_) (AllReadyH.nil)
        have hS5 := HasCells.new w4 #[.int .u64 n.1, .int .u64 n.2] 35 w4.heap.size rfl
        have hG5 := hG4.kept ((Kept.refl w4).alloc (.cells #[.int .u64 n.1, .int .u64 n.2] 35))
        have hb5 : some w4.heap.size ≠ some b := fun e => by
          have := hG4.lt
          injection e with e
          omega
        refine step_entry _ (by rfl) (.tmp 16) (.tmp 18) (by rfl) (b + 1) _ b j (by rfl) hG5 hjm y.p (by rfl) HX.out.1 ?_
        intro A6 c6 st w6 hP6 g6
        refine hK.out _ _ ?_ (fun hHeld2 => ?_)
        · exact fiveO_grown hHeld g6 hyb HRow.out
        clear hK K hHeld
        have hHeld := hHeld2
        clear hHeld2
        try simp only [Act.put, List.setIfInBounds_toArray, List.set_cons_zero, List.set_cons_succ]
        refine wpAnyH_take (i := 7) (v := ?_) (by simp only [List.getElem?_toArray, List.getElem?_cons_succ, List.getElem?_cons_zero]; rfl) (by kernel_rfl) (by kernel_rfl) (by kernel_rfl) (fun _ _ _ h => h) (Or.inl ⟨by rfl, ?_⟩) (by assumption) ?_
        rotate_left
        · intro w hSw
          (try dsimp only at hSw)
          go_simp
          (try with_reducible rfl)
        simp only [Act.put, List.setIfInBounds_toArray, List.set_cons_zero, List.set_cons_succ]
        refine wpAnyH_take (i := 9) (v := ?_) (by simp only [List.getElem?_toArray, List.getElem?_cons_succ, List.getElem?_cons_zero]; rfl) (by kernel_rfl) (by kernel_rfl) (by kernel_rfl) (fun _ _ _ h => h) (Or.inl ⟨by rfl, ?_⟩) (by assumption) ?_
        rotate_left
        · intro w hSw
          (try dsimp only at hSw)
          go_simp
          (try with_reducible rfl)
        simp only [Act.put, List.setIfInBounds_toArray, List.set_cons_zero, List.set_cons_succ]
        refine wpAnyH_ready (rs := [8]) (by kernel_rfl) (by simp) ?_
        refine AllReadyH.cons (by simp only [List.getElem?_toArray, List.getElem?_cons_succ, List.getElem?_cons_zero]; rfl) (fun K hK => ?_) (AllReadyH.nil)
        have hS6 := ids_one_at (hS5.grown g6 hb5)
        have hA6 := hP6.apart HX.out.1 hHeld.2.2.2.2.2.1 (by decide)
        refine step_grew _ (by rfl) (.tmp 19) (.tmp 22) (by rfl) (b + 1) _ b j y.p HX.out.1 _ (by rfl) st hP6 _ _ 1 n (by rfl) hS6 (by have := hle.out; omega) ?_
        intro A8 c8 w8 hG8 g8 hB8
        refine hK.out _ _ ?_ (fun hHeld2 => ?_)
        · exact fiveO_grown hHeld g8 hA6 (fun k e => Nat.le_trans HWl.out (Nat.le_trans (Nat.le_succ b) (hB8 k e)))
        clear hK K hHeld
        have hHeld := hHeld2
        clear hHeld2
        try simp only [Act.put, List.setIfInBounds_toArray, List.set_cons_zero, List.set_cons_succ]
        refine wpAnyH_ready (rs := [10]) (by kernel_rfl) (by simp) ?_
        refine AllReadyH.cons (by simp only [List.getElem?_toArray, List.getElem?_cons_succ, List.getElem?_cons_zero]; rfl) (fun K hK => ?_) (AllReadyH.nil)
        refine step_store _ (by rfl) (.tmp 16) (.tmp 25) (.tmp 24) (by rfl) (b + 1) _ b j (by rfl) y.p n HX.out.1 st (by rfl) _ (by rfl) hG8 ?_
        intro w10 hG10 g10
        refine hK.out _ _ ?_ (fun hHeld2 => ?_)
        · exact fiveO_grown hHeld g10 hyb HRow.out
        clear hK K hHeld
        have hHeld := hHeld2
        clear hHeld2
        try simp only [Act.put, List.setIfInBounds_toArray, List.set_cons_zero, List.set_cons_succ]
        refine wpAnyH_done (by kernel_rfl) ?_ _
        refine NoPanic.normal ?_
        have HG10 := Lib.hid hG10
        have HK10 := Lib.hid hHeld.2.2.2.2.2.2
        clear hHeld hG10 g10 hG8 g8 hB8 hP6 g6 hS6 hA6 hS5 hG5 hb5 hG4 kk c0 c1 c2 c3 c4
        go_wp2_with fail
        go_roundw
        case rel => exact ⟨j + 1, by omega, by go_num, HG10.out.congr (fun z _ => (HNx.out z).symm), HK10.out⟩
        case measure => simp [intOf]; omega
      · have hjl : j = l.length := by omega
        subst hjl
        rw [List.take_length] at HGr
        go_wp2_with fail
        go_ret
        exact ⟨_, rfl, Or.inr ⟨b, l.length, b + 1, rfl, HGr.out.congr fun y _ => HR.out y⟩, HK.out.trans HKr.out⟩

end Go.Proofs.YtlapcnfhnfkbmaaGreat
