/-
  The contracts of the calls Name, at, Names and IDs of the given package marigoldref06.
  The contract of the call may of the given package marigoldref06.
  The contracts of the calls May, Find, Slot and Kids of the given package marigoldref06.
  The contracts of the calls Chain and Under of the given package marigoldref06.
-/
import Derived.Test.YtacdiicnfoejoaaTreeG
import Derived.Test.YtacdiicnfoejoaaMixRefG
namespace Go.Proofs.Ytacdiicnfoejoaa
set_option maxRecDepth 100000
set_option linter.unusedVariables false
set_option linter.unusedSimpArgs false
section
open Go.ChangeShapes Go.WideShapes Go.ChangeAt Go.RowKit

/-! ### at -/
/-! ### Names -/
theorem Ids.cap {W w : World} {l : List Id2} {A : Option Addr} {c : Nat} (h : Ids W l (.slice A l.length c) w) : l.length ≤ c := by
  rcases h.1.2 with ⟨hv, h0⟩ | ⟨g, cap, cur, hv, _, _, hnc, _⟩
  · rw [h0]; exact Nat.zero_le _
  · cases hv; exact hnc
/-! ### IDs -/
end

section
open Go.ChangeShapes Go.WideShapes Go.ChangeAt Go.RowKit

theorem pre_names {l : List Bk} {ns : List Id2} (h : ns = namesB l) (k : Nat) : namesB (l.take k) = ns.take k := by rw [h, namesB_take]
theorem ref_step {l : List Bk} {ns : List Id2} (h : ns = namesB l) {k : Nat} (hk : k < l.length) (hy : mayTo l k = true) : mayTo l (k + 1) = (!standsN (ns.take k) (ns[k]'(by rw [h, namesB_length]; exact hk)) && rightB (l.take k) l[k]) := by
  subst h
  rw [may_step hk hy, namesB_take]
  congr 3
  simp [namesB]
theorem pre_may {l : List Bk} {k : Nat} (hk : k ≤ l.length) (hy : mayTo l k = true) : mayB (l.take k) = true := by
  unfold mayB
  rw [List.length_take, Nat.min_eq_left hk, mayTo_take _ _ _ (Nat.le_refl _)]
  exact hy
theorem may_slot {l : List Bk} (h : mayB l = true) : ∀ (n i : Nat) (hi : i < l.length), i ≤ n → 0 < l[i].s := by
  intro n
  induction n with
  | zero =>
    intro i hi h0
    rcases may_parent h hi with ⟨j, hj, _⟩ | ⟨_, q⟩
    · omega
    · exact q
  | succ n ih =>
    intro i hi h0
    rcases may_parent h hi with ⟨j, hj, _, q⟩ | ⟨_, q⟩
    · have := ih j (by omega) (by omega); omega
    · exact q
/-- No block ahead stands in a slot below 1. -/
theorem pre_slot {l : List Bk} {k j : Nat} (hk : k ≤ l.length) (hy : mayTo l k = true) (hj : j < (l.take k).length) : 0 < (l.take k)[j].s := may_slot (pre_may hk hy) j j hj (Nat.le_refl _)
theorem pre_zero {l : List Bk} {ns : List Id2} (_ : ns = namesB l) {k : Nat} (hk : k ≤ l.length) (hy : mayTo l k = true) : posB (l.take k) zid = none := may_zero (pre_may hk hy)
theorem ref_zero (ns : List Id2) (r : Bool) : (!standsN ns zid && r) = false := by
  unfold standsN; rw [decide_eq_true (rfl : zid = zid), Bool.or_true]; rfl
theorem ref_low {l : List Bk} {x : Bk} (h : ∀ j (hj : j < l.length), 0 < l[j].s) (hs : x.s < 1) : (!false && rightB l x) = false := by
  unfold rightB slotB
  cases q : posB l x.p with
  | none => by_cases e : x.p = zid <;> simp [e]; omega
  | some j =>
    have hj := posB_lt q
    have := h j hj
    simp [hj]
    omega
theorem ref_root {l : List Bk} {x : Bk} (h : posB l zid = none) (hp : x.p = zid) (hs : 0 < x.s) : rightB l x = true := by
  unfold rightB slotB
  rw [hp, h]
  simp [hs]
theorem ref_lost {l : List Bk} {x : Bk} (q : posB l x.p = none) (hp : ¬ x.p = zid) : rightB l x = false := by
  unfold rightB slotB
  rw [q, if_neg hp]
theorem ref_right {l : List Bk} {x : Bk} {k j : Nat} (q : posB (l.take k) x.p = some j) (hjk : j < k) (hj : j < l.length) : rightB (l.take k) x = decide (l[j].s < x.s) := by
  unfold rightB slotB
  rw [q]
  simp [List.getElem?_take_of_lt hjk, hj]
end

section
open Go.ChangeShapes Go.WideShapes Go.ChangeAt Go.RowKit

theorem findC_pos {l : List Bk} (x : Id2) (h : mayB l = true) : findC l x = posV (namesB l) x := by unfold findC posV; rw [if_pos h]; rfl
theorem slotC_hit {l : List Bk} {x : Id2} {i : Nat} (h : mayB l = true) (q : posB l x = some i) : slotC l x = ((l[i]'(posB_lt q)).s, true) := by
  unfold slotC; rw [if_pos h, slotB_hit q]
theorem slotC_root {l : List Bk} {x : Id2} (h : mayB l = true) (q : posB l x = none) (e : x = zid) : slotC l x = (0, true) := by
  unfold slotC; rw [if_pos h, slotB_miss q, if_pos e]
theorem slotC_miss {l : List Bk} {x : Id2} (h : mayB l = true) (q : posB l x = none) (e : ¬ x = zid) : slotC l x = (0, false) := by
  unfold slotC; rw [if_pos h, slotB_miss q, if_neg e]
/-! ### Kids -/
theorem Ids.drewN {W w : World} {l : List Id2} {v : Value} (h : Ids W l v w) (n : Nat) : Ids W l v (w.drewN n) := h.kept ((Kept.refl w).drewN n)
end

section
open Go.ChangeShapes Go.WideShapes Go.ChangeAt Go.RowKit

/-- What stays along a chain: the id's two cells in block z, the names, all that lay in w; rows of one's own lie from base on. -/
structure AlongR (ns : List Id2) (N : Option Addr) (w : World) (base : Nat) (cur : Id2) (w' : World) : Prop where
  zb : w.heap.size < base
  size : base ≤ w'.heap.size
  cells : HasCells w' w.heap.size [.int .u64 cur.1, .int .u64 cur.2]
  f0 : w'.frozen? ⟨w.heap.size, 0, none⟩ = false
  f1 : w'.frozen? ⟨w.heap.size, 1, none⟩ = false
  names : CellsAt w' base N (idsCells ns)
  nz : ∀ ad, N = some ad → w.heap.size < ad.block
  kept : Kept w w'
theorem AlongR.grown {ns : List Id2} {N : Option Addr} {w : World} {base : Nat} {cur : Id2} {w' w2 : World} {row : Option Nat} (h : AlongR ns N w base cur w') (g : w'.grownBy w2 row) (hr : ∀ k, row = some k → base ≤ k) : AlongR ns N w base cur w2 where
  zb := h.zb
  size := Nat.le_trans h.size g.size
  cells := ⟨Nat.lt_of_lt_of_le h.cells.1 g.size, fun j u hu => g.cell (h.cells.2 j u hu) (fun e => by have := hr _ e.symm; have := h.zb; simp at *; omega)⟩
  f0 := (g.frozen_far _ h.cells.1 (fun e => by have := hr _ e.symm; have := h.zb; simp at *; omega)).trans h.f0
  f1 := (g.frozen_far _ h.cells.1 (fun e => by have := hr _ e.symm; have := h.zb; simp at *; omega)).trans h.f1
  names := h.names.keep (fun p hp => g.cell_far p (Nat.lt_of_lt_of_le hp h.size) (fun e => by have := hr _ e.symm; omega))
  nz := h.nz
  kept := h.kept.grown g (fun k hk => by have := hr k hk; have := h.zb; omega)
theorem AlongR.alloc {ns : List Id2} {N : Option Addr} {w : World} {base : Nat} {cur : Id2} {w' : World} (h : AlongR ns N w base cur w') (o : Obj) : AlongR ns N w base cur (w'.alloc o) :=
  h.grown (World.grownBy_alloc w' o none) (fun _ e => by cases e)
theorem AlongR.keep {ns : List Id2} {N : Option Addr} {w : World} {base : Nat} {cur : Id2} {w' w2 : World} (h : AlongR ns N w base cur w') (k : Kept w' w2) : AlongR ns N w base cur w2 where
  zb := h.zb
  size := Nat.le_trans h.size k.size_le
  cells := h.cells.kept k
  f0 := (k.frozen h.cells.1).trans h.f0
  f1 := (k.frozen h.cells.1).trans h.f1
  names := h.names.keep (fun p hp => k.cell (Nat.lt_of_lt_of_le hp h.size))
  nz := h.nz
  kept := h.kept.trans k
theorem AlongR.set {ns : List Id2} {N : Option Addr} {w : World} {base : Nat} {cur : Id2} {w' : World} (h : AlongR ns N w base cur w') (p : Id2) :
    AlongR ns N w base p ((w'.setCell ⟨w.heap.size, 0, none⟩ (.int .u64 p.1)).setCell ⟨w.heap.size, 1, none⟩ (.int .u64 p.2)) where
  zb := h.zb
  size := by simpa using h.size
  cells := by
    refine ⟨by simpa using h.cells.1, fun j u hu => ?_⟩
    have c0 := h.cells.at0
    have c1 := h.cells.at1
    match j, hu with
    | 0, hu =>
      cases hu
      rw [World.cell?_setCell_other _ _ _ _ (by simp), World.cell?_setCell_same' _ _ _ (by simp [c0])]
    | 1, hu =>
      cases hu
      rw [World.cell?_setCell_same' _ _ _ (by rw [World.cell?_setCell_other _ _ _ _ (by simp)]; simp [c1])]
    | j + 2, hu => simp at hu
  f0 := by simpa using h.f0
  f1 := by simpa using h.f1
  names := fun j u hu => by
    obtain ⟨ad, e, hb, hc⟩ := h.names j u hu
    have hne := h.nz ad e
    refine ⟨ad, e, hb, ?_⟩
    have hb2 : (ad.add j).block = ad.block := block_add ad j
    rw [World.cell?_setCell_other _ _ _ _ (fun q => by have := congrArg Addr.block q; simp at this; omega), World.cell?_setCell_other _ _ _ _ (fun q => by have := congrArg Addr.block q; simp at this; omega)]
    exact hc
  nz := h.nz
  kept := (h.kept.setCell (p := ⟨w.heap.size, 0, none⟩) (Nat.le_refl _) _).setCell (p := ⟨w.heap.size, 1, none⟩) (Nat.le_refl _) _

theorem row_kept' {W W' : World} {base : Nat} {e : TypeId} {size n : Nat} {v : Value} {xs : List Value} (h : W.ownsRow base e size v n xs) (k : Kept W W') : W'.ownsRow base e size v n xs := by
  refine ⟨h.1, ?_⟩
  rcases h.2 with h2 | ⟨g, cap, cur, hv, hg, hh, r⟩
  · exact Or.inl h2
  · exact Or.inr ⟨g, cap, cur, hv, hg, by rw [k.heap (h.lt g (by rw [hv]; rfl)).2]; exact hh, r⟩
theorem posV_rank (l : List Bk) (x : Id2) : posV (namesB l) x + 1 = (rank l x : Int) := by
  unfold posV rank posB
  cases posN (namesB l) x with
  | none => rfl
  | some i => simp
theorem chain_may_head {l : List Bk} {x : Id2} (h : mayB l = true) (hs : standsB l x = true) : chainC l x = [] ++ chainB l x := chainC_yes h hs
end

end Go.Proofs.Ytacdiicnfoejoaa
