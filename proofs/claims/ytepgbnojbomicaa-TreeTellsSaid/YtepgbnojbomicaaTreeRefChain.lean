/-
  The contracts of the calls Chain and Under of the given package marigoldref06.
-/
import Derived.Test.YtepgbnojbomicaaTreeRefMore
namespace Go.Proofs.Ytepgbnojbomicaa
open Go.ChangeShapes Go.WideShapes Go.ChangeAt Go.RowKit

/-- What stays along a chain: the id's two cells in block z, the names, all that lay in w; rows of one's own lie from base on. -/
structure AlongR (ns : List Id2) (N : Option Addr) (w : World) (base : Nat) (cur : Id2) (w' : World) : Prop where
  zb : w.heap.size < base
  size : base ≤ w'.heap.size
  cells : HasCells w' w.heap.size [.int .u64 cur.1, .int .u64 cur.2]
  f0 : w'.frozen? ⟨w.heap.size, 0, none⟩ = false
  f1 : w'.frozen? ⟨w.heap.size, 1, none⟩ = false
  names : CellsAt w' base N (idsCells ns)
  nz : ∀ ad, N = some ad → w.heap.size < ad.block
  kept : Kept w w'
theorem AlongR.grown {ns : List Id2} {N : Option Addr} {w : World} {base : Nat} {cur : Id2} {w' w2 : World} {row : Option Nat} (h : AlongR ns N w base cur w') (g : w'.grownBy w2 row) (hr : ∀ k, row = some k → base ≤ k) : AlongR ns N w base cur w2 where
  zb := h.zb
  size := Nat.le_trans h.size g.size
  cells := ⟨Nat.lt_of_lt_of_le h.cells.1 g.size, fun j u hu => g.cell (h.cells.2 j u hu) (fun e => by have := hr _ e.symm; have := h.zb; simp at *; omega)⟩
  f0 := (g.frozen_far _ h.cells.1 (fun e => by have := hr _ e.symm; have := h.zb; simp at *; omega)).trans h.f0
  f1 := (g.frozen_far _ h.cells.1 (fun e => by have := hr _ e.symm; have := h.zb; simp at *; omega)).trans h.f1
  names := h.names.keep (fun p hp => g.cell_far p (Nat.lt_of_lt_of_le hp h.size) (fun e => by have := hr _ e.symm; omega))
  nz := h.nz
  kept := h.kept.grown g (fun k hk => by have := hr k hk; have := h.zb; omega)
theorem AlongR.alloc {ns : List Id2} {N : Option Addr} {w : World} {base : Nat} {cur : Id2} {w' : World} (h : AlongR ns N w base cur w') (o : Obj) : AlongR ns N w base cur (w'.alloc o) :=
  h.grown (World.grownBy_alloc w' o none) (fun _ e => by cases e)
theorem AlongR.keep {ns : List Id2} {N : Option Addr} {w : World} {base : Nat} {cur : Id2} {w' w2 : World} (h : AlongR ns N w base cur w') (k : Kept w' w2) : AlongR ns N w base cur w2 where
  zb := h.zb
  size := Nat.le_trans h.size k.size_le
  cells := h.cells.kept k
  f0 := (k.frozen h.cells.1).trans h.f0
  f1 := (k.frozen h.cells.1).trans h.f1
  names := h.names.keep (fun p hp => k.cell (Nat.lt_of_lt_of_le hp h.size))
  nz := h.nz
  kept := h.kept.trans k
theorem AlongR.set {ns : List Id2} {N : Option Addr} {w : World} {base : Nat} {cur : Id2} {w' : World} (h : AlongR ns N w base cur w') (p : Id2) :
    AlongR ns N w base p ((w'.setCell ⟨w.heap.size, 0, none⟩ (.int .u64 p.1)).setCell ⟨w.heap.size, 1, none⟩ (.int .u64 p.2)) where
  zb := h.zb
  size := by simpa using h.size
  cells := by
    refine ⟨by simpa using h.cells.1, fun j u hu => ?_⟩
    have c0 := h.cells.at0
    have c1 := h.cells.at1
    match j, hu with
    | 0, hu =>
      cases hu
      rw [World.cell?_setCell_other _ _ _ _ (by simp), World.cell?_setCell_same' _ _ _ (by simp [c0])]
    | 1, hu =>
      cases hu
      rw [World.cell?_setCell_same' _ _ _ (by rw [World.cell?_setCell_other _ _ _ _ (by simp)]; simp [c1])]
    | j + 2, hu => simp at hu
  f0 := by simpa using h.f0
  f1 := by simpa using h.f1
  names := fun j u hu => by
    obtain ⟨ad, e, hb, hc⟩ := h.names j u hu
    have hne := h.nz ad e
    refine ⟨ad, e, hb, ?_⟩
    have hb2 : (ad.add j).block = ad.block := block_add ad j
    rw [World.cell?_setCell_other _ _ _ _ (fun q => by have := congrArg Addr.block q; simp at this; omega), World.cell?_setCell_other _ _ _ _ (fun q => by have := congrArg Addr.block q; simp at this; omega)]
    exact hc
  nz := h.nz
  kept := (h.kept.setCell (p := ⟨w.heap.size, 0, none⟩) (Nat.le_refl _) _).setCell (p := ⟨w.heap.size, 1, none⟩) (Nat.le_refl _) _

theorem row_kept' {W W' : World} {base : Nat} {e : TypeId} {size n : Nat} {v : Value} {xs : List Value} (h : W.ownsRow base e size v n xs) (k : Kept W W') : W'.ownsRow base e size v n xs := by
  refine ⟨h.1, ?_⟩
  rcases h.2 with h2 | ⟨g, cap, cur, hv, hg, hh, r⟩
  · exact Or.inl h2
  · exact Or.inr ⟨g, cap, cur, hv, hg, by rw [k.heap (h.lt g (by rw [hv]; rfl)).2]; exact hh, r⟩
theorem posV_rank (l : List Bk) (x : Id2) : posV (namesB l) x + 1 = (rank l x : Int) := by
  unfold posV rank posB
  cases posN (namesB l) x with
  | none => rfl
  | some i => simp
theorem chain_may_head {l : List Bk} {x : Id2} (h : mayB l = true) (hs : standsB l x = true) : chainC l x = [] ++ chainB l x := chainC_yes h hs

attribute [local go_sem high] eqIdZ in
set_option maxRecDepth 100000 in
set_option maxHeartbeats 3200000 in
theorem refChain_any (A : Option Addr) (c : Nat) (l : List Bk) (hl : l.length ≤ 1000000) (hw : WfL l) (x : Id2) (w : World) (hA : CellsAt w w.heap.size A (blockCells l)) :
    Calls Try.prog 18 #[.slice A l.length c, .agg #[.int .u64 x.1, .int .u64 x.2]] w (IdsNew (chainC l x) w) := by
  have HA0 := Lib.hid hA
  have HA := Lib.hid (hA.kept ((Kept.refl w).alloc (.cells #[.int .u64 x.1, .int .u64 x.2] 25)))
  have HC := Lib.hid (HasCells.new w #[.int .u64 x.1, .int .u64 x.2] 25 w.heap.size rfl)
  have HF0 := Lib.hid (show ∀ j, (w.alloc (.cells #[.int .u64 x.1, .int .u64 x.2] 25)).frozen? ⟨w.heap.size, j, none⟩ = false by intro j; simp [go_sem])
  have HW := Lib.hid hw
  clear hA hw
  go_enter Try.func18, Try.ntmps18
  go_wp2_with fail
  have HK := Lib.hid ((Kept.refl w).alloc (.cells #[.int .u64 x.1, .int .u64 x.2] 25))
  generalize w.alloc (.cells #[.int .u64 x.1, .int .u64 x.2] 25) = W at *
  refine (refNames_any A c l hl HW.out W HA.out).mono ?_
  rintro e W1 ⟨N, cn, rfl, hN, hcn, hnew, k1⟩
  have HN := Lib.hid hN
  have K1 := Lib.hid k1
  have HNZ := Lib.hid (show ∀ ad, N = some ad → w.heap.size < ad.block from fun ad h => Nat.lt_of_lt_of_le HC.out.1 (hnew ad h))
  have hnl : (namesB l).length ≤ 10000000 := by rw [namesB_length]; omega
  clear hN k1 hnew
  go_wp2_with fail
  refine (refMayIn_any A c l hl N cn (namesB l) rfl hcn W1 (HA.out.kept K1.out) HN.out).mono ?_
  rintro e W2 ⟨rfl, k2⟩
  have K2 := Lib.hid (K1.out.trans k2)
  have HN2 := Lib.hid (HN.out.kept k2)
  obtain ⟨c0, c1⟩ := (HC.out.kept K2.out).two
  clear k2 HN K1
  go_wp2_with fail
  refine (refAt_any N cn (namesB l) hnl x W2 HN2.out).mono ?_
  rintro e W3 ⟨rfl, k3⟩
  have K3 := Lib.hid (K2.out.trans k3)
  have HN3 := Lib.hid (HN2.out.kept k3)
  have HKW := Lib.hid (HK.out.trans K3.out)
  clear k3 HN2 K2 c0 c1
  obtain ⟨c0, c1⟩ := (HC.out.kept K3.out).two
  cases hm : mayB l with
  | false =>
    have HR := Lib.hid (chainC_no (l := l) (x := x) (fun h => by rw [hm] at h; cases h))
    clear hm
    go_wp2_with fail
    go_ret
    rw [HR.out]
    exact IdsNew.nil HKW.out
  | true =>
    have HY := Lib.hid hm
    cases hs : standsB l x with
    | false =>
      have HR := Lib.hid (chainC_no (l := l) (x := x) (fun _ => hs))
      have hp : posV (namesB l) x = -1 := by
        unfold posV
        cases q : posN (namesB l) x with
        | none => rfl
        | some i => rw [standsB_iff.2 (Or.inl ⟨i, q⟩)] at hs; cases hs
      have hz : isZ x = false := by
        cases q : isZ x with
        | false => rfl
        | true => rw [standsB_iff.2 (Or.inr (of_decide_eq_true q))] at hs; cases hs
      rw [hp]
      clear hm hs hp
      go_wp2_with fail
      go_ret
      rw [HR.out]
      exact IdsNew.nil HKW.out
    | true =>
      have HR := Lib.hid (chainC_yes hm hs)
      have HAl := Lib.hid (show AlongR (namesB l) N w W3.heap.size x W3 from ⟨(HC.out.kept K3.out).1, Nat.le_refl _, HC.out.kept K3.out, (K3.out.frozen HC.out.1).trans (HF0.out 0), (K3.out.frozen HC.out.1).trans (HF0.out 1), HN3.out, HNZ.out, HKW.out⟩)
      have HS := Lib.hid hs
      have HLx := Lib.hid (chainB_length l x)
      have HRow := Lib.hid (World.ownsRow_lit (e := 25) (base := W3.heap.size) (size := 2) W3 #[.int .u64 x.1, .int .u64 x.2] 1 (Nat.le_refl _) (by unfold maxLen; omega) rfl)
      have hcase : ∃ X : Int, posV (namesB l) x = X ∧ (X < 0 → isZ x = true) := ⟨_, rfl, fun h => by
        rcases standsB_iff.1 hs with ⟨i, q⟩ | q
        · exfalso
          unfold posV at h
          have q' : posN (namesB l) x = some i := q
          rw [q'] at h
          simp at h
          omega
        · exact decide_eq_true q⟩
      obtain ⟨X, hX, hXz⟩ := hcase
      have HX := Lib.hid hX
      rw [hX]
      clear hm hs hX
      obtain ⟨i0, hi0, hz0, hz1, hz2⟩ := info_of Try.infoID
      have hi0' := hi0
      clear hi0
      by_cases hneg : X < 0
      · have hz := hXz hneg
        clear hXz
        go_wp2_with fail
        have HSt := Lib.hid (HAl.out.alloc (.cells #[.int .u64 x.1, .int .u64 x.2] 25))
        generalize W3.alloc (.cells #[.int .u64 x.1, .int .u64 x.2] 25) = W4 at *
        generalize W3.heap.size = base at *
        go_loopw [7, 8] (fun i v w' => ∃ (cur : Id2) (pre : List Id2), i = .int .i64 (posV (namesB l) cur) ∧ AlongR (namesB l) N w base cur w' ∧ w'.ownsRow base 25 2 v (pre ++ [cur]).length (idsCells (pre ++ [cur])) ∧ chainC l x = pre ++ chainB l cur ∧ pre.length + (chainB l cur).length ≤ l.length + 1 ∧ standsB l cur = true) (fun i _ _ => (intOf i + 1).toNat)
        case atStart => exact ⟨x, [], by rw [HX.out], HSt.out, HRow.out, by rw [HR.out]; rfl, by have := HLx.out; simp; omega, HS.out⟩
        case round =>
          obtain ⟨cur, pre, rfl, hAl, hrow, hch, hle, hst⟩ := hrel
          have HL := Lib.hid hAl
          have HRw := Lib.hid hrow
          have HE := Lib.hid hch
          have HLE := Lib.hid hle
          clear hAl hrow hch hst HSt HRow HS HR HX
          cases q : posB l cur with
          | none =>
            have hv : posV (namesB l) cur = -1 := by
              unfold posV
              have q' : posN (namesB l) cur = none := q
              rw [q']
            have HEnd := Lib.hid (show chainC l x = pre ++ [cur] by rw [HE.out, chainB_none q])
            rw [hv]
            clear q hv hle
            obtain ⟨A', c', rfl⟩ := row_slice' HRw.out
            go_wp2_with fail
            go_ret
            rw [HEnd.out]
            exact ⟨A', c', rfl, CellsAt.of_own HRw.out, fun ad h => Nat.le_trans (Nat.le_of_lt HL.out.zb) (row_new' HRw.out h), HL.out.kept⟩
          | some i =>
            have hi := posB_lt q
            have hv : posV (namesB l) cur = (i : Int) := by
              unfold posV
              have q' : posN (namesB l) cur = some i := q
              rw [q']
            have HEnd := Lib.hid (show chainB l cur = cur :: chainB l l[i].p from chainB_some HY.out q)
            have HPs := Lib.hid (may_stands HY.out hi)
            have HRk := Lib.hid (show (posV (namesB l) l[i].p + 1).toNat < ((i : Int) + 1).toNat from by
              have h1 := rank_parent HY.out hi
              have h2 := posV_rank l l[i].p
              omega)
            have hpl : pre.length + 2 ≤ 10000000 := by
              have h1 := HEnd.out
              rw [h1] at hle
              simp at hle
              omega
            obtain ⟨z2, o2, rfl, hbz, _, _, d2, d3, _⟩ := block_at (HA0.out.kept HL.out.kept) hi
            obtain ⟨c0, c1⟩ := HL.out.cells.two
            have f0 := HL.out.f0
            have f1 := HL.out.f1
            have hls := HL.out.cells.1
            have hi0 : (0 : Int) ≤ (i : Int) := by omega
            rw [hv]
            clear q hv hle
            generalize l[i].p = p at *
            have hm1 : (pre ++ [cur]).length + 1 ≤ maxLen := by unfold maxLen; rw [List.length_append, List.length_singleton]; omega
            have hm2 : ((pre ++ [cur]).length + 1) * 16 ≤ 140737488355328 := by rw [List.length_append, List.length_singleton]; omega
            have HL1 := Lib.hid (HL.out.set p)
            have HR1 := Lib.hid (row_set HRw.out HL.out.zb p)
            obtain ⟨g0, g1⟩ := HL1.out.cells.two
            have hl1 := HL1.out.cells.1
            go_wp2_with (refine wpList_app _ rfl _ _ _ rfl base 25 i0 _ 2 16 Try.underlying31 hi0' hz0 hz1 hz2 rfl (by omega) _ (pre ++ [cur]).length (idsCells (pre ++ [cur])) rfl (HR1.out.alloc _) _ _ 1 1 (idsCells [p]) rfl rfl (ids_one_at (HasCells.new _ _ _ _ (by simp))) (idsCells_one _) hm1 hm2 (HL1.out.alloc _).size ?_; intro v' w2 own g _; rw [idsCells_append] at own; have HL2 := Lib.hid ((HL1.out.alloc _).grown g (fun k hk => (HR1.out.lt k hk).1)); have HR2 := Lib.hid own; clear g own; obtain ⟨g2, g3⟩ := HL2.out.cells.two; have hl2 := HL2.out.cells.1)
            refine (refAt_any N cn (namesB l) hnl p w2 (HL2.out.names.mono HL2.out.size)).mono ?_
            rintro e W5 ⟨rfl, k5⟩
            have HL3 := Lib.hid (HL2.out.keep k5)
            have HR3 := Lib.hid (show W5.ownsRow base 25 2 v' (pre ++ [cur] ++ [p]).length (idsCells (pre ++ [cur] ++ [p])) from by
              have h := row_kept' HR2.out k5
              simpa using h)
            clear k5 c0 c1 d2 d3 f0 f1 g0 g1 g2 g3
            go_wp2_with fail
            go_roundw
            case rel => exact ⟨p, pre ++ [cur], rfl, HL3.out, HR3.out, by rw [HE.out, HEnd.out, List.append_assoc]; rfl, by have := HLE.out; rw [HEnd.out] at this; simp at this ⊢; omega, HPs.out⟩
            case measure => simpa [intOf] using HRk.out
      · clear hXz
        go_wp2_with fail
        have HSt := Lib.hid (HAl.out.alloc (.cells #[.int .u64 x.1, .int .u64 x.2] 25))
        generalize W3.alloc (.cells #[.int .u64 x.1, .int .u64 x.2] 25) = W4 at *
        generalize W3.heap.size = base at *
        go_loopw [7, 8] (fun i v w' => ∃ (cur : Id2) (pre : List Id2), i = .int .i64 (posV (namesB l) cur) ∧ AlongR (namesB l) N w base cur w' ∧ w'.ownsRow base 25 2 v (pre ++ [cur]).length (idsCells (pre ++ [cur])) ∧ chainC l x = pre ++ chainB l cur ∧ pre.length + (chainB l cur).length ≤ l.length + 1 ∧ standsB l cur = true) (fun i _ _ => (intOf i + 1).toNat)
        case atStart => exact ⟨x, [], by rw [HX.out], HSt.out, HRow.out, by rw [HR.out]; rfl, by have := HLx.out; simp; omega, HS.out⟩
        case round =>
          obtain ⟨cur, pre, rfl, hAl, hrow, hch, hle, hst⟩ := hrel
          have HL := Lib.hid hAl
          have HRw := Lib.hid hrow
          have HE := Lib.hid hch
          have HLE := Lib.hid hle
          clear hAl hrow hch hst HSt HRow HS HR HX
          cases q : posB l cur with
          | none =>
            have hv : posV (namesB l) cur = -1 := by
              unfold posV
              have q' : posN (namesB l) cur = none := q
              rw [q']
            have HEnd := Lib.hid (show chainC l x = pre ++ [cur] by rw [HE.out, chainB_none q])
            rw [hv]
            clear q hv hle
            obtain ⟨A', c', rfl⟩ := row_slice' HRw.out
            go_wp2_with fail
            go_ret
            rw [HEnd.out]
            exact ⟨A', c', rfl, CellsAt.of_own HRw.out, fun ad h => Nat.le_trans (Nat.le_of_lt HL.out.zb) (row_new' HRw.out h), HL.out.kept⟩
          | some i =>
            have hi := posB_lt q
            have hv : posV (namesB l) cur = (i : Int) := by
              unfold posV
              have q' : posN (namesB l) cur = some i := q
              rw [q']
            have HEnd := Lib.hid (show chainB l cur = cur :: chainB l l[i].p from chainB_some HY.out q)
            have HPs := Lib.hid (may_stands HY.out hi)
            have HRk := Lib.hid (show (posV (namesB l) l[i].p + 1).toNat < ((i : Int) + 1).toNat from by
              have h1 := rank_parent HY.out hi
              have h2 := posV_rank l l[i].p
              omega)
            have hpl : pre.length + 2 ≤ 10000000 := by
              have h1 := HEnd.out
              rw [h1] at hle
              simp at hle
              omega
            obtain ⟨z2, o2, rfl, hbz, _, _, d2, d3, _⟩ := block_at (HA0.out.kept HL.out.kept) hi
            obtain ⟨c0, c1⟩ := HL.out.cells.two
            have f0 := HL.out.f0
            have f1 := HL.out.f1
            have hls := HL.out.cells.1
            have hi0 : (0 : Int) ≤ (i : Int) := by omega
            rw [hv]
            clear q hv hle
            generalize l[i].p = p at *
            have hm1 : (pre ++ [cur]).length + 1 ≤ maxLen := by unfold maxLen; rw [List.length_append, List.length_singleton]; omega
            have hm2 : ((pre ++ [cur]).length + 1) * 16 ≤ 140737488355328 := by rw [List.length_append, List.length_singleton]; omega
            have HL1 := Lib.hid (HL.out.set p)
            have HR1 := Lib.hid (row_set HRw.out HL.out.zb p)
            obtain ⟨g0, g1⟩ := HL1.out.cells.two
            have hl1 := HL1.out.cells.1
            go_wp2_with (refine wpList_app _ rfl _ _ _ rfl base 25 i0 _ 2 16 Try.underlying31 hi0' hz0 hz1 hz2 rfl (by omega) _ (pre ++ [cur]).length (idsCells (pre ++ [cur])) rfl (HR1.out.alloc _) _ _ 1 1 (idsCells [p]) rfl rfl (ids_one_at (HasCells.new _ _ _ _ (by simp))) (idsCells_one _) hm1 hm2 (HL1.out.alloc _).size ?_; intro v' w2 own g _; rw [idsCells_append] at own; have HL2 := Lib.hid ((HL1.out.alloc _).grown g (fun k hk => (HR1.out.lt k hk).1)); have HR2 := Lib.hid own; clear g own; obtain ⟨g2, g3⟩ := HL2.out.cells.two; have hl2 := HL2.out.cells.1)
            refine (refAt_any N cn (namesB l) hnl p w2 (HL2.out.names.mono HL2.out.size)).mono ?_
            rintro e W5 ⟨rfl, k5⟩
            have HL3 := Lib.hid (HL2.out.keep k5)
            have HR3 := Lib.hid (show W5.ownsRow base 25 2 v' (pre ++ [cur] ++ [p]).length (idsCells (pre ++ [cur] ++ [p])) from by
              have h := row_kept' HR2.out k5
              simpa using h)
            clear k5 c0 c1 d2 d3 f0 f1 g0 g1 g2 g3
            go_wp2_with fail
            go_roundw
            case rel => exact ⟨p, pre ++ [cur], rfl, HL3.out, HR3.out, by rw [HE.out, HEnd.out, List.append_assoc]; rfl, by have := HLE.out; rw [HEnd.out] at this; simp at this ⊢; omega, HPs.out⟩
            case measure => simpa [intOf] using HRk.out

attribute [local go_sem high] eqIdZ in
set_option maxRecDepth 100000 in
set_option maxHeartbeats 1600000 in
theorem refUnder_any (A : Option Addr) (c : Nat) (l : List Bk) (hl : l.length ≤ 1000000) (hw : WfL l) (low x : Id2) (w : World) (hA : CellsAt w w.heap.size A (blockCells l)) :
    Calls Try.prog 19 #[.slice A l.length c, .agg #[.int .u64 low.1, .int .u64 low.2], .agg #[.int .u64 x.1, .int .u64 x.2]] w fun e w' => e = .returned (.bool (underC l low x)) ∧ Kept w w' := by
  have HA := Lib.hid ((hA.kept ((Kept.refl w).alloc (.cells #[.int .u64 low.1, .int .u64 low.2] 25))).kept ((Kept.refl _).alloc (.cells #[.int .u64 x.1, .int .u64 x.2] 25)))
  have HC := Lib.hid ((HasCells.new w #[.int .u64 low.1, .int .u64 low.2] 25 w.heap.size rfl).alloc (.cells #[.int .u64 x.1, .int .u64 x.2] 25))
  have HD := Lib.hid (HasCells.new (w.alloc (.cells #[.int .u64 low.1, .int .u64 low.2] 25)) #[.int .u64 x.1, .int .u64 x.2] 25 (w.heap.size + 1) (by simp))
  have HK := Lib.hid (((Kept.refl w).alloc (.cells #[.int .u64 low.1, .int .u64 low.2] 25)).alloc (.cells #[.int .u64 x.1, .int .u64 x.2] 25))
  have HL := Lib.hid (chainC_length l x)
  have HU := Lib.hid (posV_geq (chainC l x) low)
  have HUC := Lib.hid (show underC l low x = decide (low ∈ chainC l x) from rfl)
  have HCH := Lib.hid (fun w' (h : CellsAt w' w'.heap.size A (blockCells l)) => refChain_any A c l hl hw x w' h)
  clear hw hA
  go_enter Try.func19, Try.ntmps19
  go_wp2_with fail
  generalize (w.alloc (.cells #[.int .u64 low.1, .int .u64 low.2] 25)).alloc (.cells #[.int .u64 x.1, .int .u64 x.2] 25) = W at *
  generalize w.heap.size + 1 = y at *
  generalize w.heap.size = z at *
  obtain ⟨c0, c1⟩ := HC.out.two
  obtain ⟨d0, d1⟩ := HD.out.two
  have hz := HC.out.1
  have hy := HD.out.1
  have hcl : (chainC l x).length ≤ 10000000 := by have := HL.out; omega
  have HC1 := Lib.hid (fun w' (hk : w'.cell? ⟨z, 0, none⟩ = some (.int .u64 low.1) ∧ w'.cell? ⟨z, 1, none⟩ = some (.int .u64 low.2) ∧ w'.cell? ⟨y, 0, none⟩ = some (.int .u64 x.1) ∧ w'.cell? ⟨y, 1, none⟩ = some (.int .u64 x.2) ∧ Kept W w') => HCH.out w' (HA.out.kept hk.2.2.2.2))
  generalize chainC l x = ch at *
  go_region_held3 (fun w' => w'.cell? ⟨z, 0, none⟩ = some (.int .u64 low.1) ∧ w'.cell? ⟨z, 1, none⟩ = some (.int .u64 low.2) ∧ w'.cell? ⟨y, 0, none⟩ = some (.int .u64 x.1) ∧ w'.cell? ⟨y, 1, none⟩ = some (.int .u64 x.2) ∧ Kept W w')
    (first | exact ⟨c0, c1, d0, d1, Kept.refl _⟩ | exact ⟨c0, c1, d0, d1, (Kept.refl _).drew⟩ | assumption | exact keep2 hz hy (by assumption) (by assumption))
    (first
      | (go_at_call 18; ((with_reducible refine (HC1.out _ (by assumption)).mono ?_); rintro e w' ⟨A', c', rfl, hcs, hnew, kk⟩))
      | (go_at_call 31; ((with_reducible refine (refAt_any A' c' ch hcl low _ hcs).mono ?_); rintro e w' ⟨rfl, kk⟩)))
  rename_i hh
  have hk := Lib.hid (HK.out.trans hh.2.2.2.2)
  clear hh
  go_wp2_with fail
  go_ret
  exact ⟨by rw [HUC.out, ← HU.out]; rfl, hk.out⟩

end Go.Proofs.Ytepgbnojbomicaa
