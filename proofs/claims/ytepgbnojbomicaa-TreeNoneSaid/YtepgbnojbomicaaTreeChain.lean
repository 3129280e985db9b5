/-
  The contract of package tree's call Chain.
-/
import Derived.Test.YtepgbnojbomicaaTreeIndex
import Derived.WalkMore
import Derived.ScopeJumps
namespace Go.Proofs.Ytepgbnojbomicaa
open Go.ChangeShapes Go.WideShapes Go.ChangeAt Go.RowKit

theorem standsN_B (l : List Bk) (x : Id2) : standsN (namesB l) x = standsB l x := rfl
theorem grown_set (w : World) (a : Addr) (v : Value) : w.grownBy (w.setCell a v) (some a.block) := by
  refine ⟨rfl, rfl, rfl, by simp, fun i hi hne => ?_⟩
  exact Below.heap_setCell w a v i (fun e => hne (by rw [e]))
theorem MapOf.grown {ns : List Id2} {b m : Nat} {D : DataW Unit} {w w' : World} {row : Option Nat} (h : MapOf ns b m D w) (g : w.grownBy w' row) (hne : some b ≠ row) : MapOf ns b m D w' := ⟨h.1.kept g hne, h.2⟩

/-- What stays along a chain: the id's two cells in block z, the map in block b, all that lay in w; rows of one's own lie from base on. -/
structure Along (l : List Bk) (w : World) (b base m : Nat) (D : DataW Unit) (cur : Id2) (w' : World) : Prop where
  zb : w.heap.size < base
  bb : b < base
  ne : w.heap.size < b
  size : base ≤ w'.heap.size
  cells : HasCells w' w.heap.size [.int .u64 cur.1, .int .u64 cur.2]
  f0 : w'.frozen? ⟨w.heap.size, 0, none⟩ = false
  f1 : w'.frozen? ⟨w.heap.size, 1, none⟩ = false
  map : MapOf (namesB l) b m D w'
  kept : Kept w w'
theorem Along.grown {l : List Bk} {w : World} {b base m : Nat} {D : DataW Unit} {cur : Id2} {w' w2 : World} {row : Option Nat} (h : Along l w b base m D cur w') (g : w'.grownBy w2 row) (hr : ∀ k, row = some k → base ≤ k) : Along l w b base m D cur w2 where
  zb := h.zb
  bb := h.bb
  ne := h.ne
  size := Nat.le_trans h.size g.size
  cells := ⟨Nat.lt_of_lt_of_le h.cells.1 g.size, fun j u hu => g.cell (h.cells.2 j u hu) (fun e => by have := hr _ e.symm; have := h.zb; simp at *; omega)⟩
  f0 := (g.frozen_far _ h.cells.1 (fun e => by have := hr _ e.symm; have := h.zb; simp at *; omega)).trans h.f0
  f1 := (g.frozen_far _ h.cells.1 (fun e => by have := hr _ e.symm; have := h.zb; simp at *; omega)).trans h.f1
  map := h.map.grown g (fun e => by have := hr _ e.symm; have := h.bb; omega)
  kept := h.kept.grown g (fun k hk => by have := hr k hk; have := h.zb; omega)
theorem Along.alloc {l : List Bk} {w : World} {b base m : Nat} {D : DataW Unit} {cur : Id2} {w' : World} (h : Along l w b base m D cur w') (o : Obj) : Along l w b base m D cur (w'.alloc o) :=
  h.grown (World.grownBy_alloc w' o none) (fun _ e => by cases e)
theorem Along.set {l : List Bk} {w : World} {b base m : Nat} {D : DataW Unit} {cur : Id2} {w' : World} (h : Along l w b base m D cur w') (p : Id2) :
    Along l w b base m D p ((w'.setCell ⟨w.heap.size, 0, none⟩ (.int .u64 p.1)).setCell ⟨w.heap.size, 1, none⟩ (.int .u64 p.2)) where
  zb := h.zb
  bb := h.bb
  ne := h.ne
  size := by simpa using h.size
  cells := by
    refine ⟨by simpa using h.cells.1, fun j u hu => ?_⟩
    have c0 := h.cells.at0
    have c1 := h.cells.at1
    match j, hu with
    | 0, hu =>
      cases hu
      rw [World.cell?_setCell_other _ _ _ _ (by simp), World.cell?_setCell_same' _ _ _ (by simp [c0])]
    | 1, hu =>
      cases hu
      rw [World.cell?_setCell_same' _ _ _ (by rw [World.cell?_setCell_other _ _ _ _ (by simp)]; simp [c1])]
    | j + 2, hu => simp at hu
  f0 := by simpa using h.f0
  f1 := by simpa using h.f1
  map := (h.map.grown (grown_set _ ⟨w.heap.size, 0, none⟩ _) (fun e => by cases e; exact Nat.lt_irrefl _ h.ne)).grown (grown_set _ ⟨w.heap.size, 1, none⟩ _) (fun e => by cases e; exact Nat.lt_irrefl _ h.ne)
  kept := (h.kept.setCell (p := ⟨w.heap.size, 0, none⟩) (Nat.le_refl _) _).setCell (p := ⟨w.heap.size, 1, none⟩) (Nat.le_refl _) _
theorem row_set {w : World} {base : Nat} {e : TypeId} {size : Nat} {v : Value} {n : Nat} {xs : List Value} (h : w.ownsRow base e size v n xs) {z : Nat} (hz : z < base) (p : Id2) :
    ((w.setCell ⟨z, 0, none⟩ (.int .u64 p.1)).setCell ⟨z, 1, none⟩ (.int .u64 p.2)).ownsRow base e size v n xs := by
  have k : ∀ (w0 : World), w0.ownsRow base e size v n xs → ∀ (a : Addr) (u : Value), a.block = z → (w0.setCell a u).ownsRow base e size v n xs := fun w0 h0 a u ha =>
    h0.kept (grown_set w0 a u) (by
      cases q : v.ownBlock with
      | none => exact Or.inl rfl
      | some g => exact Or.inr (fun e => by have := (h0.lt g q).1; cases e; omega))
  exact k _ (k _ h _ _ rfl) _ _ rfl

/-- The chain as far as it goes, and the id at which it stands. -/
def ChainAt (l : List Bk) (x : Id2) (w : World) (b : Nat) (cur : Id2) (v : Value) (w' : World) : Prop :=
  ∃ base m D pre, Along l w b base m D cur w' ∧ w'.ownsRow base 25 2 v pre.length (idsCells pre) ∧ chainC l x = pre ++ chainB l cur ∧ pre.length + (chainB l cur).length ≤ l.length + 1 ∧ WfI cur ∧ standsB l cur = true ∧ mayB l = true

/-- The id at which a chain stands, as read. -/
def curOf (z : Nat) (w : World) : Id2 := match w.cell? ⟨z, 0, none⟩, w.cell? ⟨z, 1, none⟩ with
  | some (.int _ a), some (.int _ b) => (a.toNat, b.toNat)
  | _, _ => zid
theorem curOf_has {z : Nat} {w : World} {x : Id2} (h : HasCells w z [.int .u64 x.1, .int .u64 x.2]) : curOf z w = x := by
  unfold curOf
  rw [h.at0, h.at1]
  simp

/-- What holds at each jump. -/
def ChainJ (A : Option Addr) (c : Nat) (l : List Bk) (x : Id2) (w : World) (a' : Act) (w' : World) : Prop :=
  ∃ (b : Nat) (cur : Id2) (v : Value) (u8 u9 u23 u24 u25 u26 u27 u28 u29 u30 u31 u32 u33 u34 u35 u36 u37 u38 : Value), a' = { tmps := #[.slice A l.length c, .agg #[.int .u64 x.1, .int .u64 x.2], undef, .pointer (some ⟨w.heap.size, 0, none⟩), .slice none 0 0, .map (some b), .bool true, v, u8, u9, .tuple #[.map (some b), .bool true], .slice A l.length c, .tuple #[.map (some b), .bool true], .map (some b), .bool true, .bool true, .bool false, .bool false, .map (some b), .agg #[.int .u64 x.1, .int .u64 x.2], .bool true, .bool false, .bool false, u23, u24, u25, u26, u27, u28, u29, u30, u31, u32, u33, u34, u35, u36, u37, u38, undef], defers := [] } ∧ ChainAt l x w b cur v w'

theorem row_new' {W : World} {base : Nat} {e : TypeId} {size n c : Nat} {A : Option Addr} {xs : List Value} (h : W.ownsRow base e size (.slice A n c) n xs) {ad : Addr} (hA : A = some ad) : base ≤ ad.block := by
  subst hA
  rcases h.2 with ⟨hv, _⟩ | ⟨g, cap, cur, hv, hg, _⟩
  · cases hv
  · cases hv; exact hg
theorem row_slice' {W : World} {base : Nat} {e : TypeId} {size n : Nat} {v : Value} {xs : List Value} (h : W.ownsRow base e size v n xs) : ∃ A c, v = .slice A n c := by
  rcases h.2 with ⟨hv, h0⟩ | ⟨g, cap, cur, hv, _⟩
  · subst h0; exact ⟨_, _, hv⟩
  · exact ⟨_, _, hv⟩
theorem parent_wf {l : List Bk} (hw : WfL l) {i : Nat} (hi : i < l.length) : WfI l[i].p := (hw _ (List.getElem_mem hi)).1

set_option maxRecDepth 100000 in
set_option maxHeartbeats 1600000 in
theorem chain_any (A : Option Addr) (c : Nat) (l : List Bk) (hl : l.length ≤ 1000000) (hw : WfL l) (x : Id2) (hx : WfI x) (w : World) (hA : CellsAt w w.heap.size A (blockCells l)) :
    Calls Try.prog 17 #[.slice A l.length c, .agg #[.int .u64 x.1, .int .u64 x.2]] w (IdsNew (chainC l x) w) := by
  have HA0 := Lib.hid hA
  have HP := Lib.hid (places_any A c l hl hw _ (hA.kept ((Kept.refl w).alloc (.cells #[.int .u64 x.1, .int .u64 x.2] 25))))
  have HC := Lib.hid (HasCells.new w #[.int .u64 x.1, .int .u64 x.2] 25 w.heap.size rfl)
  have HF0 := Lib.hid (show ∀ j, (w.alloc (.cells #[.int .u64 x.1, .int .u64 x.2] 25)).frozen? ⟨w.heap.size, j, none⟩ = false by intro j; simp [go_sem])
  have HW := Lib.hid hw
  have HX := Lib.hid hx
  clear hw hA hx
  go_enter Try.func17, Try.ntmps17
  go_wp2_with fail
  refine wp_scope_jumps 0 (ChainJ A c l x w) (fun _ w' => rank l (curOf w.heap.size w')) rfl ?_ ?_
  · go_wp2_with fail
    refine HP.out.mono ?_
    rintro e W ⟨k1, ⟨hm, b, m, D, rfl, hb, hM⟩ | ⟨hm, rfl⟩⟩
    · have HK := Lib.hid (((Kept.refl w).alloc _).trans k1)
      have HC1 := Lib.hid (HC.out.kept k1)
      have HF1 := Lib.hid (show ∀ j, W.frozen? ⟨w.heap.size, j, none⟩ = false from fun j => (k1.frozen HC.out.1).trans (HF0.out j))
      have HM := Lib.hid hM
      have HY := Lib.hid hm
      have HB := Lib.hid (show w.heap.size < b by simp at hb; omega)
      obtain ⟨c0, c1⟩ := HC1.out.two
      clear k1 HC HP hM hm HF0 hb
      go_wp2_with fail
      refine (stands_any _ b m D x HX.out W HM.out).mono ?_
      rintro e W1 ⟨rfl, k1⟩
      rw [standsN_B]
      have HK1 := Lib.hid (HK.out.trans k1)
      cases hs : standsB l x with
      | false =>
        have HR := Lib.hid (chainC_no (l := l) (x := x) (fun _ => hs))
        clear hs k1 c0 c1
        go_wp2_with fail
        simp only [Exit.jump]
        go_ret
        rw [HR.out]
        exact IdsNew.nil HK1.out
      | true =>
        have HT : Hid (ChainAt l x w b x (.slice none 0 0) W1) := by
          refine Lib.hid ⟨W1.heap.size, m, D, [], ⟨(HC1.out.kept k1).1, Nat.lt_of_lt_of_le HM.out.1.lt k1.size_le, HB.out, Nat.le_refl _, HC1.out.kept k1, (k1.frozen HC1.out.1).trans (HF1.out 0), (k1.frozen HC1.out.1).trans (HF1.out 1), HM.out.kept k1, HK1.out⟩, World.ownsRow_nil _ _ _ _, ?_, ?_, HX.out, hs, HY.out⟩
          · rw [chainC_yes HY.out hs]; rfl
          · have := chainB_length l x; simp; omega
        clear hs k1 c0 c1 HK HC1 HF1 HM HY HB HK1
        go_wp2_with fail
        go_step3
        obtain ⟨cur, HT⟩ : ∃ cur, Hid (ChainAt l x w b cur (.slice none 0 0) W1) := ⟨x, HT⟩
        obtain ⟨base, m, D, pre, hAl, hrow, hch, hle, hcw, hst, hmy⟩ := HT.out
        have HL := Lib.hid hAl
        have HR := Lib.hid hrow
        have HE := Lib.hid hch
        have HWc := Lib.hid hcw
        have HMy := Lib.hid hmy
        have hpl : pre.length + 1 ≤ l.length + 1 := by obtain ⟨r, e⟩ := chainB_head l cur; rw [e] at hle; simp at hle; omega
        obtain ⟨c0, c1⟩ := HL.out.cells.two
        have hls := HL.out.cells.1
        have HLE := Lib.hid hle
        clear hAl hrow hch hcw hst HT hle hmy
        obtain ⟨i0, hi0, hz0, hz1, hz2⟩ := info_of Try.infoID
        cases q : posB l cur with
        | none =>
          have HQ := Lib.hid q
          have HEnd := Lib.hid (show chainC l x = pre ++ [cur] by rw [HE.out, chainB_none q])
          clear q
          go_wp2_with (first | (refine wpList_app _ rfl _ _ _ rfl base 25 i0 _ 2 16 Try.underlying31 hi0 hz0 hz1 hz2 rfl (by omega) _ pre.length (idsCells pre) rfl (HR.out.alloc _) _ _ 1 1 (idsCells [cur]) rfl rfl (ids_one_at (HasCells.new _ _ _ _ rfl)) (idsCells_one _) (by unfold maxLen; omega) (by omega) (by have := HL.out.size; simp; omega) ?_; intro v' w2 own g _; rw [idsCells_append] at own; have HL2 := Lib.hid ((HL.out.alloc _).grown g (fun k hk => (HR.out.lt k hk).1)); have HR2 := Lib.hid own; clear g own c0 c1 hls; obtain ⟨c0, c1⟩ := HL2.out.cells.two; have hls := HL2.out.cells.1) | (at_lookup; refine wpList_place_miss _ rfl _ _ rfl _ b m D rfl HL2.out.map cur rfl HWc.out HQ.out ?_))
          simp only [Exit.jump]
          obtain ⟨A', c', rfl⟩ := row_slice' HR2.out
          go_ret
          rw [HEnd.out]
          exact ⟨A', c', by simp, CellsAt.of_own (by simpa using HR2.out), fun ad h => Nat.le_trans (Nat.le_of_lt HL2.out.zb) (row_new' HR2.out h), HL2.out.kept⟩
        | some i =>
          have hi := posB_lt q
          have HQ := Lib.hid q
          have HEnd := Lib.hid (show chainB l cur = cur :: chainB l l[i].p from chainB_some HMy.out q)
          have HRk := Lib.hid (show rank l l[i].p < rank l cur by have := rank_parent HMy.out hi; rw [rank_some q]; omega)
          have HPw := Lib.hid (parent_wf HW.out hi)
          have HPs := Lib.hid (may_stands HMy.out hi)
          obtain ⟨z, o, rfl, hbz, _, _, d2', d3', _⟩ := block_at HA0.out hi
          have D2 := Lib.hid d2'
          have D3 := Lib.hid d3'
          clear q d2' d3'
          generalize l[i].p = p at *
          go_wp2_with (first | (refine wpList_app _ rfl _ _ _ rfl base 25 i0 _ 2 16 Try.underlying31 hi0 hz0 hz1 hz2 rfl (by omega) _ pre.length (idsCells pre) rfl (HR.out.alloc _) _ _ 1 1 (idsCells [cur]) rfl rfl (ids_one_at (HasCells.new _ _ _ _ rfl)) (idsCells_one _) (by unfold maxLen; omega) (by omega) (by have := HL.out.size; simp; omega) ?_; intro v' w2 own g _; rw [idsCells_append] at own; have HL2 := Lib.hid ((HL.out.alloc _).grown g (fun k hk => (HR.out.lt k hk).1)); have HR2 := Lib.hid own; clear g own c0 c1 hls; obtain ⟨c0, c1⟩ := HL2.out.cells.two; have hls := HL2.out.cells.1; have f0 := HL2.out.f0; have f1 := HL2.out.f1; have d2 := (HL2.out.kept.cell (p := ⟨z, o + i * 5 + 2, none⟩) hbz).trans D2.out; have d3 := (HL2.out.kept.cell (p := ⟨z, o + i * 5 + 3, none⟩) hbz).trans D3.out) | (at_lookup; refine wpList_place_hit _ rfl _ _ rfl _ b m D rfl HL2.out.map cur rfl HWc.out i HQ.out ?_))
          go_step3
          have hj : ChainAt l x w b p v' ((w2.setCell ⟨w.heap.size, 0, none⟩ (.int .u64 p.1)).setCell ⟨w.heap.size, 1, none⟩ (.int .u64 p.2)) := by
            refine ⟨base, m, D, pre ++ [cur], HL2.out.set p, row_set (by simpa using HR2.out) HL2.out.zb p, ?_, ?_, HPw.out, HPs.out, HMy.out⟩
            · rw [HE.out, HEnd.out, List.append_assoc]; rfl
            · have := HLE.out; rw [HEnd.out] at this; simp at this ⊢; omega
          exact ⟨rfl, ⟨b, p, v', _, _, _, _, _, _, _, _, _, _, _, _, _, _, _, _, _, _, rfl, hj⟩⟩
    · have HR := Lib.hid (chainC_no (l := l) (x := x) (fun h => by rw [hm] at h; cases h))
      have HK := Lib.hid (((Kept.refl w).alloc _).trans k1)
      clear hm k1
      go_wp2_with fail
      simp only [Exit.jump]
      go_ret
      rw [HR.out]
      exact IdsNew.nil HK.out
  · rintro a' w' ⟨b, cur, v, u8, u9, u23, u24, u25, u26, u27, u28, u29, u30, u31, u32, u33, u34, u35, u36, u37, u38, rfl, hAt⟩
    have HT := Lib.hid hAt
    clear hAt HP HC HF0
    obtain ⟨base, m, D, pre, hAl, hrow, hch, hle, hcw, hst, hmy⟩ := HT.out
    have HL := Lib.hid hAl
    have HR := Lib.hid hrow
    have HE := Lib.hid hch
    have HWc := Lib.hid hcw
    have HMy := Lib.hid hmy
    have hpl : pre.length + 1 ≤ l.length + 1 := by obtain ⟨r, e⟩ := chainB_head l cur; rw [e] at hle; simp at hle; omega
    obtain ⟨c0, c1⟩ := HL.out.cells.two
    have hls := HL.out.cells.1
    have HLE := Lib.hid hle
    clear hAl hrow hch hcw hst HT hle hmy
    obtain ⟨i0, hi0, hz0, hz1, hz2⟩ := info_of Try.infoID
    cases q : posB l cur with
    | none =>
      have HQ := Lib.hid q
      have HEnd := Lib.hid (show chainC l x = pre ++ [cur] by rw [HE.out, chainB_none q])
      clear q
      go_wp2_with (first | (refine wpList_app _ rfl _ _ _ rfl base 25 i0 _ 2 16 Try.underlying31 hi0 hz0 hz1 hz2 rfl (by omega) _ pre.length (idsCells pre) rfl (HR.out.alloc _) _ _ 1 1 (idsCells [cur]) rfl rfl (ids_one_at (HasCells.new _ _ _ _ rfl)) (idsCells_one _) (by unfold maxLen; omega) (by omega) (by have := HL.out.size; simp; omega) ?_; intro v' w2 own g _; rw [idsCells_append] at own; have HL2 := Lib.hid ((HL.out.alloc _).grown g (fun k hk => (HR.out.lt k hk).1)); have HR2 := Lib.hid own; clear g own c0 c1 hls; obtain ⟨c0, c1⟩ := HL2.out.cells.two; have hls := HL2.out.cells.1) | (at_lookup; refine wpList_place_miss _ rfl _ _ rfl _ b m D rfl HL2.out.map cur rfl HWc.out HQ.out ?_))
      simp only [Exit.jump]
      obtain ⟨A', c', rfl⟩ := row_slice' HR2.out
      go_ret
      rw [HEnd.out]
      exact ⟨A', c', by simp, CellsAt.of_own (by simpa using HR2.out), fun ad h => Nat.le_trans (Nat.le_of_lt HL2.out.zb) (row_new' HR2.out h), HL2.out.kept⟩
    | some i =>
      have hi := posB_lt q
      have HQ := Lib.hid q
      have HEnd := Lib.hid (show chainB l cur = cur :: chainB l l[i].p from chainB_some HMy.out q)
      have HRk := Lib.hid (show rank l l[i].p < rank l cur by have := rank_parent HMy.out hi; rw [rank_some q]; omega)
      have HPw := Lib.hid (parent_wf HW.out hi)
      have HPs := Lib.hid (may_stands HMy.out hi)
      obtain ⟨z, o, rfl, hbz, _, _, d2', d3', _⟩ := block_at HA0.out hi
      have D2 := Lib.hid d2'
      have D3 := Lib.hid d3'
      clear q d2' d3'
      generalize l[i].p = p at *
      go_wp2_with (first | (refine wpList_app _ rfl _ _ _ rfl base 25 i0 _ 2 16 Try.underlying31 hi0 hz0 hz1 hz2 rfl (by omega) _ pre.length (idsCells pre) rfl (HR.out.alloc _) _ _ 1 1 (idsCells [cur]) rfl rfl (ids_one_at (HasCells.new _ _ _ _ rfl)) (idsCells_one _) (by unfold maxLen; omega) (by omega) (by have := HL.out.size; simp; omega) ?_; intro v' w2 own g _; rw [idsCells_append] at own; have HL2 := Lib.hid ((HL.out.alloc _).grown g (fun k hk => (HR.out.lt k hk).1)); have HR2 := Lib.hid own; clear g own c0 c1 hls; obtain ⟨c0, c1⟩ := HL2.out.cells.two; have hls := HL2.out.cells.1; have f0 := HL2.out.f0; have f1 := HL2.out.f1; have d2 := (HL2.out.kept.cell (p := ⟨z, o + i * 5 + 2, none⟩) hbz).trans D2.out; have d3 := (HL2.out.kept.cell (p := ⟨z, o + i * 5 + 3, none⟩) hbz).trans D3.out) | (at_lookup; refine wpList_place_hit _ rfl _ _ rfl _ b m D rfl HL2.out.map cur rfl HWc.out i HQ.out ?_))
      go_step3
      have hj : ChainAt l x w b p v' ((w2.setCell ⟨w.heap.size, 0, none⟩ (.int .u64 p.1)).setCell ⟨w.heap.size, 1, none⟩ (.int .u64 p.2)) := by
        refine ⟨base, m, D, pre ++ [cur], HL2.out.set p, row_set (by simpa using HR2.out) HL2.out.zb p, ?_, ?_, HPw.out, HPs.out, HMy.out⟩
        · rw [HE.out, HEnd.out, List.append_assoc]; rfl
        · have := HLE.out; rw [HEnd.out] at this; simp at this ⊢; omega
      refine ⟨rfl, ⟨b, p, v', _, _, _, _, _, _, _, _, _, _, _, _, _, _, _, _, _, _, rfl, hj⟩, ?_⟩
      show rank l (curOf w.heap.size _) < rank l (curOf w.heap.size _)
      rw [curOf_has (HL2.out.set p).cells, curOf_has HL.out.cells]
      exact HRk.out

end Go.Proofs.Ytepgbnojbomicaa
