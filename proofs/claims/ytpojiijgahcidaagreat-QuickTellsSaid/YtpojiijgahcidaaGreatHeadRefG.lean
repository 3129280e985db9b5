/-
  The contracts of MayIn and KidsIn of the given package marigoldref06.
  The contracts of UnderIn of the given package marigoldref06, and of OnIn, On and All of marigoldref08.
  The contract of BestIn of the given package marigoldref09.
  The contracts of Best and Head of the given package marigoldref09.
-/
import Derived.WalkMore
import Derived.Test.YtpojiijgahcidaaGreatTreeRefG
import Derived.Test.YtpojiijgahcidaaGreatWeighG
import Derived.Test.YtpojiijgahcidaaGreatDutyRefG
import Derived.Test.YtpojiijgahcidaaGreatMixRefG
import Derived.Test.YtpojiijgahcidaaGreatGround
namespace Go.Proofs.YtpojiijgahcidaaGreat
set_option maxRecDepth 100000
set_option linter.unusedVariables false
set_option linter.unusedSimpArgs false
section
set_option linter.unusedSimpArgs false
set_option linter.unusedVariables false
open Go.ChangeShapes Go.WideShapes Go.ChangeAt Go.RowKit

set_option maxHeartbeats 800000 in
theorem refMayIn6_any (A : Option Addr) (c : Nat) (l : List Bk) (hl : l.length ≤ 1000000) (N : Option Addr) (cn : Nat) (ns : List Id2) (hns : ns = namesB l) (hcn : ns.length ≤ cn) (w : World) (hA : CellsAt w w.heap.size A (blockCells l)) (hN : CellsAt w w.heap.size N (idsCells ns)) :
    Calls Tryz.prog 62 #[.slice A l.length c, .slice N ns.length cn] w fun e w' => e = .returned (.bool (mayB l)) ∧ Kept w w' := by
  have HM := Lib.hid (refMayIn_any A c l hl N cn ns hns hcn w hA hN)
  clear hA hN hns hcn
  generalize ns.length = n at *
  go_enter Tryz.func62, Tryz.ntmps62
  go_wp2_with fail
  refine HM.out.mono ?_
  rintro e W ⟨rfl, k1⟩
  have K1 := Lib.hid k1
  clear k1
  go_wp2_with fail
  go_ret
  exact ⟨rfl, K1.out⟩
end

section
open Go.ChangeShapes Go.WideShapes Go.ChangeAt Go.RowKit

/-- What stays along a way down: the id's two cells in a block of its own, all that lay in W. -/
structure Down (W : World) (z : Nat) (cur : Id2) (w' : World) : Prop where
  cells : HasCells w' z [.int .u64 cur.1, .int .u64 cur.2]
  f0 : w'.frozen? ⟨z, 0, none⟩ = false
  f1 : w'.frozen? ⟨z, 1, none⟩ = false
  kept : Kept W w'
theorem Down.keep {W : World} {z : Nat} {cur : Id2} {w' w2 : World} (h : Down W z cur w') (k : Kept w' w2) : Down W z cur w2 :=
  ⟨h.cells.kept k, (k.frozen h.cells.1).trans h.f0, (k.frozen h.cells.1).trans h.f1, h.kept.trans k⟩
theorem Down.set {W : World} {z : Nat} {cur : Id2} {w' : World} (hz : W.heap.size ≤ z) (h : Down W z cur w') (p : Id2) : Down W z p ((w'.setCell ⟨z, 0, none⟩ (.int .u64 p.1)).setCell ⟨z, 1, none⟩ (.int .u64 p.2)) where
  cells := by
    refine ⟨by simpa using h.cells.1, fun j u hu => ?_⟩
    have c0 := h.cells.at0
    have c1 := h.cells.at1
    match j, hu with
    | 0, hu =>
      cases hu
      rw [World.cell?_setCell_other _ _ _ _ (by simp), World.cell?_setCell_same' _ _ _ (by simp [c0])]
    | 1, hu =>
      cases hu
      rw [World.cell?_setCell_same' _ _ _ (by rw [World.cell?_setCell_other _ _ _ _ (by simp)]; simp [c1])]
    | j + 2, hu => simp at hu
  f0 := by simpa using h.f0
  f1 := by simpa using h.f1
  kept := (h.kept.setCell (p := ⟨z, 0, none⟩) hz _).setCell (p := ⟨z, 1, none⟩) hz _
theorem down_other {z : Nat} {w' : World} {y : Nat} (hy : y ≠ z) {xs : List Value} (h : HasCells w' y xs) (p : Id2) : HasCells ((w'.setCell ⟨z, 0, none⟩ (.int .u64 p.1)).setCell ⟨z, 1, none⟩ (.int .u64 p.2)) y xs :=
  ⟨by simpa using h.1, fun j u hu => by
    rw [World.cell?_setCell_other _ _ _ _ (fun q => hy (congrArg Addr.block q).symm), World.cell?_setCell_other _ _ _ _ (fun q => hy (congrArg Addr.block q).symm)]
    exact h.2 j u hu⟩

theorem posV_none' {l : List Bk} {x : Id2} (q : posB l x = none) : posV (namesB l) x = -1 := by
  unfold posV
  have q' : posN (namesB l) x = none := q
  rw [q']
theorem posV_some' {l : List Bk} {x : Id2} {i : Nat} (q : posB l x = some i) : posV (namesB l) x = (i : Int) := by
  unfold posV
  have q' : posN (namesB l) x = some i := q
  rw [q']
theorem under_end {l : List Bk} (h : mayB l = true) {x : Id2} (hs : standsB l x = true) (q : posB l x = none) (low : Id2) : underC l low x = sameI x low := by
  rcases standsB_iff.1 hs with ⟨i, e⟩ | e
  · rw [q] at e; cases e
  · subst e; rw [under_zid h]; rfl
theorem under_down {l : List Bk} (h : mayB l = true) {x : Id2} {i : Nat} (q : posB l x = some i) {low : Id2} (e : ¬ x = low) : underC l low x = underC l low (l[i]'(posB_lt q)).p := by
  have hi := posB_lt q
  have := under_step h hi low
  rw [posB_name q, decide_eq_false (fun r => e r.symm), Bool.false_or] at this
  exact this

attribute [local go_sem high] eqIdN eqIdZ in
set_option maxRecDepth 100000 in
set_option maxHeartbeats 1600000 in
theorem refUnderIn_any (A : Option Addr) (c : Nat) (l : List Bk) (hl : l.length ≤ 1000000) (hm : mayB l = true) (N : Option Addr) (cn : Nat) (low x : Id2) (w : World)
    (hA : CellsAt w w.heap.size A (blockCells l)) (hN : CellsAt w w.heap.size N (idsCells (namesB l))) :
    Calls Tryz.prog 88 #[.slice A l.length c, .slice N (namesB l).length cn, .agg #[.int .u64 low.1, .int .u64 low.2], .agg #[.int .u64 x.1, .int .u64 x.2]] w fun e w' => e = .returned (.bool (underC l low x)) ∧ Kept w w' := by
  have HK := Lib.hid (((Kept.refl w).alloc (.cells #[.int .u64 low.1, .int .u64 low.2] 31)).alloc (.cells #[.int .u64 x.1, .int .u64 x.2] 31))
  have HA := Lib.hid hA
  have HN := Lib.hid hN
  have HC := Lib.hid ((HasCells.new w #[.int .u64 low.1, .int .u64 low.2] 31 w.heap.size rfl).alloc (.cells #[.int .u64 x.1, .int .u64 x.2] 31))
  have HD := Lib.hid (show Down w (w.heap.size + 1) x ((w.alloc (.cells #[.int .u64 low.1, .int .u64 low.2] 31)).alloc (.cells #[.int .u64 x.1, .int .u64 x.2] 31)) from ⟨HasCells.new _ #[.int .u64 x.1, .int .u64 x.2] 31 (w.heap.size + 1) (by simp), by simp [go_sem], by simp [go_sem], HK.out⟩)
  have HM := Lib.hid hm
  have hnl : (namesB l).length ≤ 10000000 := by rw [namesB_length]; omega
  have hzy : w.heap.size ≠ w.heap.size + 1 := by omega
  have hwy : w.heap.size ≤ w.heap.size + 1 := by omega
  clear hA hN hm
  go_enter Tryz.func88, Tryz.ntmps88
  go_wp2_with fail
  generalize (w.alloc (.cells #[.int .u64 low.1, .int .u64 low.2] 31)).alloc (.cells #[.int .u64 x.1, .int .u64 x.2] 31) = W at *
  generalize w.heap.size + 1 = y at *
  obtain ⟨z, hz⟩ : ∃ z, z = w.heap.size := ⟨_, rfl⟩
  rw [← hz] at HC hzy ⊢
  clear hz
  refine (refAtT_any N cn (namesB l) hnl x W (HN.out.kept HK.out)).mono ?_
  rintro e W1 ⟨rfl, k1⟩
  have HD1 := Lib.hid (HD.out.keep k1)
  have HC1 := Lib.hid (HC.out.kept k1)
  clear k1 HD HC HK
  obtain ⟨d0, d1⟩ := HD1.out.cells.two
  obtain ⟨c0, c1⟩ := HC1.out.two
  cases hs : standsB l x with
  | false =>
    have HU := Lib.hid (under_head (x := low) hs)
    have hp : posV (namesB l) x = -1 := by
      cases q : posB l x with
      | none => exact posV_none' q
      | some i => rw [standsB_iff.2 (Or.inl ⟨i, q⟩)] at hs; cases hs
    have hz : isZ x = false := by
      cases q : isZ x with
      | false => rfl
      | true => rw [standsB_iff.2 (Or.inr (of_decide_eq_true q))] at hs; cases hs
    rw [hp]
    clear hs hp
    go_wp2_with fail
    go_ret
    exact ⟨by rw [HU.out]; rfl, HD1.out.kept⟩
  | true =>
    have HS := Lib.hid hs
    have hcase : ∃ X : Int, posV (namesB l) x = X ∧ (X < 0 → isZ x = true) := ⟨_, rfl, fun h => by
      rcases standsB_iff.1 hs with ⟨i, q⟩ | q
      · rw [posV_some' q] at h
        omega
      · exact decide_eq_true q⟩
    obtain ⟨X, hX, hXz⟩ := hcase
    have HX := Lib.hid hX
    rw [hX]
    clear hs hX
    by_cases hneg : X < 0
    · have hz := hXz hneg
      clear hXz
      go_wp2_with fail
      go_loopw [9] (fun i w' => ∃ cur : Id2, i = .int .i64 (posV (namesB l) cur) ∧ Down w y cur w' ∧ HasCells w' z [.int .u64 low.1, .int .u64 low.2] ∧ standsB l cur = true ∧ underC l low cur = underC l low x) (fun i _ => (intOf i + 1).toNat)
      case atStart => exact ⟨x, by rw [HX.out], HD1.out, HC1.out, HS.out, rfl⟩
      case round =>
        obtain ⟨cur, rfl, hDn, hLow, hst, hun⟩ := hrel
        have HDn := Lib.hid hDn
        have HLw := Lib.hid hLow
        have HUn := Lib.hid hun
        have HSt := Lib.hid hst
        clear hDn hLow hun hst HS HX HD1 HC1
        obtain ⟨c0, c1⟩ := HLw.out.two
        obtain ⟨d0, d1⟩ := HDn.out.cells.two
        have f0 := HDn.out.f0
        have f1 := HDn.out.f1
        have hyl := HDn.out.cells.1
        have hzl := HLw.out.1
        cases q : posB l cur with
        | none =>
          have HE := Lib.hid (HUn.out.symm.trans (under_end HM.out HSt.out q low))
          rw [posV_none' q]
          clear q
          go_wp2_with fail
          go_ret
          exact ⟨by rw [HE.out]; rfl, HDn.out.kept⟩
        | some i =>
          have hi := posB_lt q
          by_cases e : cur = low
          · have hs := sameI_yes e
            have HE := Lib.hid (show underC l low x = true by rw [← HUn.out, e]; exact under_own HM.out (e ▸ HSt.out))
            rw [posV_some' q]
            have hi0 : (0 : Int) ≤ (i : Int) := by omega
            clear q e
            go_wp2_with fail
            go_ret
            exact ⟨by rw [HE.out]; first | rfl | simp, HDn.out.kept⟩
          · have hs := sameI_no e
            have HE := Lib.hid (show underC l low l[i].p = underC l low x from (under_down HM.out q e).symm.trans HUn.out)
            have HPs := Lib.hid (may_stands HM.out hi)
            have HRk := Lib.hid (show (posV (namesB l) l[i].p + 1).toNat < ((i : Int) + 1).toNat from by
              have h1 := rank_parent HM.out hi
              have h2 := posV_rank l l[i].p
              omega)
            obtain ⟨z2, o2, rfl, hbz, _, _, g2, g3, _⟩ := block_at (HA.out.kept HDn.out.kept) hi
            have hi0 : (0 : Int) ≤ (i : Int) := by omega
            rw [posV_some' q]
            clear q e
            generalize l[i].p = p at *
            have HDs := Lib.hid (HDn.out.set hwy p)
            have HLs := Lib.hid (down_other hzy HLw.out p)
            obtain ⟨s0, s1⟩ := HDs.out.cells.two
            go_wp2_with fail
            refine (refAtT_any N cn (namesB l) hnl p _ (HN.out.kept HDs.out.kept)).mono ?_
            rintro e W5 ⟨rfl, k5⟩
            have HD5 := Lib.hid (HDs.out.keep k5)
            have HL5 := Lib.hid (HLs.out.kept k5)
            clear k5 c0 c1 d0 d1 f0 f1 g2 g3 s0 s1
            go_wp2_with fail
            go_roundw
            case rel => exact ⟨p, rfl, HD5.out, HL5.out, HPs.out, HE.out⟩
            case measure => simpa [intOf] using HRk.out
    · clear hXz
      go_wp2_with fail
      go_loopw [9] (fun i w' => ∃ cur : Id2, i = .int .i64 (posV (namesB l) cur) ∧ Down w y cur w' ∧ HasCells w' z [.int .u64 low.1, .int .u64 low.2] ∧ standsB l cur = true ∧ underC l low cur = underC l low x) (fun i _ => (intOf i + 1).toNat)
      case atStart => exact ⟨x, by rw [HX.out], HD1.out, HC1.out, HS.out, rfl⟩
      case round =>
        obtain ⟨cur, rfl, hDn, hLow, hst, hun⟩ := hrel
        have HDn := Lib.hid hDn
        have HLw := Lib.hid hLow
        have HUn := Lib.hid hun
        have HSt := Lib.hid hst
        clear hDn hLow hun hst HS HX HD1 HC1
        obtain ⟨c0, c1⟩ := HLw.out.two
        obtain ⟨d0, d1⟩ := HDn.out.cells.two
        have f0 := HDn.out.f0
        have f1 := HDn.out.f1
        have hyl := HDn.out.cells.1
        have hzl := HLw.out.1
        cases q : posB l cur with
        | none =>
          have HE := Lib.hid (HUn.out.symm.trans (under_end HM.out HSt.out q low))
          rw [posV_none' q]
          clear q
          go_wp2_with fail
          go_ret
          exact ⟨by rw [HE.out]; rfl, HDn.out.kept⟩
        | some i =>
          have hi := posB_lt q
          by_cases e : cur = low
          · have hs := sameI_yes e
            have HE := Lib.hid (show underC l low x = true by rw [← HUn.out, e]; exact under_own HM.out (e ▸ HSt.out))
            rw [posV_some' q]
            have hi0 : (0 : Int) ≤ (i : Int) := by omega
            clear q e
            go_wp2_with fail
            go_ret
            exact ⟨by rw [HE.out]; first | rfl | simp, HDn.out.kept⟩
          · have hs := sameI_no e
            have HE := Lib.hid (show underC l low l[i].p = underC l low x from (under_down HM.out q e).symm.trans HUn.out)
            have HPs := Lib.hid (may_stands HM.out hi)
            have HRk := Lib.hid (show (posV (namesB l) l[i].p + 1).toNat < ((i : Int) + 1).toNat from by
              have h1 := rank_parent HM.out hi
              have h2 := posV_rank l l[i].p
              omega)
            obtain ⟨z2, o2, rfl, hbz, _, _, g2, g3, _⟩ := block_at (HA.out.kept HDn.out.kept) hi
            have hi0 : (0 : Int) ≤ (i : Int) := by omega
            rw [posV_some' q]
            clear q e
            generalize l[i].p = p at *
            have HDs := Lib.hid (HDn.out.set hwy p)
            have HLs := Lib.hid (down_other hzy HLw.out p)
            obtain ⟨s0, s1⟩ := HDs.out.cells.two
            go_wp2_with fail
            refine (refAtT_any N cn (namesB l) hnl p _ (HN.out.kept HDs.out.kept)).mono ?_
            rintro e W5 ⟨rfl, k5⟩
            have HD5 := Lib.hid (HDs.out.keep k5)
            have HL5 := Lib.hid (HLs.out.kept k5)
            clear k5 c0 c1 d0 d1 f0 f1 g2 g3 s0 s1
            go_wp2_with fail
            go_roundw
            case rel => exact ⟨p, rfl, HD5.out, HL5.out, HPs.out, HE.out⟩
            case measure => simpa [intOf] using HRk.out

/-! ### MayIn -/
set_option maxHeartbeats 400000 in
theorem refMayE_any (A : Option Addr) (c : Nat) (l : List Bk) (hl : l.length ≤ 1000000) (N : Option Addr) (cn : Nat) (hcn : (namesB l).length ≤ cn) (w : World) (hA : CellsAt w w.heap.size A (blockCells l)) (hN : CellsAt w w.heap.size N (idsCells (namesB l))) :
    Calls Tryz.prog 62 #[.slice A l.length c, .slice N (namesB l).length cn] w fun e w' => e = .returned (.bool (mayB l)) ∧ Kept w w' := by
  have HM := Lib.hid (refMayIn_any A c l hl N cn (namesB l) rfl hcn w hA hN)
  clear hA hN hcn
  generalize (namesB l).length = n at *
  go_enter Tryz.func62, Tryz.ntmps62
  go_wp2_with fail
  refine HM.out.mono ?_
  rintro e W1 ⟨rfl, k1⟩
  have K1 := Lib.hid k1
  clear k1
  go_wp2_with fail
  go_ret
  exact ⟨rfl, K1.out⟩

/-! ### OnIn, On, All -/
theorem keepQ {W w w' : World} {a b i0 i1 j0 j1 : Nat} {x0 x1 y0 y1 : Value} (ha : a < W.heap.size) (hb : b < W.heap.size)
    (h : (w.cell? ⟨a, i0, none⟩ = some x0 ∧ w.cell? ⟨a, i1, none⟩ = some x1) ∧ (w.cell? ⟨b, j0, none⟩ = some y0 ∧ w.cell? ⟨b, j1, none⟩ = some y1) ∧ Kept W w) (k : Kept w w') :
    (w'.cell? ⟨a, i0, none⟩ = some x0 ∧ w'.cell? ⟨a, i1, none⟩ = some x1) ∧ (w'.cell? ⟨b, j0, none⟩ = some y0 ∧ w'.cell? ⟨b, j1, none⟩ = some y1) ∧ Kept W w' := by
  obtain ⟨⟨h0, h1⟩, ⟨g0, g1⟩, hk⟩ := h
  have ha' : a < w.heap.size := Nat.lt_of_lt_of_le ha hk.size_le
  have hb' : b < w.heap.size := Nat.lt_of_lt_of_le hb hk.size_le
  exact ⟨⟨(k.cell (p := ⟨a, i0, none⟩) ha').trans h0, (k.cell (p := ⟨a, i1, none⟩) ha').trans h1⟩, ⟨(k.cell (p := ⟨b, j0, none⟩) hb').trans g0, (k.cell (p := ⟨b, j1, none⟩) hb').trans g1⟩, hk.trans k⟩
set_option maxRecDepth 100000 in
set_option maxHeartbeats 1600000 in
theorem refOnIn_any (A : Option Addr) (c : Nat) (k : Cf) (L : Option Addr) (cl : Nat) (l : List Bk) (N : Option Addr) (cn : Nat) (V : Option Addr) (cv : Nat) (v : List Vt) (x : Id2) (w : World)
    (hk : k.ws.length ≤ 1000) (hl : l.length ≤ 1000000) (hv : v.length ≤ 100000) (hm : mayB l = true) (hA : CellsAt w w.heap.size A (intCells k.ws)) (hL : CellsAt w w.heap.size L (blockCells l)) (hN : CellsAt w w.heap.size N (idsCells (namesB l))) (hV : CellsAt w w.heap.size V (votesCells v)) :
    Calls Tryz.prog 63 #[.agg #[.slice A k.ws.length c, .int .u64 k.seed, .int .i64 k.ep, .int .i64 k.nu, .int .i64 k.de], .slice L l.length cl, .slice N (namesB l).length cn, .slice V v.length cv, .agg #[.int .u64 x.1, .int .u64 x.2]] w fun e w' => e = .returned (.int .i64 (onC k l v x)) ∧ Kept w w' := by
  have HK := Lib.hid (((Kept.refl w).alloc (.cells #[.slice A k.ws.length c, .int .u64 k.seed, .int .i64 k.ep, .int .i64 k.nu, .int .i64 k.de] 25)).alloc (.cells #[.int .u64 x.1, .int .u64 x.2] 31))
  have HC := Lib.hid ((HasCells.new w #[.slice A k.ws.length c, .int .u64 k.seed, .int .i64 k.ep, .int .i64 k.nu, .int .i64 k.de] 25 w.heap.size rfl).alloc (.cells #[.int .u64 x.1, .int .u64 x.2] 31))
  have HI := Lib.hid (HasCells.new (w.alloc (.cells #[.slice A k.ws.length c, .int .u64 k.seed, .int .i64 k.ep, .int .i64 k.nu, .int .i64 k.de] 25)) #[.int .u64 x.1, .int .u64 x.2] 31 (w.heap.size + 1) (by simp))
  have HA := Lib.hid (hA.kept HK.out)
  have HL := Lib.hid (hL.kept HK.out)
  have HV := Lib.hid (hV.kept HK.out)
  have HN := Lib.hid (hN.kept HK.out)
  have HM := Lib.hid hm
  have HOn := Lib.hid (show onC k l v x = weightC k (whoC l v x) from rfl)
  have HLen := Lib.hid (whoC_length l v x)
  clear hA hL hV hN hm
  go_enter Tryz.func63, Tryz.ntmps63
  go_wp2_with fail
  generalize (w.alloc (.cells #[.slice A k.ws.length c, .int .u64 k.seed, .int .i64 k.ep, .int .i64 k.nu, .int .i64 k.de] 25)).alloc (.cells #[.int .u64 x.1, .int .u64 x.2] 31) = W at *
  generalize w.heap.size + 1 = y at *
  generalize w.heap.size = z at *
  go_loopw [11, 12] (fun u i w' => ∃ j : Nat, j ≤ v.length ∧ i = .int .i64 j ∧ Ints W (whoC l (v.take j) x) u w') (fun _ i _ => v.length - (intOf i).toNat)
  case atStart => exact ⟨0, by omega, rfl, Ints.nil W⟩
  case round =>
    obtain ⟨j, hj, rfl, hIn⟩ := hrel
    have HIn := Lib.hid hIn
    clear hIn
    by_cases hlt : j < v.length
    · obtain ⟨z1, o1, rfl, hb, c0, c1, c2, c3⟩ := vote_at (HV.out.kept HIn.out.2) hlt
      obtain ⟨d0, d1⟩ := (HI.out.kept HIn.out.2).two
      have hyr := (HI.out.kept HIn.out.2).1
      have HLe := Lib.hid (who_le l v x j)
      have HUI := Lib.hid (fun w' (hk : Kept wr w') => refUnderIn_any L cl l hl HM.out N cn x v[j].p w' (HL.out.kept (HIn.out.2.trans hk)) (HN.out.kept (HIn.out.2.trans hk)))
      have HH := Lib.hid (who_hit (l := l) (x := x) hlt)
      have HMi := Lib.hid (who_miss (l := l) (x := x) hlt)
      have hzr : z1 < wr.heap.size := hb
      generalize v[j] = q at *
      go_wp2_with fail
      go_region_held3 (fun w' => (w'.cell? ⟨y, 0, none⟩ = some (.int .u64 x.1) ∧ w'.cell? ⟨y, 1, none⟩ = some (.int .u64 x.2)) ∧ (w'.cell? ⟨z1, o1 + j * 4 + 2, none⟩ = some (.int .u64 q.p.1) ∧ w'.cell? ⟨z1, o1 + j * 4 + 3, none⟩ = some (.int .u64 q.p.2)) ∧ Kept wr w')
        (first | exact ⟨⟨d0, d1⟩, ⟨c2, c3⟩, Kept.refl _⟩ | exact ⟨⟨d0, d1⟩, ⟨c2, c3⟩, (Kept.refl _).drew⟩ | assumption | exact keepQ hyr hzr (by assumption) (by assumption))
        (first
          | (go_at_call 88; ((with_reducible refine (HUI.out _ (And.right (And.right (by assumption)))).mono ?_); rintro e w' ⟨rfl, kk⟩)))
      rename_i hh
      have hc0 : w'.cell? ⟨z1, o1 + j * 4, none⟩ = some (.int .i64 q.f) := (hh.2.2.cell (p := ⟨z1, o1 + j * 4, none⟩) hzr).trans c0
      have HI1 := Lib.hid (HIn.out.kept hh.2.2)
      have hll : (whoC l (v.take j) x).length + 1 ≤ 1000000 := by have := HLe.out; omega
      clear hh kk c0 c1 c2 c3 d0 d1 HUI HIn
      cases hu : underC l x q.p with
      | true =>
        have HNx := Lib.hid (HH.out hu)
        clear hu HH HMi
        go_wp2_with (refine wpList_ints _ rfl _ _ rfl W (whoC l (v.take j) x) _ rfl (HI1.out.alloc _) _ _ 1 1 [q.f] rfl rfl (CellsAt.new _ _ _ _ rfl) hll ?_; intro v' w2 HI2; rw [← HNx.out] at HI2)
        go_roundw
        case rel => exact ⟨j + 1, by omega, by go_num, HI2⟩
        case measure => simp [intOf]; omega
      | false =>
        have HNx := Lib.hid (HMi.out hu)
        clear hu HH HMi
        go_wp2_with fail
        go_roundw
        case rel => exact ⟨j + 1, by omega, by go_num, by rw [HNx.out]; exact HI1.out⟩
        case measure => simp [intOf]; omega
    · have hjl : j = v.length := by omega
      subst hjl
      have HT := Lib.hid (show v.take v.length = v from List.take_length)
      rw [HT.out] at HIn
      obtain ⟨G, cg, rfl⟩ := HIn.out.slice
      have HG := Lib.hid (HIn.out.cells rfl)
      have HK1 := Lib.hid (HK.out.trans HIn.out.2)
      have HA1 := Lib.hid (HA.out.kept HIn.out.2)
      obtain ⟨c0, c1, c2, c3, c4⟩ := (HC.out.kept HIn.out.2).five
      have hgl : (whoC l v x).length ≤ 1000000 := by have := HLen.out; omega
      have HQ := Lib.hid (refWeight_any A c k G (whoC l v x) cg wr hk hgl HA1.out HG.out)
      clear HT HIn HG HLen hgl
      generalize (whoC l v x).length = n at *
      go_wp2_with fail
      refine HQ.out.mono ?_
      rintro e W4 ⟨rfl, k4⟩
      have HK4 := Lib.hid (HK1.out.trans k4)
      clear k4 c0 c1 c2 c3 c4
      go_wp2_with fail
      go_ret
      exact ⟨by rw [HOn.out]; rfl, HK4.out⟩

set_option maxHeartbeats 1600000 in
theorem refOn_any (A : Option Addr) (c : Nat) (k : Cf) (L : Option Addr) (cl : Nat) (l : List Bk) (V : Option Addr) (cv : Nat) (v : List Vt) (x : Id2) (w : World)
    (hk : k.ws.length ≤ 1000) (hl : l.length ≤ 1000000) (hv : v.length ≤ 100000) (hwl : WfL l) (hA : CellsAt w w.heap.size A (intCells k.ws)) (hL : CellsAt w w.heap.size L (blockCells l)) (hV : CellsAt w w.heap.size V (votesCells v)) :
    Calls Tryz.prog 34 #[.agg #[.slice A k.ws.length c, .int .u64 k.seed, .int .i64 k.ep, .int .i64 k.nu, .int .i64 k.de], .slice L l.length cl, .slice V v.length cv, .agg #[.int .u64 x.1, .int .u64 x.2]] w fun e w' => e = .returned (.int .i64 (onC k l v x)) ∧ Kept w w' := by
  have HK := Lib.hid (((Kept.refl w).alloc (.cells #[.slice A k.ws.length c, .int .u64 k.seed, .int .i64 k.ep, .int .i64 k.nu, .int .i64 k.de] 25)).alloc (.cells #[.int .u64 x.1, .int .u64 x.2] 31))
  have HC := Lib.hid ((HasCells.new w #[.slice A k.ws.length c, .int .u64 k.seed, .int .i64 k.ep, .int .i64 k.nu, .int .i64 k.de] 25 w.heap.size rfl).alloc (.cells #[.int .u64 x.1, .int .u64 x.2] 31))
  have HI := Lib.hid (HasCells.new (w.alloc (.cells #[.slice A k.ws.length c, .int .u64 k.seed, .int .i64 k.ep, .int .i64 k.nu, .int .i64 k.de] 25)) #[.int .u64 x.1, .int .u64 x.2] 31 (w.heap.size + 1) (by simp))
  have HA := Lib.hid (hA.kept HK.out)
  have HL := Lib.hid (hL.kept HK.out)
  have HV := Lib.hid (hV.kept HK.out)
  have HWL := Lib.hid hwl
  clear hA hL hV hwl
  go_enter Tryz.func34, Tryz.ntmps34
  go_wp2_with fail
  generalize (w.alloc (.cells #[.slice A k.ws.length c, .int .u64 k.seed, .int .i64 k.ep, .int .i64 k.nu, .int .i64 k.de] 25)).alloc (.cells #[.int .u64 x.1, .int .u64 x.2] 31) = W at *
  generalize w.heap.size + 1 = y at *
  generalize w.heap.size = z at *
  refine (refNames_any L cl l hl HWL.out W HL.out).mono ?_
  rintro e W1 ⟨N, cn, rfl, hN, hcn, _, k1⟩
  have HN := Lib.hid hN
  have HCN := Lib.hid hcn
  have K1 := Lib.hid k1
  clear hN k1 hcn
  go_wp2_with fail
  refine (refMayE_any L cl l hl N cn HCN.out W1 (HL.out.kept K1.out) HN.out).mono ?_
  rintro e W2 ⟨rfl, k2⟩
  have K2 := Lib.hid (K1.out.trans k2)
  have HN2 := Lib.hid (HN.out.kept k2)
  obtain ⟨c0, c1, c2, c3, c4⟩ := (HC.out.kept K2.out).five
  obtain ⟨d0, d1⟩ := (HI.out.kept K2.out).two
  have HK2 := Lib.hid (HK.out.trans K2.out)
  clear k2 HN K1 HK
  cases hm : mayB l with
  | false =>
    have HE := Lib.hid (onC_none (k := k) (l := l) (v := v) (x := x) fun y _ => under_no hm x y.p)
    clear hm
    go_wp2_with fail
    go_ret
    exact ⟨by rw [HE.out]; rfl, HK2.out⟩
  | true =>
    have HO := Lib.hid (refOnIn_any A c k L cl l N cn V cv v x W2 hk hl hv hm (HA.out.kept K2.out) (HL.out.kept K2.out) HN2.out (HV.out.kept K2.out))
    clear hm
    generalize (namesB l).length = n at *
    go_wp2_with fail
    refine HO.out.mono ?_
    rintro e W3 ⟨rfl, k3⟩
    have HK3 := Lib.hid (HK2.out.trans k3)
    clear k3 c0 c1 c2 c3 c4 d0 d1
    go_wp2_with fail
    go_ret
    exact ⟨rfl, HK3.out⟩

theorem refOn_zero (A : Option Addr) (c : Nat) (k : Cf) (L : Option Addr) (cl : Nat) (l : List Bk) (V : Option Addr) (cv : Nat) (v : List Vt) (w : World)
    (hk : k.ws.length ≤ 1000) (hl : l.length ≤ 1000000) (hv : v.length ≤ 100000) (hwl : WfL l) (hA : CellsAt w w.heap.size A (intCells k.ws)) (hL : CellsAt w w.heap.size L (blockCells l)) (hV : CellsAt w w.heap.size V (votesCells v)) :
    Calls Tryz.prog 34 #[.agg #[.slice A k.ws.length c, .int .u64 k.seed, .int .i64 k.ep, .int .i64 k.nu, .int .i64 k.de], .slice L l.length cl, .slice V v.length cv, .agg #[.int .u64 0, .int .u64 0]] w fun e w' => e = .returned (.int .i64 (onC k l v zid)) ∧ Kept w w' :=
  refOn_any A c k L cl l V cv v zid w hk hl hv hwl hA hL hV
end

section
set_option linter.unusedSimpArgs false
set_option linter.unusedVariables false
open Go.ChangeShapes Go.WideShapes Go.ChangeAt Go.RowKit

theorem Down.new (W : World) : Down W W.heap.size zid (W.alloc (.cells #[.int .u64 0, .int .u64 0] 31)) :=
  ⟨HasCells.new W #[.int .u64 0, .int .u64 0] 31 W.heap.size rfl, by simp [go_sem], by simp [go_sem], (Kept.refl W).alloc _⟩
theorem better_yes {n m : Int} {x y : Id2} (h : n = m) (b : lessN y x = true) : betterB n m x y = true := by unfold betterB; rw [decide_eq_true h, b]; simp
theorem better_no {n m : Int} {x y : Id2} (h : ¬ m < n) (b : lessN y x = false) : betterB n m x y = false := by unfold betterB; rw [decide_eq_false h, b]; simp
end

section
set_option linter.unusedSimpArgs false
set_option linter.unusedVariables false
open Go.ChangeShapes Go.WideShapes Go.ChangeAt Go.RowKit

/-! ### Head -/
theorem CellsAt.setOther {w : World} {B : Nat} {A : Option Addr} {xs : List Value} (h : CellsAt w B A xs) {b : Nat} (hne : ∀ ad, A = some ad → b < ad.block) (i : Nat) (u : Value) : CellsAt (w.setCell ⟨b, i, none⟩ u) B A xs := fun j v hv => by
  obtain ⟨ad, e, hb, hc⟩ := h j v hv
  refine ⟨ad, e, hb, ?_⟩
  have h1 := hne ad e
  have h2 : (ad.add j).block = ad.block := block_add ad j
  rw [World.cell?_setCell_other _ _ _ _ (by intro e2; rw [← e2] at h2; simp at h2; omega)]
  exact hc
theorem next_names {k : Cf} {l : List Bk} {v : List Vt} {x : Id2} (h0 : 0 < (kidsC l x).length) : headX k l v (candOf (onC k l v) (bestTo (onC k l v) (kidsC l x))).2 = headX k l v x ∧ rank l x < rank l (candOf (onC k l v) (bestTo (onC k l v) (kidsC l x))).2 ∧ rank l (candOf (onC k l v) (bestTo (onC k l v) (kidsC l x))).2 ≤ l.length := by
  have hne : kidsC l x ≠ [] := fun e => by rw [e] at h0; simp at h0
  refine ⟨(best_step rfl hne).symm, ?_⟩
  cases e : bestTo (onC k l v) (kidsC l x) with
  | none => exact absurd (bestTo_none e) hne
  | some y => exact kid_rank (bestTo_mem e)
theorem leaf_names {k : Cf} {l : List Bk} {v : List Vt} {x : Id2} (h0 : ¬ 0 < (kidsC l x).length) : headX k l v x = x := best_leaf (List.eq_nil_of_length_eq_zero (by omega))
end

end Go.Proofs.YtpojiijgahcidaaGreat
