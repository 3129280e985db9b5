/-
  The contract of Join of the given package marigoldref16.
-/
import Derived.Test.YtacdiicnfoejoaaViewRefIn
import Derived.Test.YtacdiicnfoejoaaViewBox
import Derived.Test.YtacdiicnfoejoaaViewLaws
import Derived.Test.YtacdiicnfoejoaaUntil
import Derived.Test.YtacdiicnfoejoaaGround
namespace Go.Proofs.Ytacdiicnfoejoaa
set_option maxRecDepth 100000
set_option linter.unusedVariables false
set_option linter.unusedSimpArgs false
set_option linter.unusedSimpArgs false
set_option linter.unusedVariables false
open Go.ChangeShapes Go.WideShapes Go.ChangeAt Go.RowKit

theorem join_hit {α : Type} [DecidableEq α] {a l : List α} {j : Nat} (hj : j < l.length) (h : ¬ l[j] ∈ joinL a (l.take j)) : joinL a (l.take (j + 1)) = joinL a (l.take j) ++ [l[j]] := by
  rw [List.take_succ_eq_append_getElem hj, joinL_snoc, if_neg h]
theorem join_miss {α : Type} [DecidableEq α] {a l : List α} {j : Nat} (hj : j < l.length) (h : l[j] ∈ joinL a (l.take j)) : joinL a (l.take (j + 1)) = joinL a (l.take j) := by
  rw [List.take_succ_eq_append_getElem hj, joinL_snoc, if_pos h]
theorem take_mem {α : Type} [DecidableEq α] {q : List α} {n : Nat} {y : α} (hn : n < q.length) : decide (y ∈ q.take (n + 1)) = (decide (y ∈ q.take n) || decide (q[n] = y)) := by
  rw [List.take_succ_eq_append_getElem hn, Bool.eq_iff_iff, Bool.or_eq_true, decide_eq_true_iff, decide_eq_true_iff, decide_eq_true_iff, List.mem_append, List.mem_singleton]
  exact ⟨fun h => h.imp id Eq.symm, fun h => h.imp id Eq.symm⟩
attribute [local go_sem high] eqBd in
set_option maxRecDepth 100000 in
set_option maxHeartbeats 6400000 in
theorem refJoin_any (lA : Option Addr) (lc : Nat) (l : List Bk) (vA : Option Addr) (vc : Nat) (v : List Vt) (mA : Option Addr) (mc : Nat) (m : List Bk) (uA : Option Addr) (uc : Nat) (u : List Vt) (w : World) (hl : l.length ≤ 10000) (hv : v.length ≤ 10000) (hm : m.length ≤ 10000) (hu : u.length ≤ 10000) (hL : CellsAt w w.heap.size lA (blockCells l)) (hV : CellsAt w w.heap.size vA (votesCells v)) (hM : CellsAt w w.heap.size mA (blockCells m)) (hU : CellsAt w w.heap.size uA (votesCells u)) :
    Calls Try.prog 36 #[.agg #[.slice lA l.length lc, .slice vA v.length vc], .agg #[.slice mA m.length mc, .slice uA u.length uc]] w (ViewNew (joinW ⟨l, v⟩ ⟨m, u⟩) w) := by
  go_enter Try.func36, Try.ntmps36
  go_wp2_with fail
  have K0 := Lib.hid (((Kept.refl w).alloc (.cells #[.slice lA l.length lc, .slice vA v.length vc] 29)).alloc (.cells #[.slice mA m.length mc, .slice uA u.length uc] 29))
  have HL := Lib.hid (hL.kept K0.out)
  clear hL
  have HV := Lib.hid (hV.kept K0.out)
  clear hV
  have HM := Lib.hid (hM.kept K0.out)
  clear hM
  have HU := Lib.hid (hU.kept K0.out)
  clear hU
  have HB0 := Lib.hid ((HasCells.new w #[.slice lA l.length lc, .slice vA v.length vc] 29 (w.heap.size) (by simp)).alloc (.cells #[.slice mA m.length mc, .slice uA u.length uc] 29))
  have HB1 := Lib.hid (HasCells.new (w.alloc (.cells #[.slice lA l.length lc, .slice vA v.length vc] 29)) #[.slice mA m.length mc, .slice uA u.length uc] 29 (w.heap.size + 1) (by simp))
  have HSz4 := Lib.hid (show ((w.alloc (.cells #[.slice lA l.length lc, .slice vA v.length vc] 29)).alloc (.cells #[.slice mA m.length mc, .slice uA u.length uc] 29)).heap.size = w.heap.size + 1 + 1 by simp)
  have Hz4 := Lib.hid (show AtB (((w.alloc (.cells #[.slice lA l.length lc, .slice vA v.length vc] 29)).alloc (.cells #[.slice mA m.length mc, .slice uA u.length uc] 29)).alloc (.cells #[.slice none 0 0, .slice none 0 0] 29)) (w.heap.size + 1 + 1) #[.slice none 0 0, .slice none 0 0] 29 from HSz4.out ▸ AtB.new ((w.alloc (.cells #[.slice lA l.length lc, .slice vA v.length vc] 29)).alloc (.cells #[.slice mA m.length mc, .slice uA u.length uc] 29)) #[.slice none 0 0, .slice none 0 0] 29)
  generalize ((w.alloc (.cells #[.slice lA l.length lc, .slice vA v.length vc] 29)).alloc (.cells #[.slice mA m.length mc, .slice uA u.length uc] 29)) = W0 at *
  generalize w.heap.size + 1 + 1 = z4 at *
  generalize w.heap.size + 1 = z1 at *
  generalize w.heap.size = z0 at *
  have KB0 := Lib.hid (Kept.refl W0)
  have HG4 := Lib.hid (show W0.heap.size ≤ z4 from Nat.le_of_eq HSz4.out)
  have KW := Lib.hid ((Kept.refl W0).alloc (.cells #[.slice none 0 0, .slice none 0 0] 29))
  generalize (W0.alloc (.cells #[.slice none 0 0, .slice none 0 0] 29)) = Wm at *
  clear HSz4
  refine cut5 (α := Nat) (β := Option Addr) (γ := Nat) (δ := Option Addr) (ε := Nat) ?f (fun z A c B d w' => VBox W0 z ⟨l, v⟩ A c B d w' ∧ AtB w' z4 #[.slice none 0 0, .slice none 0 0] 29 ∧ z4 ≠ z) ?_ ?_
  rotate_left
  · intro Q1 hQ1
    have HC0 := Lib.hid (HB0.out.kept KW.out)
    obtain ⟨d0, d1⟩ := HC0.out.two
    have dz := HC0.out.1
    have HL0 := Lib.hid (HL.out.kept (KW.out.trans (Kept.refl Wm).drew))
    have HV0 := Lib.hid (HV.out.kept (KW.out.trans (Kept.refl Wm).drew))
    have HKd := Lib.hid (KW.out.trans (Kept.refl Wm).drew)
    have HZ0 := Lib.hid (Hz4.out.kept (Kept.refl Wm).drew)
    refine wp_region_noPanic ?_
    refine wp_region_held_drew (S := (fun w' => w'.cell? ⟨z0, 0, none⟩ = some (.slice lA l.length lc) ∧ w'.cell? ⟨z0, 1, none⟩ = some (.slice vA v.length vc) ∧ Kept Wm.drew w')) (by kernel_rfl) ?_ (fun hHeld => ?_)
    · exact ⟨d0, d1, Kept.refl _⟩
    have d0 : Wm.drew.cell? ⟨z0, 0, none⟩ = _ := d0
    have d1 : Wm.drew.cell? ⟨z0, 1, none⟩ = _ := d1
    have dz : z0 < Wm.drew.heap.size := dz
    generalize Wm.drew = V0 at *
    refine wpAnyH_take (i := 0) (v := ?_) (by simp only [List.getElem?_toArray, List.getElem?_cons_succ, List.getElem?_cons_zero]; rfl) (by kernel_rfl) (by kernel_rfl) (by kernel_rfl) (fun _ _ _ h => h) (Or.inl ⟨by rfl, ?_⟩) (by assumption) ?_
    rotate_left
    · intro w hSw
      (try dsimp only at hSw)
      go_simp
      (try with_reducible rfl)
    simp only [Act.put, List.setIfInBounds_toArray, List.set_cons_zero, List.set_cons_succ]
    refine wpAnyH_take (i := 1) (v := ?_) (by simp only [List.getElem?_toArray, List.getElem?_cons_succ, List.getElem?_cons_zero]; rfl) (by kernel_rfl) (by kernel_rfl) (by kernel_rfl) (fun _ _ _ h => h) (Or.inl ⟨by rfl, ?_⟩) (by assumption) ?_
    rotate_left
    · intro w hSw
      (try dsimp only at hSw)
      go_simp
      (try with_reducible rfl)
    simp only [Act.put, List.setIfInBounds_toArray, List.set_cons_zero, List.set_cons_succ]
    refine wpAnyH_take (i := 3) (v := ?_) (by simp only [List.getElem?_toArray, List.getElem?_cons_succ, List.getElem?_cons_zero]; rfl) (by kernel_rfl) (by kernel_rfl) (by kernel_rfl) (fun _ _ _ h => h) (Or.inl ⟨by rfl, ?_⟩) (by assumption) ?_
    rotate_left
    · intro w hSw
      (try dsimp only at hSw)
      go_simp
      (try with_reducible rfl)
    simp only [Act.put, List.setIfInBounds_toArray, List.set_cons_zero, List.set_cons_succ]
    refine wpAnyH_take (i := 4) (v := ?_) (by simp only [List.getElem?_toArray, List.getElem?_cons_succ, List.getElem?_cons_zero]; rfl) (by kernel_rfl) (by kernel_rfl) (by kernel_rfl) (fun _ _ _ h => h) (Or.inl ⟨by rfl, ?_⟩) (by assumption) ?_
    rotate_left
    · intro w hSw
      (try dsimp only at hSw)
      go_simp
      (try with_reducible rfl)
    simp only [Act.put, List.setIfInBounds_toArray, List.set_cons_zero, List.set_cons_succ]
    refine wpAnyH_ready (rs := [2, 7]) (by kernel_rfl) (by simp) ?_
    refine AllReadyH.cons (by simp only [List.getElem?_toArray, List.getElem?_cons_succ, List.getElem?_cons_zero]; rfl) (fun K hK => ?_) (AllReadyH.cons (by simp only [List.getElem?_toArray, List.getElem?_cons_succ, List.getElem?_cons_zero]; rfl) (fun K hK => ?_) (AllReadyH.nil))
    · refine step_bnew V0 (by rfl) (.tmp 11) (by rfl) V0 hHeld.2.2 _ lA l.length lc l (by rfl) rfl (HL0.out.kept hHeld.2.2) (by omega) ?_
      intro A c V1 hb kk
      have kT := hb.2
      refine hK.out _ _ ?_ (fun hHeld2 => ?_)
      · exact ⟨(kT.cell (p := ⟨z0, 0, none⟩) dz).trans d0, (kT.cell (p := ⟨z0, 1, none⟩) dz).trans d1, kT⟩
      clear hK K hHeld
      have hHeld := hHeld2
      clear hHeld2
      try simp only [Act.put, List.setIfInBounds_toArray, List.set_cons_zero, List.set_cons_succ]
      refine wpAnyH_ready (rs := [5, 7]) (by kernel_rfl) (by simp) ?_
      refine AllReadyH.cons (by simp only [List.getElem?_toArray, List.getElem?_cons_succ, List.getElem?_cons_zero]; rfl) (fun K hK => ?_) (AllReadyH.cons (by simp only [List.getElem?_toArray, List.getElem?_cons_succ, List.getElem?_cons_zero]; rfl) (fun K hK => ?_) (AllReadyH.nil))
      · refine step_vnew V1 (by rfl) (.tmp 14) (by rfl) V0 hHeld.2.2 _ vA v.length vc v (by rfl) rfl (HV0.out.kept hHeld.2.2) (by omega) ?_
        intro B d V2 hv kk
        replace hb := hb.kept kk
        have kT := hv.2
        refine hK.out _ _ ?_ (fun hHeld2 => ?_)
        · exact ⟨(kT.cell (p := ⟨z0, 0, none⟩) dz).trans d0, (kT.cell (p := ⟨z0, 1, none⟩) dz).trans d1, kT⟩
        clear hK K hHeld
        have hHeld := hHeld2
        clear hHeld2
        try simp only [Act.put, List.setIfInBounds_toArray, List.set_cons_zero, List.set_cons_succ]
        refine wpAnyH_take (i := 6) (v := ?_) (by simp only [List.getElem?_toArray, List.getElem?_cons_succ, List.getElem?_cons_zero]; rfl) (by kernel_rfl) (by kernel_rfl) (by kernel_rfl) (fun _ _ _ h => h) (Or.inl ⟨by rfl, ?_⟩) (by assumption) ?_
        rotate_left
        · intro w hSw
          (try dsimp only at hSw)
          go_simp
          (try with_reducible rfl)
        simp only [Act.put, List.setIfInBounds_toArray, List.set_cons_zero, List.set_cons_succ]
        refine wpAnyH_ready (rs := [7]) (by kernel_rfl) (by simp) ?_
        refine AllReadyH.cons (by simp only [List.getElem?_toArray, List.getElem?_cons_succ, List.getElem?_cons_zero]; rfl) (fun K hK => ?_) (AllReadyH.nil)
        have h5 := AtB.new V2 #[.slice none 0 0, .slice none 0 0] 29
        have kk := (Kept.refl V2).alloc (.cells #[.slice none 0 0, .slice none 0 0] 29)
        replace hb := hb.kept kk
        replace hv := hv.kept kk
        have kT := (hHeld.2.2).trans kk
        go_simp
        obtain ⟨z5, hz⟩ : ∃ z5, z5 = V2.heap.size := ⟨_, rfl⟩
        have hz5 : V0.heap.size ≤ z5 := by rw [hz]; exact (hHeld.2.2).size_le
        rw [← hz] at h5 ⊢
        generalize V2.alloc (.cells #[.slice none 0 0, .slice none 0 0] 29) = V3 at *
        clear hz
        refine hK.out _ _ ?_ (fun hHeld2 => ?_)
        · exact ⟨(kT.cell (p := ⟨z0, 0, none⟩) dz).trans d0, (kT.cell (p := ⟨z0, 1, none⟩) dz).trans d1, kT⟩
        clear hK K hHeld
        have hHeld := hHeld2
        clear hHeld2
        try simp only [Act.put, List.setIfInBounds_toArray, List.set_cons_zero, List.set_cons_succ]
        refine wpAnyH_ready (rs := [8]) (by kernel_rfl) (by simp) ?_
        refine AllReadyH.cons (by simp only [List.getElem?_toArray, List.getElem?_cons_succ, List.getElem?_cons_zero]; rfl) (fun K hK => ?_) (AllReadyH.nil)
        have c0 : V3.cell? ⟨z5, 0, none⟩ = some (.slice none 0 0) := h5.cell
        have c1' : V3.cell? ⟨z5, 1, none⟩ = some (.slice none 0 0) := h5.cell
        have f0 := h5.fr 0
        have f1 := h5.fr 1
        have lt5 := h5.lt
        replace hb := bks_past_box (bks_past_box hb h5 (by decide) hz5 0 (.slice A l.length c)) (h5.set 0 (.slice A l.length c)) (by decide) hz5 1 (.slice B v.length d)
        replace hv := vts_past_box (vts_past_box hv h5 (by decide) hz5 0 (.slice A l.length c)) (h5.set 0 (.slice A l.length c)) (by decide) hz5 1 (.slice B v.length d)
        replace h5 := h5.set2 (.slice A l.length c) (.slice B v.length d)
        have kT := hb.2
        go_simp
        generalize (V3.setCell ⟨z5, 0, none⟩ (.slice A l.length c)).setCell ⟨z5, 1, none⟩ (.slice B v.length d) = V4 at *
        clear c0 c1' f0 f1 lt5
        refine hK.out _ _ ?_ (fun hHeld2 => ?_)
        · exact ⟨(kT.cell (p := ⟨z0, 0, none⟩) dz).trans d0, (kT.cell (p := ⟨z0, 1, none⟩) dz).trans d1, kT⟩
        clear hK K hHeld
        have hHeld := hHeld2
        clear hHeld2
        try simp only [Act.put, List.setIfInBounds_toArray, List.set_cons_zero, List.set_cons_succ]
        refine wpAnyH_done (by kernel_rfl) ?_ _
        refine NoPanic.normal ?_
        exact hQ1.out z5 A c B d _ ⟨⟨h5, hb.lower HKd.out, hv.lower HKd.out, Nat.le_trans HKd.out.size_le hz5⟩, HZ0.out.kept hb.2, Nat.ne_of_lt (Nat.lt_of_lt_of_le HZ0.out.lt hz5)⟩
      · have h5 := AtB.new V1 #[.slice none 0 0, .slice none 0 0] 29
        have kk := (Kept.refl V1).alloc (.cells #[.slice none 0 0, .slice none 0 0] 29)
        replace hb := hb.kept kk
        have kT := (hHeld.2.2).trans kk
        go_simp
        obtain ⟨z5, hz⟩ : ∃ z5, z5 = V1.heap.size := ⟨_, rfl⟩
        have hz5 : V0.heap.size ≤ z5 := by rw [hz]; exact (hHeld.2.2).size_le
        rw [← hz] at h5 ⊢
        generalize V1.alloc (.cells #[.slice none 0 0, .slice none 0 0] 29) = V2 at *
        clear hz
        refine hK.out _ _ ?_ (fun hHeld2 => ?_)
        · exact ⟨(kT.cell (p := ⟨z0, 0, none⟩) dz).trans d0, (kT.cell (p := ⟨z0, 1, none⟩) dz).trans d1, kT⟩
        clear hK K hHeld
        have hHeld := hHeld2
        clear hHeld2
        try simp only [Act.put, List.setIfInBounds_toArray, List.set_cons_zero, List.set_cons_succ]
        refine wpAnyH_ready (rs := [5]) (by kernel_rfl) (by simp) ?_
        refine AllReadyH.cons (by simp only [List.getElem?_toArray, List.getElem?_cons_succ, List.getElem?_cons_zero]; rfl) (fun K hK => ?_) (AllReadyH.nil)
        refine step_vnew V2 (by rfl) (.tmp 14) (by rfl) V0 hHeld.2.2 _ vA v.length vc v (by rfl) rfl (HV0.out.kept hHeld.2.2) (by omega) ?_
        intro B d V3 hv kk
        replace hb := hb.kept kk
        replace h5 := h5.kept kk
        have kT := hv.2
        refine hK.out _ _ ?_ (fun hHeld2 => ?_)
        · exact ⟨(kT.cell (p := ⟨z0, 0, none⟩) dz).trans d0, (kT.cell (p := ⟨z0, 1, none⟩) dz).trans d1, kT⟩
        clear hK K hHeld
        have hHeld := hHeld2
        clear hHeld2
        try simp only [Act.put, List.setIfInBounds_toArray, List.set_cons_zero, List.set_cons_succ]
        refine wpAnyH_take (i := 6) (v := ?_) (by simp only [List.getElem?_toArray, List.getElem?_cons_succ, List.getElem?_cons_zero]; rfl) (by kernel_rfl) (by kernel_rfl) (by kernel_rfl) (fun _ _ _ h => h) (Or.inl ⟨by rfl, ?_⟩) (by assumption) ?_
        rotate_left
        · intro w hSw
          (try dsimp only at hSw)
          go_simp
          (try with_reducible rfl)
        simp only [Act.put, List.setIfInBounds_toArray, List.set_cons_zero, List.set_cons_succ]
        refine wpAnyH_ready (rs := [8]) (by kernel_rfl) (by simp) ?_
        refine AllReadyH.cons (by simp only [List.getElem?_toArray, List.getElem?_cons_succ, List.getElem?_cons_zero]; rfl) (fun K hK => ?_) (AllReadyH.nil)
        have c0 : V3.cell? ⟨z5, 0, none⟩ = some (.slice none 0 0) := h5.cell
        have c1' : V3.cell? ⟨z5, 1, none⟩ = some (.slice none 0 0) := h5.cell
        have f0 := h5.fr 0
        have f1 := h5.fr 1
        have lt5 := h5.lt
        replace hb := bks_past_box (bks_past_box hb h5 (by decide) hz5 0 (.slice A l.length c)) (h5.set 0 (.slice A l.length c)) (by decide) hz5 1 (.slice B v.length d)
        replace hv := vts_past_box (vts_past_box hv h5 (by decide) hz5 0 (.slice A l.length c)) (h5.set 0 (.slice A l.length c)) (by decide) hz5 1 (.slice B v.length d)
        replace h5 := h5.set2 (.slice A l.length c) (.slice B v.length d)
        have kT := hb.2
        go_simp
        generalize (V3.setCell ⟨z5, 0, none⟩ (.slice A l.length c)).setCell ⟨z5, 1, none⟩ (.slice B v.length d) = V4 at *
        clear c0 c1' f0 f1 lt5
        refine hK.out _ _ ?_ (fun hHeld2 => ?_)
        · exact ⟨(kT.cell (p := ⟨z0, 0, none⟩) dz).trans d0, (kT.cell (p := ⟨z0, 1, none⟩) dz).trans d1, kT⟩
        clear hK K hHeld
        have hHeld := hHeld2
        clear hHeld2
        try simp only [Act.put, List.setIfInBounds_toArray, List.set_cons_zero, List.set_cons_succ]
        refine wpAnyH_done (by kernel_rfl) ?_ _
        refine NoPanic.normal ?_
        exact hQ1.out z5 A c B d _ ⟨⟨h5, hb.lower HKd.out, hv.lower HKd.out, Nat.le_trans HKd.out.size_le hz5⟩, HZ0.out.kept hb.2, Nat.ne_of_lt (Nat.lt_of_lt_of_le HZ0.out.lt hz5)⟩
    · have h5 := AtB.new V0 #[.slice none 0 0, .slice none 0 0] 29
      have kk := (Kept.refl V0).alloc (.cells #[.slice none 0 0, .slice none 0 0] 29)
      have kT := (hHeld.2.2).trans kk
      go_simp
      obtain ⟨z5, hz⟩ : ∃ z5, z5 = V0.heap.size := ⟨_, rfl⟩
      have hz5 : V0.heap.size ≤ z5 := by rw [hz]; exact (hHeld.2.2).size_le
      rw [← hz] at h5 ⊢
      generalize V0.alloc (.cells #[.slice none 0 0, .slice none 0 0] 29) = V1 at *
      clear hz
      refine hK.out _ _ ?_ (fun hHeld2 => ?_)
      · exact ⟨(kT.cell (p := ⟨z0, 0, none⟩) dz).trans d0, (kT.cell (p := ⟨z0, 1, none⟩) dz).trans d1, kT⟩
      clear hK K hHeld
      have hHeld := hHeld2
      clear hHeld2
      try simp only [Act.put, List.setIfInBounds_toArray, List.set_cons_zero, List.set_cons_succ]
      refine wpAnyH_ready (rs := [2]) (by kernel_rfl) (by simp) ?_
      refine AllReadyH.cons (by simp only [List.getElem?_toArray, List.getElem?_cons_succ, List.getElem?_cons_zero]; rfl) (fun K hK => ?_) (AllReadyH.nil)
      refine step_bnew V1 (by rfl) (.tmp 11) (by rfl) V0 hHeld.2.2 _ lA l.length lc l (by rfl) rfl (HL0.out.kept hHeld.2.2) (by omega) ?_
      intro A c V2 hb kk
      replace h5 := h5.kept kk
      have kT := hb.2
      refine hK.out _ _ ?_ (fun hHeld2 => ?_)
      · exact ⟨(kT.cell (p := ⟨z0, 0, none⟩) dz).trans d0, (kT.cell (p := ⟨z0, 1, none⟩) dz).trans d1, kT⟩
      clear hK K hHeld
      have hHeld := hHeld2
      clear hHeld2
      try simp only [Act.put, List.setIfInBounds_toArray, List.set_cons_zero, List.set_cons_succ]
      refine wpAnyH_ready (rs := [5]) (by kernel_rfl) (by simp) ?_
      refine AllReadyH.cons (by simp only [List.getElem?_toArray, List.getElem?_cons_succ, List.getElem?_cons_zero]; rfl) (fun K hK => ?_) (AllReadyH.nil)
      refine step_vnew V2 (by rfl) (.tmp 14) (by rfl) V0 hHeld.2.2 _ vA v.length vc v (by rfl) rfl (HV0.out.kept hHeld.2.2) (by omega) ?_
      intro B d V3 hv kk
      replace hb := hb.kept kk
      replace h5 := h5.kept kk
      have kT := hv.2
      refine hK.out _ _ ?_ (fun hHeld2 => ?_)
      · exact ⟨(kT.cell (p := ⟨z0, 0, none⟩) dz).trans d0, (kT.cell (p := ⟨z0, 1, none⟩) dz).trans d1, kT⟩
      clear hK K hHeld
      have hHeld := hHeld2
      clear hHeld2
      try simp only [Act.put, List.setIfInBounds_toArray, List.set_cons_zero, List.set_cons_succ]
      refine wpAnyH_take (i := 6) (v := ?_) (by simp only [List.getElem?_toArray, List.getElem?_cons_succ, List.getElem?_cons_zero]; rfl) (by kernel_rfl) (by kernel_rfl) (by kernel_rfl) (fun _ _ _ h => h) (Or.inl ⟨by rfl, ?_⟩) (by assumption) ?_
      rotate_left
      · intro w hSw
        (try dsimp only at hSw)
        go_simp
        (try with_reducible rfl)
      simp only [Act.put, List.setIfInBounds_toArray, List.set_cons_zero, List.set_cons_succ]
      refine wpAnyH_ready (rs := [8]) (by kernel_rfl) (by simp) ?_
      refine AllReadyH.cons (by simp only [List.getElem?_toArray, List.getElem?_cons_succ, List.getElem?_cons_zero]; rfl) (fun K hK => ?_) (AllReadyH.nil)
      have c0 : V3.cell? ⟨z5, 0, none⟩ = some (.slice none 0 0) := h5.cell
      have c1' : V3.cell? ⟨z5, 1, none⟩ = some (.slice none 0 0) := h5.cell
      have f0 := h5.fr 0
      have f1 := h5.fr 1
      have lt5 := h5.lt
      replace hb := bks_past_box (bks_past_box hb h5 (by decide) hz5 0 (.slice A l.length c)) (h5.set 0 (.slice A l.length c)) (by decide) hz5 1 (.slice B v.length d)
      replace hv := vts_past_box (vts_past_box hv h5 (by decide) hz5 0 (.slice A l.length c)) (h5.set 0 (.slice A l.length c)) (by decide) hz5 1 (.slice B v.length d)
      replace h5 := h5.set2 (.slice A l.length c) (.slice B v.length d)
      have kT := hb.2
      go_simp
      generalize (V3.setCell ⟨z5, 0, none⟩ (.slice A l.length c)).setCell ⟨z5, 1, none⟩ (.slice B v.length d) = V4 at *
      clear c0 c1' f0 f1 lt5
      refine hK.out _ _ ?_ (fun hHeld2 => ?_)
      · exact ⟨(kT.cell (p := ⟨z0, 0, none⟩) dz).trans d0, (kT.cell (p := ⟨z0, 1, none⟩) dz).trans d1, kT⟩
      clear hK K hHeld
      have hHeld := hHeld2
      clear hHeld2
      try simp only [Act.put, List.setIfInBounds_toArray, List.set_cons_zero, List.set_cons_succ]
      refine wpAnyH_done (by kernel_rfl) ?_ _
      refine NoPanic.normal ?_
      exact hQ1.out z5 A c B d _ ⟨⟨h5, hb.lower HKd.out, hv.lower HKd.out, Nat.le_trans HKd.out.size_le hz5⟩, HZ0.out.kept hb.2, Nat.ne_of_lt (Nat.lt_of_lt_of_le HZ0.out.lt hz5)⟩
  intro z5 A c B d wT hpost
  obtain ⟨hx, h4, hne⟩ := hpost
  have HX := Lib.hid hx
  replace Hz4 := Lib.hid h4
  have HN45 := Lib.hid hne
  clear hx h4 hne KW
  try dsimp only
  go_wp2_with fail
  go_loopw [6] (fun i w' => ∃ (j : Nat) (A : Option Addr) (c : Nat) (B : Option Addr) (d : Nat), j ≤ m.length ∧ i = .int .i64 j ∧ Hid (VBox W0 z5 ⟨joinL l (m.take j), v⟩ A c B d w') ∧ Hid (AtB w' z4 #[.slice none 0 0, .slice none 0 0] 29)) (fun i _ => m.length - (intOf i).toNat)
  case atStart => exact ⟨0, A, c, B, d, by omega, rfl, HX, Hz4⟩
  case round =>
    clear HX Hz4
    obtain ⟨j, A, c, B, d, hj, rfl, HX, Hz4⟩ := hrel
    have KB1 := Lib.hid HX.out.bs.2
    by_cases hlt : j < m.length
    · obtain ⟨z, o, rfl, hb, c0, c1, c2, c3, c4⟩ := block_at HM.out hlt
      have HHit := Lib.hid (fun h => join_hit (a := l) hlt h)
      have HMis := Lib.hid (fun h => join_miss (a := l) hlt h)
      have HLe := Lib.hid (show (joinL l (m.take j)).length ≤ 20000 by have := joinL_len l (m.take j); rw [List.length_take] at this; omega)
      generalize joinL l (m.take j) = q at *
      generalize m[j] = y at *
      obtain ⟨b10, b11⟩ := (HB1.out.kept KB1.out).two
      have bz1 := (HB1.out.kept KB1.out).1
      have x0 : wr.cell? ⟨z5, 0, none⟩ = some (.slice A q.length c) := HX.out.box.cell
      have xz := HX.out.box.lt
      have e0 := (KB1.out.cell (p := ⟨z, o + j * 5, none⟩) hb).trans c0
      have e1 := (KB1.out.cell (p := ⟨z, o + j * 5 + 1, none⟩) hb).trans c1
      have e2 := (KB1.out.cell (p := ⟨z, o + j * 5 + 2, none⟩) hb).trans c2
      have e3 := (KB1.out.cell (p := ⟨z, o + j * 5 + 3, none⟩) hb).trans c3
      have e4 := (KB1.out.cell (p := ⟨z, o + j * 5 + 4, none⟩) hb).trans c4
      have hbw := Nat.lt_of_lt_of_le hb KB1.out.size_le
      go_wp2_with fail
      clear b10 b11 bz1
      clear x0 xz hbw e0 e1 e2 e3 e4
      have HX0 := HX
      have Hz40 := Hz4
      clear HX Hz4
      generalize wr = V0 at *
      go_loopw [7, 8] (fun s7 s8 w' => ∃ n : Nat, n ≤ q.length ∧ s8 = .int .i64 n ∧ s7 = .bool (decide (y ∈ q.take n)) ∧ Kept V0 w') (fun _ s8 _ => q.length - (intOf s8).toNat)
      case atStart => exact ⟨0, by omega, rfl, by simp, Kept.refl _⟩
      case round =>

        obtain ⟨n, hn, rfl, rfl, hK⟩ := hrel
        have HK := Lib.hid hK
        have KB2 := Lib.hid (KB1.out.trans hK)
        have HX := Lib.hid (HX0.out.kept hK)
        have Hz4 := Lib.hid (Hz40.out.kept hK)
        clear hK
        by_cases hn1 : n < q.length
        · have hqb := HLe.out
          have hTk := take_mem (y := y) hn1
          obtain ⟨zq, oq, eq, hbq, q0, q1, q2, q3, q4⟩ := block_at (CellsAt.of_own HX.out.bs.1) hn1
          subst eq
          have x0 : wr.cell? ⟨z5, 0, none⟩ = some (.slice (some ⟨zq, oq, none⟩) q.length c) := HX.out.box.cell
          have xz := HX.out.box.lt
          obtain ⟨b10, b11⟩ := (HB1.out.kept KB2.out).two
          have bz1 := (HB1.out.kept KB2.out).1
          have e0 := (KB2.out.cell (p := ⟨z, o + j * 5, none⟩) hb).trans c0
          have e1 := (KB2.out.cell (p := ⟨z, o + j * 5 + 1, none⟩) hb).trans c1
          have e2 := (KB2.out.cell (p := ⟨z, o + j * 5 + 2, none⟩) hb).trans c2
          have e3 := (KB2.out.cell (p := ⟨z, o + j * 5 + 3, none⟩) hb).trans c3
          have e4 := (KB2.out.cell (p := ⟨z, o + j * 5 + 4, none⟩) hb).trans c4
          have hbw := Nat.lt_of_lt_of_le hb KB2.out.size_le
          have HT := Lib.hid hTk
          clear hTk
          generalize q[n] = x at *
          cases hin : decide (y ∈ q.take n) with
          | true =>
            have HE := Lib.hid (show decide (y ∈ q.take (n + 1)) = true by rw [HT.out, hin]; rfl)
            go_wp2_with fail
            go_quiet (fail)
            go_wp2_with fail
            go_roundw
            case rel => exact ⟨n + 1, by omega, by go_num, by rw [HE.out], HK.out.drewN _⟩
            case measure => simp [intOf]; omega
          | false =>
            by_cases hxy : x = y
            · have hdd : decide (x = y) = true := decide_eq_true hxy
              have HE := Lib.hid (show decide (y ∈ q.take (n + 1)) = true by rw [HT.out, hin, hdd]; rfl)
              clear hxy
              go_wp2_with fail
              go_quiet (fail)
              go_wp2_with fail
              go_roundw
              case rel => exact ⟨n + 1, by omega, by go_num, by rw [HE.out], HK.out.drewN _⟩
              case measure => simp [intOf]; omega
            · have hdd : decide (x = y) = false := decide_eq_false hxy
              have HE := Lib.hid (show decide (y ∈ q.take (n + 1)) = false by rw [HT.out, hin, hdd]; rfl)
              clear hxy
              go_wp2_with fail
              go_quiet (fail)
              go_wp2_with fail
              go_roundw
              case rel => exact ⟨n + 1, by omega, by go_num, by rw [HE.out], HK.out.drewN _⟩
              case measure => simp [intOf]; omega
        · have hnl : n = q.length := by omega
          subst hnl
          rw [List.take_length]
          have x0 : wr.cell? ⟨z5, 0, none⟩ = some (.slice A q.length c) := HX.out.box.cell
          have xz := HX.out.box.lt
          by_cases hin : y ∈ q
          · have hd : decide (y ∈ q) = true := decide_eq_true hin
            rw [hd]
            clear hd
            go_wp2_with fail
            have HN := Lib.hid (HMis.out hin)
            clear HHit HMis hin
            go_wp2_with fail
            go_roundw
            case rel => exact ⟨j + 1, A, c, B, d, by omega, by go_num, by rw [HN.out]; exact HX, Hz4⟩
            case measure => simp [intOf]; omega
          · have hd : decide (y ∈ q) = false := decide_eq_false hin
            rw [hd]
            clear hd
            go_wp2_with fail
            clear x0 xz
            have HN := Lib.hid (HHit.out hin)
            clear HHit HMis hin
            obtain ⟨s00, s01⟩ := HB1.out.two
            have s0 := s00
            have bs0 := HB1.out.1
            have hll : q.length + 1 ≤ 1000000 := by have := HLe.out; omega
            clear s00 s01
            have f0 := (KB2.out.cell (p := ⟨z, o + j * 5, none⟩) hb).trans c0
            have f1 := (KB2.out.cell (p := ⟨z, o + j * 5 + 1, none⟩) hb).trans c1
            have f2 := (KB2.out.cell (p := ⟨z, o + j * 5 + 2, none⟩) hb).trans c2
            have f3 := (KB2.out.cell (p := ⟨z, o + j * 5 + 3, none⟩) hb).trans c3
            have f4 := (KB2.out.cell (p := ⟨z, o + j * 5 + 4, none⟩) hb).trans c4
            have hbx := Nat.lt_of_lt_of_le hb KB2.out.size_le
            have x0 : wr.cell? ⟨z5, 0, none⟩ = some (.slice A q.length c) := HX.out.box.cell
            have xz := HX.out.box.lt
            obtain ⟨b10, b11⟩ := (HB1.out.kept KB2.out).two
            have bz1 := (HB1.out.kept KB2.out).1
            go_wp2_with fail
            clear b10 b11 bz1
            clear x0 xz f0 f1 f2 f3 f4 hbx
            have hq0 : W0.cell? ⟨z1, 0, none⟩ = some (.slice (some ⟨z, o, none⟩) m.length mc) ∧ W0.cell? ⟨z, o + j * 5, none⟩ = some (.int .i64 y.s) ∧ W0.cell? ⟨z, o + j * 5 + 1, none⟩ = some (.int .i64 y.f) ∧ W0.cell? ⟨z, o + j * 5 + 2, none⟩ = some (.int .u64 y.p.1) ∧ W0.cell? ⟨z, o + j * 5 + 3, none⟩ = some (.int .u64 y.p.2) ∧ W0.cell? ⟨z, o + j * 5 + 4, none⟩ = some (.int .u64 y.t) ∧ Kept W0 W0 := ⟨s0, c0, c1, c2, c3, c4, Kept.refl W0⟩
            have HXd := HX.out.drew
            have HXa := HXd.kept ((Kept.refl _).alloc (.cells #[.int .i64 y.s, .int .i64 y.f, .int .u64 y.p.1, .int .u64 y.p.2, .int .u64 y.t] 42))
            refine wp_region_noPanic ?_
            refine wp_region_until 10 (fun w' => w'.cell? ⟨z5, 0, none⟩ = some (.slice A q.length c) ∧ w'.cell? ⟨z1, 0, none⟩ = some (.slice (some ⟨z, o, none⟩) m.length mc) ∧ w'.cell? ⟨z, o + j * 5, none⟩ = some (.int .i64 y.s) ∧ w'.cell? ⟨z, o + j * 5 + 1, none⟩ = some (.int .i64 y.f) ∧ w'.cell? ⟨z, o + j * 5 + 2, none⟩ = some (.int .u64 y.p.1) ∧ w'.cell? ⟨z, o + j * 5 + 3, none⟩ = some (.int .u64 y.p.2) ∧ w'.cell? ⟨z, o + j * 5 + 4, none⟩ = some (.int .u64 y.t) ∧ Kept W0 w') (by kernel_rfl) ?_ (fun hHeld => ?_)
            · exact ⟨HXd.box.cell, keepP6 bs0 hb hb hb hb hb hq0 HXd.bs.2⟩
            refine wpAnyU_take 0 ?_ (by simp only [List.getElem?_toArray, List.getElem?_cons_succ, List.getElem?_cons_zero]; rfl) (by kernel_rfl) (by kernel_rfl) (by kernel_rfl) (by kernel_rfl) (by kernel_rfl) (by kernel_rfl) (fun _ _ _ h => h) (Or.inl ⟨by rfl, ?_⟩) (by assumption) ?_
            rotate_left
            · intro w hSw
              (try dsimp only at hSw)
              go_simp
              (try with_reducible rfl)
            simp only [Act.put, List.setIfInBounds_toArray, List.set_cons_zero, List.set_cons_succ]
            refine wpAnyU_take 1 ?_ (by simp only [List.getElem?_toArray, List.getElem?_cons_succ, List.getElem?_cons_zero]; rfl) (by kernel_rfl) (by kernel_rfl) (by kernel_rfl) (by kernel_rfl) (by kernel_rfl) (by kernel_rfl) (fun _ _ _ h => h) (Or.inl ⟨by rfl, ?_⟩) (by assumption) ?_
            rotate_left
            · intro w hSw
              (try dsimp only at hSw)
              go_simp
              (try with_reducible rfl)
            simp only [Act.put, List.setIfInBounds_toArray, List.set_cons_zero, List.set_cons_succ]
            refine wpAnyU_take 2 ?_ (by simp only [List.getElem?_toArray, List.getElem?_cons_succ, List.getElem?_cons_zero]; rfl) (by kernel_rfl) (by kernel_rfl) (by kernel_rfl) (by kernel_rfl) (by kernel_rfl) (by kernel_rfl) (fun _ _ _ h => h) (Or.inl ⟨by rfl, ?_⟩) (by assumption) ?_
            rotate_left
            · intro w hSw
              (try dsimp only at hSw)
              go_simp
              (try with_reducible rfl)
            simp only [Act.put, List.setIfInBounds_toArray, List.set_cons_zero, List.set_cons_succ]
            refine wpAnyU_take 3 ?_ (by simp only [List.getElem?_toArray, List.getElem?_cons_succ, List.getElem?_cons_zero]; rfl) (by kernel_rfl) (by kernel_rfl) (by kernel_rfl) (by kernel_rfl) (by kernel_rfl) (by kernel_rfl) (fun _ _ _ h => h) (Or.inl ⟨by rfl, ?_⟩) (by assumption) ?_
            rotate_left
            · intro w hSw
              (try dsimp only at hSw)
              go_simp
              (try with_reducible rfl)
            simp only [Act.put, List.setIfInBounds_toArray, List.set_cons_zero, List.set_cons_succ]
            refine wpAnyU_take 4 ?_ (by simp only [List.getElem?_toArray, List.getElem?_cons_succ, List.getElem?_cons_zero]; rfl) (by kernel_rfl) (by kernel_rfl) (by kernel_rfl) (by kernel_rfl) (by kernel_rfl) (by kernel_rfl) (fun _ _ _ h => h) (Or.inl ⟨by rfl, ?_⟩) (by assumption) ?_
            rotate_left
            · intro w hSw
              (try dsimp only at hSw)
              go_simp
              (try with_reducible rfl)
            simp only [Act.put, List.setIfInBounds_toArray, List.set_cons_zero, List.set_cons_succ]
            refine wpAnyU_take 5 ?_ (by simp only [List.getElem?_toArray, List.getElem?_cons_succ, List.getElem?_cons_zero]; rfl) (by kernel_rfl) (by kernel_rfl) (by kernel_rfl) (by kernel_rfl) (by kernel_rfl) (by kernel_rfl) (fun _ _ _ h => h) (Or.inl ⟨by rfl, ?_⟩) (by assumption) ?_
            rotate_left
            · intro w hSw
              (try dsimp only at hSw)
              go_simp
              (try with_reducible rfl)
            simp only [Act.put, List.setIfInBounds_toArray, List.set_cons_zero, List.set_cons_succ]
            refine wpAnyU_take 6 ?_ (by simp only [List.getElem?_toArray, List.getElem?_cons_succ, List.getElem?_cons_zero]; rfl) (by kernel_rfl) (by kernel_rfl) (by kernel_rfl) (by kernel_rfl) (by kernel_rfl) (by kernel_rfl) (fun _ _ _ h => h) (Or.inl ⟨by rfl, ?_⟩) (by assumption) ?_
            rotate_left
            · intro w hSw
              (try dsimp only at hSw)
              go_simp
              (try with_reducible rfl)
            simp only [Act.put, List.setIfInBounds_toArray, List.set_cons_zero, List.set_cons_succ]
            refine wpAnyU_one 7 (by kernel_rfl) (by simp only [List.getElem?_toArray, List.getElem?_cons_succ, List.getElem?_cons_zero]; rfl) (fun K hK => ?_)
            go_simp
            refine hK.out _ _ ?_ (fun hHeld2 => ?_)
            · exact ⟨HXa.box.cell, keepP6 bs0 hb hb hb hb hb hq0 HXa.bs.2⟩
            clear hK K hHeld
            have hHeld := hHeld2
            clear hHeld2
            try simp only [Act.put, List.setIfInBounds_toArray, List.set_cons_zero, List.set_cons_succ]
            refine wpAnyU_one 8 (by kernel_rfl) (by simp only [List.getElem?_toArray, List.getElem?_cons_succ, List.getElem?_cons_zero]; rfl) (fun K hK => ?_)
            refine step_bgrow _ (by rfl) (.tmp 48) (.tmp 54) (by rfl) W0 q _ (by rfl) HXa.bs _ _ 1 1 [y] (by rfl) rfl (blocks_one_at (HasCells.new _ _ _ _ rfl)) hll ?_; intro A2 c2 w' hx' g'
            refine hK.out _ _ ?_ (fun hHeld2 => ?_)
            · exact ⟨(HXa.box.grown g' (own_apart HXa.bs.1 HXa.box (by decide))).cell, keepP6 bs0 hb hb hb hb hb hq0 hx'.2⟩
            clear hK K hHeld
            have hHeld := hHeld2
            clear hHeld2
            try simp only [Act.put, List.setIfInBounds_toArray, List.set_cons_zero, List.set_cons_succ]
            refine wpAnyU_one 9 (by kernel_rfl) (by simp only [List.getElem?_toArray, List.getElem?_cons_succ, List.getElem?_cons_zero]; rfl) (fun K hK => ?_)
            go_simp
            refine hK.out _ _ ?_ (fun hHeld2 => ?_)
            · exact ⟨(HXa.box.grown g' (own_apart HXa.bs.1 HXa.box (by decide))).cell, keepP6 bs0 hb hb hb hb hb hq0 hx'.2⟩
            clear hK K hHeld
            have hHeld := hHeld2
            clear hHeld2
            try simp only [Act.put, List.setIfInBounds_toArray, List.set_cons_zero, List.set_cons_succ]
            refine wpAnyU_last (by kernel_rfl) (by simp only [List.getElem?_toArray, List.getElem?_cons_succ, List.getElem?_cons_zero]; rfl) (by kernel_rfl) (by kernel_rfl) (fun K hK => ?_)
            have fd := (HXa.box.grown g' (own_apart HXa.bs.1 HXa.box (by decide))).fr 0
            have d0' := (HXa.box.grown g' (own_apart HXa.bs.1 HXa.box (by decide))).cell (j := 0)
            go_simp
            refine hK.out _ _ ?_
            clear hK K hHeld
            refine NoPanic.normal ?_
            have HE := Lib.hid (HXa.putB hx' g')
            have HZE := Lib.hid (((((Hz4.out.kept (Kept.refl _).drew).kept ((Kept.refl _).alloc (.cells #[.int .i64 y.s, .int .i64 y.f, .int .u64 y.p.1, .int .u64 y.p.2, .int .u64 y.t] 42))).grown g' (own_apart HXa.bs.1 ((Hz4.out.kept (Kept.refl _).drew).kept ((Kept.refl _).alloc (.cells #[.int .i64 y.s, .int .i64 y.f, .int .u64 y.p.1, .int .u64 y.p.2, .int .u64 y.t] 42))) (by decide)))).other (p := ⟨z5, 0, none⟩) HN45.out.symm (.slice A2 (q ++ [y]).length c2))
            clear HXa HXd hx' g' fd d0' hq0
            rw [show (q ++ [y]).length = q.length + 1 from by simp] at HE HZE
            go_wp2_with fail
            go_roundw
            case rel => exact ⟨j + 1, A2, c2, B, d, by omega, by go_num, by rw [HN.out]; exact HE, HZE⟩
            case measure => simp [intOf]; omega
    · have hjl : j = m.length := by omega
      subst hjl
      rw [List.take_length] at HX
      obtain ⟨b10, b11⟩ := (HB1.out.kept KB1.out).two
      have bz1 := (HB1.out.kept KB1.out).1
      go_wp2_with fail
      clear b10 b11 bz1
      go_loopw [9] (fun i w' => ∃ (j : Nat) (A : Option Addr) (c : Nat) (B : Option Addr) (d : Nat), j ≤ u.length ∧ i = .int .i64 j ∧ Hid (VBox W0 z5 ⟨joinL l m, joinL v (u.take j)⟩ A c B d w') ∧ Hid (AtB w' z4 #[.slice none 0 0, .slice none 0 0] 29)) (fun i _ => u.length - (intOf i).toNat)
      case atStart => exact ⟨0, A, c, B, d, by omega, rfl, HX, Hz4⟩
      case round =>
        clear HX Hz4
        obtain ⟨j, A, c, B, d, hj, rfl, HX, Hz4⟩ := hrel
        have KB1 := Lib.hid HX.out.bs.2
        by_cases hlt : j < u.length
        · obtain ⟨z, o, rfl, hb, c0, c1, c2, c3⟩ := vote_at HU.out hlt
          have HHit := Lib.hid (fun h => join_hit (a := v) hlt h)
          have HMis := Lib.hid (fun h => join_miss (a := v) hlt h)
          have HLe := Lib.hid (show (joinL v (u.take j)).length ≤ 20000 by have := joinL_len v (u.take j); rw [List.length_take] at this; omega)
          generalize joinL v (u.take j) = q at *
          generalize u[j] = y at *
          generalize joinL l m = p at *
          obtain ⟨b10, b11⟩ := (HB1.out.kept KB1.out).two
          have bz1 := (HB1.out.kept KB1.out).1
          have x0 : wr.cell? ⟨z5, 1, none⟩ = some (.slice B q.length d) := HX.out.box.cell
          have xz := HX.out.box.lt
          have e0 := (KB1.out.cell (p := ⟨z, o + j * 4, none⟩) hb).trans c0
          have e1 := (KB1.out.cell (p := ⟨z, o + j * 4 + 1, none⟩) hb).trans c1
          have e2 := (KB1.out.cell (p := ⟨z, o + j * 4 + 2, none⟩) hb).trans c2
          have e3 := (KB1.out.cell (p := ⟨z, o + j * 4 + 3, none⟩) hb).trans c3
          have hbw := Nat.lt_of_lt_of_le hb KB1.out.size_le
          go_wp2_with fail
          clear b10 b11 bz1
          clear x0 xz hbw e0 e1 e2 e3
          have e0 := (KB1.out.cell (p := ⟨z, o + j * 4, none⟩) hb).trans c0
          have e1 := (KB1.out.cell (p := ⟨z, o + j * 4 + 1, none⟩) hb).trans c1
          have e2 := (KB1.out.cell (p := ⟨z, o + j * 4 + 2, none⟩) hb).trans c2
          have e3 := (KB1.out.cell (p := ⟨z, o + j * 4 + 3, none⟩) hb).trans c3
          have hbw := Nat.lt_of_lt_of_le hb KB1.out.size_le
          have x0 : wr.cell? ⟨z5, 1, none⟩ = some (.slice B q.length d) := HX.out.box.cell
          have xz := HX.out.box.lt
          obtain ⟨b10, b11⟩ := (HB1.out.kept KB1.out).two
          have bz1 := (HB1.out.kept KB1.out).1
          have HCt := Lib.hid (fun w' (kk : Kept wr w') => refVotes16_any B d q (by have := HLe.out; omega) y w' ((CellsAt.of_own HX.out.vs.1).kept kk))
          have hc0 : ∀ n : Nat, cntV q y = n → (((n : Nat) : Int) == 0) = decide (y ∉ q) := fun n e => by
            by_cases hin : y ∈ q
            · have := cntV_pos.2 hin
              rw [decide_eq_false (by simpa using hin), beq_eq_false_iff_ne]; omega
            · rw [decide_eq_true hin, beq_iff_eq]; have := cntV_zero.2 hin; omega
          generalize hcn : cntV q y = cn at *
          have HC0 := Lib.hid (hc0 cn rfl)
          clear hc0 hcn
          by_cases hin : y ∈ q
          · have hcc : ((cn : Int) == 0) = false := by rw [HC0.out]; exact decide_eq_false (fun h => h hin)
            go_region_held3 (fun w' => w'.cell? ⟨z5, 1, none⟩ = some (.slice B q.length d) ∧ w'.cell? ⟨z1, 1, none⟩ = some (.slice (some ⟨z, o, none⟩) u.length uc) ∧ w'.cell? ⟨z, o + j * 4, none⟩ = some (.int .i64 y.f) ∧ w'.cell? ⟨z, o + j * 4 + 1, none⟩ = some (.int .i64 y.s) ∧ w'.cell? ⟨z, o + j * 4 + 2, none⟩ = some (.int .u64 y.p.1) ∧ w'.cell? ⟨z, o + j * 4 + 3, none⟩ = some (.int .u64 y.p.2) ∧ Kept wr w')
              (first | exact ⟨x0, b11, e0, e1, e2, e3, Kept.refl _⟩ | exact ⟨x0, b11, e0, e1, e2, e3, (Kept.refl _).drew⟩ | assumption | exact keepP6 xz bz1 hbw hbw hbw hbw (by assumption) (by assumption))
              (first
                | (go_at_call 54; ((first | (with_reducible refine (HCt.out _ (by assumption : _ ∧ _ ∧ _ ∧ _ ∧ _ ∧ _ ∧ Kept wr _).2.2.2.2.2.2).mono ?_)); rintro e w' ⟨rfl, kk⟩)))
            all_goals
              rename_i hh
              have k0 := hh.2.2.2.2.2.2
              clear hh
              replace HX := Lib.hid (HX.out.kept k0)
              replace Hz4 := Lib.hid (Hz4.out.kept k0)
              have k := k0
              clear k0
              have KB2 := Lib.hid (KB1.out.trans k)
              clear k
              generalize w' = W2 at *
              clear hcc
              have HN := Lib.hid (HMis.out hin)
              clear HHit HMis hin
              go_wp2_with fail
              go_roundw
              case rel => exact ⟨j + 1, A, c, B, d, by omega, by go_num, by rw [HN.out]; exact HX, Hz4⟩
              case measure => simp [intOf]; omega
          · have hcc : ((cn : Int) == 0) = true := by rw [HC0.out]; exact decide_eq_true hin
            go_region_held3 (fun w' => w'.cell? ⟨z5, 1, none⟩ = some (.slice B q.length d) ∧ w'.cell? ⟨z1, 1, none⟩ = some (.slice (some ⟨z, o, none⟩) u.length uc) ∧ w'.cell? ⟨z, o + j * 4, none⟩ = some (.int .i64 y.f) ∧ w'.cell? ⟨z, o + j * 4 + 1, none⟩ = some (.int .i64 y.s) ∧ w'.cell? ⟨z, o + j * 4 + 2, none⟩ = some (.int .u64 y.p.1) ∧ w'.cell? ⟨z, o + j * 4 + 3, none⟩ = some (.int .u64 y.p.2) ∧ Kept wr w')
              (first | exact ⟨x0, b11, e0, e1, e2, e3, Kept.refl _⟩ | exact ⟨x0, b11, e0, e1, e2, e3, (Kept.refl _).drew⟩ | assumption | exact keepP6 xz bz1 hbw hbw hbw hbw (by assumption) (by assumption))
              (first
                | (go_at_call 54; ((first | (with_reducible refine (HCt.out _ (by assumption : _ ∧ _ ∧ _ ∧ _ ∧ _ ∧ _ ∧ Kept wr _).2.2.2.2.2.2).mono ?_)); rintro e w' ⟨rfl, kk⟩)))
            all_goals
              rename_i hh
              have k0 := hh.2.2.2.2.2.2
              clear hh
              replace HX := Lib.hid (HX.out.kept k0)
              replace Hz4 := Lib.hid (Hz4.out.kept k0)
              have k := k0
              clear k0
              have KB2 := Lib.hid (KB1.out.trans k)
              clear k
              generalize w' = W2 at *
              clear hcc
              have HN := Lib.hid (HHit.out hin)
              clear HHit HMis hin
              obtain ⟨s00, s01⟩ := HB1.out.two
              have s0 := s01
              have bs0 := HB1.out.1
              have hll : q.length + 1 ≤ 1000000 := by have := HLe.out; omega
              clear s00 s01
              have f0 := (KB2.out.cell (p := ⟨z, o + j * 4, none⟩) hb).trans c0
              have f1 := (KB2.out.cell (p := ⟨z, o + j * 4 + 1, none⟩) hb).trans c1
              have f2 := (KB2.out.cell (p := ⟨z, o + j * 4 + 2, none⟩) hb).trans c2
              have f3 := (KB2.out.cell (p := ⟨z, o + j * 4 + 3, none⟩) hb).trans c3
              have hbx := Nat.lt_of_lt_of_le hb KB2.out.size_le
              have x0 : W2.cell? ⟨z5, 1, none⟩ = some (.slice B q.length d) := HX.out.box.cell
              have xz := HX.out.box.lt
              obtain ⟨b10, b11⟩ := (HB1.out.kept KB2.out).two
              have bz1 := (HB1.out.kept KB2.out).1
              go_wp2_with fail
              clear b10 b11 bz1
              clear x0 xz f0 f1 f2 f3 hbx
              have hq0 : W0.cell? ⟨z1, 1, none⟩ = some (.slice (some ⟨z, o, none⟩) u.length uc) ∧ W0.cell? ⟨z, o + j * 4, none⟩ = some (.int .i64 y.f) ∧ W0.cell? ⟨z, o + j * 4 + 1, none⟩ = some (.int .i64 y.s) ∧ W0.cell? ⟨z, o + j * 4 + 2, none⟩ = some (.int .u64 y.p.1) ∧ W0.cell? ⟨z, o + j * 4 + 3, none⟩ = some (.int .u64 y.p.2) ∧ Kept W0 W0 := ⟨s0, c0, c1, c2, c3, Kept.refl W0⟩
              have HXd := HX.out.drew
              have HXa := HXd.kept ((Kept.refl _).alloc (.cells #[.int .i64 y.f, .int .i64 y.s, .int .u64 y.p.1, .int .u64 y.p.2] 45))
              refine wp_region_noPanic ?_
              refine wp_region_until 10 (fun w' => w'.cell? ⟨z5, 1, none⟩ = some (.slice B q.length d) ∧ w'.cell? ⟨z1, 1, none⟩ = some (.slice (some ⟨z, o, none⟩) u.length uc) ∧ w'.cell? ⟨z, o + j * 4, none⟩ = some (.int .i64 y.f) ∧ w'.cell? ⟨z, o + j * 4 + 1, none⟩ = some (.int .i64 y.s) ∧ w'.cell? ⟨z, o + j * 4 + 2, none⟩ = some (.int .u64 y.p.1) ∧ w'.cell? ⟨z, o + j * 4 + 3, none⟩ = some (.int .u64 y.p.2) ∧ Kept W0 w') (by kernel_rfl) ?_ (fun hHeld => ?_)
              · exact ⟨HXd.box.cell, keepP5 bs0 hb hb hb hb hq0 HXd.bs.2⟩
              refine wpAnyU_take 0 ?_ (by simp only [List.getElem?_toArray, List.getElem?_cons_succ, List.getElem?_cons_zero]; rfl) (by kernel_rfl) (by kernel_rfl) (by kernel_rfl) (by kernel_rfl) (by kernel_rfl) (by kernel_rfl) (fun _ _ _ h => h) (Or.inl ⟨by rfl, ?_⟩) (by assumption) ?_
              rotate_left
              · intro w hSw
                (try dsimp only at hSw)
                go_simp
                (try with_reducible rfl)
              simp only [Act.put, List.setIfInBounds_toArray, List.set_cons_zero, List.set_cons_succ]
              refine wpAnyU_take 1 ?_ (by simp only [List.getElem?_toArray, List.getElem?_cons_succ, List.getElem?_cons_zero]; rfl) (by kernel_rfl) (by kernel_rfl) (by kernel_rfl) (by kernel_rfl) (by kernel_rfl) (by kernel_rfl) (fun _ _ _ h => h) (Or.inl ⟨by rfl, ?_⟩) (by assumption) ?_
              rotate_left
              · intro w hSw
                (try dsimp only at hSw)
                go_simp
                (try with_reducible rfl)
              simp only [Act.put, List.setIfInBounds_toArray, List.set_cons_zero, List.set_cons_succ]
              refine wpAnyU_take 2 ?_ (by simp only [List.getElem?_toArray, List.getElem?_cons_succ, List.getElem?_cons_zero]; rfl) (by kernel_rfl) (by kernel_rfl) (by kernel_rfl) (by kernel_rfl) (by kernel_rfl) (by kernel_rfl) (fun _ _ _ h => h) (Or.inl ⟨by rfl, ?_⟩) (by assumption) ?_
              rotate_left
              · intro w hSw
                (try dsimp only at hSw)
                go_simp
                (try with_reducible rfl)
              simp only [Act.put, List.setIfInBounds_toArray, List.set_cons_zero, List.set_cons_succ]
              refine wpAnyU_take 3 ?_ (by simp only [List.getElem?_toArray, List.getElem?_cons_succ, List.getElem?_cons_zero]; rfl) (by kernel_rfl) (by kernel_rfl) (by kernel_rfl) (by kernel_rfl) (by kernel_rfl) (by kernel_rfl) (fun _ _ _ h => h) (Or.inl ⟨by rfl, ?_⟩) (by assumption) ?_
              rotate_left
              · intro w hSw
                (try dsimp only at hSw)
                go_simp
                (try with_reducible rfl)
              simp only [Act.put, List.setIfInBounds_toArray, List.set_cons_zero, List.set_cons_succ]
              refine wpAnyU_take 4 ?_ (by simp only [List.getElem?_toArray, List.getElem?_cons_succ, List.getElem?_cons_zero]; rfl) (by kernel_rfl) (by kernel_rfl) (by kernel_rfl) (by kernel_rfl) (by kernel_rfl) (by kernel_rfl) (fun _ _ _ h => h) (Or.inl ⟨by rfl, ?_⟩) (by assumption) ?_
              rotate_left
              · intro w hSw
                (try dsimp only at hSw)
                go_simp
                (try with_reducible rfl)
              simp only [Act.put, List.setIfInBounds_toArray, List.set_cons_zero, List.set_cons_succ]
              refine wpAnyU_take 5 ?_ (by simp only [List.getElem?_toArray, List.getElem?_cons_succ, List.getElem?_cons_zero]; rfl) (by kernel_rfl) (by kernel_rfl) (by kernel_rfl) (by kernel_rfl) (by kernel_rfl) (by kernel_rfl) (fun _ _ _ h => h) (Or.inl ⟨by rfl, ?_⟩) (by assumption) ?_
              rotate_left
              · intro w hSw
                (try dsimp only at hSw)
                go_simp
                (try with_reducible rfl)
              simp only [Act.put, List.setIfInBounds_toArray, List.set_cons_zero, List.set_cons_succ]
              refine wpAnyU_take 6 ?_ (by simp only [List.getElem?_toArray, List.getElem?_cons_succ, List.getElem?_cons_zero]; rfl) (by kernel_rfl) (by kernel_rfl) (by kernel_rfl) (by kernel_rfl) (by kernel_rfl) (by kernel_rfl) (fun _ _ _ h => h) (Or.inl ⟨by rfl, ?_⟩) (by assumption) ?_
              rotate_left
              · intro w hSw
                (try dsimp only at hSw)
                go_simp
                (try with_reducible rfl)
              simp only [Act.put, List.setIfInBounds_toArray, List.set_cons_zero, List.set_cons_succ]
              refine wpAnyU_one 7 (by kernel_rfl) (by simp only [List.getElem?_toArray, List.getElem?_cons_succ, List.getElem?_cons_zero]; rfl) (fun K hK => ?_)
              go_simp
              refine hK.out _ _ ?_ (fun hHeld2 => ?_)
              · exact ⟨HXa.box.cell, keepP5 bs0 hb hb hb hb hq0 HXa.bs.2⟩
              clear hK K hHeld
              have hHeld := hHeld2
              clear hHeld2
              try simp only [Act.put, List.setIfInBounds_toArray, List.set_cons_zero, List.set_cons_succ]
              refine wpAnyU_one 8 (by kernel_rfl) (by simp only [List.getElem?_toArray, List.getElem?_cons_succ, List.getElem?_cons_zero]; rfl) (fun K hK => ?_)
              refine step_vgrow _ (by rfl) (.tmp 74) (.tmp 80) (by rfl) W0 q _ (by rfl) HXa.vs _ _ 1 1 [y] (by rfl) rfl (votes_one_at (HasCells.new _ _ _ _ rfl)) hll ?_; intro A2 c2 w' hx' g'
              refine hK.out _ _ ?_ (fun hHeld2 => ?_)
              · exact ⟨(HXa.box.grown g' (own_apart HXa.vs.1 HXa.box (by decide))).cell, keepP5 bs0 hb hb hb hb hq0 hx'.2⟩
              clear hK K hHeld
              have hHeld := hHeld2
              clear hHeld2
              try simp only [Act.put, List.setIfInBounds_toArray, List.set_cons_zero, List.set_cons_succ]
              refine wpAnyU_one 9 (by kernel_rfl) (by simp only [List.getElem?_toArray, List.getElem?_cons_succ, List.getElem?_cons_zero]; rfl) (fun K hK => ?_)
              go_simp
              refine hK.out _ _ ?_ (fun hHeld2 => ?_)
              · exact ⟨(HXa.box.grown g' (own_apart HXa.vs.1 HXa.box (by decide))).cell, keepP5 bs0 hb hb hb hb hq0 hx'.2⟩
              clear hK K hHeld
              have hHeld := hHeld2
              clear hHeld2
              try simp only [Act.put, List.setIfInBounds_toArray, List.set_cons_zero, List.set_cons_succ]
              refine wpAnyU_last (by kernel_rfl) (by simp only [List.getElem?_toArray, List.getElem?_cons_succ, List.getElem?_cons_zero]; rfl) (by kernel_rfl) (by kernel_rfl) (fun K hK => ?_)
              have fd := (HXa.box.grown g' (own_apart HXa.vs.1 HXa.box (by decide))).fr 1
              have d0' := (HXa.box.grown g' (own_apart HXa.vs.1 HXa.box (by decide))).cell (j := 1)
              go_simp
              refine hK.out _ _ ?_
              clear hK K hHeld
              refine NoPanic.normal ?_
              have HE := Lib.hid (HXa.putV hx' g')
              have HZE := Lib.hid (((((Hz4.out.kept (Kept.refl _).drew).kept ((Kept.refl _).alloc (.cells #[.int .i64 y.f, .int .i64 y.s, .int .u64 y.p.1, .int .u64 y.p.2] 45))).grown g' (own_apart HXa.vs.1 ((Hz4.out.kept (Kept.refl _).drew).kept ((Kept.refl _).alloc (.cells #[.int .i64 y.f, .int .i64 y.s, .int .u64 y.p.1, .int .u64 y.p.2] 45))) (by decide)))).other (p := ⟨z5, 1, none⟩) HN45.out.symm (.slice A2 (q ++ [y]).length c2))
              clear HXa HXd hx' g' fd d0' hq0
              rw [show (q ++ [y]).length = q.length + 1 from by simp] at HE HZE
              go_wp2_with fail
              go_roundw
              case rel => exact ⟨j + 1, A, c, A2, c2, by omega, by go_num, by rw [HN.out]; exact HE, HZE⟩
              case measure => simp [intOf]; omega
        · have hjl : j = u.length := by omega
          subst hjl
          rw [List.take_length] at HX
          obtain ⟨b10, b11⟩ := (HB1.out.kept KB1.out).two
          have bz1 := (HB1.out.kept KB1.out).1
          have x0 : wr.cell? ⟨z5, 0, none⟩ = some (.slice A (joinL l m).length c) := HX.out.box.cell
          have x1 : wr.cell? ⟨z5, 1, none⟩ = some (.slice B (joinL v u).length d) := HX.out.box.cell
          have xz := HX.out.box.lt
          have r0 : wr.cell? ⟨z4, 0, none⟩ = some (.slice none 0 0) := Hz4.out.cell
          have r1 : wr.cell? ⟨z4, 1, none⟩ = some (.slice none 0 0) := Hz4.out.cell
          have f0 := Hz4.out.fr 0
          have f1 := Hz4.out.fr 1
          have l2 := Hz4.out.lt
          have HBf := Lib.hid (bks_past_box (bks_past_box HX.out.bs Hz4.out (by decide) HG4.out 0 (.slice A (joinL l m).length c)) (Hz4.out.set 0 (.slice A (joinL l m).length c)) (by decide) HG4.out 1 (.slice B (joinL v u).length d))
          have HVf := Lib.hid (vts_past_box (vts_past_box HX.out.vs Hz4.out (by decide) HG4.out 0 (.slice A (joinL l m).length c)) (Hz4.out.set 0 (.slice A (joinL l m).length c)) (by decide) HG4.out 1 (.slice B (joinL v u).length d))
          go_wp2_with fail
          refine bodyPost_ret (v := .agg #[.slice A (joinL l m).length c, .slice B (joinL v u).length d]) (by simp [results, Try.results36, go_sem, r0, r1]) rfl ?_
          exact ⟨A, c, B, d, rfl, HBf.out.lower K0.out, HVf.out.lower K0.out⟩

end Go.Proofs.Ytacdiicnfoejoaa
