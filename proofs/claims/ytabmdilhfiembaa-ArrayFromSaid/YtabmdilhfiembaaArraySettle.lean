/-
  The contract of package array's call settle.
-/
import Derived.Deep.Cut
import Derived.Test.YtabmdilhfiembaaArraySet
namespace Go.Proofs.Ytabmdilhfiembaa
set_option maxRecDepth 100000
set_option linter.unusedVariables false
set_option linter.unusedSimpArgs false
set_option linter.unusedVariables false
open Go.ChangeShapes Go.WideShapes Go.ChangeAt Go.RowKit

theorem Its.at {W w : World} {l : List It} {g n c : Nat} (h : Its W l (.slice (some ⟨g, 0, none⟩) n c) w) (hn : n = l.length) {k : Nat} (hk : k < l.length) :
    w.cell? ⟨g, k * 7, none⟩ = some (.int .u64 (itA l k).x.1) ∧ w.cell? ⟨g, k * 7 + 1, none⟩ = some (.int .u64 (itA l k).x.2) ∧ w.cell? ⟨g, k * 7 + 2, none⟩ = some (.int .i64 (itA l k).p) ∧ w.cell? ⟨g, k * 7 + 3, none⟩ = some (.int .i64 (itA l k).o) ∧ w.cell? ⟨g, k * 7 + 4, none⟩ = some (.int .i64 (itA l k).w) ∧ w.cell? ⟨g, k * 7 + 5, none⟩ = some (.int .i64 (itA l k).b) ∧ w.cell? ⟨g, k * 7 + 6, none⟩ = some (.int .i64 (itA l k).h) := by
  rw [itA_get hk]
  obtain ⟨z, o, e, _, r⟩ := item_at (h.cells hn) hk
  injection e with e
  injection e with e1 e2
  subst e1 e2
  simpa using r
theorem Its.step {W w : World} {a : List It} {i : Nat} {t t' : It} {g n c : Nat} (h : Its W (stepA a i t) (.slice (some ⟨g, 0, none⟩) n c) w) (hi : i < a.length) {j : Nat} (hj : j < 7) {u : Value} (ht : (itCells t).set j u = itCells t') :
    Its W (stepA a i t') (.slice (some ⟨g, 0, none⟩) n c) (w.setCell ⟨g, i * 7 + j, none⟩ u) := by
  have hl : i < (stepA a i t).length := by rw [stepA_length]; exact hi
  have := h.set hl hj (t := t') (u := u) (by rw [← itA_get hl, stepA_own hi]; exact ht)
  rw [stepA_twice] at this
  exact this

set_option maxRecDepth 100000 in
set_option maxHeartbeats 3200000 in
theorem settle_any (W : World) (g c : Nat) (a : List It) (hl : a.length ≤ 70) (hr : AllRight a) (ho : ∀ i, i < a.length → 0 ≤ (itA a i).o ∧ (itA a i).o ≤ 1125899906842624) (w : World) (hA : Its W a (.slice (some ⟨g, 0, none⟩) a.length c) w) :
    Calls Try.prog 45 #[.slice (some ⟨g, 0, none⟩) a.length c] w fun e w' => e = .returned (.tuple #[]) ∧ Its W (anewC a) (.slice (some ⟨g, 0, none⟩) a.length c) w' := by
  have HA := Lib.hid (show Its W (partA a a.length) (.slice (some ⟨g, 0, none⟩) a.length c) w by rw [partA_all]; exact hA)
  have HR := Lib.hid hr
  have HO := Lib.hid ho
  clear hA hr ho
  go_enter Try.func45, Try.ntmps45
  go_wp2_with fail
  go_loopw [2] (fun i w' => ∃ k : Nat, k ≤ a.length ∧ i = .int .i64 ((k : Int) - 1) ∧ Its W (partA a k) (.slice (some ⟨g, 0, none⟩) a.length c) w') (fun i _ => (intOf i + 1).toNat)
  case atStart => exact ⟨a.length, Nat.le_refl _, rfl, HA.out⟩
  case round =>
    obtain ⟨k, hk, rfl, hI⟩ := hrel
    have HI := Lib.hid hI
    clear hI HA
    rcases k with _ | i
    · have HE := Lib.hid (show Its W (anewC a) (.slice (some ⟨g, 0, none⟩) a.length c) wr by rw [← partA_zero]; exact HI.out)
      go_wp2_with fail
      go_end0
      exact ⟨rfl, HE.out⟩
    · have hi : i < a.length := hk
      have e1 : (((i + 1 : Nat) : Int) - 1) = (i : Int) := by omega
      rw [e1]
      clear e1
      have HS := Lib.hid (show Its W (stepA a i (itA a i)) (.slice (some ⟨g, 0, none⟩) a.length c) wr by rw [stepA_first hi]; exact HI.out)
      have hi0 : (0 : Int) ≤ (i : Int) := by omega
      have hwb := wC_bounds HR.out HO.out hi
      have hwe := wC_eq a i
      have hob := HO.out i hi
      have hsb := sum_take_le (f := wC a) (l := kidsI a i) (kids_nonneg (fun i hi => (HO.out i hi).1) _)
      have hM : (a.length : Int) * 1125899906842624 ≤ 78812993478983680 := by omega
      have HOn := Lib.hid (fun w' (k : Kept wr w') => (show Calls Try.prog 70 #[.slice (some ⟨g, 0, none⟩) a.length c, .int .i64 (i : Nat)] w' fun e w'' => e = .returned (.int .i64 ((kidsI a i).map (wC a)).sum) ∧ Kept w' w'' by
        have hk1 := step_kids HR.out hi (t := itA a i) rfl (i : Int)
        have h := onI_any (some ⟨g, 0, none⟩) c (stepA a i (itA a i)) (by rw [stepA_length]; omega) (i : Int) (fun m _ => by
          rw [hk1, step_sumW hi (fun k hk => List.mem_of_mem_take hk)]
          have := hsb m
          omega) w' ((HS.out.kept k).cells (stepA_length _ _ _).symm)
        rw [stepA_length, hk1, step_sumW hi (fun _ hk => hk)] at h
        exact h))
      have hw : IntKind.i64.wrap ((itA a i).o + ((kidsI a i).map (wC a)).sum) = wC a i := by rw [← hwe]; exact IntWalk.i64_in _ (by omega)
      have HBk := fun (t : It) => Lib.hid (fun (ht : t.p = (itA a i).p) w' (hI : Its W (stepA a i t) (.slice (some ⟨g, 0, none⟩) a.length c) w') => (show Calls Try.prog 49 #[.slice (some ⟨g, 0, none⟩) a.length c, .int .i64 (i : Nat)] w' fun e w'' => e = .returned (.int .i64 (optI (bC a i))) ∧ Kept w' w'' by
        have h := bestOn_any (some ⟨g, 0, none⟩) c (stepA a i t) (by rw [stepA_length]; omega) (i : Int) w' (hI.cells (stepA_length _ _ _).symm)
        rw [stepA_length, step_kids HR.out hi ht, step_best hi] at h
        exact h))
      have HNd := Lib.hid (show nodeC a i = ⟨(itA a i).x, (itA a i).p, (itA a i).o, wC a i, optI (bC a i), (hC a i : Int)⟩ from rfl)
      have HHd := Lib.hid (fun y (h : bC a i = some y) t => step_head hi (t := t) h)
      have HNo := Lib.hid (fun (h : bC a i = none) => hC_none h)
      have HLa := Lib.hid (stepA_last hi)
      obtain ⟨_, _, _, s3, s4, _, _⟩ := HS.out.at (stepA_length _ _ _).symm (k := i) (by rw [stepA_length]; exact hi)
      rw [stepA_own hi] at s3 s4
      have hgl := HS.out.ge.2
      have HGe := Lib.hid HS.out.ge.1
      clear hwb hwe hob hsb hM
      generalize ((kidsI a i).map (wC a)).sum = sm at *
      generalize wC a i = wv at *
      generalize itA a i = t0 at *
      obtain ⟨tx, tp, to, tw, tb, th⟩ := t0
      dsimp only at s3 s4 hw HNd
      have HB1 := HBk ⟨tx, tp, to, wv, tb, th⟩
      clear HBk
      go_upto_region 4 with (fail)
      refine wp_region_noPanic ?_
      refine wp_region_held_drew (S := (fun w' => w'.cell? ⟨g, i * 7 + 3, none⟩ = some (.int .i64 to) ∧ Kept W w')) (by kernel_rfl) ?_ (fun hHeld => ?_)
      · exact ⟨s3, HS.out.2.drew⟩
      refine wpAnyH_take (i := 0) (v := ?_) (by simp only [List.getElem?_toArray, List.getElem?_cons_succ, List.getElem?_cons_zero]; rfl) (by kernel_rfl) (by kernel_rfl) (by kernel_rfl) (fun _ _ _ h => h) (Or.inl ⟨by rfl, ?_⟩) (by assumption) ?_
      rotate_left
      · intro w hSw
        (try dsimp only at hSw)
        go_simp
        (try with_reducible rfl)
      simp only [Act.put, List.setIfInBounds_toArray, List.set_cons_zero, List.set_cons_succ]
      refine wpAnyH_take (i := 1) (v := ?_) (by simp only [List.getElem?_toArray, List.getElem?_cons_succ, List.getElem?_cons_zero]; rfl) (by kernel_rfl) (by kernel_rfl) (by kernel_rfl) (fun _ _ _ h => h) (Or.inl ⟨by rfl, ?_⟩) (by assumption) ?_
      rotate_left
      · intro w hSw
        (try dsimp only at hSw)
        go_simp
        (try with_reducible rfl)
      simp only [Act.put, List.setIfInBounds_toArray, List.set_cons_zero, List.set_cons_succ]
      refine wpAnyH_take (i := 2) (v := ?_) (by simp only [List.getElem?_toArray, List.getElem?_cons_succ, List.getElem?_cons_zero]; rfl) (by kernel_rfl) (by kernel_rfl) (by kernel_rfl) (fun _ _ _ h => h) (Or.inl ⟨by rfl, ?_⟩) (by assumption) ?_
      rotate_left
      · intro w hSw
        (try dsimp only at hSw)
        go_simp
        (try with_reducible rfl)
      simp only [Act.put, List.setIfInBounds_toArray, List.set_cons_zero, List.set_cons_succ]
      refine wpAnyH_take (i := 3) (v := ?_) (by simp only [List.getElem?_toArray, List.getElem?_cons_succ, List.getElem?_cons_zero]; rfl) (by kernel_rfl) (by kernel_rfl) (by kernel_rfl) (fun _ _ _ h => h) (Or.inl ⟨by rfl, ?_⟩) (by assumption) ?_
      rotate_left
      · intro w hSw
        (try dsimp only at hSw)
        go_simp
        (try with_reducible rfl)
      simp only [Act.put, List.setIfInBounds_toArray, List.set_cons_zero, List.set_cons_succ]
      refine wpAnyH_take (i := 4) (v := ?_) (by simp only [List.getElem?_toArray, List.getElem?_cons_succ, List.getElem?_cons_zero]; rfl) (by kernel_rfl) (by kernel_rfl) (by kernel_rfl) (fun _ _ _ h => h) (Or.inl ⟨by rfl, ?_⟩) (by assumption) ?_
      rotate_left
      · intro w hSw
        (try dsimp only at hSw)
        go_simp
        (try with_reducible rfl)
      simp only [Act.put, List.setIfInBounds_toArray, List.set_cons_zero, List.set_cons_succ]
      refine wpAnyH_take (i := 5) (v := ?_) (by simp only [List.getElem?_toArray, List.getElem?_cons_succ, List.getElem?_cons_zero]; rfl) (by kernel_rfl) (by kernel_rfl) (by kernel_rfl) (fun _ _ _ h => h) (Or.inl ⟨by rfl, ?_⟩) (by assumption) ?_
      rotate_left
      · intro w hSw
        (try dsimp only at hSw)
        go_simp
        (try with_reducible rfl)
      simp only [Act.put, List.setIfInBounds_toArray, List.set_cons_zero, List.set_cons_succ]
      refine wpAnyH_take (i := 6) (v := ?_) (by simp only [List.getElem?_toArray, List.getElem?_cons_succ, List.getElem?_cons_zero]; rfl) (by kernel_rfl) (by kernel_rfl) (by kernel_rfl) (fun _ _ _ h => h) (Or.inl ⟨by rfl, ?_⟩) (by assumption) ?_
      rotate_left
      · intro w hSw
        (try dsimp only at hSw)
        go_simp
        (try with_reducible rfl)
      simp only [Act.put, List.setIfInBounds_toArray, List.set_cons_zero, List.set_cons_succ]
      refine wpAnyH_ready (rs := [7]) (by kernel_rfl) (by simp) ?_
      refine AllReadyH.cons (by simp only [List.getElem?_toArray, List.getElem?_cons_succ, List.getElem?_cons_zero]; rfl) (fun K hK => ?_) (AllReadyH.nil)
      go_simp
      go_at_call 70; with_reducible refine (HOn.out _ ((Kept.refl _).drew)).mono ?_
      rintro e w7 ⟨rfl, kk⟩
      refine hK.out _ _ ?_ (fun hHeld2 => ?_)
      · exact ⟨(kk.cell (p := ⟨g, i * 7 + 3, none⟩) hgl).trans hHeld.1, hHeld.2.trans kk⟩
      clear hK K hHeld
      have hHeld := hHeld2
      clear hHeld2
      try simp only [Act.put, List.setIfInBounds_toArray, List.set_cons_zero, List.set_cons_succ]
      refine wpAnyH_take (i := 8) (v := ?_) (by simp only [List.getElem?_toArray, List.getElem?_cons_succ, List.getElem?_cons_zero]; rfl) (by kernel_rfl) (by kernel_rfl) (by kernel_rfl) (fun _ _ _ h => h) (Or.inl ⟨by rfl, ?_⟩) (by assumption) ?_
      rotate_left
      · intro w hSw
        (try dsimp only at hSw)
        go_simp
        (try with_reducible rfl)
      simp only [Act.put, List.setIfInBounds_toArray, List.set_cons_zero, List.set_cons_succ]
      refine wpAnyH_take (i := 9) (v := ?_) (by simp only [List.getElem?_toArray, List.getElem?_cons_succ, List.getElem?_cons_zero]; rfl) (by kernel_rfl) (by kernel_rfl) (by kernel_rfl) (fun _ _ _ h => h) (Or.inl ⟨by rfl, ?_⟩) (by assumption) ?_
      rotate_left
      · intro w hSw
        (try dsimp only at hSw)
        go_simp
        (try with_reducible rfl)
      simp only [Act.put, List.setIfInBounds_toArray, List.set_cons_zero, List.set_cons_succ]
      refine wpAnyH_take (i := 10) (v := ?_) (by simp only [List.getElem?_toArray, List.getElem?_cons_succ, List.getElem?_cons_zero]; rfl) (by kernel_rfl) (by kernel_rfl) (by kernel_rfl) (fun _ _ _ h => h) (Or.inl ⟨by rfl, ?_⟩) (by assumption) ?_
      rotate_left
      · intro w hSw
        (try dsimp only at hSw)
        go_simp
        (try with_reducible rfl)
      simp only [Act.put, List.setIfInBounds_toArray, List.set_cons_zero, List.set_cons_succ]
      refine wpAnyH_ready (rs := [11]) (by kernel_rfl) (by simp) ?_
      refine AllReadyH.cons (by simp only [List.getElem?_toArray, List.getElem?_cons_succ, List.getElem?_cons_zero]; rfl) (fun K hK => ?_) (AllReadyH.nil)
      have k7 : Kept wr w7 := Kept.trans (Kept.drew (Kept.refl _)) kk
      have HS7 := Lib.hid (HS.out.kept k7)
      have s5 : w7.cell? ⟨g, i * 7 + 4, none⟩ = some (.int .i64 tw) := (k7.cell (p := ⟨g, i * 7 + 4, none⟩) hgl).trans s4
      have f5 : w7.frozen? ⟨g, i * 7 + 4, none⟩ = false := HS7.out.frozen _
      go_simp
      refine hK.out _ _ ?_ (fun hHeld2 => ?_)
      · exact ⟨by rw [World.cell?_setCell_other _ _ _ _ (by simp)]; exact hHeld.1, Kept.setCell (p := ⟨g, i * 7 + 4, none⟩) hHeld.2 HGe.out _⟩
      clear hK K hHeld
      have hHeld := hHeld2
      clear hHeld2
      try simp only [Act.put, List.setIfInBounds_toArray, List.set_cons_zero, List.set_cons_succ]
      refine wpAnyH_done (by kernel_rfl) ?_ _
      refine NoPanic.normal ?_
      have HS8 := Lib.hid (HS7.out.step hi (t' := ⟨tx, tp, to, wv, tb, th⟩) (j := 4) (u := .int .i64 wv) (by omega) rfl)
      clear hHeld kk k7 s3 s4 s5 f5 hgl hw HS7 HOn
      generalize w7.setCell ⟨g, i * 7 + 4, none⟩ (.int .i64 wv) = V1 at *
      go_wp2_with fail
      refine (HB1.out (by first | trivial | rfl) _ HS8.out).mono ?_
      rintro e V2 ⟨rfl, kk⟩
      have HS9 := Lib.hid (HS8.out.kept kk)
      obtain ⟨_, _, _, _, _, s5, s6⟩ := HS9.out.at (stepA_length _ _ _).symm (k := i) (by rw [stepA_length]; exact hi)
      rw [stepA_own hi] at s5 s6
      dsimp only at s5 s6
      have f5 := HS9.out.frozen (i * 7 + 5)
      have f6 := HS9.out.frozen (i * 7 + 6)
      clear kk HB1
      cases hb : bC a i with
      | none =>
        rw [show optI none = -1 from rfl]
        rw [hb, HNo.out hb] at HNd
        have HLb := Lib.hid (show partA a i = stepA a i ⟨tx, tp, to, wv, -1, (i : Int)⟩ by rw [← HLa.out, HNd.out]; rfl)
        go_upto_region 6 with (fail)
        have HS10 := Lib.hid ((HS9.out.step hi (j := 5) (t' := ⟨tx, tp, to, wv, -1, th⟩) (u := .int .i64 (-1)) (by omega) rfl).step hi (j := 6) (t' := ⟨tx, tp, to, wv, -1, (i : Int)⟩) (u := .int .i64 (i : Int)) (by omega) rfl)
        clear s5 s6 f5 f6
        generalize (V2.setCell ⟨g, i * 7 + 5, none⟩ (.int .i64 (-1))).setCell ⟨g, i * 7 + 6, none⟩ (.int .i64 (i : Int)) = V3 at *
        obtain ⟨_, _, _, _, _, s5, s6⟩ := HS10.out.at (stepA_length _ _ _).symm (k := i) (by rw [stepA_length]; exact hi)
        rw [stepA_own hi] at s5 s6
        dsimp only at s5 s6
        clear hb
        go_wp2_with fail
        go_roundw
        case rel => exact ⟨i, by omega, rfl, by rw [HLb.out]; exact HS10.out⟩
        case measure => first | (simp [intOf]; done) | (simp [intOf]; omega)
      | some y =>
        rw [show optI (some y) = (y : Int) from rfl]
        rw [hb] at HNd
        have HLb := Lib.hid (show partA a i = stepA a i ⟨tx, tp, to, wv, (y : Int), (hC a i : Int)⟩ by rw [← HLa.out, HNd.out]; rfl)
        obtain ⟨hyl, hiy, hyh⟩ := HHd.out y hb ⟨tx, tp, to, wv, (y : Int), (i : Int)⟩
        have HYh := Lib.hid hyh
        have hy1 : ((y : Int) != -1) = true := by rw [bne_iff_ne]; omega
        clear hyh hb
        generalize hC a i = hd at *
        go_upto_region 6 with (fail)
        have HS10 := Lib.hid ((HS9.out.step hi (j := 5) (t' := ⟨tx, tp, to, wv, (y : Int), th⟩) (u := .int .i64 (y : Int)) (by omega) rfl).step hi (j := 6) (t' := ⟨tx, tp, to, wv, (y : Int), (i : Int)⟩) (u := .int .i64 (i : Int)) (by omega) rfl)
        clear s5 s6 f5 f6
        generalize (V2.setCell ⟨g, i * 7 + 5, none⟩ (.int .i64 (y : Int))).setCell ⟨g, i * 7 + 6, none⟩ (.int .i64 (i : Int)) = V3 at *
        obtain ⟨_, _, _, _, _, s5, s6⟩ := HS10.out.at (stepA_length _ _ _).symm (k := i) (by rw [stepA_length]; exact hi)
        rw [stepA_own hi] at s5 s6
        dsimp only at s5 s6
        obtain ⟨_, _, _, _, _, _, v6⟩ := HS10.out.at (stepA_length _ _ _).symm (k := y) (by rw [stepA_length]; exact hyl)
        rw [HYh.out] at v6
        have f6 := HS10.out.frozen (i * 7 + 6)
        go_wp2_with fail
        have HS11 := Lib.hid (HS10.out.step hi (j := 6) (t' := ⟨tx, tp, to, wv, (y : Int), (hd : Int)⟩) (u := .int .i64 (hd : Int)) (by omega) rfl)
        go_roundw
        case rel => exact ⟨i, by omega, rfl, by rw [HLb.out]; exact HS11.out⟩
        case measure => first | (simp [intOf]; done) | (simp [intOf]; omega)

end Go.Proofs.Ytabmdilhfiembaa
