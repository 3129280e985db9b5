/-
  The contracts of package array's calls mayStand and May.
-/
import Derived.Test.YtabmdilhfiembaaArrayMay
import Derived.Test.YtabmdilhfiembaaTreeG
namespace Go.Proofs.Ytabmdilhfiembaa
set_option maxRecDepth 100000
set_option linter.unusedVariables false
set_option linter.unusedSimpArgs false
set_option linter.unusedVariables false
open Go.ChangeShapes Go.WideShapes Go.ChangeAt Go.RowKit

/-! ### Plain -/
def StandI (a : List It) : Prop := a.length ≤ 60 ∧ ∀ i, i < a.length → rightI a i
open Classical in
noncomputable def standI (a : List It) : Bool := decide (StandI a)
theorem standI_yes {a : List It} (h : StandI a) : standI a = true := @decide_eq_true _ (Classical.propDecidable _) h
theorem standI_no {a : List It} (h : ¬ StandI a) : standI a = false := @decide_eq_false _ (Classical.propDecidable _) h
theorem mayI_yes {a : List It} (h : MayI a) : mayI a = true := @decide_eq_true _ (Classical.propDecidable _) h
theorem mayI_no {a : List It} (h : ¬ MayI a) : mayI a = false := @decide_eq_false _ (Classical.propDecidable _) h
theorem mayI_of {a : List It} (h : mayI a = true) : MayI a := @of_decide_eq_true _ (Classical.propDecidable _) h
theorem mayI_not {a : List It} (h : mayI a = false) : ¬ MayI a := @of_decide_eq_false _ (Classical.propDecidable _) h
theorem StandI.right {a : List It} (h : StandI a) : AllRight a := fun i hi => ⟨(h.2 i hi).2.2.1, (h.2 i hi).2.2.2.1⟩
theorem StandI.own {a : List It} (h : StandI a) : ∀ i, i < a.length → 0 ≤ (itA a i).o ∧ (itA a i).o ≤ 1125899906842624 := fun i hi => (h.2 i hi).2.2.2.2
theorem may_stand {a : List It} : MayI a ↔ StandI a ∧ sameL (anewC a) a = true := by
  rw [sameL_iff]
  exact ⟨fun h => ⟨⟨h.1, h.2.1⟩, h.2.2⟩, fun h => ⟨h.1.1, h.1.2, h.2⟩⟩
theorem itA_take {a : List It} {k j : Nat} (h : j < k) : itA (a.take k) j = itA a j := by
  unfold itA; rw [List.getElem?_take, if_pos h]
/-- Whether an ID is ahead of place k. -/
theorem pos_take {a : List It} {k : Nat} (hk : k ≤ a.length) (x : Id2) : (posI (a.take k) x = -1 ∧ ∀ j, j < k → (itA a j).x ≠ x) ∨ ∃ j : Nat, posI (a.take k) x = (j : Int) ∧ j < k ∧ (itA a j).x = x := by
  have hl : (a.take k).length = k := by rw [List.length_take]; omega
  rcases posI_way (a.take k) x with ⟨h, g⟩ | ⟨j, h, hj, g⟩
  · refine Or.inl ⟨h, fun j hj => ?_⟩
    have := g j (by omega)
    rwa [itA_take hj] at this
  · rw [hl] at hj
    rw [itA_take hj] at g
    exact Or.inr ⟨j, h, hj, g⟩
theorem upto_items (A : Option Addr) (n c k : Nat) (hk : k ≤ c) (w : World) : (Instr.slice 76 (.slice A n c) none (some (.int .i64 (k : Int))) none).run Try.prog w = .ok (.slice A k c) w := by
  obtain ⟨i, hi, _⟩ := info_of Try.infoIt
  exact run_upto _ _ i Try.underlying76 hi A n c k hk w
theorem cells_items_take {w : World} {B : Nat} {A : Option Addr} {l : List It} (h : CellsAt w B A (itemCells l)) (k : Nat) : CellsAt w B A (itemCells (l.take k)) := by
  have e : itemCells l = itemCells (l.take k) ++ itemCells (l.drop k) := by
    unfold itemCells; rw [← List.flatMap_append, List.take_append_drop]
  rw [e] at h
  exact cells_prefix h
theorem findTo_any (A : Option Addr) (c : Nat) (a : List It) (k : Nat) (hk : k ≤ a.length) (hl : a.length ≤ 100000) (x : Id2) (w : World) (hA : CellsAt w w.heap.size A (itemCells a)) :
    Calls Try.prog 42 #[.slice A k c, .agg #[.int .u64 x.1, .int .u64 x.2]] w fun e w' => e = .returned (.int .i64 (posI (a.take k) x)) ∧ Kept w w' := by
  have e : (a.take k).length = k := by rw [List.length_take]; omega
  have h := findA_any A c (a.take k) (by omega) x w (cells_items_take hA k)
  rw [e] at h
  exact h

/-! ### mayStand -/
attribute [local go_sem high] eqIdZ in
set_option maxRecDepth 100000 in
set_option maxHeartbeats 3200000 in
theorem stand_any (A : Option Addr) (c : Nat) (a : List It) (hl : a.length ≤ 70) (hc : a.length ≤ c) (w : World) (hA : CellsAt w w.heap.size A (itemCells a)) :
    Calls Try.prog 47 #[.slice A a.length c] w fun e w' => e = .returned (.bool (standI a)) ∧ Kept w w' := by
  have HA := Lib.hid hA
  clear hA
  by_cases h60 : a.length ≤ 60
  · have H60 := Lib.hid h60
    go_enter Try.func47, Try.ntmps47
    go_wp2_with fail
    go_loopw [10] (fun i w' => ∃ k : Nat, k ≤ a.length ∧ i = .int .i64 k ∧ (∀ j, j < k → rightI a j) ∧ Kept w w') (fun i _ => a.length - (intOf i).toNat)
    case atStart => exact ⟨0, by omega, rfl, fun j h => by omega, Kept.refl _⟩
    case round =>
      obtain ⟨k, hk, rfl, hs, hK⟩ := hrel
      have HS := Lib.hid hs
      have HK := Lib.hid hK
      clear hs hK
      by_cases hlt : k < a.length
      · obtain ⟨z, o, rfl, hb, c0, c1, c2, c3, c4, c5, c6⟩ := item_at (HA.out.kept HK.out) hlt
        have HE := Lib.hid (itA_get hlt)
        have HW := Lib.hid (pos_take hk a[k].x)
        have HFd := Lib.hid (fun w' (kk : Kept wr w') => findTo_any (some ⟨z, o, none⟩) c a k hk (by omega) a[k].x w' ((HA.out.kept HK.out).kept kk))
        have hkc : k ≤ c := by omega
        have hup := fun w => upto_items (some ⟨z, o, none⟩) a.length c k hkc w
        generalize hpv : posI (a.take k) a[k].x = pv at *
        clear hpv
        generalize a[k] = y at *
        obtain ⟨yx, yp, yo, yw, yb, yh⟩ := y
        dsimp only at *
        go_upto_region 6 with (fail)
        have HKb := Lib.hid ((Kept.refl wr).alloc (.cells #[.int .u64 yx.1, .int .u64 yx.2, .int .i64 yp, .int .i64 yo, .int .i64 yw, .int .i64 yb, .int .i64 yh] 50))
        have HBx := Lib.hid (HasCells.new wr #[.int .u64 yx.1, .int .u64 yx.2, .int .i64 yp, .int .i64 yo, .int .i64 yw, .int .i64 yb, .int .i64 yh] 50 wr.heap.size rfl)
        clear c0 c1 c2 c3 c4 c5 c6 hb
        generalize wr.alloc (.cells #[.int .u64 yx.1, .int .u64 yx.2, .int .i64 yp, .int .i64 yo, .int .i64 yw, .int .i64 yb, .int .i64 yh] 50) = W2 at *
        generalize wr.heap.size = bk at *
        have m0 := HBx.out.at0
        have m1 := HBx.out.at1
        have hbk := HBx.out.1
        cases hz : isZ yx with
        | true =>
          have HB := Lib.hid (fun w' => (show Calls Try.prog 43 #[.agg #[.int .u64 yx.1, .int .u64 yx.2]] w' fun e w'' => e = .returned (.bool true) ∧ Kept w' w'' by have := isBegA_any yx w'; rw [hz] at this; exact this))
          have HF := Lib.hid (show standI a = false from standI_no fun h => (h.2 k hlt).1 (by rw [HE.out]; exact of_decide_eq_true hz))
          clear hz HFd hup
          refine wp_region_noPanic ?_
          refine wp_region_held_drew (S := (fun w' => w'.cell? ⟨bk, 0, none⟩ = some (.int .u64 yx.1) ∧ w'.cell? ⟨bk, 1, none⟩ = some (.int .u64 yx.2) ∧ Kept W2 w')) (by kernel_rfl) ?_ (fun hHeld => ?_)
          · exact ⟨m0, m1, (Kept.refl _).drew⟩
          refine wpAnyH_take (i := 0) (v := ?_) (by simp only [List.getElem?_toArray, List.getElem?_cons_succ, List.getElem?_cons_zero]; rfl) (by kernel_rfl) (by kernel_rfl) (by kernel_rfl) (fun _ _ _ h => h) (Or.inl ⟨by rfl, ?_⟩) (by assumption) ?_
          rotate_left
          · intro w hSw
            (try dsimp only at hSw)
            go_simp
            (try with_reducible rfl)
          simp only [Act.put, List.setIfInBounds_toArray, List.set_cons_zero, List.set_cons_succ]
          refine wpAnyH_take (i := 1) (v := ?_) (by simp only [List.getElem?_toArray, List.getElem?_cons_succ, List.getElem?_cons_zero]; rfl) (by kernel_rfl) (by kernel_rfl) (by kernel_rfl) (fun _ _ _ h => h) (Or.inl ⟨by rfl, ?_⟩) (by assumption) ?_
          rotate_left
          · intro w hSw
            (try dsimp only at hSw)
            go_simp
            (try with_reducible rfl)
          simp only [Act.put, List.setIfInBounds_toArray, List.set_cons_zero, List.set_cons_succ]
          refine wpAnyH_ready (rs := [2]) (by kernel_rfl) (by simp) ?_
          refine AllReadyH.cons (by simp only [List.getElem?_toArray, List.getElem?_cons_succ, List.getElem?_cons_zero]; rfl) (fun K hK => ?_) (AllReadyH.nil)
          go_simp
          go_at_call 43; with_reducible refine (HB.out _).mono ?_
          rintro e w' ⟨rfl, kk⟩
          refine hK.out _ _ ?_ (fun hHeld2 => ?_)
          · exact keepP2 hbk hbk hHeld kk
          clear hK K hHeld
          have hHeld := hHeld2
          clear hHeld2
          try simp only [Act.put, List.setIfInBounds_toArray, List.set_cons_zero, List.set_cons_succ]
          refine wpAnyH_take (i := 3) (v := ?_) (by simp only [List.getElem?_toArray, List.getElem?_cons_succ, List.getElem?_cons_zero]; rfl) (by kernel_rfl) (by kernel_rfl) (by kernel_rfl) (fun _ _ _ h => h) (Or.inl ⟨by rfl, ?_⟩) (by assumption) ?_
          rotate_left
          · intro w hSw
            (try dsimp only at hSw)
            go_simp
            (try with_reducible rfl)
          simp only [Act.put, List.setIfInBounds_toArray, List.set_cons_zero, List.set_cons_succ]
          refine wpAnyH_take (i := 4) (v := undef) (by simp only [List.getElem?_toArray, List.getElem?_cons_succ, List.getElem?_cons_zero]; rfl) (by kernel_rfl) (by kernel_rfl) (by kernel_rfl) (fun _ _ _ h => h) (Or.inr ⟨by rfl, rfl⟩) (by assumption) ?_
          simp only [Act.put, List.setIfInBounds_toArray, List.set_cons_zero, List.set_cons_succ]
          refine wpAnyH_take (i := 5) (v := undef) (by simp only [List.getElem?_toArray, List.getElem?_cons_succ, List.getElem?_cons_zero]; rfl) (by kernel_rfl) (by kernel_rfl) (by kernel_rfl) (fun _ _ _ h => h) (Or.inr ⟨by rfl, rfl⟩) (by assumption) ?_
          simp only [Act.put, List.setIfInBounds_toArray, List.set_cons_zero, List.set_cons_succ]
          refine wpAnyH_take (i := 6) (v := undef) (by simp only [List.getElem?_toArray, List.getElem?_cons_succ, List.getElem?_cons_zero]; rfl) (by kernel_rfl) (by kernel_rfl) (by kernel_rfl) (fun _ _ _ h => h) (Or.inr ⟨by rfl, rfl⟩) (by assumption) ?_
          simp only [Act.put, List.setIfInBounds_toArray, List.set_cons_zero, List.set_cons_succ]
          refine wpAnyH_take (i := 7) (v := undef) (by simp only [List.getElem?_toArray, List.getElem?_cons_succ, List.getElem?_cons_zero]; rfl) (by kernel_rfl) (by kernel_rfl) (by kernel_rfl) (fun _ _ _ h => h) (Or.inr ⟨by rfl, rfl⟩) (by assumption) ?_
          simp only [Act.put, List.setIfInBounds_toArray, List.set_cons_zero, List.set_cons_succ]
          refine wpAnyH_take (i := 8) (v := undef) (by simp only [List.getElem?_toArray, List.getElem?_cons_succ, List.getElem?_cons_zero]; rfl) (by kernel_rfl) (by kernel_rfl) (by kernel_rfl) (fun _ _ _ h => h) (Or.inr ⟨by rfl, rfl⟩) (by assumption) ?_
          simp only [Act.put, List.setIfInBounds_toArray, List.set_cons_zero, List.set_cons_succ]
          refine wpAnyH_take (i := 9) (v := undef) (by simp only [List.getElem?_toArray, List.getElem?_cons_succ, List.getElem?_cons_zero]; rfl) (by kernel_rfl) (by kernel_rfl) (by kernel_rfl) (fun _ _ _ h => h) (Or.inr ⟨by rfl, rfl⟩) (by assumption) ?_
          simp only [Act.put, List.setIfInBounds_toArray, List.set_cons_zero, List.set_cons_succ]
          refine wpAnyH_take (i := 10) (v := undef) (by simp only [List.getElem?_toArray, List.getElem?_cons_succ, List.getElem?_cons_zero]; rfl) (by kernel_rfl) (by kernel_rfl) (by kernel_rfl) (fun _ _ _ h => h) (Or.inr ⟨by rfl, rfl⟩) (by assumption) ?_
          simp only [Act.put, List.setIfInBounds_toArray, List.set_cons_zero, List.set_cons_succ]
          refine wpAnyH_take (i := 11) (v := ?_) (by simp only [List.getElem?_toArray, List.getElem?_cons_succ, List.getElem?_cons_zero]; rfl) (by kernel_rfl) (by kernel_rfl) (by kernel_rfl) (fun _ _ _ h => h) (Or.inl ⟨by rfl, ?_⟩) (by assumption) ?_
          rotate_left
          · intro w hSw
            (try dsimp only at hSw)
            go_simp
            (try with_reducible rfl)
          simp only [Act.put, List.setIfInBounds_toArray, List.set_cons_zero, List.set_cons_succ]
          refine wpAnyH_done (by kernel_rfl) ?_ _
          refine NoPanic.normal ?_
          have HKE := Lib.hid (HK.out.trans (HKb.out.trans hHeld.2.2))
          clear hHeld kk
          go_wp2_with fail
          go_ret
          exact ⟨by rw [HF.out]; rfl, HKE.out⟩
        | false =>
          have HB := Lib.hid (fun w' => (show Calls Try.prog 43 #[.agg #[.int .u64 yx.1, .int .u64 yx.2]] w' fun e w'' => e = .returned (.bool false) ∧ Kept w' w'' by have := isBegA_any yx w'; rw [hz] at this; exact this))
          have HZ := Lib.hid (of_decide_eq_false hz : ¬ yx = zid)
          clear hz
          refine wp_region_noPanic ?_
          refine wp_region_held_drew (S := (fun w' => w'.cell? ⟨bk, 0, none⟩ = some (.int .u64 yx.1) ∧ w'.cell? ⟨bk, 1, none⟩ = some (.int .u64 yx.2) ∧ Kept W2 w')) (by kernel_rfl) ?_ (fun hHeld => ?_)
          · exact ⟨m0, m1, (Kept.refl _).drew⟩
          refine wpAnyH_take (i := 0) (v := ?_) (by simp only [List.getElem?_toArray, List.getElem?_cons_succ, List.getElem?_cons_zero]; rfl) (by kernel_rfl) (by kernel_rfl) (by kernel_rfl) (fun _ _ _ h => h) (Or.inl ⟨by rfl, ?_⟩) (by assumption) ?_
          rotate_left
          · intro w hSw
            (try dsimp only at hSw)
            go_simp
            (try with_reducible rfl)
          simp only [Act.put, List.setIfInBounds_toArray, List.set_cons_zero, List.set_cons_succ]
          refine wpAnyH_take (i := 1) (v := ?_) (by simp only [List.getElem?_toArray, List.getElem?_cons_succ, List.getElem?_cons_zero]; rfl) (by kernel_rfl) (by kernel_rfl) (by kernel_rfl) (fun _ _ _ h => h) (Or.inl ⟨by rfl, ?_⟩) (by assumption) ?_
          rotate_left
          · intro w hSw
            (try dsimp only at hSw)
            go_simp
            (try with_reducible rfl)
          simp only [Act.put, List.setIfInBounds_toArray, List.set_cons_zero, List.set_cons_succ]
          refine wpAnyH_ready (rs := [2]) (by kernel_rfl) (by simp) ?_
          refine AllReadyH.cons (by simp only [List.getElem?_toArray, List.getElem?_cons_succ, List.getElem?_cons_zero]; rfl) (fun K hK => ?_) (AllReadyH.nil)
          go_simp
          go_at_call 43; with_reducible refine (HB.out _).mono ?_
          rintro e w' ⟨rfl, kk⟩
          refine hK.out _ _ ?_ (fun hHeld2 => ?_)
          · exact keepP2 hbk hbk hHeld kk
          clear hK K hHeld
          have hHeld := hHeld2
          clear hHeld2
          try simp only [Act.put, List.setIfInBounds_toArray, List.set_cons_zero, List.set_cons_succ]
          refine wpAnyH_take (i := 3) (v := ?_) (by simp only [List.getElem?_toArray, List.getElem?_cons_succ, List.getElem?_cons_zero]; rfl) (by kernel_rfl) (by kernel_rfl) (by kernel_rfl) (fun _ _ _ h => h) (Or.inl ⟨by rfl, ?_⟩) (by assumption) ?_
          rotate_left
          · intro w hSw
            (try dsimp only at hSw)
            go_simp
            (try with_reducible rfl)
          simp only [Act.put, List.setIfInBounds_toArray, List.set_cons_zero, List.set_cons_succ]
          refine wpAnyH_take (i := 4) (v := ?_) (by simp only [List.getElem?_toArray, List.getElem?_cons_succ, List.getElem?_cons_zero]; rfl) (by kernel_rfl) (by kernel_rfl) (by kernel_rfl) (fun _ _ _ h => h) (Or.inl ⟨by rfl, ?_⟩) (by assumption) ?_
          rotate_left
          · intro w hSw
            (try dsimp only at hSw)
            go_simp
            (try with_reducible rfl)
          simp only [Act.put, List.setIfInBounds_toArray, List.set_cons_zero, List.set_cons_succ]
          refine wpAnyH_take (i := 5) (v := ?_) (by simp only [List.getElem?_toArray, List.getElem?_cons_succ, List.getElem?_cons_zero]; rfl) (by kernel_rfl) (by kernel_rfl) (by kernel_rfl) (fun _ _ _ h => h) (Or.inl ⟨by rfl, ?_⟩) (by assumption) ?_
          rotate_left
          · intro w hSw
            (try dsimp only at hSw)
            go_simp
            (try with_reducible rfl)
          simp only [Act.put, List.setIfInBounds_toArray, List.set_cons_zero, List.set_cons_succ]
          refine wpAnyH_take (i := 6) (v := ?_) (by simp only [List.getElem?_toArray, List.getElem?_cons_succ, List.getElem?_cons_zero]; rfl) (by kernel_rfl) (by kernel_rfl) (by kernel_rfl) (fun _ _ _ h => h) (Or.inl ⟨by rfl, ?_⟩) (by assumption) ?_
          rotate_left
          · intro w hSw
            (try dsimp only at hSw)
            go_simp
            (try with_reducible rfl)
          simp only [Act.put, List.setIfInBounds_toArray, List.set_cons_zero, List.set_cons_succ]
          refine wpAnyH_take (i := 7) (v := ?_) (by simp only [List.getElem?_toArray, List.getElem?_cons_succ, List.getElem?_cons_zero]; rfl) (by kernel_rfl) (by kernel_rfl) (by kernel_rfl) (fun _ _ _ h => h) (Or.inl ⟨by rfl, ?_⟩) (by assumption) ?_
          rotate_left
          · intro w hSw
            (try dsimp only at hSw)
            go_simp
            (try with_reducible rfl)
          simp only [Act.put, List.setIfInBounds_toArray, List.set_cons_zero, List.set_cons_succ]
          refine wpAnyH_take (i := 8) (v := ?_) (by simp only [List.getElem?_toArray, List.getElem?_cons_succ, List.getElem?_cons_zero]; rfl) (by kernel_rfl) (by kernel_rfl) (by kernel_rfl) (fun _ _ _ h => h) (Or.inl ⟨by rfl, ?_⟩) (by assumption) ?_
          rotate_left
          · intro w hSw
            (try dsimp only at hSw)
            go_simp
            (try with_reducible rfl)
          simp only [Act.put, List.setIfInBounds_toArray, List.set_cons_zero, List.set_cons_succ]
          refine wpAnyH_ready (rs := [9]) (by kernel_rfl) (by simp) ?_
          refine AllReadyH.cons (by simp only [List.getElem?_toArray, List.getElem?_cons_succ, List.getElem?_cons_zero]; rfl) (fun K hK => ?_) (AllReadyH.nil)
          go_simp
          go_at_call 42; with_reducible refine (HFd.out _ (HKb.out.trans hHeld.2.2)).mono ?_
          rintro e w' ⟨rfl, kk⟩
          refine hK.out _ _ ?_ (fun hHeld2 => ?_)
          · exact keepP2 hbk hbk hHeld kk
          clear hK K hHeld
          have hHeld := hHeld2
          clear hHeld2
          try simp only [Act.put, List.setIfInBounds_toArray, List.set_cons_zero, List.set_cons_succ]
          refine wpAnyH_take (i := 10) (v := ?_) (by simp only [List.getElem?_toArray, List.getElem?_cons_succ, List.getElem?_cons_zero]; rfl) (by kernel_rfl) (by kernel_rfl) (by kernel_rfl) (fun _ _ _ h => h) (Or.inl ⟨by rfl, ?_⟩) (by assumption) ?_
          rotate_left
          · intro w hSw
            (try dsimp only at hSw)
            go_simp
            (try with_reducible rfl)
          simp only [Act.put, List.setIfInBounds_toArray, List.set_cons_zero, List.set_cons_succ]
          refine wpAnyH_take (i := 11) (v := ?_) (by simp only [List.getElem?_toArray, List.getElem?_cons_succ, List.getElem?_cons_zero]; rfl) (by kernel_rfl) (by kernel_rfl) (by kernel_rfl) (fun _ _ _ h => h) (Or.inl ⟨by rfl, ?_⟩) (by assumption) ?_
          rotate_left
          · intro w hSw
            (try dsimp only at hSw)
            go_simp
            (try with_reducible rfl)
          simp only [Act.put, List.setIfInBounds_toArray, List.set_cons_zero, List.set_cons_succ]
          refine wpAnyH_done (by kernel_rfl) ?_ _
          refine NoPanic.normal ?_
          have HKE := Lib.hid (HK.out.trans (HKb.out.trans hHeld.2.2))
          have HB2 := Lib.hid (HBx.out.kept hHeld.2.2)
          clear hHeld kk m0 m1 hbk HFd hup HB
          generalize w' = V1 at *
          have m2 := HB2.out.at2
          have m3 := HB2.out.at3
          have hbk := HB2.out.1
          rcases HW.out with ⟨rfl, hno⟩ | ⟨j, rfl, hj, hx⟩
          · have HNo := Lib.hid hno
            clear hno HW
            by_cases h1 : yp < -1
            · have HF := Lib.hid (show standI a = false from standI_no fun h => by have := (h.2 k hlt).2.2.1; rw [HE.out] at this; simp only at this; omega)
              go_wp2_with fail
              go_ret
              exact ⟨by rw [HF.out]; rfl, HKE.out⟩
            · by_cases h2 : (k : Int) ≤ yp
              · have HF := Lib.hid (show standI a = false from standI_no fun h => by have := (h.2 k hlt).2.2.2.1; rw [HE.out] at this; simp only at this; omega)
                go_wp2_with fail
                go_ret
                exact ⟨by rw [HF.out]; rfl, HKE.out⟩
              · go_wp2_with fail
                refine (ownB_any yo _).mono ?_
                rintro e w' ⟨rfl, rfl⟩
                cases ho : ownB yo with
                | true =>
                  have HT := Lib.hid (show ∀ j, j < k + 1 → rightI a j from fun j hj => by
                    by_cases e : j = k
                    · subst e
                      unfold rightI
                      rw [HE.out]
                      exact ⟨HZ.out, HNo.out, by omega, by omega, ownB_yes ho⟩
                    · exact HS.out j (by omega))
                  clear ho
                  go_wp2_with fail
                  go_roundw
                  case rel => exact ⟨k + 1, by omega, by go_num, HT.out, HKE.out⟩
                  case measure => simp [intOf]; omega
                | false =>
                  have HF := Lib.hid (show standI a = false from standI_no fun h => ownB_no ho (by have := (h.2 k hlt).2.2.2.2; rw [HE.out] at this; exact this))
                  clear ho
                  go_wp2_with fail
                  go_ret
                  exact ⟨by rw [HF.out]; rfl, HKE.out⟩
          · have HF := Lib.hid (show standI a = false from standI_no fun h => (h.2 k hlt).2.1 j hj (by rw [HE.out]; exact hx))
            have hj1 : ((j : Int) != -1) = true := by rw [bne_iff_ne]; omega
            clear hx HW hj
            go_wp2_with fail
            go_ret
            exact ⟨by rw [HF.out]; rfl, HKE.out⟩
      · have hkl : k = a.length := by omega
        subst hkl
        have HT := Lib.hid (show standI a = true from standI_yes ⟨H60.out, HS.out⟩)
        go_wp2_with fail
        go_ret
        exact ⟨by rw [HT.out]; rfl, HK.out⟩
  · have HF := Lib.hid (show standI a = false from standI_no fun h => h60 h.1)
    go_enter Try.func47, Try.ntmps47
    go_wp2_with fail
    go_ret
    exact ⟨by rw [HF.out]; rfl, Kept.refl _⟩

/-! ### May -/
theorem form0 {W w : World} {l : List It} {A : Option Addr} {n c : Nat} (h : Its W l (.slice A n c) w) (h0 : 0 < l.length) : ∃ g, A = some ⟨g, 0, none⟩ ∧ W.heap.size ≤ g := by
  obtain ⟨g, c', e, hg, _⟩ := h.form h0
  injection e with e1 _ _
  exact ⟨g, e1, hg⟩
set_option maxRecDepth 100000 in
set_option maxHeartbeats 800000 in
theorem settleV_any (W : World) (A : Option Addr) (c : Nat) (a : List It) (hl : a.length ≤ 70) (hr : AllRight a) (ho : ∀ i, i < a.length → 0 ≤ (itA a i).o ∧ (itA a i).o ≤ 1125899906842624) (w : World) (hA : Its W a (.slice A a.length c) w) :
    Calls Try.prog 45 #[.slice A a.length c] w fun e w' => e = .returned (.tuple #[]) ∧ Its W (anewC a) (.slice A a.length c) w' := by
  by_cases h0 : 0 < a.length
  · obtain ⟨g, rfl, _⟩ := form0 hA h0
    exact settle_any W g c a hl hr ho w hA
  · have he : a = [] := List.eq_nil_of_length_eq_zero (by omega)
    subst he
    have HA := Lib.hid (show Its W (anewC []) (.slice A 0 c) w from hA)
    clear hA hr ho
    show Calls Try.prog 45 #[.slice A 0 c] w _
    go_enter Try.func45, Try.ntmps45
    go_wp2_with fail
    go_loopw [2] (fun i w' => i = .int .i64 (-1) ∧ w' = w) (fun _ _ => 0)
    case atStart => exact ⟨rfl, rfl⟩
    case round =>
      obtain ⟨rfl, rfl⟩ := hrel
      go_wp2_with fail
      go_end0
      exact ⟨rfl, HA.out⟩
set_option maxRecDepth 100000 in
set_option maxHeartbeats 800000 in
theorem mayI_any (A : Option Addr) (c : Nat) (a : List It) (hl : a.length ≤ 70) (hc : a.length ≤ c) (w : World) (hA : CellsAt w w.heap.size A (itemCells a)) :
    Calls Try.prog 24 #[.slice A a.length c] w fun e w' => e = .returned (.bool (mayI a)) ∧ Kept w w' := by
  have HA := Lib.hid hA
  have HSt := Lib.hid (stand_any A c a hl hc w hA)
  clear hA
  go_enter Try.func24, Try.ntmps24
  go_wp2_with fail
  refine HSt.out.mono ?_
  rintro e W1 ⟨rfl, k1⟩
  have K1 := Lib.hid k1
  clear k1 HSt
  cases hs : standI a with
  | false =>
    have HF := Lib.hid (show mayI a = false from mayI_no fun h => by rw [standI_yes (may_stand.1 h).1] at hs; cases hs)
    clear hs
    go_wp2_with fail
    go_ret
    exact ⟨by rw [HF.out]; rfl, K1.out⟩
  | true =>
    have HS := Lib.hid (show StandI a from @of_decide_eq_true _ (Classical.propDecidable _) hs)
    clear hs
    have HM := Lib.hid (show mayI a = sameL (anewC a) a by
      cases q : sameL (anewC a) a with
      | true => exact mayI_yes (may_stand.2 ⟨HS.out, q⟩)
      | false => exact mayI_no fun h => by rw [(may_stand.1 h).2] at q; cases q)
    have HCl := Lib.hid (clone_any A c a (by omega) W1 (HA.out.kept K1.out))
    have HSe := Lib.hid (fun A' c' w' hI => settleV_any W1 A' c' a hl HS.out.right HS.out.own w' hI)
    have HEq := Lib.hid (fun A' c' w' (h1 : CellsAt w' w'.heap.size A' (itemCells (anewC a))) (h2 : CellsAt w' w'.heap.size A (itemCells a)) => (show Calls Try.prog 48 #[.slice A' a.length c', .slice A a.length c] w' fun e w'' => e = .returned (.bool (sameL (anewC a) a)) ∧ Kept w' w'' by
      have h := equal_any A' c' (anewC a) A c a (by rw [anewC_length]; omega) (by omega) w' h1 h2
      rw [anewC_length] at h
      exact h))
    have HAl := Lib.hid (anewC_length a)
    generalize hm : sameL (anewC a) a = sm at *
    clear hm
    generalize hn : a.length = n at *
    clear hn
    go_wp2_with fail
    refine HCl.out.mono ?_
    rintro e W2 ⟨A2, c2, rfl, hI⟩
    have HI := Lib.hid hI
    clear hI HCl
    go_wp2_with fail
    refine (HSe.out A2 c2 W2 HI.out).mono ?_
    rintro e W3 ⟨rfl, hI3⟩
    have HI3 := Lib.hid hI3
    clear hI3 HI
    go_wp2_with fail
    refine (HEq.out A2 c2 W3 (HI3.out.cells HAl.out.symm) ((HA.out.kept K1.out).kept HI3.out.2)).mono ?_
    rintro e W4 ⟨rfl, k4⟩
    have K4 := Lib.hid (K1.out.trans (HI3.out.2.trans k4))
    clear k4
    go_wp2_with fail
    go_ret
    exact ⟨by rw [HM.out]; rfl, K4.out⟩

end Go.Proofs.Ytabmdilhfiembaa
