/-
  The contracts of Insert and Move of the given package marigoldref10.
-/
import Derived.Test.YtabmdilhfiembaaArrayRefMay
import Derived.Test.YtabmdilhfiembaaArrayMove
namespace Go.Proofs.Ytabmdilhfiembaa
set_option maxRecDepth 100000
set_option linter.unusedVariables false
set_option linter.unusedSimpArgs false
set_option linter.unusedVariables false
open Go.ChangeShapes Go.WideShapes Go.ChangeAt Go.RowKit

attribute [local go_sem high] eqIdZ in
set_option maxRecDepth 100000 in
set_option maxHeartbeats 3200000 in
theorem refInsA_any (A : Option Addr) (c : Nat) (a : List It) (hl : a.length ≤ 70) (id par : Id2) (w : World) (hA : CellsAt w w.heap.size A (itemCells a)) :
    Calls Try.prog 20 #[.slice A a.length c, .agg #[.int .u64 id.1, .int .u64 id.2], .agg #[.int .u64 par.1, .int .u64 par.2]] w (ItsNew (insC a id par) w) := by
  have K0 := Lib.hid (((Kept.refl w).alloc (.cells #[.int .u64 id.1, .int .u64 id.2] 29)).alloc (.cells #[.int .u64 par.1, .int .u64 par.2] 29))
  have HI := Lib.hid ((HasCells.new w #[.int .u64 id.1, .int .u64 id.2] 29 w.heap.size rfl).alloc (.cells #[.int .u64 par.1, .int .u64 par.2] 29))
  have HP := Lib.hid (HasCells.new (w.alloc (.cells #[.int .u64 id.1, .int .u64 id.2] 29)) #[.int .u64 par.1, .int .u64 par.2] 29 (w.heap.size + 1) (by simp))
  have HA := Lib.hid (hA.kept K0.out)
  clear hA
  go_enter Try.func20, Try.ntmps20
  go_wp2_with fail
  generalize (w.alloc (.cells #[.int .u64 id.1, .int .u64 id.2] 29)).alloc (.cells #[.int .u64 par.1, .int .u64 par.2] 29) = W at *
  generalize w.heap.size + 1 = y at *
  generalize w.heap.size = z at *
  refine (refMayA_any A c a hl W HA.out).mono ?_
  rintro e W2 ⟨rfl, k2⟩
  have K2 := Lib.hid k2
  clear k2
  cases hm : mayI a with
  | false =>
    have HE := Lib.hid (insC_arg (id := id) (par := par) (Or.inl hm))
    clear hm
    go_wp2_with fail
    go_ret2
    exact ItsNew.none HE.out (K0.out.trans K2.out)
  | true =>
    have HMa := Lib.hid (mayI_of hm)
    obtain ⟨d0, d1⟩ := (HI.out.kept K2.out).two
    have hzl := (HI.out.kept K2.out).1
    cases hz : isZ id with
    | true =>
      have HE := Lib.hid (insC_arg (a := a) (par := par) (Or.inr (of_decide_eq_true hz : id = zid)))
      clear hm
      go_wp2_with fail
      go_ret2
      exact ItsNew.none HE.out (K0.out.trans K2.out)
    | false =>
      have HG := Lib.hid (show ¬ (mayI a = false ∨ id = zid) from fun h => by
        rcases h with h | h
        · rw [hm] at h; cases h
        · exact of_decide_eq_false hz h)
      clear hm
      go_wp2_with fail
      refine (refFindA_any A c a (by omega) id W2 (HA.out.kept K2.out)).mono ?_
      rintro e W4 ⟨rfl, k4⟩
      have K4 := Lib.hid (K2.out.trans k4)
      clear k4 d0 d1 hzl K2 hz
      rcases posI_way a id with ⟨hq, _⟩ | ⟨j, hq, _⟩
      · have HQ := Lib.hid (show ¬ 0 ≤ posI a id by rw [hq]; omega)
        rw [hq]
        clear hq
        obtain ⟨e0, e1⟩ := (HP.out.kept K4.out).two
        have hyl := (HP.out.kept K4.out).1
        go_wp2_with fail
        refine (refFindA_any A c a (by omega) par W4 (HA.out.kept K4.out)).mono ?_
        rintro e W5 ⟨rfl, k5⟩
        have K5 := Lib.hid (K4.out.trans k5)
        clear k5 e0 e1 hyl K4
        obtain ⟨e0, e1⟩ := (HP.out.kept K5.out).two
        have hyl := (HP.out.kept K5.out).1
        rcases posI_way a par with ⟨hp, _⟩ | ⟨pp, hp, hpl, _⟩
        · have HPp := Lib.hid hp
          rw [hp]
          clear hp
          cases hz : isZ par with
          | false =>
            have HE := Lib.hid (insC_none HG.out (by have := HQ.out; omega) ⟨HPp.out, (of_decide_eq_false hz : ¬ par = zid)⟩)
            go_wp2_with fail
            go_ret2
            exact ItsNew.none HE.out (K0.out.trans K5.out)
          | true =>
            have HN := Lib.hid (show ¬ (posI a par = -1 ∧ par ≠ zid) from fun h => h.2 (of_decide_eq_true hz))
            by_cases h60 : a.length = 60
            · have HE := Lib.hid (insC_full HG.out (by have := HQ.out; omega) HN.out h60)
              have h6 : ((60 : Int) ≤ (a.length : Int)) := by omega
              clear h60
              go_wp2_with fail
              go_ret2
              exact ItsNew.none HE.out (K0.out.trans K5.out)
            · have HE := Lib.hid (show insC a id par = (anewC (putI a id (-1)), 0) by have h := insC_ok HG.out (by have := HQ.out; omega) HN.out h60; rw [HPp.out] at h; exact h)
              have h6 : ¬ ((60 : Int) ≤ (a.length : Int)) := by have := HMa.out.1; omega
              clear h60
              obtain ⟨pv, hpv⟩ : ∃ pv : Int, pv = -1 := ⟨_, rfl⟩
              have HB := Lib.hid (show -1 ≤ pv ∧ pv < a.length by omega)
              have hpn : pv < 0 := by omega
              rw [← hpv] at HE ⊢
              clear hpv
              have K9 := Lib.hid K5.out
              obtain ⟨m0, m1⟩ := (HI.out.kept K9.out).two
              have hzl := (HI.out.kept K9.out).1
              have hlen : a.length + 1 ≤ 1000000 := by omega
              go_wp2_with fail
              refine wp_region_noPanic ?_
              refine wp_region_held_drew (S := (fun w' => w'.cell? ⟨z, 0, none⟩ = some (.int .u64 id.1) ∧ w'.cell? ⟨z, 1, none⟩ = some (.int .u64 id.2) ∧ Kept W5 w')) (by kernel_rfl) ?_ (fun hHeld => ?_)
              · exact ⟨m0, m1, (Kept.refl _).drew⟩
              refine wpAnyH_take (i := 0) (v := ?_) (by simp only [List.getElem?_toArray, List.getElem?_cons_succ, List.getElem?_cons_zero]; rfl) (by kernel_rfl) (by kernel_rfl) (by kernel_rfl) (fun _ _ _ h => h) (Or.inl ⟨by rfl, ?_⟩) (by assumption) ?_
              rotate_left
              · intro w hSw
                (try dsimp only at hSw)
                go_simp
                (try with_reducible rfl)
              simp only [Act.put, List.setIfInBounds_toArray, List.set_cons_zero, List.set_cons_succ]
              refine wpAnyH_take (i := 2) (v := ?_) (by simp only [List.getElem?_toArray, List.getElem?_cons_succ, List.getElem?_cons_zero]; rfl) (by kernel_rfl) (by kernel_rfl) (by kernel_rfl) (fun _ _ _ h => h) (Or.inl ⟨by rfl, ?_⟩) (by assumption) ?_
              rotate_left
              · intro w hSw
                (try dsimp only at hSw)
                go_simp
                (try with_reducible rfl)
              simp only [Act.put, List.setIfInBounds_toArray, List.set_cons_zero, List.set_cons_succ]
              refine wpAnyH_take (i := 3) (v := ?_) (by simp only [List.getElem?_toArray, List.getElem?_cons_succ, List.getElem?_cons_zero]; rfl) (by kernel_rfl) (by kernel_rfl) (by kernel_rfl) (fun _ _ _ h => h) (Or.inl ⟨by rfl, ?_⟩) (by assumption) ?_
              rotate_left
              · intro w hSw
                (try dsimp only at hSw)
                go_simp
                (try with_reducible rfl)
              simp only [Act.put, List.setIfInBounds_toArray, List.set_cons_zero, List.set_cons_succ]
              refine wpAnyH_take (i := 4) (v := ?_) (by simp only [List.getElem?_toArray, List.getElem?_cons_succ, List.getElem?_cons_zero]; rfl) (by kernel_rfl) (by kernel_rfl) (by kernel_rfl) (fun _ _ _ h => h) (Or.inl ⟨by rfl, ?_⟩) (by assumption) ?_
              rotate_left
              · intro w hSw
                (try dsimp only at hSw)
                go_simp
                (try with_reducible rfl)
              simp only [Act.put, List.setIfInBounds_toArray, List.set_cons_zero, List.set_cons_succ]
              refine wpAnyH_ready (rs := [1, 5]) (by kernel_rfl) (by simp) ?_
              refine AllReadyH.cons (by simp only [List.getElem?_toArray, List.getElem?_cons_succ, List.getElem?_cons_zero]; rfl) (fun K hK => ?_) (AllReadyH.cons (by simp only [List.getElem?_toArray, List.getElem?_cons_succ, List.getElem?_cons_zero]; rfl) (fun K hK => ?_) (AllReadyH.nil))
              · refine step_its _ (by rfl) 36 Try.underlying36 (.const (.slice none 0 0)) (.tmp 37) (by rfl) _ [] _ (by rfl) (Its.nil _) _ A a.length c a (by rfl) rfl ((HA.out.kept K9.out).kept (Kept.drew (Kept.refl _))) (by simp; omega) ?_
                intro A1 c1 w1 hI _
                rw [List.nil_append] at hI ⊢
                have k1 : Kept W5 w1 := Kept.trans (Kept.drew (Kept.refl _)) hI.2
                refine hK.out _ _ ?_ (fun hHeld2 => ?_)
                · exact keepP2 hzl hzl ⟨m0, m1, Kept.refl _⟩ k1
                clear hK K hHeld
                have hHeld := hHeld2
                clear hHeld2
                try simp only [Act.put, List.setIfInBounds_toArray, List.set_cons_zero, List.set_cons_succ]
                refine wpAnyH_ready (rs := [5]) (by kernel_rfl) (by simp) ?_
                refine AllReadyH.cons (by simp only [List.getElem?_toArray, List.getElem?_cons_succ, List.getElem?_cons_zero]; rfl) (fun K hK => ?_) (AllReadyH.nil)
                go_simp
                refine hK.out _ _ ?_ (fun hHeld2 => ?_)
                · exact keepP2 hzl hzl hHeld ((Kept.refl _).alloc _)
                clear hK K hHeld
                have hHeld := hHeld2
                clear hHeld2
                try simp only [Act.put, List.setIfInBounds_toArray, List.set_cons_zero, List.set_cons_succ]
                refine wpAnyH_ready (rs := [6]) (by kernel_rfl) (by simp) ?_
                refine AllReadyH.cons (by simp only [List.getElem?_toArray, List.getElem?_cons_succ, List.getElem?_cons_zero]; rfl) (fun K hK => ?_) (AllReadyH.nil)
                refine step_its _ (by rfl) 36 Try.underlying36 (.tmp 38) (.tmp 42) (by rfl) _ a _ (by rfl) (hI.alloc (.cells #[.int .u64 id.1, .int .u64 id.2, .int .i64 pv, .int .i64 0, .int .i64 0, .int .i64 0, .int .i64 0] 50)) _ _ 1 1 [⟨id, pv, 0, 0, 0, 0⟩] (by rfl) rfl (items_new (t := ⟨id, pv, 0, 0, 0, 0⟩) w1.heap.size rfl 50) (by omega) ?_
                intro A6 c6 w6 hI6 _
                have k6 : Kept W5 w6 := Kept.trans (Kept.drew (Kept.refl _)) hI6.2
                refine hK.out _ _ ?_ (fun hHeld2 => ?_)
                · exact keepP2 hzl hzl ⟨m0, m1, Kept.refl _⟩ k6
                clear hK K hHeld
                have hHeld := hHeld2
                clear hHeld2
                try simp only [Act.put, List.setIfInBounds_toArray, List.set_cons_zero, List.set_cons_succ]
                refine wpAnyH_take (i := 7) (v := ?_) (by simp only [List.getElem?_toArray, List.getElem?_cons_succ, List.getElem?_cons_zero]; rfl) (by kernel_rfl) (by kernel_rfl) (by kernel_rfl) (fun _ _ _ h => h) (Or.inl ⟨by rfl, ?_⟩) (by assumption) ?_
                rotate_left
                · intro w hSw
                  (try dsimp only at hSw)
                  go_simp
                  (try with_reducible rfl)
                simp only [Act.put, List.setIfInBounds_toArray, List.set_cons_zero, List.set_cons_succ]
                refine wpAnyH_done (by kernel_rfl) ?_ _
                refine NoPanic.normal ?_
                have HI6 := Lib.hid (show Its W5 (putI a id pv) (.slice A6 (a.length + 1) c6) w6 from by have h := hI6.mono (Kept.drew (Kept.refl _)); rw [show (a ++ [(⟨id, pv, 0, 0, 0, 0⟩ : It)]).length = a.length + 1 from by simp] at h; exact h)
                clear hHeld hI6 hI k6 k1 m0 m1 hzl
                generalize w6 = V1 at *
                have HSe := Lib.hid (show Calls Try.prog 41 #[.slice A6 (a.length + 1) c6] V1 fun e w' => ∃ A' c', e = .returned (.slice A' (a.length + 1) c') ∧ Its V1 (anewC (putI a id pv)) (.slice A' (a.length + 1) c') w' from by
                  have h := refAnew_any A6 c6 (putI a id pv) (by rw [putI_length]; have := HMa.out.1; omega) (putI_right HMa.out.stand.right id HB.out.1 HB.out.2) (putI_own HMa.out.stand.own id pv) V1 (HI6.out.cells (by rw [putI_length]))
                  rw [putI_length] at h
                  exact h)
                have HLn := Lib.hid (show (anewC (putI a id pv)).length = a.length + 1 by rw [anewC_length, putI_length])
                go_wp2_with fail
                refine HSe.out.mono ?_
                rintro e V2 ⟨A7, c7, rfl, hI2⟩
                have HI2 := Lib.hid hI2
                clear hI2 HSe
                go_wp2_with fail
                go_ret2
                rw [HE.out]
                exact ⟨A7, c7, by rw [HLn.out]; rfl, HI2.out.cells HLn.out.symm, by rw [HLn.out]; exact HI2.out.cap, K0.out.trans (K9.out.trans (HI6.out.2.trans HI2.out.2))⟩
              · go_simp
                refine hK.out _ _ ?_ (fun hHeld2 => ?_)
                · exact keepP2 hzl hzl hHeld ((Kept.refl _).alloc _)
                clear hK K hHeld
                have hHeld := hHeld2
                clear hHeld2
                try simp only [Act.put, List.setIfInBounds_toArray, List.set_cons_zero, List.set_cons_succ]
                refine wpAnyH_ready (rs := [1]) (by kernel_rfl) (by simp) ?_
                refine AllReadyH.cons (by simp only [List.getElem?_toArray, List.getElem?_cons_succ, List.getElem?_cons_zero]; rfl) (fun K hK => ?_) (AllReadyH.nil)
                refine step_its _ (by rfl) 36 Try.underlying36 (.const (.slice none 0 0)) (.tmp 37) (by rfl) _ [] _ (by rfl) (Its.nil _) _ A a.length c a (by rfl) rfl ((HA.out.kept K9.out).kept (Kept.drew (Kept.alloc (Kept.refl _) _))) (by simp; omega) ?_
                intro A1 c1 w1 hI _
                rw [List.nil_append] at hI ⊢
                have k1 : Kept W5 w1 := Kept.trans (Kept.drew (Kept.alloc (Kept.refl _) _)) hI.2
                refine hK.out _ _ ?_ (fun hHeld2 => ?_)
                · exact keepP2 hzl hzl ⟨m0, m1, Kept.refl _⟩ k1
                clear hK K hHeld
                have hHeld := hHeld2
                clear hHeld2
                try simp only [Act.put, List.setIfInBounds_toArray, List.set_cons_zero, List.set_cons_succ]
                refine wpAnyH_ready (rs := [6]) (by kernel_rfl) (by simp) ?_
                refine AllReadyH.cons (by simp only [List.getElem?_toArray, List.getElem?_cons_succ, List.getElem?_cons_zero]; rfl) (fun K hK => ?_) (AllReadyH.nil)
                refine step_its _ (by rfl) 36 Try.underlying36 (.tmp 38) (.tmp 42) (by rfl) _ a _ (by rfl) hI _ _ 1 1 [⟨id, pv, 0, 0, 0, 0⟩] (by rfl) rfl ((items_new (w := W5) (t := ⟨id, pv, 0, 0, 0, 0⟩) W5.heap.size rfl 50).kept (Kept.trans (Kept.drew (Kept.refl _)) hI.2)) (by omega) ?_
                intro A6 c6 w6 hI6 _
                have k6 : Kept W5 w6 := Kept.trans (Kept.drew (Kept.alloc (Kept.refl _) _)) hI6.2
                refine hK.out _ _ ?_ (fun hHeld2 => ?_)
                · exact keepP2 hzl hzl ⟨m0, m1, Kept.refl _⟩ k6
                clear hK K hHeld
                have hHeld := hHeld2
                clear hHeld2
                try simp only [Act.put, List.setIfInBounds_toArray, List.set_cons_zero, List.set_cons_succ]
                refine wpAnyH_take (i := 7) (v := ?_) (by simp only [List.getElem?_toArray, List.getElem?_cons_succ, List.getElem?_cons_zero]; rfl) (by kernel_rfl) (by kernel_rfl) (by kernel_rfl) (fun _ _ _ h => h) (Or.inl ⟨by rfl, ?_⟩) (by assumption) ?_
                rotate_left
                · intro w hSw
                  (try dsimp only at hSw)
                  go_simp
                  (try with_reducible rfl)
                simp only [Act.put, List.setIfInBounds_toArray, List.set_cons_zero, List.set_cons_succ]
                refine wpAnyH_done (by kernel_rfl) ?_ _
                refine NoPanic.normal ?_
                have HI6 := Lib.hid (show Its W5 (putI a id pv) (.slice A6 (a.length + 1) c6) w6 from by have h := hI6.mono (Kept.drew (Kept.alloc (Kept.refl _) _)); rw [show (a ++ [(⟨id, pv, 0, 0, 0, 0⟩ : It)]).length = a.length + 1 from by simp] at h; exact h)
                clear hHeld hI6 hI k6 k1 m0 m1 hzl
                generalize w6 = V1 at *
                have HSe := Lib.hid (show Calls Try.prog 41 #[.slice A6 (a.length + 1) c6] V1 fun e w' => ∃ A' c', e = .returned (.slice A' (a.length + 1) c') ∧ Its V1 (anewC (putI a id pv)) (.slice A' (a.length + 1) c') w' from by
                  have h := refAnew_any A6 c6 (putI a id pv) (by rw [putI_length]; have := HMa.out.1; omega) (putI_right HMa.out.stand.right id HB.out.1 HB.out.2) (putI_own HMa.out.stand.own id pv) V1 (HI6.out.cells (by rw [putI_length]))
                  rw [putI_length] at h
                  exact h)
                have HLn := Lib.hid (show (anewC (putI a id pv)).length = a.length + 1 by rw [anewC_length, putI_length])
                go_wp2_with fail
                refine HSe.out.mono ?_
                rintro e V2 ⟨A7, c7, rfl, hI2⟩
                have HI2 := Lib.hid hI2
                clear hI2 HSe
                go_wp2_with fail
                go_ret2
                rw [HE.out]
                exact ⟨A7, c7, by rw [HLn.out]; rfl, HI2.out.cells HLn.out.symm, by rw [HLn.out]; exact HI2.out.cap, K0.out.trans (K9.out.trans (HI6.out.2.trans HI2.out.2))⟩
        · have hp1 : ¬ (pp : Int) < 0 := by omega
          have HN := Lib.hid (show ¬ (posI a par = -1 ∧ par ≠ zid) from fun h => by rw [hp] at h; omega)
          have HB0 := Lib.hid (show -1 ≤ (pp : Int) ∧ (pp : Int) < a.length by omega)
          by_cases h60 : a.length = 60
          · have HE := Lib.hid (insC_full HG.out (by have := HQ.out; omega) HN.out h60)
            have h6 : ((60 : Int) ≤ (a.length : Int)) := by omega
            rw [hp]
            clear h60 hp
            go_wp2_with fail
            go_ret2
            exact ItsNew.none HE.out (K0.out.trans K5.out)
          · have HE := Lib.hid (show insC a id par = (anewC (putI a id (pp : Int)), 0) by have h := insC_ok HG.out (by have := HQ.out; omega) HN.out h60; rw [hp] at h; exact h)
            have h6 : ¬ ((60 : Int) ≤ (a.length : Int)) := by have := HMa.out.1; omega
            rw [hp]
            clear h60 hp hpl
            obtain ⟨pv, hpv⟩ : ∃ pv : Int, pv = (pp : Int) := ⟨_, rfl⟩
            have HB := Lib.hid (show -1 ≤ pv ∧ pv < a.length by have := HB0.out; omega)
            rw [← hpv] at HE hp1 ⊢
            clear hpv HB0
            have K9 := Lib.hid K5.out
            obtain ⟨m0, m1⟩ := (HI.out.kept K9.out).two
            have hzl := (HI.out.kept K9.out).1
            have hlen : a.length + 1 ≤ 1000000 := by omega
            go_wp2_with fail
            refine wp_region_noPanic ?_
            refine wp_region_held_drew (S := (fun w' => w'.cell? ⟨z, 0, none⟩ = some (.int .u64 id.1) ∧ w'.cell? ⟨z, 1, none⟩ = some (.int .u64 id.2) ∧ Kept W5 w')) (by kernel_rfl) ?_ (fun hHeld => ?_)
            · exact ⟨m0, m1, (Kept.refl _).drew⟩
            refine wpAnyH_take (i := 0) (v := ?_) (by simp only [List.getElem?_toArray, List.getElem?_cons_succ, List.getElem?_cons_zero]; rfl) (by kernel_rfl) (by kernel_rfl) (by kernel_rfl) (fun _ _ _ h => h) (Or.inl ⟨by rfl, ?_⟩) (by assumption) ?_
            rotate_left
            · intro w hSw
              (try dsimp only at hSw)
              go_simp
              (try with_reducible rfl)
            simp only [Act.put, List.setIfInBounds_toArray, List.set_cons_zero, List.set_cons_succ]
            refine wpAnyH_take (i := 2) (v := ?_) (by simp only [List.getElem?_toArray, List.getElem?_cons_succ, List.getElem?_cons_zero]; rfl) (by kernel_rfl) (by kernel_rfl) (by kernel_rfl) (fun _ _ _ h => h) (Or.inl ⟨by rfl, ?_⟩) (by assumption) ?_
            rotate_left
            · intro w hSw
              (try dsimp only at hSw)
              go_simp
              (try with_reducible rfl)
            simp only [Act.put, List.setIfInBounds_toArray, List.set_cons_zero, List.set_cons_succ]
            refine wpAnyH_take (i := 3) (v := ?_) (by simp only [List.getElem?_toArray, List.getElem?_cons_succ, List.getElem?_cons_zero]; rfl) (by kernel_rfl) (by kernel_rfl) (by kernel_rfl) (fun _ _ _ h => h) (Or.inl ⟨by rfl, ?_⟩) (by assumption) ?_
            rotate_left
            · intro w hSw
              (try dsimp only at hSw)
              go_simp
              (try with_reducible rfl)
            simp only [Act.put, List.setIfInBounds_toArray, List.set_cons_zero, List.set_cons_succ]
            refine wpAnyH_take (i := 4) (v := ?_) (by simp only [List.getElem?_toArray, List.getElem?_cons_succ, List.getElem?_cons_zero]; rfl) (by kernel_rfl) (by kernel_rfl) (by kernel_rfl) (fun _ _ _ h => h) (Or.inl ⟨by rfl, ?_⟩) (by assumption) ?_
            rotate_left
            · intro w hSw
              (try dsimp only at hSw)
              go_simp
              (try with_reducible rfl)
            simp only [Act.put, List.setIfInBounds_toArray, List.set_cons_zero, List.set_cons_succ]
            refine wpAnyH_ready (rs := [1, 5]) (by kernel_rfl) (by simp) ?_
            refine AllReadyH.cons (by simp only [List.getElem?_toArray, List.getElem?_cons_succ, List.getElem?_cons_zero]; rfl) (fun K hK => ?_) (AllReadyH.cons (by simp only [List.getElem?_toArray, List.getElem?_cons_succ, List.getElem?_cons_zero]; rfl) (fun K hK => ?_) (AllReadyH.nil))
            · refine step_its _ (by rfl) 36 Try.underlying36 (.const (.slice none 0 0)) (.tmp 37) (by rfl) _ [] _ (by rfl) (Its.nil _) _ A a.length c a (by rfl) rfl ((HA.out.kept K9.out).kept (Kept.drew (Kept.refl _))) (by simp; omega) ?_
              intro A1 c1 w1 hI _
              rw [List.nil_append] at hI ⊢
              have k1 : Kept W5 w1 := Kept.trans (Kept.drew (Kept.refl _)) hI.2
              refine hK.out _ _ ?_ (fun hHeld2 => ?_)
              · exact keepP2 hzl hzl ⟨m0, m1, Kept.refl _⟩ k1
              clear hK K hHeld
              have hHeld := hHeld2
              clear hHeld2
              try simp only [Act.put, List.setIfInBounds_toArray, List.set_cons_zero, List.set_cons_succ]
              refine wpAnyH_ready (rs := [5]) (by kernel_rfl) (by simp) ?_
              refine AllReadyH.cons (by simp only [List.getElem?_toArray, List.getElem?_cons_succ, List.getElem?_cons_zero]; rfl) (fun K hK => ?_) (AllReadyH.nil)
              go_simp
              refine hK.out _ _ ?_ (fun hHeld2 => ?_)
              · exact keepP2 hzl hzl hHeld ((Kept.refl _).alloc _)
              clear hK K hHeld
              have hHeld := hHeld2
              clear hHeld2
              try simp only [Act.put, List.setIfInBounds_toArray, List.set_cons_zero, List.set_cons_succ]
              refine wpAnyH_ready (rs := [6]) (by kernel_rfl) (by simp) ?_
              refine AllReadyH.cons (by simp only [List.getElem?_toArray, List.getElem?_cons_succ, List.getElem?_cons_zero]; rfl) (fun K hK => ?_) (AllReadyH.nil)
              refine step_its _ (by rfl) 36 Try.underlying36 (.tmp 38) (.tmp 42) (by rfl) _ a _ (by rfl) (hI.alloc (.cells #[.int .u64 id.1, .int .u64 id.2, .int .i64 pv, .int .i64 0, .int .i64 0, .int .i64 0, .int .i64 0] 50)) _ _ 1 1 [⟨id, pv, 0, 0, 0, 0⟩] (by rfl) rfl (items_new (t := ⟨id, pv, 0, 0, 0, 0⟩) w1.heap.size rfl 50) (by omega) ?_
              intro A6 c6 w6 hI6 _
              have k6 : Kept W5 w6 := Kept.trans (Kept.drew (Kept.refl _)) hI6.2
              refine hK.out _ _ ?_ (fun hHeld2 => ?_)
              · exact keepP2 hzl hzl ⟨m0, m1, Kept.refl _⟩ k6
              clear hK K hHeld
              have hHeld := hHeld2
              clear hHeld2
              try simp only [Act.put, List.setIfInBounds_toArray, List.set_cons_zero, List.set_cons_succ]
              refine wpAnyH_take (i := 7) (v := ?_) (by simp only [List.getElem?_toArray, List.getElem?_cons_succ, List.getElem?_cons_zero]; rfl) (by kernel_rfl) (by kernel_rfl) (by kernel_rfl) (fun _ _ _ h => h) (Or.inl ⟨by rfl, ?_⟩) (by assumption) ?_
              rotate_left
              · intro w hSw
                (try dsimp only at hSw)
                go_simp
                (try with_reducible rfl)
              simp only [Act.put, List.setIfInBounds_toArray, List.set_cons_zero, List.set_cons_succ]
              refine wpAnyH_done (by kernel_rfl) ?_ _
              refine NoPanic.normal ?_
              have HI6 := Lib.hid (show Its W5 (putI a id pv) (.slice A6 (a.length + 1) c6) w6 from by have h := hI6.mono (Kept.drew (Kept.refl _)); rw [show (a ++ [(⟨id, pv, 0, 0, 0, 0⟩ : It)]).length = a.length + 1 from by simp] at h; exact h)
              clear hHeld hI6 hI k6 k1 m0 m1 hzl
              generalize w6 = V1 at *
              have HSe := Lib.hid (show Calls Try.prog 41 #[.slice A6 (a.length + 1) c6] V1 fun e w' => ∃ A' c', e = .returned (.slice A' (a.length + 1) c') ∧ Its V1 (anewC (putI a id pv)) (.slice A' (a.length + 1) c') w' from by
                have h := refAnew_any A6 c6 (putI a id pv) (by rw [putI_length]; have := HMa.out.1; omega) (putI_right HMa.out.stand.right id HB.out.1 HB.out.2) (putI_own HMa.out.stand.own id pv) V1 (HI6.out.cells (by rw [putI_length]))
                rw [putI_length] at h
                exact h)
              have HLn := Lib.hid (show (anewC (putI a id pv)).length = a.length + 1 by rw [anewC_length, putI_length])
              go_wp2_with fail
              refine HSe.out.mono ?_
              rintro e V2 ⟨A7, c7, rfl, hI2⟩
              have HI2 := Lib.hid hI2
              clear hI2 HSe
              go_wp2_with fail
              go_ret2
              rw [HE.out]
              exact ⟨A7, c7, by rw [HLn.out]; rfl, HI2.out.cells HLn.out.symm, by rw [HLn.out]; exact HI2.out.cap, K0.out.trans (K9.out.trans (HI6.out.2.trans HI2.out.2))⟩
            · go_simp
              refine hK.out _ _ ?_ (fun hHeld2 => ?_)
              · exact keepP2 hzl hzl hHeld ((Kept.refl _).alloc _)
              clear hK K hHeld
              have hHeld := hHeld2
              clear hHeld2
              try simp only [Act.put, List.setIfInBounds_toArray, List.set_cons_zero, List.set_cons_succ]
              refine wpAnyH_ready (rs := [1]) (by kernel_rfl) (by simp) ?_
              refine AllReadyH.cons (by simp only [List.getElem?_toArray, List.getElem?_cons_succ, List.getElem?_cons_zero]; rfl) (fun K hK => ?_) (AllReadyH.nil)
              refine step_its _ (by rfl) 36 Try.underlying36 (.const (.slice none 0 0)) (.tmp 37) (by rfl) _ [] _ (by rfl) (Its.nil _) _ A a.length c a (by rfl) rfl ((HA.out.kept K9.out).kept (Kept.drew (Kept.alloc (Kept.refl _) _))) (by simp; omega) ?_
              intro A1 c1 w1 hI _
              rw [List.nil_append] at hI ⊢
              have k1 : Kept W5 w1 := Kept.trans (Kept.drew (Kept.alloc (Kept.refl _) _)) hI.2
              refine hK.out _ _ ?_ (fun hHeld2 => ?_)
              · exact keepP2 hzl hzl ⟨m0, m1, Kept.refl _⟩ k1
              clear hK K hHeld
              have hHeld := hHeld2
              clear hHeld2
              try simp only [Act.put, List.setIfInBounds_toArray, List.set_cons_zero, List.set_cons_succ]
              refine wpAnyH_ready (rs := [6]) (by kernel_rfl) (by simp) ?_
              refine AllReadyH.cons (by simp only [List.getElem?_toArray, List.getElem?_cons_succ, List.getElem?_cons_zero]; rfl) (fun K hK => ?_) (AllReadyH.nil)
              refine step_its _ (by rfl) 36 Try.underlying36 (.tmp 38) (.tmp 42) (by rfl) _ a _ (by rfl) hI _ _ 1 1 [⟨id, pv, 0, 0, 0, 0⟩] (by rfl) rfl ((items_new (w := W5) (t := ⟨id, pv, 0, 0, 0, 0⟩) W5.heap.size rfl 50).kept (Kept.trans (Kept.drew (Kept.refl _)) hI.2)) (by omega) ?_
              intro A6 c6 w6 hI6 _
              have k6 : Kept W5 w6 := Kept.trans (Kept.drew (Kept.alloc (Kept.refl _) _)) hI6.2
              refine hK.out _ _ ?_ (fun hHeld2 => ?_)
              · exact keepP2 hzl hzl ⟨m0, m1, Kept.refl _⟩ k6
              clear hK K hHeld
              have hHeld := hHeld2
              clear hHeld2
              try simp only [Act.put, List.setIfInBounds_toArray, List.set_cons_zero, List.set_cons_succ]
              refine wpAnyH_take (i := 7) (v := ?_) (by simp only [List.getElem?_toArray, List.getElem?_cons_succ, List.getElem?_cons_zero]; rfl) (by kernel_rfl) (by kernel_rfl) (by kernel_rfl) (fun _ _ _ h => h) (Or.inl ⟨by rfl, ?_⟩) (by assumption) ?_
              rotate_left
              · intro w hSw
                (try dsimp only at hSw)
                go_simp
                (try with_reducible rfl)
              simp only [Act.put, List.setIfInBounds_toArray, List.set_cons_zero, List.set_cons_succ]
              refine wpAnyH_done (by kernel_rfl) ?_ _
              refine NoPanic.normal ?_
              have HI6 := Lib.hid (show Its W5 (putI a id pv) (.slice A6 (a.length + 1) c6) w6 from by have h := hI6.mono (Kept.drew (Kept.alloc (Kept.refl _) _)); rw [show (a ++ [(⟨id, pv, 0, 0, 0, 0⟩ : It)]).length = a.length + 1 from by simp] at h; exact h)
              clear hHeld hI6 hI k6 k1 m0 m1 hzl
              generalize w6 = V1 at *
              have HSe := Lib.hid (show Calls Try.prog 41 #[.slice A6 (a.length + 1) c6] V1 fun e w' => ∃ A' c', e = .returned (.slice A' (a.length + 1) c') ∧ Its V1 (anewC (putI a id pv)) (.slice A' (a.length + 1) c') w' from by
                have h := refAnew_any A6 c6 (putI a id pv) (by rw [putI_length]; have := HMa.out.1; omega) (putI_right HMa.out.stand.right id HB.out.1 HB.out.2) (putI_own HMa.out.stand.own id pv) V1 (HI6.out.cells (by rw [putI_length]))
                rw [putI_length] at h
                exact h)
              have HLn := Lib.hid (show (anewC (putI a id pv)).length = a.length + 1 by rw [anewC_length, putI_length])
              go_wp2_with fail
              refine HSe.out.mono ?_
              rintro e V2 ⟨A7, c7, rfl, hI2⟩
              have HI2 := Lib.hid hI2
              clear hI2 HSe
              go_wp2_with fail
              go_ret2
              rw [HE.out]
              exact ⟨A7, c7, by rw [HLn.out]; rfl, HI2.out.cells HLn.out.symm, by rw [HLn.out]; exact HI2.out.cap, K0.out.trans (K9.out.trans (HI6.out.2.trans HI2.out.2))⟩
      · have HE := Lib.hid (insC_have (par := par) HG.out (show 0 ≤ posI a id by rw [hq]; omega))
        have hj0 : (0 : Int) ≤ (j : Int) := by omega
        rw [hq]
        clear hq
        go_wp2_with fail
        go_ret2
        exact ItsNew.none HE.out (K0.out.trans K4.out)

/-! ### Move -/
set_option maxRecDepth 100000 in
set_option maxHeartbeats 3200000 in
theorem refMovA_any (A : Option Addr) (c : Nat) (a : List It) (hl : a.length ≤ 70) (id : Id2) (y : Int) (hy1 : -9223372036854775808 ≤ y) (hy2 : y ≤ 9223372036854775807) (w : World) (hA : CellsAt w w.heap.size A (itemCells a)) :
    Calls Try.prog 22 #[.slice A a.length c, .agg #[.int .u64 id.1, .int .u64 id.2], .int .i64 y] w (ItsNew (movC a id y) w) := by
  have K0 := Lib.hid ((Kept.refl w).alloc (.cells #[.int .u64 id.1, .int .u64 id.2] 29))
  have HI := Lib.hid (HasCells.new w #[.int .u64 id.1, .int .u64 id.2] 29 w.heap.size rfl)
  have HA := Lib.hid (hA.kept K0.out)
  clear hA
  go_enter Try.func22, Try.ntmps22
  go_wp2_with fail
  generalize w.alloc (.cells #[.int .u64 id.1, .int .u64 id.2] 29) = W at *
  generalize w.heap.size = z at *
  refine (refMayA_any A c a hl W HA.out).mono ?_
  rintro e W2 ⟨rfl, k2⟩
  have K2 := Lib.hid k2
  clear k2
  cases hm : mayI a with
  | false =>
    have HE := Lib.hid (movC_arg (id := id) (y := y) hm)
    clear hm
    go_wp2_with fail
    go_ret2
    exact ItsNew.none HE.out (K0.out.trans K2.out)
  | true =>
    have HMt := Lib.hid hm
    have HMa := Lib.hid (mayI_of hm)
    clear hm
    obtain ⟨d0, d1⟩ := (HI.out.kept K2.out).two
    have hzl := (HI.out.kept K2.out).1
    go_wp2_with fail
    refine (refFindA_any A c a (by omega) id W2 (HA.out.kept K2.out)).mono ?_
    rintro e W3 ⟨rfl, k3⟩
    have K3 := Lib.hid (K2.out.trans k3)
    clear k3 d0 d1 hzl K2
    rcases posI_way a id with ⟨hq, _⟩ | ⟨k, hq, hk, _⟩
    · have HE := Lib.hid (movC_none (y := y) HMt.out hq)
      rw [hq]
      clear hq
      go_wp2_with fail
      go_ret2
      exact ItsNew.none HE.out (K0.out.trans K3.out)
    · have HQ := Lib.hid hq
      rw [hq]
      clear hq
      have hk0 : ¬ (k : Int) < 0 := by omega
      obtain ⟨zz, o, rfl, hb, c0, c1, c2, c3, c4, c5, c6⟩ := item_at (HA.out.kept K3.out) hk
      have HX := Lib.hid (itA_get hk)
      have hob := HMa.out.stand.own k hk
      rw [← HX.out] at c3
      generalize hto : (itA a k).o = to at *
      have HTo := Lib.hid hto
      clear hto
      have HNo := Lib.hid (fun (h : ¬ (0 ≤ to + y ∧ to + y ≤ 1125899906842624)) => movC_own (y := y) HMt.out HQ.out (by rw [HTo.out]; exact decide_eq_false h))
      by_cases h1 : y < -1125899906842624
      · have HE := Lib.hid (HNo.out (by omega))
        go_wp2_with fail
        go_ret2
        exact ItsNew.none HE.out (K0.out.trans K3.out)
      · by_cases h2 : 1125899906842624 < y
        · have HE := Lib.hid (HNo.out (by omega))
          go_wp2_with fail
          go_ret2
          exact ItsNew.none HE.out (K0.out.trans K3.out)
        · by_cases h3 : to + y < 0
          · have HE := Lib.hid (HNo.out (by omega))
            go_wp2_with fail
            go_ret2
            exact ItsNew.none HE.out (K0.out.trans K3.out)
          · by_cases h4 : 1125899906842624 < to + y
            · have HE := Lib.hid (HNo.out (by omega))
              go_wp2_with fail
              go_ret2
              exact ItsNew.none HE.out (K0.out.trans K3.out)
            · have HOb := Lib.hid (show 0 ≤ to + y ∧ to + y ≤ 1125899906842624 by omega)
              have HE := Lib.hid (show movC a id y = (anewC (ownI a k (to + y)), 0) by have h := movC_ok (y := y) HMt.out HQ.out (by rw [HTo.out]; exact decide_eq_true HOb.out); rw [HTo.out] at h; exact h)
              have HRow := Lib.hid (HA.out.kept K3.out)
              have hlen : ([] : List It).length + a.length ≤ 1000000 := by simp; omega
              go_wp2_with (refine wpList_its _ rfl 36 Try.underlying36 _ _ rfl W3 [] _ rfl (Its.nil W3) _ (some ⟨zz, o, none⟩) a.length c a rfl rfl HRow.out hlen ?_; intro A2 c2 W4 hI _; rw [List.nil_append] at hI; obtain ⟨g, rfl, hgw⟩ := form0 hI (by omega); have HI2 := Lib.hid hI; clear hI; obtain ⟨_, _, _, s3, _, _, _⟩ := HI2.out.at rfl hk; rw [HTo.out] at s3; have f3 := HI2.out.frozen (k * 7 + 3))
              have HI5 := Lib.hid (show Its W3 (ownI a k (to + y)) (.slice (some ⟨g, 0, none⟩) a.length c2) (W4.setCell ⟨g, k * 7 + 3, none⟩ (.int .i64 (to + y))) from
                HI2.out.set hk (j := 3) (by omega) (t := { itA a k with o := to + y }) (by rw [← HX.out]; rfl))
              clear s3 f3
              generalize W4.setCell ⟨g, k * 7 + 3, none⟩ (.int .i64 (to + y)) = V1 at *
              have HSe := Lib.hid (show Calls Try.prog 41 #[.slice (some ⟨g, 0, none⟩) a.length c2] V1 fun e w' => ∃ A' c', e = .returned (.slice A' a.length c') ∧ Its V1 (anewC (ownI a k (to + y))) (.slice A' a.length c') w' from by
                have h := refAnew_any (some ⟨g, 0, none⟩) c2 (ownI a k (to + y)) (by rw [ownI_length]; exact hl) (ownI_right HMa.out.stand.right k _) (ownI_own HMa.out.stand.own hk HOb.out) V1 (HI5.out.cells (by rw [ownI_length]))
                rw [ownI_length] at h
                exact h)
              have HLn := Lib.hid (show (anewC (ownI a k (to + y))).length = a.length by rw [anewC_length, ownI_length])
              refine HSe.out.mono ?_
              rintro e V2 ⟨A6, c6, rfl, hI6⟩
              have HI6 := Lib.hid hI6
              clear hI6 HSe
              go_wp2_with fail
              go_ret2
              rw [HE.out]
              exact ⟨A6, c6, by rw [HLn.out]; rfl, HI6.out.cells HLn.out.symm, by rw [HLn.out]; exact HI6.out.cap, K0.out.trans (K3.out.trans (HI5.out.2.trans HI6.out.2))⟩

end Go.Proofs.Ytabmdilhfiembaa
