/-
  Law ArrayGrows of layer 10: one block more on the top is the top, and weight moved to the top leaves it so, whatever items, id and number.
-/
import Derived.Test.YtabmdilhfiembaaArrayAwake
import Derived.Test.YtabmdilhfiembaaArrayOpen
import Derived.Test.YtabmdilhfiembaaArrayGrow
import Derived.Test.YtabmdilhfiembaaArrayRefOps
import Derived.Test.YtabmdilhfiembaaGround
import Derived.Test.YtabmdilhfiembaaMixG
namespace Go.Proofs.Ytabmdilhfiembaa.arrayGrows
set_option maxRecDepth 100000
set_option linter.unusedVariables false
set_option linter.unusedSimpArgs false
open Go.ChangeShapes Go.WideShapes Go.ChangeAt Go.RowKit
set_option linter.unusedVariables false

theorem insC_length (a : List It) (id par : Id2) : (insC a id par).1.length ≤ a.length + 1 := by
  unfold insC
  split
  · simp
  · split
    · simp
    · split
      · simp
      · split
        · simp
        · rw [anewC_length, putI_length]; omega
theorem movC_length (a : List It) (id : Id2) (y : Int) : (movC a id y).1.length ≤ a.length := by
  unfold movC
  split
  · simp
  · split
    · simp
    · split
      · rw [anewC_length, ownI_length]; omega
      · simp

/-! ### The walk: the call returns true, and of what was there nothing has changed. -/
attribute [local go_sem high] eqIdN eqIdZ in
set_option maxRecDepth 100000 in
set_option maxHeartbeats 3200000 in
theorem walk (w : World) (aA : Option Addr) (ac : Nat) (a : List It) (ahm : a.length ≤ maxLen) (ahc : a.length ≤ ac) (ahl : CellsAt w w.heap.size aA (itemCells a)) (id : Nat × Nat) (hid1 : id.1 < 18446744073709551616) (hid2 : id.2 < 18446744073709551616) (y : Int) (hy1 : -9223372036854775808 ≤ y) (hy2 : y ≤ 9223372036854775807) :
    Calls Try.prog 9 #[.slice aA a.length ac, .agg #[.int .u64 id.1, .int .u64 id.2], .int .i64 y] w fun e w' => e = .returned (.bool true) ∧ Kept w w' := by
  by_cases h70 : a.length ≤ 70
  · go_enter Try.func9, Try.ntmps9
    go_wp2_with fail
    have K0 := Lib.hid ((Kept.refl w).alloc (.cells #[.int .u64 id.1, .int .u64 id.2] 29))
    have HA := Lib.hid (ahl.kept K0.out)
    clear ahl
    have HB0 := Lib.hid (HasCells.new w #[.int .u64 id.1, .int .u64 id.2] 29 (w.heap.size) (by simp))
    generalize (w.alloc (.cells #[.int .u64 id.1, .int .u64 id.2] 29)) = W0 at *
    generalize w.heap.size = z0 at *
    have KB0 := Lib.hid (Kept.refl W0)
    have HMay := Lib.hid (fun w' (kk : Kept W0 w') => mayI_any aA ac a h70 ahc w' (HA.out.kept kk))
    have HTop := Lib.hid (fun w' (kk : Kept W0 w') => topI_any aA ac a h70 ahc w' (HA.out.kept kk))
    refine (arrayAwake W0).mono ?_
    rintro e W1 ⟨rfl, k⟩
    have KB1 := Lib.hid (KB0.out.trans k)
    clear k
    obtain ⟨b00, b01⟩ := (HB0.out.kept KB1.out).two
    have bz0 := (HB0.out.kept KB1.out).1
    go_wp2_with fail
    clear b00 b01 bz0
    refine (HMay.out W1 KB1.out).mono ?_
    rintro e W2 ⟨rfl, k⟩
    have KB2 := Lib.hid (KB1.out.trans k)
    clear k
    cases hm : mayI a with
    | false =>
      have HM := Lib.hid hm
      clear hm
      obtain ⟨b00, b01⟩ := (HB0.out.kept KB2.out).two
      have bz0 := (HB0.out.kept KB2.out).1
      go_wp2_with fail
      clear b00 b01 bz0
      go_ret
      exact ⟨by first | rfl | (simp; done), K0.out.trans KB2.out⟩
    | true =>
      have HM := Lib.hid (mayI_of hm)
      clear hm
      by_cases hy0 : y < 0
      · obtain ⟨b00, b01⟩ := (HB0.out.kept KB2.out).two
        have bz0 := (HB0.out.kept KB2.out).1
        go_wp2_with fail
        clear b00 b01 bz0
        go_ret
        exact ⟨by first | rfl | (simp; done), K0.out.trans KB2.out⟩
      · obtain ⟨b00, b01⟩ := (HB0.out.kept KB2.out).two
        have bz0 := (HB0.out.kept KB2.out).1
        go_wp2_with fail
        clear b00 b01 bz0
        refine (HTop.out W2 KB2.out).mono ?_
        rintro e W3 ⟨rfl, k⟩
        have KB3 := Lib.hid (KB2.out.trans k)
        clear k
        have HG1 := Lib.hid (grow_ins HM.out id)
        have HG2 := Lib.hid (grow_mov HM.out (y := y) (by omega))
        have h60 := HM.out.1
        have HL1 := Lib.hid (insC_length a id (topC a))
        have HL2 := Lib.hid (movC_length a (topC a) y)
        generalize topC a = tp at *
        have HB1 := Lib.hid (HasCells.new W3 #[.int .u64 tp.1, .int .u64 tp.2] 29 W3.heap.size rfl)
        have KX := Lib.hid (Kept.alloc (Kept.refl W3) (.cells #[.int .u64 tp.1, .int .u64 tp.2] 29))
        obtain ⟨b00, b01⟩ := (HB0.out.kept (KB3.out.trans KX.out)).two
        have bz0 := (HB0.out.kept (KB3.out.trans KX.out)).1
        obtain ⟨b10, b11⟩ := HB1.out.two
        have bz1 := HB1.out.1
        go_wp2_with fail
        clear b00 b01 bz0
        clear b10 b11 bz1
        generalize W3.alloc (.cells #[.int .u64 tp.1, .int .u64 tp.2] 29) = V1 at *
        generalize W3.heap.size = z1 at *
        have KB4 := Lib.hid (KB3.out.trans KX.out)
        replace HA := Lib.hid (HA.out.kept KB4.out)
        replace HB0 := Lib.hid (HB0.out.kept KB4.out)
        replace K0 := Lib.hid (K0.out.trans KB4.out)
        have KB5 := Lib.hid (Kept.refl V1)
        clear KX
        have HIns := Lib.hid (fun w' (kk : Kept V1 w') => insI_any aA ac a h70 ahc id tp w' (HA.out.kept kk))
        have HMov := Lib.hid (fun w' (kk : Kept V1 w') => movI_any aA ac a h70 ahc tp y hy1 hy2 w' (HA.out.kept kk))
        generalize insC a id tp = r at *
        generalize movC a tp y = q at *
        have hr70 : r.1.length ≤ 70 := by have := HL1.out; omega
        have hq70 : q.1.length ≤ 70 := by have := HL2.out; omega
        refine (HIns.out V1 KB5.out).mono ?_
        rintro e W6 ⟨A1, n1, rfl, hHX1, hn1, k⟩
        have KB6 := Lib.hid (KB5.out.trans k)
        clear k
        have HX1 := Lib.hid hHX1
        clear hHX1
        have HT2 := Lib.hid (fun w' (kk : Kept W6 w') => topI_any A1 n1 r.1 hr70 hn1 w' (HX1.out.kept kk))
        obtain ⟨b00, b01⟩ := (HB0.out.kept KB6.out).two
        have bz0 := (HB0.out.kept KB6.out).1
        obtain ⟨b10, b11⟩ := (HB1.out.kept KB6.out).two
        have bz1 := (HB1.out.kept KB6.out).1
        go_wp2_with fail
        clear b00 b01 bz0 b10 b11 bz1
        cases hc : (r.2 == 0) with
        | true =>
          have hc0 : r.2 = 0 := by simpa using hc
          have hT2 := HG1.out hc0
          rw [hT2] at HT2
          obtain ⟨m0, m1⟩ := (HB0.out.kept KB6.out).two
          have hzl := (HB0.out.kept KB6.out).1
          have hs1 : sameI id id = true := sameI_yes rfl
          refine wp_region_noPanic ?_
          refine wp_region_held_drew (S := (fun w' => w'.cell? ⟨z0, 0, none⟩ = some (.int .u64 id.1) ∧ w'.cell? ⟨z0, 1, none⟩ = some (.int .u64 id.2) ∧ Kept W6 w')) (by kernel_rfl) ?_ (fun hHeld => ?_)
          · exact ⟨m0, m1, (Kept.refl _).drew⟩
          refine wpAnyH_take (i := 0) (v := ?_) (by simp only [List.getElem?_toArray, List.getElem?_cons_succ, List.getElem?_cons_zero]; rfl) (by kernel_rfl) (by kernel_rfl) (by kernel_rfl) (fun _ _ _ h => h) (Or.inl ⟨by rfl, ?_⟩) (by assumption) ?_
          rotate_left
          · intro w hSw
            (try dsimp only at hSw)
            go_simp
            (try with_reducible rfl)
          simp only [Act.put, List.setIfInBounds_toArray, List.set_cons_zero, List.set_cons_succ]
          refine wpAnyH_take (i := 1) (v := ?_) (by simp only [List.getElem?_toArray, List.getElem?_cons_succ, List.getElem?_cons_zero]; rfl) (by kernel_rfl) (by kernel_rfl) (by kernel_rfl) (fun _ _ _ h => h) (Or.inl ⟨by rfl, ?_⟩) (by assumption) ?_
          rotate_left
          · intro w hSw
            (try dsimp only at hSw)
            go_simp
            (try with_reducible rfl)
          simp only [Act.put, List.setIfInBounds_toArray, List.set_cons_zero, List.set_cons_succ]
          try simp only [hc, Bool.not_true, Bool.not_false, bne]
          refine wpAnyH_take (i := 2) (v := ?_) (by simp only [List.getElem?_toArray, List.getElem?_cons_succ, List.getElem?_cons_zero]; rfl) (by kernel_rfl) (by kernel_rfl) (by kernel_rfl) (fun _ _ _ h => h) (Or.inl ⟨by rfl, ?_⟩) (by assumption) ?_
          rotate_left
          · intro w hSw
            (try dsimp only at hSw)
            go_simp
            (try with_reducible rfl)
          simp only [Act.put, List.setIfInBounds_toArray, List.set_cons_zero, List.set_cons_succ]
          try simp only [hc, Bool.not_true, Bool.not_false, bne]
          refine wpAnyH_take (i := 3) (v := ?_) (by simp only [List.getElem?_toArray, List.getElem?_cons_succ, List.getElem?_cons_zero]; rfl) (by kernel_rfl) (by kernel_rfl) (by kernel_rfl) (fun _ _ _ h => h) (Or.inl ⟨by rfl, ?_⟩) (by assumption) ?_
          rotate_left
          · intro w hSw
            (try dsimp only at hSw)
            go_simp
            (try with_reducible rfl)
          simp only [Act.put, List.setIfInBounds_toArray, List.set_cons_zero, List.set_cons_succ]
          refine wpAnyH_take (i := 5) (v := ?_) (by simp only [List.getElem?_toArray, List.getElem?_cons_succ, List.getElem?_cons_zero]; rfl) (by kernel_rfl) (by kernel_rfl) (by kernel_rfl) (fun _ _ _ h => h) (Or.inl ⟨by rfl, ?_⟩) (by assumption) ?_
          rotate_left
          · intro w hSw
            (try dsimp only at hSw)
            go_simp
            (try with_reducible rfl)
          simp only [Act.put, List.setIfInBounds_toArray, List.set_cons_zero, List.set_cons_succ]
          refine wpAnyH_ready (rs := [4]) (by kernel_rfl) (by simp) ?_
          refine AllReadyH.cons (by simp only [List.getElem?_toArray, List.getElem?_cons_succ, List.getElem?_cons_zero]; rfl) (fun K hK => ?_) AllReadyH.nil
          go_simp
          go_at_call 25; with_reducible refine (HT2.out _ hHeld.2.2).mono ?_
          rintro e w' ⟨rfl, kk⟩
          try go_wp2_with fail
          refine hK.out _ _ ?_ (fun hHeld2 => ?_)
          · exact keepP2 hzl hzl hHeld kk
          clear hK K hHeld
          have hHeld := hHeld2
          clear hHeld2
          try simp only [Act.put, List.setIfInBounds_toArray, List.set_cons_zero, List.set_cons_succ]
          refine wpAnyH_take (i := 6) (v := ?_) (by simp only [List.getElem?_toArray, List.getElem?_cons_succ, List.getElem?_cons_zero]; rfl) (by kernel_rfl) (by kernel_rfl) (by kernel_rfl) (fun _ _ _ h => h) (Or.inl ⟨by rfl, ?_⟩) (by assumption) ?_
          rotate_left
          · intro w hSw
            (try dsimp only at hSw)
            go_simp
            (try with_reducible rfl)
          simp only [Act.put, List.setIfInBounds_toArray, List.set_cons_zero, List.set_cons_succ]
          refine wpAnyH_take (i := 7) (v := ?_) (by simp only [List.getElem?_toArray, List.getElem?_cons_succ, List.getElem?_cons_zero]; rfl) (by kernel_rfl) (by kernel_rfl) (by kernel_rfl) (fun _ _ _ h => h) (Or.inl ⟨by rfl, ?_⟩) (by assumption) ?_
          rotate_left
          · intro w hSw
            (try dsimp only at hSw)
            go_simp
            (try with_reducible rfl)
          simp only [Act.put, List.setIfInBounds_toArray, List.set_cons_zero, List.set_cons_succ]
          refine wpAnyH_done (by kernel_rfl) ?_ _
          refine NoPanic.normal ?_
          have k := hHeld.2.2
          clear hHeld m0 m1 hzl
          have KB7 := Lib.hid (KB6.out.trans k)
          clear k
          generalize w' = W7 at *
          obtain ⟨b00, b01⟩ := (HB0.out.kept KB7.out).two
          have bz0 := (HB0.out.kept KB7.out).1
          obtain ⟨b10, b11⟩ := (HB1.out.kept KB7.out).two
          have bz1 := (HB1.out.kept KB7.out).1
          go_wp2_with fail
          clear b00 b01 bz0 b10 b11 bz1
          refine (HMov.out W7 KB7.out).mono ?_
          rintro e W8 ⟨A2, n2, rfl, hHX2, hn2, k⟩
          have KB8 := Lib.hid (KB7.out.trans k)
          clear k
          have HX2 := Lib.hid hHX2
          clear hHX2
          have HT3 := Lib.hid (fun w' (kk : Kept W8 w') => topI_any A2 n2 q.1 hq70 hn2 w' (HX2.out.kept kk))
          obtain ⟨b00, b01⟩ := (HB0.out.kept KB8.out).two
          have bz0 := (HB0.out.kept KB8.out).1
          obtain ⟨b10, b11⟩ := (HB1.out.kept KB8.out).two
          have bz1 := (HB1.out.kept KB8.out).1
          go_wp2_with fail
          clear b00 b01 bz0 b10 b11 bz1
          cases hd : (q.2 == 0) with
          | true =>
            have hd0 : q.2 = 0 := by simpa using hd
            have hT3 := HG2.out hd0
            rw [hT3] at HT3
            obtain ⟨m0, m1⟩ := (HB1.out.kept KB8.out).two
            have hzl := (HB1.out.kept KB8.out).1
            have hs1 : sameI tp tp = true := sameI_yes rfl
            refine wp_region_noPanic ?_
            refine wp_region_held_drew (S := (fun w' => w'.cell? ⟨z1, 0, none⟩ = some (.int .u64 tp.1) ∧ w'.cell? ⟨z1, 1, none⟩ = some (.int .u64 tp.2) ∧ Kept W8 w')) (by kernel_rfl) ?_ (fun hHeld => ?_)
            · exact ⟨m0, m1, (Kept.refl _).drew⟩
            refine wpAnyH_take (i := 0) (v := ?_) (by simp only [List.getElem?_toArray, List.getElem?_cons_succ, List.getElem?_cons_zero]; rfl) (by kernel_rfl) (by kernel_rfl) (by kernel_rfl) (fun _ _ _ h => h) (Or.inl ⟨by rfl, ?_⟩) (by assumption) ?_
            rotate_left
            · intro w hSw
              (try dsimp only at hSw)
              go_simp
              (try with_reducible rfl)
            simp only [Act.put, List.setIfInBounds_toArray, List.set_cons_zero, List.set_cons_succ]
            refine wpAnyH_take (i := 1) (v := ?_) (by simp only [List.getElem?_toArray, List.getElem?_cons_succ, List.getElem?_cons_zero]; rfl) (by kernel_rfl) (by kernel_rfl) (by kernel_rfl) (fun _ _ _ h => h) (Or.inl ⟨by rfl, ?_⟩) (by assumption) ?_
            rotate_left
            · intro w hSw
              (try dsimp only at hSw)
              go_simp
              (try with_reducible rfl)
            simp only [Act.put, List.setIfInBounds_toArray, List.set_cons_zero, List.set_cons_succ]
            try simp only [hd, Bool.not_true, Bool.not_false, bne]
            refine wpAnyH_take (i := 2) (v := ?_) (by simp only [List.getElem?_toArray, List.getElem?_cons_succ, List.getElem?_cons_zero]; rfl) (by kernel_rfl) (by kernel_rfl) (by kernel_rfl) (fun _ _ _ h => h) (Or.inl ⟨by rfl, ?_⟩) (by assumption) ?_
            rotate_left
            · intro w hSw
              (try dsimp only at hSw)
              go_simp
              (try with_reducible rfl)
            simp only [Act.put, List.setIfInBounds_toArray, List.set_cons_zero, List.set_cons_succ]
            try simp only [hd, Bool.not_true, Bool.not_false, bne]
            refine wpAnyH_take (i := 3) (v := ?_) (by simp only [List.getElem?_toArray, List.getElem?_cons_succ, List.getElem?_cons_zero]; rfl) (by kernel_rfl) (by kernel_rfl) (by kernel_rfl) (fun _ _ _ h => h) (Or.inl ⟨by rfl, ?_⟩) (by assumption) ?_
            rotate_left
            · intro w hSw
              (try dsimp only at hSw)
              go_simp
              (try with_reducible rfl)
            simp only [Act.put, List.setIfInBounds_toArray, List.set_cons_zero, List.set_cons_succ]
            refine wpAnyH_take (i := 5) (v := ?_) (by simp only [List.getElem?_toArray, List.getElem?_cons_succ, List.getElem?_cons_zero]; rfl) (by kernel_rfl) (by kernel_rfl) (by kernel_rfl) (fun _ _ _ h => h) (Or.inl ⟨by rfl, ?_⟩) (by assumption) ?_
            rotate_left
            · intro w hSw
              (try dsimp only at hSw)
              go_simp
              (try with_reducible rfl)
            simp only [Act.put, List.setIfInBounds_toArray, List.set_cons_zero, List.set_cons_succ]
            refine wpAnyH_ready (rs := [4]) (by kernel_rfl) (by simp) ?_
            refine AllReadyH.cons (by simp only [List.getElem?_toArray, List.getElem?_cons_succ, List.getElem?_cons_zero]; rfl) (fun K hK => ?_) AllReadyH.nil
            go_simp
            go_at_call 25; with_reducible refine (HT3.out _ hHeld.2.2).mono ?_
            rintro e w' ⟨rfl, kk⟩
            try go_wp2_with fail
            refine hK.out _ _ ?_ (fun hHeld2 => ?_)
            · exact keepP2 hzl hzl hHeld kk
            clear hK K hHeld
            have hHeld := hHeld2
            clear hHeld2
            try simp only [Act.put, List.setIfInBounds_toArray, List.set_cons_zero, List.set_cons_succ]
            refine wpAnyH_take (i := 6) (v := ?_) (by simp only [List.getElem?_toArray, List.getElem?_cons_succ, List.getElem?_cons_zero]; rfl) (by kernel_rfl) (by kernel_rfl) (by kernel_rfl) (fun _ _ _ h => h) (Or.inl ⟨by rfl, ?_⟩) (by assumption) ?_
            rotate_left
            · intro w hSw
              (try dsimp only at hSw)
              go_simp
              (try with_reducible rfl)
            simp only [Act.put, List.setIfInBounds_toArray, List.set_cons_zero, List.set_cons_succ]
            refine wpAnyH_take (i := 7) (v := ?_) (by simp only [List.getElem?_toArray, List.getElem?_cons_succ, List.getElem?_cons_zero]; rfl) (by kernel_rfl) (by kernel_rfl) (by kernel_rfl) (fun _ _ _ h => h) (Or.inl ⟨by rfl, ?_⟩) (by assumption) ?_
            rotate_left
            · intro w hSw
              (try dsimp only at hSw)
              go_simp
              (try with_reducible rfl)
            simp only [Act.put, List.setIfInBounds_toArray, List.set_cons_zero, List.set_cons_succ]
            refine wpAnyH_take (i := 8) (v := ?_) (by simp only [List.getElem?_toArray, List.getElem?_cons_succ, List.getElem?_cons_zero]; rfl) (by kernel_rfl) (by kernel_rfl) (by kernel_rfl) (fun _ _ _ h => h) (Or.inl ⟨by rfl, ?_⟩) (by assumption) ?_
            rotate_left
            · intro w hSw
              (try dsimp only at hSw)
              go_simp
              (try with_reducible rfl)
            simp only [Act.put, List.setIfInBounds_toArray, List.set_cons_zero, List.set_cons_succ]
            refine wpAnyH_done (by kernel_rfl) ?_ _
            refine NoPanic.normal ?_
            have k := hHeld.2.2
            clear hHeld m0 m1 hzl
            have KB9 := Lib.hid (KB8.out.trans k)
            clear k
            generalize w' = W9 at *
            go_wp2_with fail
            go_ret
            exact ⟨by first | rfl | (simp; done), K0.out.trans KB9.out⟩
          | false =>
            have hdN : ¬ q.2 = 0 := by simpa using hd
            have hdB : (q.2 != 0) = true := by simp [bne, hd]
            obtain ⟨m0, m1⟩ := (HB1.out.kept KB8.out).two
            have hzl := (HB1.out.kept KB8.out).1
            have hs1 : sameI tp tp = true := sameI_yes rfl
            refine wp_region_noPanic ?_
            refine wp_region_held_drew (S := (fun w' => w'.cell? ⟨z1, 0, none⟩ = some (.int .u64 tp.1) ∧ w'.cell? ⟨z1, 1, none⟩ = some (.int .u64 tp.2) ∧ Kept W8 w')) (by kernel_rfl) ?_ (fun hHeld => ?_)
            · exact ⟨m0, m1, (Kept.refl _).drew⟩
            refine wpAnyH_take (i := 0) (v := ?_) (by simp only [List.getElem?_toArray, List.getElem?_cons_succ, List.getElem?_cons_zero]; rfl) (by kernel_rfl) (by kernel_rfl) (by kernel_rfl) (fun _ _ _ h => h) (Or.inl ⟨by rfl, ?_⟩) (by assumption) ?_
            rotate_left
            · intro w hSw
              (try dsimp only at hSw)
              go_simp
              (try with_reducible rfl)
            simp only [Act.put, List.setIfInBounds_toArray, List.set_cons_zero, List.set_cons_succ]
            refine wpAnyH_take (i := 1) (v := ?_) (by simp only [List.getElem?_toArray, List.getElem?_cons_succ, List.getElem?_cons_zero]; rfl) (by kernel_rfl) (by kernel_rfl) (by kernel_rfl) (fun _ _ _ h => h) (Or.inl ⟨by rfl, ?_⟩) (by assumption) ?_
            rotate_left
            · intro w hSw
              (try dsimp only at hSw)
              go_simp
              (try with_reducible rfl)
            simp only [Act.put, List.setIfInBounds_toArray, List.set_cons_zero, List.set_cons_succ]
            try simp only [hd, Bool.not_true, Bool.not_false, bne]
            refine wpAnyH_take (i := 2) (v := ?_) (by simp only [List.getElem?_toArray, List.getElem?_cons_succ, List.getElem?_cons_zero]; rfl) (by kernel_rfl) (by kernel_rfl) (by kernel_rfl) (fun _ _ _ h => h) (Or.inl ⟨by rfl, ?_⟩) (by assumption) ?_
            rotate_left
            · intro w hSw
              (try dsimp only at hSw)
              go_simp
              (try with_reducible rfl)
            simp only [Act.put, List.setIfInBounds_toArray, List.set_cons_zero, List.set_cons_succ]
            try simp only [hd, Bool.not_true, Bool.not_false, bne]
            refine wpAnyH_take (i := 3) (v := undef) (by simp only [List.getElem?_toArray, List.getElem?_cons_succ, List.getElem?_cons_zero]; rfl) (by kernel_rfl) (by kernel_rfl) (by kernel_rfl) (fun _ _ _ h => h) (Or.inr ⟨by rfl, rfl⟩) (by assumption) ?_
            simp only [Act.put, List.setIfInBounds_toArray, List.set_cons_zero, List.set_cons_succ]
            refine wpAnyH_take (i := 4) (v := undef) (by simp only [List.getElem?_toArray, List.getElem?_cons_succ, List.getElem?_cons_zero]; rfl) (by kernel_rfl) (by kernel_rfl) (by kernel_rfl) (fun _ _ _ h => h) (Or.inr ⟨by rfl, rfl⟩) (by assumption) ?_
            simp only [Act.put, List.setIfInBounds_toArray, List.set_cons_zero, List.set_cons_succ]
            refine wpAnyH_take (i := 5) (v := undef) (by simp only [List.getElem?_toArray, List.getElem?_cons_succ, List.getElem?_cons_zero]; rfl) (by kernel_rfl) (by kernel_rfl) (by kernel_rfl) (fun _ _ _ h => h) (Or.inr ⟨by rfl, rfl⟩) (by assumption) ?_
            simp only [Act.put, List.setIfInBounds_toArray, List.set_cons_zero, List.set_cons_succ]
            refine wpAnyH_take (i := 6) (v := undef) (by simp only [List.getElem?_toArray, List.getElem?_cons_succ, List.getElem?_cons_zero]; rfl) (by kernel_rfl) (by kernel_rfl) (by kernel_rfl) (fun _ _ _ h => h) (Or.inr ⟨by rfl, rfl⟩) (by assumption) ?_
            simp only [Act.put, List.setIfInBounds_toArray, List.set_cons_zero, List.set_cons_succ]
            refine wpAnyH_take (i := 7) (v := ?_) (by simp only [List.getElem?_toArray, List.getElem?_cons_succ, List.getElem?_cons_zero]; rfl) (by kernel_rfl) (by kernel_rfl) (by kernel_rfl) (fun _ _ _ h => h) (Or.inl ⟨by rfl, ?_⟩) (by assumption) ?_
            rotate_left
            · intro w hSw
              (try dsimp only at hSw)
              go_simp
              (try with_reducible rfl)
            simp only [Act.put, List.setIfInBounds_toArray, List.set_cons_zero, List.set_cons_succ]
            refine wpAnyH_take (i := 8) (v := ?_) (by simp only [List.getElem?_toArray, List.getElem?_cons_succ, List.getElem?_cons_zero]; rfl) (by kernel_rfl) (by kernel_rfl) (by kernel_rfl) (fun _ _ _ h => h) (Or.inl ⟨by rfl, ?_⟩) (by assumption) ?_
            rotate_left
            · intro w hSw
              (try dsimp only at hSw)
              go_simp
              (try with_reducible rfl)
            simp only [Act.put, List.setIfInBounds_toArray, List.set_cons_zero, List.set_cons_succ]
            refine wpAnyH_done (by kernel_rfl) ?_ _
            refine NoPanic.normal ?_
            have k := hHeld.2.2
            clear hHeld m0 m1 hzl
            have KB9 := Lib.hid (KB8.out.trans k)
            clear k
            go_wp2_with fail
            go_ret
            exact ⟨by first | rfl | (simp; done), K0.out.trans KB9.out⟩
        | false =>
          have hcN : ¬ r.2 = 0 := by simpa using hc
          obtain ⟨m0, m1⟩ := (HB0.out.kept KB6.out).two
          have hzl := (HB0.out.kept KB6.out).1
          have hs1 : sameI id id = true := sameI_yes rfl
          refine wp_region_noPanic ?_
          refine wp_region_held_drew (S := (fun w' => w'.cell? ⟨z0, 0, none⟩ = some (.int .u64 id.1) ∧ w'.cell? ⟨z0, 1, none⟩ = some (.int .u64 id.2) ∧ Kept W6 w')) (by kernel_rfl) ?_ (fun hHeld => ?_)
          · exact ⟨m0, m1, (Kept.refl _).drew⟩
          refine wpAnyH_take (i := 0) (v := ?_) (by simp only [List.getElem?_toArray, List.getElem?_cons_succ, List.getElem?_cons_zero]; rfl) (by kernel_rfl) (by kernel_rfl) (by kernel_rfl) (fun _ _ _ h => h) (Or.inl ⟨by rfl, ?_⟩) (by assumption) ?_
          rotate_left
          · intro w hSw
            (try dsimp only at hSw)
            go_simp
            (try with_reducible rfl)
          simp only [Act.put, List.setIfInBounds_toArray, List.set_cons_zero, List.set_cons_succ]
          refine wpAnyH_take (i := 1) (v := ?_) (by simp only [List.getElem?_toArray, List.getElem?_cons_succ, List.getElem?_cons_zero]; rfl) (by kernel_rfl) (by kernel_rfl) (by kernel_rfl) (fun _ _ _ h => h) (Or.inl ⟨by rfl, ?_⟩) (by assumption) ?_
          rotate_left
          · intro w hSw
            (try dsimp only at hSw)
            go_simp
            (try with_reducible rfl)
          simp only [Act.put, List.setIfInBounds_toArray, List.set_cons_zero, List.set_cons_succ]
          try simp only [hc, Bool.not_true, Bool.not_false, bne]
          refine wpAnyH_take (i := 2) (v := ?_) (by simp only [List.getElem?_toArray, List.getElem?_cons_succ, List.getElem?_cons_zero]; rfl) (by kernel_rfl) (by kernel_rfl) (by kernel_rfl) (fun _ _ _ h => h) (Or.inl ⟨by rfl, ?_⟩) (by assumption) ?_
          rotate_left
          · intro w hSw
            (try dsimp only at hSw)
            go_simp
            (try with_reducible rfl)
          simp only [Act.put, List.setIfInBounds_toArray, List.set_cons_zero, List.set_cons_succ]
          try simp only [hc, Bool.not_true, Bool.not_false, bne]
          refine wpAnyH_take (i := 3) (v := undef) (by simp only [List.getElem?_toArray, List.getElem?_cons_succ, List.getElem?_cons_zero]; rfl) (by kernel_rfl) (by kernel_rfl) (by kernel_rfl) (fun _ _ _ h => h) (Or.inr ⟨by rfl, rfl⟩) (by assumption) ?_
          simp only [Act.put, List.setIfInBounds_toArray, List.set_cons_zero, List.set_cons_succ]
          refine wpAnyH_take (i := 4) (v := undef) (by simp only [List.getElem?_toArray, List.getElem?_cons_succ, List.getElem?_cons_zero]; rfl) (by kernel_rfl) (by kernel_rfl) (by kernel_rfl) (fun _ _ _ h => h) (Or.inr ⟨by rfl, rfl⟩) (by assumption) ?_
          simp only [Act.put, List.setIfInBounds_toArray, List.set_cons_zero, List.set_cons_succ]
          refine wpAnyH_take (i := 5) (v := undef) (by simp only [List.getElem?_toArray, List.getElem?_cons_succ, List.getElem?_cons_zero]; rfl) (by kernel_rfl) (by kernel_rfl) (by kernel_rfl) (fun _ _ _ h => h) (Or.inr ⟨by rfl, rfl⟩) (by assumption) ?_
          simp only [Act.put, List.setIfInBounds_toArray, List.set_cons_zero, List.set_cons_succ]
          refine wpAnyH_take (i := 6) (v := undef) (by simp only [List.getElem?_toArray, List.getElem?_cons_succ, List.getElem?_cons_zero]; rfl) (by kernel_rfl) (by kernel_rfl) (by kernel_rfl) (fun _ _ _ h => h) (Or.inr ⟨by rfl, rfl⟩) (by assumption) ?_
          simp only [Act.put, List.setIfInBounds_toArray, List.set_cons_zero, List.set_cons_succ]
          refine wpAnyH_take (i := 7) (v := ?_) (by simp only [List.getElem?_toArray, List.getElem?_cons_succ, List.getElem?_cons_zero]; rfl) (by kernel_rfl) (by kernel_rfl) (by kernel_rfl) (fun _ _ _ h => h) (Or.inl ⟨by rfl, ?_⟩) (by assumption) ?_
          rotate_left
          · intro w hSw
            (try dsimp only at hSw)
            go_simp
            (try with_reducible rfl)
          simp only [Act.put, List.setIfInBounds_toArray, List.set_cons_zero, List.set_cons_succ]
          refine wpAnyH_done (by kernel_rfl) ?_ _
          refine NoPanic.normal ?_
          have k := hHeld.2.2
          clear hHeld m0 m1 hzl
          have KB7 := Lib.hid (KB6.out.trans k)
          clear k
          obtain ⟨b00, b01⟩ := (HB0.out.kept KB7.out).two
          have bz0 := (HB0.out.kept KB7.out).1
          obtain ⟨b10, b11⟩ := (HB1.out.kept KB7.out).two
          have bz1 := (HB1.out.kept KB7.out).1
          go_wp2_with fail
          clear b00 b01 bz0 b10 b11 bz1
          refine (HMov.out _ KB7.out).mono ?_
          rintro e W8 ⟨A2, n2, rfl, hHX2, hn2, k⟩
          have KB8 := Lib.hid (KB7.out.trans k)
          clear k
          have HX2 := Lib.hid hHX2
          clear hHX2
          have HT3 := Lib.hid (fun w' (kk : Kept W8 w') => topI_any A2 n2 q.1 hq70 hn2 w' (HX2.out.kept kk))
          obtain ⟨b00, b01⟩ := (HB0.out.kept KB8.out).two
          have bz0 := (HB0.out.kept KB8.out).1
          obtain ⟨b10, b11⟩ := (HB1.out.kept KB8.out).two
          have bz1 := (HB1.out.kept KB8.out).1
          go_wp2_with fail
          clear b00 b01 bz0 b10 b11 bz1
          cases hd : (q.2 == 0) with
          | true =>
            have hd0 : q.2 = 0 := by simpa using hd
            have hT3 := HG2.out hd0
            rw [hT3] at HT3
            obtain ⟨m0, m1⟩ := (HB1.out.kept KB8.out).two
            have hzl := (HB1.out.kept KB8.out).1
            have hs1 : sameI tp tp = true := sameI_yes rfl
            refine wp_region_noPanic ?_
            refine wp_region_held_drew (S := (fun w' => w'.cell? ⟨z1, 0, none⟩ = some (.int .u64 tp.1) ∧ w'.cell? ⟨z1, 1, none⟩ = some (.int .u64 tp.2) ∧ Kept W8 w')) (by kernel_rfl) ?_ (fun hHeld => ?_)
            · exact ⟨m0, m1, (Kept.refl _).drew⟩
            refine wpAnyH_take (i := 0) (v := ?_) (by simp only [List.getElem?_toArray, List.getElem?_cons_succ, List.getElem?_cons_zero]; rfl) (by kernel_rfl) (by kernel_rfl) (by kernel_rfl) (fun _ _ _ h => h) (Or.inl ⟨by rfl, ?_⟩) (by assumption) ?_
            rotate_left
            · intro w hSw
              (try dsimp only at hSw)
              go_simp
              (try with_reducible rfl)
            simp only [Act.put, List.setIfInBounds_toArray, List.set_cons_zero, List.set_cons_succ]
            refine wpAnyH_take (i := 1) (v := ?_) (by simp only [List.getElem?_toArray, List.getElem?_cons_succ, List.getElem?_cons_zero]; rfl) (by kernel_rfl) (by kernel_rfl) (by kernel_rfl) (fun _ _ _ h => h) (Or.inl ⟨by rfl, ?_⟩) (by assumption) ?_
            rotate_left
            · intro w hSw
              (try dsimp only at hSw)
              go_simp
              (try with_reducible rfl)
            simp only [Act.put, List.setIfInBounds_toArray, List.set_cons_zero, List.set_cons_succ]
            try simp only [hd, Bool.not_true, Bool.not_false, bne]
            refine wpAnyH_take (i := 2) (v := ?_) (by simp only [List.getElem?_toArray, List.getElem?_cons_succ, List.getElem?_cons_zero]; rfl) (by kernel_rfl) (by kernel_rfl) (by kernel_rfl) (fun _ _ _ h => h) (Or.inl ⟨by rfl, ?_⟩) (by assumption) ?_
            rotate_left
            · intro w hSw
              (try dsimp only at hSw)
              go_simp
              (try with_reducible rfl)
            simp only [Act.put, List.setIfInBounds_toArray, List.set_cons_zero, List.set_cons_succ]
            try simp only [hd, Bool.not_true, Bool.not_false, bne]
            refine wpAnyH_take (i := 3) (v := ?_) (by simp only [List.getElem?_toArray, List.getElem?_cons_succ, List.getElem?_cons_zero]; rfl) (by kernel_rfl) (by kernel_rfl) (by kernel_rfl) (fun _ _ _ h => h) (Or.inl ⟨by rfl, ?_⟩) (by assumption) ?_
            rotate_left
            · intro w hSw
              (try dsimp only at hSw)
              go_simp
              (try with_reducible rfl)
            simp only [Act.put, List.setIfInBounds_toArray, List.set_cons_zero, List.set_cons_succ]
            refine wpAnyH_take (i := 5) (v := ?_) (by simp only [List.getElem?_toArray, List.getElem?_cons_succ, List.getElem?_cons_zero]; rfl) (by kernel_rfl) (by kernel_rfl) (by kernel_rfl) (fun _ _ _ h => h) (Or.inl ⟨by rfl, ?_⟩) (by assumption) ?_
            rotate_left
            · intro w hSw
              (try dsimp only at hSw)
              go_simp
              (try with_reducible rfl)
            simp only [Act.put, List.setIfInBounds_toArray, List.set_cons_zero, List.set_cons_succ]
            refine wpAnyH_ready (rs := [4]) (by kernel_rfl) (by simp) ?_
            refine AllReadyH.cons (by simp only [List.getElem?_toArray, List.getElem?_cons_succ, List.getElem?_cons_zero]; rfl) (fun K hK => ?_) AllReadyH.nil
            go_simp
            go_at_call 25; with_reducible refine (HT3.out _ hHeld.2.2).mono ?_
            rintro e w' ⟨rfl, kk⟩
            try go_wp2_with fail
            refine hK.out _ _ ?_ (fun hHeld2 => ?_)
            · exact keepP2 hzl hzl hHeld kk
            clear hK K hHeld
            have hHeld := hHeld2
            clear hHeld2
            try simp only [Act.put, List.setIfInBounds_toArray, List.set_cons_zero, List.set_cons_succ]
            refine wpAnyH_take (i := 6) (v := ?_) (by simp only [List.getElem?_toArray, List.getElem?_cons_succ, List.getElem?_cons_zero]; rfl) (by kernel_rfl) (by kernel_rfl) (by kernel_rfl) (fun _ _ _ h => h) (Or.inl ⟨by rfl, ?_⟩) (by assumption) ?_
            rotate_left
            · intro w hSw
              (try dsimp only at hSw)
              go_simp
              (try with_reducible rfl)
            simp only [Act.put, List.setIfInBounds_toArray, List.set_cons_zero, List.set_cons_succ]
            refine wpAnyH_take (i := 7) (v := ?_) (by simp only [List.getElem?_toArray, List.getElem?_cons_succ, List.getElem?_cons_zero]; rfl) (by kernel_rfl) (by kernel_rfl) (by kernel_rfl) (fun _ _ _ h => h) (Or.inl ⟨by rfl, ?_⟩) (by assumption) ?_
            rotate_left
            · intro w hSw
              (try dsimp only at hSw)
              go_simp
              (try with_reducible rfl)
            simp only [Act.put, List.setIfInBounds_toArray, List.set_cons_zero, List.set_cons_succ]
            refine wpAnyH_take (i := 8) (v := ?_) (by simp only [List.getElem?_toArray, List.getElem?_cons_succ, List.getElem?_cons_zero]; rfl) (by kernel_rfl) (by kernel_rfl) (by kernel_rfl) (fun _ _ _ h => h) (Or.inl ⟨by rfl, ?_⟩) (by assumption) ?_
            rotate_left
            · intro w hSw
              (try dsimp only at hSw)
              go_simp
              (try with_reducible rfl)
            simp only [Act.put, List.setIfInBounds_toArray, List.set_cons_zero, List.set_cons_succ]
            refine wpAnyH_done (by kernel_rfl) ?_ _
            refine NoPanic.normal ?_
            have k := hHeld.2.2
            clear hHeld m0 m1 hzl
            have KB9 := Lib.hid (KB8.out.trans k)
            clear k
            generalize w' = W9 at *
            go_wp2_with fail
            go_ret
            exact ⟨by first | rfl | (simp; done), K0.out.trans KB9.out⟩
          | false =>
            have hdN : ¬ q.2 = 0 := by simpa using hd
            have hdB : (q.2 != 0) = true := by simp [bne, hd]
            obtain ⟨m0, m1⟩ := (HB1.out.kept KB8.out).two
            have hzl := (HB1.out.kept KB8.out).1
            have hs1 : sameI tp tp = true := sameI_yes rfl
            refine wp_region_noPanic ?_
            refine wp_region_held_drew (S := (fun w' => w'.cell? ⟨z1, 0, none⟩ = some (.int .u64 tp.1) ∧ w'.cell? ⟨z1, 1, none⟩ = some (.int .u64 tp.2) ∧ Kept W8 w')) (by kernel_rfl) ?_ (fun hHeld => ?_)
            · exact ⟨m0, m1, (Kept.refl _).drew⟩
            refine wpAnyH_take (i := 0) (v := ?_) (by simp only [List.getElem?_toArray, List.getElem?_cons_succ, List.getElem?_cons_zero]; rfl) (by kernel_rfl) (by kernel_rfl) (by kernel_rfl) (fun _ _ _ h => h) (Or.inl ⟨by rfl, ?_⟩) (by assumption) ?_
            rotate_left
            · intro w hSw
              (try dsimp only at hSw)
              go_simp
              (try with_reducible rfl)
            simp only [Act.put, List.setIfInBounds_toArray, List.set_cons_zero, List.set_cons_succ]
            refine wpAnyH_take (i := 1) (v := ?_) (by simp only [List.getElem?_toArray, List.getElem?_cons_succ, List.getElem?_cons_zero]; rfl) (by kernel_rfl) (by kernel_rfl) (by kernel_rfl) (fun _ _ _ h => h) (Or.inl ⟨by rfl, ?_⟩) (by assumption) ?_
            rotate_left
            · intro w hSw
              (try dsimp only at hSw)
              go_simp
              (try with_reducible rfl)
            simp only [Act.put, List.setIfInBounds_toArray, List.set_cons_zero, List.set_cons_succ]
            try simp only [hd, Bool.not_true, Bool.not_false, bne]
            refine wpAnyH_take (i := 2) (v := ?_) (by simp only [List.getElem?_toArray, List.getElem?_cons_succ, List.getElem?_cons_zero]; rfl) (by kernel_rfl) (by kernel_rfl) (by kernel_rfl) (fun _ _ _ h => h) (Or.inl ⟨by rfl, ?_⟩) (by assumption) ?_
            rotate_left
            · intro w hSw
              (try dsimp only at hSw)
              go_simp
              (try with_reducible rfl)
            simp only [Act.put, List.setIfInBounds_toArray, List.set_cons_zero, List.set_cons_succ]
            try simp only [hd, Bool.not_true, Bool.not_false, bne]
            refine wpAnyH_take (i := 3) (v := undef) (by simp only [List.getElem?_toArray, List.getElem?_cons_succ, List.getElem?_cons_zero]; rfl) (by kernel_rfl) (by kernel_rfl) (by kernel_rfl) (fun _ _ _ h => h) (Or.inr ⟨by rfl, rfl⟩) (by assumption) ?_
            simp only [Act.put, List.setIfInBounds_toArray, List.set_cons_zero, List.set_cons_succ]
            refine wpAnyH_take (i := 4) (v := undef) (by simp only [List.getElem?_toArray, List.getElem?_cons_succ, List.getElem?_cons_zero]; rfl) (by kernel_rfl) (by kernel_rfl) (by kernel_rfl) (fun _ _ _ h => h) (Or.inr ⟨by rfl, rfl⟩) (by assumption) ?_
            simp only [Act.put, List.setIfInBounds_toArray, List.set_cons_zero, List.set_cons_succ]
            refine wpAnyH_take (i := 5) (v := undef) (by simp only [List.getElem?_toArray, List.getElem?_cons_succ, List.getElem?_cons_zero]; rfl) (by kernel_rfl) (by kernel_rfl) (by kernel_rfl) (fun _ _ _ h => h) (Or.inr ⟨by rfl, rfl⟩) (by assumption) ?_
            simp only [Act.put, List.setIfInBounds_toArray, List.set_cons_zero, List.set_cons_succ]
            refine wpAnyH_take (i := 6) (v := undef) (by simp only [List.getElem?_toArray, List.getElem?_cons_succ, List.getElem?_cons_zero]; rfl) (by kernel_rfl) (by kernel_rfl) (by kernel_rfl) (fun _ _ _ h => h) (Or.inr ⟨by rfl, rfl⟩) (by assumption) ?_
            simp only [Act.put, List.setIfInBounds_toArray, List.set_cons_zero, List.set_cons_succ]
            refine wpAnyH_take (i := 7) (v := ?_) (by simp only [List.getElem?_toArray, List.getElem?_cons_succ, List.getElem?_cons_zero]; rfl) (by kernel_rfl) (by kernel_rfl) (by kernel_rfl) (fun _ _ _ h => h) (Or.inl ⟨by rfl, ?_⟩) (by assumption) ?_
            rotate_left
            · intro w hSw
              (try dsimp only at hSw)
              go_simp
              (try with_reducible rfl)
            simp only [Act.put, List.setIfInBounds_toArray, List.set_cons_zero, List.set_cons_succ]
            refine wpAnyH_take (i := 8) (v := ?_) (by simp only [List.getElem?_toArray, List.getElem?_cons_succ, List.getElem?_cons_zero]; rfl) (by kernel_rfl) (by kernel_rfl) (by kernel_rfl) (fun _ _ _ h => h) (Or.inl ⟨by rfl, ?_⟩) (by assumption) ?_
            rotate_left
            · intro w hSw
              (try dsimp only at hSw)
              go_simp
              (try with_reducible rfl)
            simp only [Act.put, List.setIfInBounds_toArray, List.set_cons_zero, List.set_cons_succ]
            refine wpAnyH_done (by kernel_rfl) ?_ _
            refine NoPanic.normal ?_
            have k := hHeld.2.2
            clear hHeld m0 m1 hzl
            have KB9 := Lib.hid (KB8.out.trans k)
            clear k
            go_wp2_with fail
            go_ret
            exact ⟨by first | rfl | (simp; done), K0.out.trans KB9.out⟩
  · go_enter Try.func9, Try.ntmps9
    go_wp2_with fail
    have K0 := Lib.hid ((Kept.refl w).alloc (.cells #[.int .u64 id.1, .int .u64 id.2] 29))
    have HA := Lib.hid (ahl.kept K0.out)
    clear ahl
    have HB0 := Lib.hid (HasCells.new w #[.int .u64 id.1, .int .u64 id.2] 29 (w.heap.size) (by simp))
    generalize (w.alloc (.cells #[.int .u64 id.1, .int .u64 id.2] 29)) = W0 at *
    generalize w.heap.size = z0 at *
    have KB0 := Lib.hid (Kept.refl W0)
    refine (arrayAwake W0).mono ?_
    rintro e W1 ⟨rfl, k⟩
    have KB1 := Lib.hid (KB0.out.trans k)
    clear k
    obtain ⟨b00, b01⟩ := (HB0.out.kept KB1.out).two
    have bz0 := (HB0.out.kept KB1.out).1
    go_wp2_with fail
    clear b00 b01 bz0
    go_ret
    exact ⟨by first | rfl | (simp; done), K0.out.trans KB1.out⟩

/-! ### The row's step -/
set_option maxRecDepth 100000 in
theorem lifted (os : Os) (started : os.Started) (H : Type) (enc : TypeId × Value → H) :
    ReturnsInHanded {} Try.checked os 9 .any (Rows.arrayGrowsSpec.pre6 enc Try.prog Try.f9 Rows.arrayGrowsRow.domain false) (Rows.arrayGrowsSpec.post enc Try.prog Try.f9 false true false false) := by
  refine returnsInHanded_of_change (C := Try.checked) own started (by kernel_rfl) Try.func9
    (ChangeSpec.witness6 (enc := enc) (C := Try.checked) false ⟨#[], #[.slice none 0 0, .agg #[.int .u64 0, .int .u64 0], .int .i64 0], []⟩ 8 (by kernel_rfl) (by kernel_rfl) (by kernel_rfl) (by kernel_rfl)) ?_
  intro W base args ds gs before hval0 hW hcnd _
  have hval : ∀ (j : Nat) t v, Try.f9.params[j]? = some t → args[j]? = some v → Value.okWide Try.prog W .any base t v := hval0
  have hW' := hW
  obtain ⟨p, q, hA0, hV, rfl, hfz, hnd⟩ := hW
  have hA : DataW.TrodAll enc Try.prog W 0 (fun _ => true) true Try.f9.params.toList args.toList ds p := hA0
  rw [Try.params9] at hA hval
  obtain ⟨v0, vs0, d0, ds0, p0, q0, hargs, rfl, rfl, h0, r0⟩ := trodAll_cons hA
  obtain ⟨v1, vs1, d1, ds1, p1, q1, rfl, rfl, rfl, h1, r1⟩ := trodAll_cons r0
  obtain ⟨v2, vs2, d2, ds2, p2, q2, rfl, rfl, rfl, h2, r2⟩ := trodAll_cons r1
  obtain ⟨rfl, rfl, rfl⟩ := trodAll_nil r2
  obtain rfl : args = #[v0, v1, v2] := by cases args; simp_all
  obtain ⟨rfl, rfl⟩ := trodVars_none hV
  obtain ⟨aA, ac, a, rfl, ahm, ahc, ahl⟩ := open_items (hval 0 _ v0 rfl rfl) h0
  obtain ⟨id, rfl, hid1, hid2⟩ := open_id (hval 1 _ v1 rfl rfl) h1
  obtain ⟨y, rfl, hy1, hy2⟩ := open_num (hval 2 _ v2 rfl rfl) h2
  clear hA0 hval0
  refine (walk W aA ac a ahm ahc ahl id hid1 hid2 y hy1 hy2).mono fun e W' ⟨he, hb⟩ => ?_
  subst he
  exact ⟨_, rfl, law_post rfl (by kernel_rfl) rfl hW' rfl hb⟩

theorem over : Rows.arrayGrowsRow.holds Try.pinned (OpenSpec.ofChange Rows.arrayGrowsSpec) :=
  OpenClaim.holds_of_wide 9 Try.f9 rfl rfl rfl rfl rfl rfl rfl ⟨rfl, rfl, rfl, rfl, rfl⟩ rfl rfl rfl rfl rfl (by kernel_rfl) Try.func9 (by kernel_rfl)
    (of_decide_eq_true (by kernel_rfl)) (by unfold Func.isWrapper; first | (rw [if_pos (by decide +kernel)]; kernel_rfl) | (rw [if_neg (by decide +kernel)]; exact ⟨rfl, rfl⟩))
    (fun os started H enc _ => lifted os started H enc)

/-- The statement. -/
theorem proved : Rows.ArrayGrowsSaid :=
  over
#print axioms proved

end Go.Proofs.Ytabmdilhfiembaa.arrayGrows
