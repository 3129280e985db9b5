/-
  The contracts of strong and Strong of the given package marigoldref11.
-/
import Derived.Test.YthgammhjoajhoaaGreatFfgRef
namespace Go.Proofs.YthgammhjoajhoaaGreat
set_option maxRecDepth 100000
set_option linter.unusedVariables false
set_option linter.unusedSimpArgs false
set_option linter.unusedSimpArgs false
set_option linter.unusedVariables false
open Go.ChangeShapes Go.WideShapes Go.ChangeAt Go.RowKit

theorem who_hit {v : List Lk} {s t : Ck} {j : Nat} (hj : j < v.length) (h1 : sameK v[j].s s = true) (h2 : sameK v[j].t t = true) : whoK (v.take (j + 1)) s t = whoK (v.take j) s t ++ [v[j].f] := by
  rw [List.take_succ_eq_append_getElem hj, whoK_hit _ (by unfold hitK; rw [h1, h2]; rfl)]
theorem who_miss {v : List Lk} {s t : Ck} {j : Nat} (hj : j < v.length) (h : sameK v[j].s s = false ∨ sameK v[j].t t = false) : whoK (v.take (j + 1)) s t = whoK (v.take j) s t := by
  rw [List.take_succ_eq_append_getElem hj, whoK_miss _ (by unfold hitK; rcases h with h | h <;> simp [h])]
theorem who_le (v : List Lk) (s t : Ck) (j : Nat) : (whoK (v.take j) s t).length ≤ j := Nat.le_trans (whoK_length _ _ _) (by rw [List.length_take]; omega)
theorem Ints.sliceW {W w : World} {l : List Int} {v : Value} (h : Ints W l v w) : ∃ A c, v = .slice A l.length c := by
  rcases h.1.2 with ⟨hv, h0⟩ | ⟨g, cap, cur, hv, _⟩
  · rw [h0]; exact ⟨_, _, hv⟩
  · exact ⟨_, _, hv⟩

attribute [local go_sem high] eqK in
set_option maxRecDepth 100000 in
set_option maxHeartbeats 6400000 in
theorem refStrongIn_any (A : Option Addr) (c : Nat) (k : Cf) (V : Option Addr) (cv : Nat) (v : List Lk) (s t : Ck) (w : World)
    (hk : k.ws.length ≤ 1000) (hv : v.length ≤ 100000) (hA : CellsAt w w.heap.size A (intCells k.ws)) (hV : CellsAt w w.heap.size V (lksCells v)) :
    Calls Tryz.prog 19 #[.agg #[.slice A k.ws.length c, .int .u64 k.seed, .int .i64 k.ep, .int .i64 k.nu, .int .i64 k.de], .slice V v.length cv, .agg #[.int .i64 s.e, .int .u64 s.r.1, .int .u64 s.r.2], .agg #[.int .i64 t.e, .int .u64 t.r.1, .int .u64 t.r.2]] w fun e w' => e = .returned (.bool (strongK k v s t)) ∧ Kept w w' := by
  have K0 := Lib.hid ((((Kept.refl w).alloc (.cells #[.slice A k.ws.length c, .int .u64 k.seed, .int .i64 k.ep, .int .i64 k.nu, .int .i64 k.de] 25)).alloc (.cells #[.int .i64 s.e, .int .u64 s.r.1, .int .u64 s.r.2] 31)).alloc (.cells #[.int .i64 t.e, .int .u64 t.r.1, .int .u64 t.r.2] 31))
  have HC := Lib.hid (((HasCells.new w #[.slice A k.ws.length c, .int .u64 k.seed, .int .i64 k.ep, .int .i64 k.nu, .int .i64 k.de] 25 w.heap.size rfl).alloc (.cells #[.int .i64 s.e, .int .u64 s.r.1, .int .u64 s.r.2] 31)).alloc (.cells #[.int .i64 t.e, .int .u64 t.r.1, .int .u64 t.r.2] 31))
  have HS := Lib.hid ((HasCells.new (w.alloc (.cells #[.slice A k.ws.length c, .int .u64 k.seed, .int .i64 k.ep, .int .i64 k.nu, .int .i64 k.de] 25)) #[.int .i64 s.e, .int .u64 s.r.1, .int .u64 s.r.2] 31 (w.heap.size + 1) (by simp)).alloc (.cells #[.int .i64 t.e, .int .u64 t.r.1, .int .u64 t.r.2] 31))
  have HT := Lib.hid (HasCells.new ((w.alloc (.cells #[.slice A k.ws.length c, .int .u64 k.seed, .int .i64 k.ep, .int .i64 k.nu, .int .i64 k.de] 25)).alloc (.cells #[.int .i64 s.e, .int .u64 s.r.1, .int .u64 s.r.2] 31)) #[.int .i64 t.e, .int .u64 t.r.1, .int .u64 t.r.2] 31 (w.heap.size + 1 + 1) (by simp))
  have HA := Lib.hid (hA.kept K0.out)
  have HV := Lib.hid (hV.kept K0.out)
  clear hA hV
  have HSt : Hid (strongK k v s t = decide (0 < (whoK v s t).length ∧ 2 * totalC k ≤ 3 * weightC k (whoK v s t))) := Lib.hid rfl
  generalize strongK k v s t = res at *
  go_enter Tryz.func19, Tryz.ntmps19
  go_wp2_with fail
  generalize (((w.alloc (.cells #[.slice A k.ws.length c, .int .u64 k.seed, .int .i64 k.ep, .int .i64 k.nu, .int .i64 k.de] 25)).alloc (.cells #[.int .i64 s.e, .int .u64 s.r.1, .int .u64 s.r.2] 31)).alloc (.cells #[.int .i64 t.e, .int .u64 t.r.1, .int .u64 t.r.2] 31)) = W at *
  generalize w.heap.size + 1 + 1 = zt at *
  generalize w.heap.size + 1 = zs at *
  generalize w.heap.size = z at *
  go_loopw [9, 10] (fun u i w' => ∃ j : Nat, j ≤ v.length ∧ i = .int .i64 j ∧ Ints W (whoK (v.take j) s t) u w') (fun _ i _ => v.length - (intOf i).toNat)
  case atStart => exact ⟨0, by omega, rfl, Ints.nil W⟩
  case round =>
    obtain ⟨j, hj, rfl, hI⟩ := hrel
    have HI := Lib.hid hI
    clear hI
    by_cases hlt : j < v.length
    · obtain ⟨zv, ov, rfl, hbv, x0, x1, x2, x3, x4, x5, x6⟩ := lk_at (HV.out.kept HI.out.2) hlt
      obtain ⟨d0, d1, d2⟩ := (HS.out.kept HI.out.2).three
      obtain ⟨e0, e1, e2⟩ := (HT.out.kept HI.out.2).three
      have HT1 := Lib.hid (who_hit (s := s) (t := t) hlt)
      have HT0 := Lib.hid (who_miss (s := s) (t := t) hlt)
      have HLe := Lib.hid (who_le v s t j)
      generalize hX : whoK (v.take j) s t = X at *
      clear hX
      generalize v[j] = x at *
      cases h1 : sameK x.s s with
      | true =>
        cases h2 : sameK x.t t with
        | true =>
          have HN := Lib.hid (HT1.out h1 h2)
          have hll : X.length + 1 ≤ 1000000 := by have := HLe.out; omega
          clear HT1 HT0
          go_wp2_with fail
          go_quiet (fail)
          go_wp2_with (refine wpList_ints _ rfl _ _ rfl W X _ rfl ((HI.out.kept ((Kept.refl _).drewN _)).alloc _) _ _ 1 1 [x.f] rfl rfl (CellsAt.new _ _ _ _ (by simp)) hll ?_; intro v' w' HI'; rw [← HN.out] at HI')
          go_roundw
          case rel => exact ⟨j + 1, by omega, by go_num, HI'⟩
          case measure => simp [intOf]; omega
        | false =>
          have HN := Lib.hid (HT0.out (Or.inr h2))
          clear HT1 HT0
          go_wp2_with fail
          go_quiet (fail)
          go_wp2_with fail
          go_roundw
          case rel => exact ⟨j + 1, by omega, by go_num, by rw [HN.out]; exact HI.out.kept ((Kept.refl _).drewN _)⟩
          case measure => simp [intOf]; omega
      | false =>
        have HN := Lib.hid (HT0.out (Or.inl h1))
        clear HT1 HT0
        go_wp2_with fail
        go_quiet (fail)
        go_wp2_with fail
        go_roundw
        case rel => exact ⟨j + 1, by omega, by go_num, by rw [HN.out]; exact HI.out.kept ((Kept.refl _).drewN _)⟩
        case measure => simp [intOf]; omega
    · have hjl : j = v.length := by omega
      subst hjl
      have HTk := Lib.hid (show v.take v.length = v from List.take_length)
      rw [HTk.out] at HI
      have HL := Lib.hid (whoK_length v s t)
      generalize whoK v s t = X at *
      obtain ⟨B, cb, rfl⟩ := HI.out.sliceW
      obtain ⟨c0, c1, c2, c3, c4⟩ := (HC.out.kept HI.out.2).five
      have hzl := (HC.out.kept HI.out.2).1
      have HWt := Lib.hid (fun w' (kk : Kept wr w') => refWeight_any A c k B X cb w' hk (by have := HL.out; omega) ((HA.out.kept HI.out.2).kept kk) ((HI.out.cells rfl).kept kk))
      have HTt := Lib.hid (fun w' (kk : Kept wr w') => refTotal_any A c k w' hk ((HA.out.kept HI.out.2).kept kk))
      have hpb := weight_bounds k X
      have htb := total_bounds k
      generalize weightC k X = p at *
      generalize totalC k = q at *
      have hp3 : IntKind.i64.wrap (3 * p) = 3 * p := by rw [IntKind.wrap_i64]; omega
      have hq2 : IntKind.i64.wrap (2 * q) = 2 * q := by rw [IntKind.wrap_i64]; omega
      have HK := Lib.hid HI.out.2
      by_cases hX : 0 < X.length
      · have HE := Lib.hid (show res = decide (2 * q ≤ 3 * p) by rw [HSt.out, Bool.eq_iff_iff, decide_eq_true_iff, decide_eq_true_iff]; exact ⟨fun h => h.2, fun h => ⟨hX, h⟩⟩)
        clear HSt
        have hXb : decide ((0 : Int) < (X.length : Int)) = true := decide_eq_true (by omega)
        go_wp2_with fail
        refine wp_region_noPanic ?_
        refine wp_region_held_drew (S := (fun w' => w'.cell? ⟨z, 0, none⟩ = some (.slice A k.ws.length c) ∧ w'.cell? ⟨z, 1, none⟩ = some (.int .u64 k.seed) ∧ w'.cell? ⟨z, 2, none⟩ = some (.int .i64 k.ep) ∧ w'.cell? ⟨z, 3, none⟩ = some (.int .i64 k.nu) ∧ w'.cell? ⟨z, 4, none⟩ = some (.int .i64 k.de) ∧ Kept wr w')) (by kernel_rfl) ?_ (fun hHeld => ?_)
        · exact ⟨c0, c1, c2, c3, c4, (Kept.refl _).drew⟩
        refine wpAnyH_take (i := 0) (v := ?_) (by simp only [List.getElem?_toArray, List.getElem?_cons_succ, List.getElem?_cons_zero]; rfl) (by kernel_rfl) (by kernel_rfl) (by kernel_rfl) (fun _ _ _ h => h) (Or.inl ⟨by rfl, ?_⟩) (by assumption) ?_
        rotate_left
        · intro w hSw
          (try dsimp only at hSw)
          go_simp
          (try with_reducible rfl)
        simp only [Act.put, List.setIfInBounds_toArray, List.set_cons_zero, List.set_cons_succ]
        refine wpAnyH_take (i := 1) (v := ?_) (by simp only [List.getElem?_toArray, List.getElem?_cons_succ, List.getElem?_cons_zero]; rfl) (by kernel_rfl) (by kernel_rfl) (by kernel_rfl) (fun _ _ _ h => h) (Or.inl ⟨by rfl, ?_⟩) (by assumption) ?_
        rotate_left
        · intro w hSw
          (try dsimp only at hSw)
          go_simp
          (try with_reducible rfl)
        simp only [Act.put, List.setIfInBounds_toArray, List.set_cons_zero, List.set_cons_succ]
        refine wpAnyH_take (i := 2) (v := ?_) (by simp only [List.getElem?_toArray, List.getElem?_cons_succ, List.getElem?_cons_zero]; rfl) (by kernel_rfl) (by kernel_rfl) (by kernel_rfl) (fun _ _ _ h => h) (Or.inl ⟨by rfl, ?_⟩) (by assumption) ?_
        rotate_left
        · intro w hSw
          (try dsimp only at hSw)
          go_simp
          (try with_reducible rfl)
        simp only [Act.put, List.setIfInBounds_toArray, List.set_cons_zero, List.set_cons_succ]
        refine wpAnyH_take (i := 3) (v := ?_) (by simp only [List.getElem?_toArray, List.getElem?_cons_succ, List.getElem?_cons_zero]; rfl) (by kernel_rfl) (by kernel_rfl) (by kernel_rfl) (fun _ _ _ h => h) (Or.inl ⟨by rfl, ?_⟩) (by assumption) ?_
        rotate_left
        · intro w hSw
          (try dsimp only at hSw)
          go_simp
          (try with_reducible rfl)
        simp only [Act.put, List.setIfInBounds_toArray, List.set_cons_zero, List.set_cons_succ]
        refine wpAnyH_take (i := 4) (v := ?_) (by simp only [List.getElem?_toArray, List.getElem?_cons_succ, List.getElem?_cons_zero]; rfl) (by kernel_rfl) (by kernel_rfl) (by kernel_rfl) (fun _ _ _ h => h) (Or.inl ⟨by rfl, ?_⟩) (by assumption) ?_
        rotate_left
        · intro w hSw
          (try dsimp only at hSw)
          go_simp
          (try with_reducible rfl)
        simp only [Act.put, List.setIfInBounds_toArray, List.set_cons_zero, List.set_cons_succ]
        refine wpAnyH_take (i := 5) (v := ?_) (by simp only [List.getElem?_toArray, List.getElem?_cons_succ, List.getElem?_cons_zero]; rfl) (by kernel_rfl) (by kernel_rfl) (by kernel_rfl) (fun _ _ _ h => h) (Or.inl ⟨by rfl, ?_⟩) (by assumption) ?_
        rotate_left
        · intro w hSw
          (try dsimp only at hSw)
          go_simp
          (try with_reducible rfl)
        simp only [Act.put, List.setIfInBounds_toArray, List.set_cons_zero, List.set_cons_succ]
        refine wpAnyH_take (i := 8) (v := ?_) (by simp only [List.getElem?_toArray, List.getElem?_cons_succ, List.getElem?_cons_zero]; rfl) (by kernel_rfl) (by kernel_rfl) (by kernel_rfl) (fun _ _ _ h => h) (Or.inl ⟨by rfl, ?_⟩) (by assumption) ?_
        rotate_left
        · intro w hSw
          (try dsimp only at hSw)
          go_simp
          (try with_reducible rfl)
        simp only [Act.put, List.setIfInBounds_toArray, List.set_cons_zero, List.set_cons_succ]
        refine wpAnyH_ready (rs := [6]) (by kernel_rfl) (by simp) ?_
        refine AllReadyH.cons (by simp only [List.getElem?_toArray, List.getElem?_cons_succ, List.getElem?_cons_zero]; rfl) (fun K hK => ?_) AllReadyH.nil
        go_simp
        go_at_call 42; with_reducible refine (HWt.out _ hHeld.2.2.2.2.2).mono ?_
        rintro e w' ⟨rfl, kk⟩
        try go_wp2_with fail
        refine hK.out _ _ ?_ (fun hHeld2 => ?_)
        · exact keepP5 hzl hzl hzl hzl hzl hHeld kk
        clear hK K hHeld
        have hHeld := hHeld2
        clear hHeld2
        try simp only [Act.put, List.setIfInBounds_toArray, List.set_cons_zero, List.set_cons_succ]
        refine wpAnyH_take (i := 7) (v := ?_) (by simp only [List.getElem?_toArray, List.getElem?_cons_succ, List.getElem?_cons_zero]; rfl) (by kernel_rfl) (by kernel_rfl) (by kernel_rfl) (fun _ _ _ h => h) (Or.inl ⟨by rfl, ?_⟩) (by assumption) ?_
        rotate_left
        · intro w hSw
          (try dsimp only at hSw)
          go_simp
          (try with_reducible rfl)
        simp only [Act.put, List.setIfInBounds_toArray, List.set_cons_zero, List.set_cons_succ]
        try simp only [hp3]
        refine wpAnyH_ready (rs := [9]) (by kernel_rfl) (by simp) ?_
        refine AllReadyH.cons (by simp only [List.getElem?_toArray, List.getElem?_cons_succ, List.getElem?_cons_zero]; rfl) (fun K hK => ?_) AllReadyH.nil
        go_simp
        go_at_call 43; with_reducible refine (HTt.out _ hHeld.2.2.2.2.2).mono ?_
        rintro e w' ⟨rfl, kk⟩
        try go_wp2_with fail
        refine hK.out _ _ ?_ (fun hHeld2 => ?_)
        · exact keepP5 hzl hzl hzl hzl hzl hHeld kk
        clear hK K hHeld
        have hHeld := hHeld2
        clear hHeld2
        try simp only [Act.put, List.setIfInBounds_toArray, List.set_cons_zero, List.set_cons_succ]
        refine wpAnyH_take (i := 10) (v := ?_) (by simp only [List.getElem?_toArray, List.getElem?_cons_succ, List.getElem?_cons_zero]; rfl) (by kernel_rfl) (by kernel_rfl) (by kernel_rfl) (fun _ _ _ h => h) (Or.inl ⟨by rfl, ?_⟩) (by assumption) ?_
        rotate_left
        · intro w hSw
          (try dsimp only at hSw)
          go_simp
          (try with_reducible rfl)
        simp only [Act.put, List.setIfInBounds_toArray, List.set_cons_zero, List.set_cons_succ]
        try simp only [hq2]
        refine wpAnyH_take (i := 11) (v := ?_) (by simp only [List.getElem?_toArray, List.getElem?_cons_succ, List.getElem?_cons_zero]; rfl) (by kernel_rfl) (by kernel_rfl) (by kernel_rfl) (fun _ _ _ h => h) (Or.inl ⟨by rfl, ?_⟩) (by assumption) ?_
        rotate_left
        · intro w hSw
          (try dsimp only at hSw)
          go_simp
          (try with_reducible rfl)
        simp only [Act.put, List.setIfInBounds_toArray, List.set_cons_zero, List.set_cons_succ]
        refine wpAnyH_take (i := 12) (v := ?_) (by simp only [List.getElem?_toArray, List.getElem?_cons_succ, List.getElem?_cons_zero]; rfl) (by kernel_rfl) (by kernel_rfl) (by kernel_rfl) (fun _ _ _ h => h) (Or.inl ⟨by rfl, ?_⟩) (by assumption) ?_
        rotate_left
        · intro w hSw
          (try dsimp only at hSw)
          go_simp
          (try with_reducible rfl)
        simp only [Act.put, List.setIfInBounds_toArray, List.set_cons_zero, List.set_cons_succ]
        refine wpAnyH_take (i := 13) (v := ?_) (by simp only [List.getElem?_toArray, List.getElem?_cons_succ, List.getElem?_cons_zero]; rfl) (by kernel_rfl) (by kernel_rfl) (by kernel_rfl) (fun _ _ _ h => h) (Or.inl ⟨by rfl, ?_⟩) (by assumption) ?_
        rotate_left
        · intro w hSw
          (try dsimp only at hSw)
          go_simp
          (try with_reducible rfl)
        simp only [Act.put, List.setIfInBounds_toArray, List.set_cons_zero, List.set_cons_succ]
        refine wpAnyH_done (by kernel_rfl) ?_ _
        refine NoPanic.normal ?_
        have k7 := Lib.hid (HK.out.trans hHeld.2.2.2.2.2)
        clear hHeld
        go_wp2_with fail
        go_ret
        exact ⟨by rw [HE.out]; first | rfl | (simp; done), K0.out.trans k7.out⟩
      · have HE := Lib.hid (show res = false by rw [HSt.out]; exact decide_eq_false (fun h => hX h.1))
        clear HSt
        have hX0 : X.length = 0 := by omega
        rw [hX0]
        go_wp2_with fail
        go_quiet (fail)
        go_wp2_with fail
        go_ret
        exact ⟨by rw [HE.out]; first | rfl | (simp; done), K0.out.trans (HK.out.drewN _)⟩

attribute [local go_sem high] eqK in
set_option maxRecDepth 100000 in
set_option maxHeartbeats 3200000 in
theorem refStrong11_any (A : Option Addr) (c : Nat) (k : Cf) (L : Option Addr) (cl : Nat) (l : List Bk) (V : Option Addr) (cv : Nat) (v : List Lk) (s t : Ck) (w : World)
    (hk : k.ws.length ≤ 1000) (hl : l.length ≤ 1000000) (hv : v.length ≤ 100000) (hwl : WfL l) (hA : CellsAt w w.heap.size A (intCells k.ws)) (hL : CellsAt w w.heap.size L (blockCells l)) (hV : CellsAt w w.heap.size V (lksCells v)) :
    Calls Tryz.prog 7 #[.agg #[.slice A k.ws.length c, .int .u64 k.seed, .int .i64 k.ep, .int .i64 k.nu, .int .i64 k.de], .slice L l.length cl, .slice V v.length cv, .agg #[.int .i64 s.e, .int .u64 s.r.1, .int .u64 s.r.2], .agg #[.int .i64 t.e, .int .u64 t.r.1, .int .u64 t.r.2]] w fun e w' => e = .returned (.bool (strongC k l v s t)) ∧ Kept w w' := by
  have K0 := Lib.hid ((((Kept.refl w).alloc (.cells #[.slice A k.ws.length c, .int .u64 k.seed, .int .i64 k.ep, .int .i64 k.nu, .int .i64 k.de] 25)).alloc (.cells #[.int .i64 s.e, .int .u64 s.r.1, .int .u64 s.r.2] 31)).alloc (.cells #[.int .i64 t.e, .int .u64 t.r.1, .int .u64 t.r.2] 31))
  have HC := Lib.hid (((HasCells.new w #[.slice A k.ws.length c, .int .u64 k.seed, .int .i64 k.ep, .int .i64 k.nu, .int .i64 k.de] 25 w.heap.size rfl).alloc (.cells #[.int .i64 s.e, .int .u64 s.r.1, .int .u64 s.r.2] 31)).alloc (.cells #[.int .i64 t.e, .int .u64 t.r.1, .int .u64 t.r.2] 31))
  have HS := Lib.hid ((HasCells.new (w.alloc (.cells #[.slice A k.ws.length c, .int .u64 k.seed, .int .i64 k.ep, .int .i64 k.nu, .int .i64 k.de] 25)) #[.int .i64 s.e, .int .u64 s.r.1, .int .u64 s.r.2] 31 (w.heap.size + 1) (by simp)).alloc (.cells #[.int .i64 t.e, .int .u64 t.r.1, .int .u64 t.r.2] 31))
  have HT := Lib.hid (HasCells.new ((w.alloc (.cells #[.slice A k.ws.length c, .int .u64 k.seed, .int .i64 k.ep, .int .i64 k.nu, .int .i64 k.de] 25)).alloc (.cells #[.int .i64 s.e, .int .u64 s.r.1, .int .u64 s.r.2] 31)) #[.int .i64 t.e, .int .u64 t.r.1, .int .u64 t.r.2] 31 (w.heap.size + 1 + 1) (by simp))
  have HFi := Lib.hid (refFine_any A c k L cl l V cv v)
  have HA := Lib.hid (hA.kept K0.out)
  have HL := Lib.hid (hL.kept K0.out)
  have HV := Lib.hid (hV.kept K0.out)
  have HWL := Lib.hid hwl
  have HLe := Lib.hid (fineC_length k l v)
  clear hA hL hV hwl
  have HSt : Hid (strongC k l v s t = strongK k (fineC k l v) s t) := Lib.hid rfl
  generalize strongC k l v s t = res at *
  generalize fineC k l v = X at *
  go_enter Tryz.func7, Tryz.ntmps7
  go_wp2_with fail
  generalize (((w.alloc (.cells #[.slice A k.ws.length c, .int .u64 k.seed, .int .i64 k.ep, .int .i64 k.nu, .int .i64 k.de] 25)).alloc (.cells #[.int .i64 s.e, .int .u64 s.r.1, .int .u64 s.r.2] 31)).alloc (.cells #[.int .i64 t.e, .int .u64 t.r.1, .int .u64 t.r.2] 31)) = W at *
  generalize w.heap.size + 1 + 1 = zt at *
  generalize w.heap.size + 1 = zs at *
  generalize w.heap.size = z at *
  obtain ⟨c0, c1, c2, c3, c4⟩ := HC.out.five
  obtain ⟨d0, d1, d2⟩ := HS.out.three
  obtain ⟨e0, e1, e2⟩ := HT.out.three
  have hzl := HC.out.1
  have hsl := HS.out.1
  have htl := HT.out.1
  have HStr := Lib.hid (fun (B : Option Addr) cb w' (kk : Kept W w') (hB : CellsAt w' w'.heap.size B (lksCells X)) => refStrongIn_any A c k B cb X s t w' hk (by have := HLe.out; omega) (HA.out.kept kk) hB)
  rw [← HSt.out] at HStr
  refine wp_region_noPanic ?_
  refine wp_region_held_drew (S := (fun w' => w'.cell? ⟨z, 0, none⟩ = some (.slice A k.ws.length c) ∧ w'.cell? ⟨z, 1, none⟩ = some (.int .u64 k.seed) ∧ w'.cell? ⟨z, 2, none⟩ = some (.int .i64 k.ep) ∧ w'.cell? ⟨z, 3, none⟩ = some (.int .i64 k.nu) ∧ w'.cell? ⟨z, 4, none⟩ = some (.int .i64 k.de) ∧ w'.cell? ⟨zs, 0, none⟩ = some (.int .i64 s.e) ∧ w'.cell? ⟨zs, 1, none⟩ = some (.int .u64 s.r.1) ∧ w'.cell? ⟨zs, 2, none⟩ = some (.int .u64 s.r.2) ∧ w'.cell? ⟨zt, 0, none⟩ = some (.int .i64 t.e) ∧ w'.cell? ⟨zt, 1, none⟩ = some (.int .u64 t.r.1) ∧ w'.cell? ⟨zt, 2, none⟩ = some (.int .u64 t.r.2) ∧ Kept W w')) (by kernel_rfl) ?_ (fun hHeld => ?_)
  · exact ⟨c0, c1, c2, c3, c4, d0, d1, d2, e0, e1, e2, (Kept.refl _).drew⟩
  refine wpAnyH_take (i := 0) (v := ?_) (by simp only [List.getElem?_toArray, List.getElem?_cons_succ, List.getElem?_cons_zero]; rfl) (by kernel_rfl) (by kernel_rfl) (by kernel_rfl) (fun _ _ _ h => h) (Or.inl ⟨by rfl, ?_⟩) (by assumption) ?_
  rotate_left
  · intro w hSw
    (try dsimp only at hSw)
    go_simp
    (try with_reducible rfl)
  simp only [Act.put, List.setIfInBounds_toArray, List.set_cons_zero, List.set_cons_succ]
  refine wpAnyH_take (i := 1) (v := ?_) (by simp only [List.getElem?_toArray, List.getElem?_cons_succ, List.getElem?_cons_zero]; rfl) (by kernel_rfl) (by kernel_rfl) (by kernel_rfl) (fun _ _ _ h => h) (Or.inl ⟨by rfl, ?_⟩) (by assumption) ?_
  rotate_left
  · intro w hSw
    (try dsimp only at hSw)
    go_simp
    (try with_reducible rfl)
  simp only [Act.put, List.setIfInBounds_toArray, List.set_cons_zero, List.set_cons_succ]
  refine wpAnyH_take (i := 2) (v := ?_) (by simp only [List.getElem?_toArray, List.getElem?_cons_succ, List.getElem?_cons_zero]; rfl) (by kernel_rfl) (by kernel_rfl) (by kernel_rfl) (fun _ _ _ h => h) (Or.inl ⟨by rfl, ?_⟩) (by assumption) ?_
  rotate_left
  · intro w hSw
    (try dsimp only at hSw)
    go_simp
    (try with_reducible rfl)
  simp only [Act.put, List.setIfInBounds_toArray, List.set_cons_zero, List.set_cons_succ]
  refine wpAnyH_take (i := 3) (v := ?_) (by simp only [List.getElem?_toArray, List.getElem?_cons_succ, List.getElem?_cons_zero]; rfl) (by kernel_rfl) (by kernel_rfl) (by kernel_rfl) (fun _ _ _ h => h) (Or.inl ⟨by rfl, ?_⟩) (by assumption) ?_
  rotate_left
  · intro w hSw
    (try dsimp only at hSw)
    go_simp
    (try with_reducible rfl)
  simp only [Act.put, List.setIfInBounds_toArray, List.set_cons_zero, List.set_cons_succ]
  refine wpAnyH_take (i := 5) (v := ?_) (by simp only [List.getElem?_toArray, List.getElem?_cons_succ, List.getElem?_cons_zero]; rfl) (by kernel_rfl) (by kernel_rfl) (by kernel_rfl) (fun _ _ _ h => h) (Or.inl ⟨by rfl, ?_⟩) (by assumption) ?_
  rotate_left
  · intro w hSw
    (try dsimp only at hSw)
    go_simp
    (try with_reducible rfl)
  simp only [Act.put, List.setIfInBounds_toArray, List.set_cons_zero, List.set_cons_succ]
  refine wpAnyH_take (i := 6) (v := ?_) (by simp only [List.getElem?_toArray, List.getElem?_cons_succ, List.getElem?_cons_zero]; rfl) (by kernel_rfl) (by kernel_rfl) (by kernel_rfl) (fun _ _ _ h => h) (Or.inl ⟨by rfl, ?_⟩) (by assumption) ?_
  rotate_left
  · intro w hSw
    (try dsimp only at hSw)
    go_simp
    (try with_reducible rfl)
  simp only [Act.put, List.setIfInBounds_toArray, List.set_cons_zero, List.set_cons_succ]
  refine wpAnyH_ready (rs := [4]) (by kernel_rfl) (by simp) ?_
  refine AllReadyH.cons (by simp only [List.getElem?_toArray, List.getElem?_cons_succ, List.getElem?_cons_zero]; rfl) (fun K hK => ?_) AllReadyH.nil
  go_simp
  go_at_call 20; with_reducible refine (HFi.out _ hk hl hv HWL.out (HA.out.kept hHeld.2.2.2.2.2.2.2.2.2.2.2) (HL.out.kept hHeld.2.2.2.2.2.2.2.2.2.2.2) (HV.out.kept hHeld.2.2.2.2.2.2.2.2.2.2.2)).mono ?_
  rintro e w' ⟨B, cb, rfl, hX⟩
  have kk := hX.2
  try go_wp2_with fail
  refine hK.out _ _ ?_ (fun hHeld2 => ?_)
  · exact keepP11 hzl hzl hzl hzl hzl hsl hsl hsl htl htl htl hHeld kk
  clear hK K hHeld
  have hHeld := hHeld2
  clear hHeld2
  try simp only [Act.put, List.setIfInBounds_toArray, List.set_cons_zero, List.set_cons_succ]
  refine wpAnyH_ready (rs := [7]) (by kernel_rfl) (by simp) ?_
  refine AllReadyH.cons (by simp only [List.getElem?_toArray, List.getElem?_cons_succ, List.getElem?_cons_zero]; rfl) (fun K hK => ?_) AllReadyH.nil
  go_simp
  go_at_call 19; with_reducible refine (HStr.out B cb _ hHeld.2.2.2.2.2.2.2.2.2.2.2 (hX.cells rfl)).mono ?_
  rintro e w' ⟨rfl, kk⟩
  try go_wp2_with fail
  refine hK.out _ _ ?_ (fun hHeld2 => ?_)
  · exact keepP11 hzl hzl hzl hzl hzl hsl hsl hsl htl htl htl hHeld kk
  clear hK K hHeld
  have hHeld := hHeld2
  clear hHeld2
  try simp only [Act.put, List.setIfInBounds_toArray, List.set_cons_zero, List.set_cons_succ]
  refine wpAnyH_take (i := 8) (v := ?_) (by simp only [List.getElem?_toArray, List.getElem?_cons_succ, List.getElem?_cons_zero]; rfl) (by kernel_rfl) (by kernel_rfl) (by kernel_rfl) (fun _ _ _ h => h) (Or.inl ⟨by rfl, ?_⟩) (by assumption) ?_
  rotate_left
  · intro w hSw
    (try dsimp only at hSw)
    go_simp
    (try with_reducible rfl)
  simp only [Act.put, List.setIfInBounds_toArray, List.set_cons_zero, List.set_cons_succ]
  refine wpAnyH_done (by kernel_rfl) ?_ _
  refine NoPanic.normal ?_
  have k1 := Lib.hid hHeld.2.2.2.2.2.2.2.2.2.2.2
  clear hHeld
  go_wp2_with fail
  go_ret
  exact ⟨rfl, K0.out.trans k1.out⟩

end Go.Proofs.YthgammhjoajhoaaGreat
