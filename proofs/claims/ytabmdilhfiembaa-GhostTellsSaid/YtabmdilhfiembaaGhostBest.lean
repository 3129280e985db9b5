/-
  The contract of package ghost's call Best.
-/
import Derived.Test.YtabmdilhfiembaaGhostOf
import Derived.Test.YtabmdilhfiembaaTreeG
import Derived.Test.YtabmdilhfiembaaWeighRef
import Derived.Test.YtabmdilhfiembaaGhostRef
namespace Go.Proofs.Ytabmdilhfiembaa
set_option maxRecDepth 100000
set_option linter.unusedVariables false
open Go.ChangeShapes Go.WideShapes Go.ChangeAt Go.RowKit

theorem eqCand (n : Int) (x : Id2) (w : World) :
    Sem.run Try.prog (Op.equalIn 10000 60 (.agg #[.int .i64 n, .int .u64 x.1, .int .u64 x.2]) (.agg #[.int .i64 0, .int .u64 0, .int .u64 0])) w = .ok ((n == 0) && isZ x) w := by
  rw [← isZ_int, show (10000 : Nat) = 9997 + 1 + 1 + 1 from rfl]
  go_simp
  rw [show (9999 : Nat) = 9997 + 1 + 1 from rfl, eqId]
  by_cases h1 : n = 0 <;> by_cases h2 : x.1 = 0 <;> by_cases h3 : x.2 = 0 <;> simp [h1, h2, h3]
theorem cand_is {g : Id2 → Int} {q : List Id2} (h : Named q) : (!(((candOf g (bestTo g q)).1 == 0) && isZ (candOf g (bestTo g q)).2)) = decide (0 < q.length) := by
  rcases Nat.eq_zero_or_pos q.length with e | e
  · rw [List.eq_nil_of_length_eq_zero e]; rfl
  · have h1 : (candOf g (bestTo g q)).2 ≠ zid := cand_some h (fun e2 => by rw [e2] at e; simp at e)
    rw [decide_eq_true e, show isZ (candOf g (bestTo g q)).2 = false from decide_eq_false h1]
    simp

theorem keep3_set2 {w : World} {b y : Nat} {x0 x1 x2 u v : Value} (hne : y ≠ b) (h : w.cell? ⟨b, 0, none⟩ = some x0 ∧ w.cell? ⟨b, 1, none⟩ = some x1 ∧ w.cell? ⟨b, 2, none⟩ = some x2) :
    ((w.setCell ⟨y, 0, none⟩ u).setCell ⟨y, 1, none⟩ v).cell? ⟨b, 0, none⟩ = some x0 ∧ ((w.setCell ⟨y, 0, none⟩ u).setCell ⟨y, 1, none⟩ v).cell? ⟨b, 1, none⟩ = some x1 ∧ ((w.setCell ⟨y, 0, none⟩ u).setCell ⟨y, 1, none⟩ v).cell? ⟨b, 2, none⟩ = some x2 := by
  have hb : ¬ b = y := fun e => hne e.symm
  refine ⟨?_, ?_, ?_⟩ <;> rw [World.cell?_setCell_other _ _ _ _ (by simp [hne, hb]), World.cell?_setCell_other _ _ _ _ (by simp [hne, hb])]
  · exact h.1
  · exact h.2.1
  · exact h.2.2
attribute [local go_sem high] eqCand in
set_option maxRecDepth 100000 in
set_option maxHeartbeats 3200000 in
theorem best_any (A : Option Addr) (c : Nat) (k : Cf) (L : Option Addr) (cl : Nat) (l : List Bk) (V : Option Addr) (cv : Nat) (v : List Vt) (x : Id2) (w : World)
    (hl : l.length ≤ 1000000) (hv : v.length ≤ 100000) (hwl : WfL l) (hwv : WfVs v) (hA : CellsAt w w.heap.size A (intCells k.ws)) (hL : CellsAt w w.heap.size L (blockCells l)) (hV : CellsAt w w.heap.size V (votesCells v)) :
    Calls Try.prog 13 #[.agg #[.slice A k.ws.length c, .int .u64 k.seed, .int .i64 k.ep, .int .i64 k.nu, .int .i64 k.de], .slice L l.length cl, .slice V v.length cv, .agg #[.int .u64 x.1, .int .u64 x.2]] w fun e w' => e = .returned (.tuple #[.agg #[.int .u64 (candOf (onC k l v) (bestTo (onC k l v) (kidsC l x))).2.1, .int .u64 (candOf (onC k l v) (bestTo (onC k l v) (kidsC l x))).2.2], .bool (decide (0 < (kidsC l x).length))]) ∧ Kept w w' := by
  have K0 := Lib.hid ((((Kept.refl w).alloc (.cells #[.slice A k.ws.length c, .int .u64 k.seed, .int .i64 k.ep, .int .i64 k.nu, .int .i64 k.de] 25)).alloc (.cells #[.int .u64 x.1, .int .u64 x.2] 29)).alloc (.cells #[.int .u64 0, .int .u64 0] 29))
  have HC := Lib.hid (((HasCells.new w #[.slice A k.ws.length c, .int .u64 k.seed, .int .i64 k.ep, .int .i64 k.nu, .int .i64 k.de] 25 w.heap.size rfl).alloc (.cells #[.int .u64 x.1, .int .u64 x.2] 29)).alloc (.cells #[.int .u64 0, .int .u64 0] 29))
  have HI := Lib.hid ((HasCells.new (w.alloc (.cells #[.slice A k.ws.length c, .int .u64 k.seed, .int .i64 k.ep, .int .i64 k.nu, .int .i64 k.de] 25)) #[.int .u64 x.1, .int .u64 x.2] 29 (w.heap.size + 1) (by simp)).alloc (.cells #[.int .u64 0, .int .u64 0] 29))
  have HR := Lib.hid (HasCells.new ((w.alloc (.cells #[.slice A k.ws.length c, .int .u64 k.seed, .int .i64 k.ep, .int .i64 k.nu, .int .i64 k.de] 25)).alloc (.cells #[.int .u64 x.1, .int .u64 x.2] 29)) #[.int .u64 0, .int .u64 0] 29 (w.heap.size + 1 + 1) (by simp))
  have HF := Lib.hid (show ∀ j, (((w.alloc (.cells #[.slice A k.ws.length c, .int .u64 k.seed, .int .i64 k.ep, .int .i64 k.nu, .int .i64 k.de] 25)).alloc (.cells #[.int .u64 x.1, .int .u64 x.2] 29)).alloc (.cells #[.int .u64 0, .int .u64 0] 29)).frozen? ⟨w.heap.size + 1 + 1, j, none⟩ = false by intro j; simp [go_sem])
  have HA := Lib.hid (hA.kept K0.out)
  have HL := Lib.hid (hL.kept K0.out)
  have HV := Lib.hid (hV.kept K0.out)
  have HZY := Lib.hid (show w.heap.size ≤ w.heap.size + 1 + 1 by omega)
  have HNm := Lib.hid (kids_named l x)
  have HQl := Lib.hid (Nat.le_trans (kidsC_le l x) hl)
  have HWL := Lib.hid hwl
  have HWV := Lib.hid hwv
  have HIs := Lib.hid (cand_is (g := onC k l v) (kids_named l x))
  clear hA hL hV hwl hwv
  go_enter Try.func13, Try.ntmps13
  go_wp2_with fail
  generalize (((w.alloc (.cells #[.slice A k.ws.length c, .int .u64 k.seed, .int .i64 k.ep, .int .i64 k.nu, .int .i64 k.de] 25)).alloc (.cells #[.int .u64 x.1, .int .u64 x.2] 29)).alloc (.cells #[.int .u64 0, .int .u64 0] 29)) = W at *
  generalize w.heap.size + 1 + 1 = y at *
  generalize w.heap.size + 1 = zi at *
  generalize hze : w.heap.size = z at *
  have HZE := Lib.hid (Nat.le_of_eq hze)
  clear hze
  have HKi := Lib.hid (fun w' (kk : Kept W w') => kids_any L cl l hl HWL.out x w' (HL.out.kept kk))
  generalize hq : kidsC l x = q at *
  have HQE := Lib.hid hq
  clear hq
  have HOf := Lib.hid (fun Q cq w' (kk : Kept W w') (hQ : CellsAt w' w'.heap.size Q (idsCells q)) => bestOf_any A c k L cl l V cv v Q cq q w' hl hv HWL.out HWV.out HQl.out HNm.out (HA.out.kept kk) (HL.out.kept kk) (HV.out.kept kk) hQ)
  generalize hcE : candOf (onC k l v) (bestTo (onC k l v) q) = cE at *
  have HCE := Lib.hid hcE
  clear hcE
  obtain ⟨c0, c1, c2, c3, c4⟩ := HC.out.five
  have hzl := HC.out.1
  obtain ⟨m0, m1⟩ := HI.out.two
  have hzi := HI.out.1
  refine wp_region_noPanic ?_
  refine wp_region_held_drew (S := (fun w' => w'.cell? ⟨z, 0, none⟩ = some (.slice A k.ws.length c) ∧ w'.cell? ⟨z, 1, none⟩ = some (.int .u64 k.seed) ∧ w'.cell? ⟨z, 2, none⟩ = some (.int .i64 k.ep) ∧ w'.cell? ⟨z, 3, none⟩ = some (.int .i64 k.nu) ∧ w'.cell? ⟨z, 4, none⟩ = some (.int .i64 k.de) ∧ w'.cell? ⟨zi, 0, none⟩ = some (.int .u64 x.1) ∧ w'.cell? ⟨zi, 1, none⟩ = some (.int .u64 x.2) ∧ Kept W w')) (by kernel_rfl) ?_ (fun hHeld => ?_)
  · exact ⟨c0, c1, c2, c3, c4, m0, m1, (Kept.refl _).drew⟩
  refine wpAnyH_take (i := 0) (v := ?_) (by simp only [List.getElem?_toArray, List.getElem?_cons_succ, List.getElem?_cons_zero]; rfl) (by kernel_rfl) (by kernel_rfl) (by kernel_rfl) (fun _ _ _ h => h) (Or.inl ⟨by rfl, ?_⟩) (by assumption) ?_
  rotate_left
  · intro w hSw
    (try dsimp only at hSw)
    go_simp
    (try with_reducible rfl)
  simp only [Act.put, List.setIfInBounds_toArray, List.set_cons_zero, List.set_cons_succ]
  refine wpAnyH_take (i := 1) (v := ?_) (by simp only [List.getElem?_toArray, List.getElem?_cons_succ, List.getElem?_cons_zero]; rfl) (by kernel_rfl) (by kernel_rfl) (by kernel_rfl) (fun _ _ _ h => h) (Or.inl ⟨by rfl, ?_⟩) (by assumption) ?_
  rotate_left
  · intro w hSw
    (try dsimp only at hSw)
    go_simp
    (try with_reducible rfl)
  simp only [Act.put, List.setIfInBounds_toArray, List.set_cons_zero, List.set_cons_succ]
  refine wpAnyH_take (i := 2) (v := ?_) (by simp only [List.getElem?_toArray, List.getElem?_cons_succ, List.getElem?_cons_zero]; rfl) (by kernel_rfl) (by kernel_rfl) (by kernel_rfl) (fun _ _ _ h => h) (Or.inl ⟨by rfl, ?_⟩) (by assumption) ?_
  rotate_left
  · intro w hSw
    (try dsimp only at hSw)
    go_simp
    (try with_reducible rfl)
  simp only [Act.put, List.setIfInBounds_toArray, List.set_cons_zero, List.set_cons_succ]
  refine wpAnyH_take (i := 3) (v := ?_) (by simp only [List.getElem?_toArray, List.getElem?_cons_succ, List.getElem?_cons_zero]; rfl) (by kernel_rfl) (by kernel_rfl) (by kernel_rfl) (fun _ _ _ h => h) (Or.inl ⟨by rfl, ?_⟩) (by assumption) ?_
  rotate_left
  · intro w hSw
    (try dsimp only at hSw)
    go_simp
    (try with_reducible rfl)
  simp only [Act.put, List.setIfInBounds_toArray, List.set_cons_zero, List.set_cons_succ]
  refine wpAnyH_take (i := 4) (v := ?_) (by simp only [List.getElem?_toArray, List.getElem?_cons_succ, List.getElem?_cons_zero]; rfl) (by kernel_rfl) (by kernel_rfl) (by kernel_rfl) (fun _ _ _ h => h) (Or.inl ⟨by rfl, ?_⟩) (by assumption) ?_
  rotate_left
  · intro w hSw
    (try dsimp only at hSw)
    go_simp
    (try with_reducible rfl)
  simp only [Act.put, List.setIfInBounds_toArray, List.set_cons_zero, List.set_cons_succ]
  refine wpAnyH_ready (rs := [5, 7]) (by kernel_rfl) (by simp) ?_
  refine AllReadyH.cons (by simp only [List.getElem?_toArray, List.getElem?_cons_succ, List.getElem?_cons_zero]; rfl) (fun K hK => ?_) (AllReadyH.cons (by simp only [List.getElem?_toArray, List.getElem?_cons_succ, List.getElem?_cons_zero]; rfl) (fun K hK => ?_) (AllReadyH.nil))
  · go_simp
    go_at_call 35; with_reducible refine (HKi.out _ hHeld.2.2.2.2.2.2.2).mono ?_
    rintro e w5 ⟨Q, cq, rfl, hQ, _, kk⟩
    have k5 := kk
    refine hK.out _ _ ?_ (fun hHeld2 => ?_)
    · exact keepP7 hzl hzl hzl hzl hzl hzi hzi hHeld k5
    clear kk k5
    clear hK K hHeld
    have hHeld := hHeld2
    clear hHeld2
    try simp only [Act.put, List.setIfInBounds_toArray, List.set_cons_zero, List.set_cons_succ]
    refine wpAnyH_ready (rs := [6, 7]) (by kernel_rfl) (by simp) ?_
    refine AllReadyH.cons (by simp only [List.getElem?_toArray, List.getElem?_cons_succ, List.getElem?_cons_zero]; rfl) (fun K hK => ?_) (AllReadyH.cons (by simp only [List.getElem?_toArray, List.getElem?_cons_succ, List.getElem?_cons_zero]; rfl) (fun K hK => ?_) (AllReadyH.nil))
    · have hQ6 := (hQ.kept (by first | exact Kept.refl _ | exact (Kept.refl _).alloc _) : CellsAt w5 _ Q (idsCells q))
      go_simp
      go_at_call 34; with_reducible refine (HOf.out Q cq _ hHeld.2.2.2.2.2.2.2 hQ6).mono ?_
      rintro e w6 ⟨rfl, kk⟩
      refine hK.out _ _ ?_ (fun hHeld2 => ?_)
      · exact keepP7 hzl hzl hzl hzl hzl hzi hzi hHeld kk
      clear hK K hHeld
      have hHeld := hHeld2
      clear hHeld2
      try simp only [Act.put, List.setIfInBounds_toArray, List.set_cons_zero, List.set_cons_succ]
      refine wpAnyH_ready (rs := [7]) (by kernel_rfl) (by simp) ?_
      refine AllReadyH.cons (by simp only [List.getElem?_toArray, List.getElem?_cons_succ, List.getElem?_cons_zero]; rfl) (fun K hK => ?_) (AllReadyH.nil)
      have hH7 := hHeld
      go_simp
      refine hK.out _ _ ?_ (fun hHeld2 => ?_)
      · exact keepP7 hzl hzl hzl hzl hzl hzi hzi hHeld ((Kept.refl _).alloc _)
      clear hK K hHeld
      have hHeld := hHeld2
      clear hHeld2
      try simp only [Act.put, List.setIfInBounds_toArray, List.set_cons_zero, List.set_cons_succ]
      refine wpAnyH_ready (rs := [8]) (by kernel_rfl) (by simp) ?_
      refine AllReadyH.cons (by simp only [List.getElem?_toArray, List.getElem?_cons_succ, List.getElem?_cons_zero]; rfl) (fun K hK => ?_) (AllReadyH.nil)
      go_simp
      refine hK.out _ _ ?_ (fun hHeld2 => ?_)
      · exact keepP7 hzl hzl hzl hzl hzl hzi hzi hH7 ((Kept.refl _).alloc _)
      clear hK K hHeld
      have hHeld := hHeld2
      clear hHeld2
      try simp only [Act.put, List.setIfInBounds_toArray, List.set_cons_zero, List.set_cons_succ]
      refine wpAnyH_done (by kernel_rfl) ?_ _
      refine NoPanic.normal ?_
      have HV1 : Cand W w6.heap.size cE (w6.alloc (.cells #[.int .i64 cE.1, .int .u64 cE.2.1, .int .u64 cE.2.2] 60)) := ⟨HasCells.new w6 #[.int .i64 cE.1, .int .u64 cE.2.1, .int .u64 cE.2.2] 60 w6.heap.size rfl, by simp [go_sem], by simp [go_sem], by simp [go_sem], hH7.2.2.2.2.2.2.2.alloc _⟩
      have HYb := Lib.hid (Nat.ne_of_lt (Nat.lt_of_lt_of_le HR.out.1 hH7.2.2.2.2.2.2.2.size_le))
      replace HV1 := Lib.hid HV1
      clear hHeld hH7 kk hQ hQ6
      generalize w6.alloc (.cells #[.int .i64 cE.1, .int .u64 cE.2.1, .int .u64 cE.2.2] 60) = V1 at *
      generalize w6.heap.size = b at *
      replace HV1 : Hid (Cand W b cE V1) := HV1
      clear c0 c1 c2 c3 c4 hzl m0 m1 hzi
      obtain ⟨v0, v1, v2⟩ := HV1.out.cells.three
      have hbl := HV1.out.cells.1
      obtain ⟨r0, r1⟩ := (HR.out.kept HV1.out.kept).two
      have hyl := (HR.out.kept HV1.out.kept).1
      have hf0 := (HV1.out.kept.frozen (p := ⟨y, 0, none⟩) HR.out.1).trans (HF.out 0)
      have hf1 := (HV1.out.kept.frozen (p := ⟨y, 1, none⟩) HR.out.1).trans (HF.out 1)
      go_wp2_with fail
      refine wp_region_noPanic ?_
      refine wp_region_held_drew (S := (fun w' => w'.cell? ⟨b, 0, none⟩ = some (.int .i64 cE.1) ∧ w'.cell? ⟨b, 1, none⟩ = some (.int .u64 cE.2.1) ∧ w'.cell? ⟨b, 2, none⟩ = some (.int .u64 cE.2.2))) (by kernel_rfl) ?_ (fun hHeld => ?_)
      · exact ⟨v0, v1, v2⟩
      refine wpAnyH_take (i := 0) (v := ?_) (by simp only [List.getElem?_toArray, List.getElem?_cons_succ, List.getElem?_cons_zero]; rfl) (by kernel_rfl) (by kernel_rfl) (by kernel_rfl) (fun _ _ _ h => h) (Or.inl ⟨by rfl, ?_⟩) (by assumption) ?_
      rotate_left
      · intro w hSw
        (try dsimp only at hSw)
        go_simp
        (try with_reducible rfl)
      simp only [Act.put, List.setIfInBounds_toArray, List.set_cons_zero, List.set_cons_succ]
      refine wpAnyH_take (i := 1) (v := ?_) (by simp only [List.getElem?_toArray, List.getElem?_cons_succ, List.getElem?_cons_zero]; rfl) (by kernel_rfl) (by kernel_rfl) (by kernel_rfl) (fun _ _ _ h => h) (Or.inl ⟨by rfl, ?_⟩) (by assumption) ?_
      rotate_left
      · intro w hSw
        (try dsimp only at hSw)
        go_simp
        (try with_reducible rfl)
      simp only [Act.put, List.setIfInBounds_toArray, List.set_cons_zero, List.set_cons_succ]
      refine wpAnyH_take (i := 2) (v := ?_) (by simp only [List.getElem?_toArray, List.getElem?_cons_succ, List.getElem?_cons_zero]; rfl) (by kernel_rfl) (by kernel_rfl) (by kernel_rfl) (fun _ _ _ h => h) (Or.inl ⟨by rfl, ?_⟩) (by assumption) ?_
      rotate_left
      · intro w hSw
        (try dsimp only at hSw)
        go_simp
        (try with_reducible rfl)
      simp only [Act.put, List.setIfInBounds_toArray, List.set_cons_zero, List.set_cons_succ]
      refine wpAnyH_take (i := 3) (v := ?_) (by simp only [List.getElem?_toArray, List.getElem?_cons_succ, List.getElem?_cons_zero]; rfl) (by kernel_rfl) (by kernel_rfl) (by kernel_rfl) (fun _ _ _ h => h) (Or.inl ⟨by rfl, ?_⟩) (by assumption) ?_
      rotate_left
      · intro w hSw
        (try dsimp only at hSw)
        go_simp
        (try with_reducible rfl)
      simp only [Act.put, List.setIfInBounds_toArray, List.set_cons_zero, List.set_cons_succ]
      refine wpAnyH_take (i := 4) (v := ?_) (by simp only [List.getElem?_toArray, List.getElem?_cons_succ, List.getElem?_cons_zero]; rfl) (by kernel_rfl) (by kernel_rfl) (by kernel_rfl) (fun _ _ _ h => h) (Or.inl ⟨by rfl, ?_⟩) (by assumption) ?_
      rotate_left
      · intro w hSw
        (try dsimp only at hSw)
        go_simp
        (try with_reducible rfl)
      simp only [Act.put, List.setIfInBounds_toArray, List.set_cons_zero, List.set_cons_succ]
      refine wpAnyH_ready (rs := [5]) (by kernel_rfl) (by simp) ?_
      refine AllReadyH.cons (by simp only [List.getElem?_toArray, List.getElem?_cons_succ, List.getElem?_cons_zero]; rfl) (fun K hK => ?_) (AllReadyH.nil)
      go_simp
      refine hK.out _ _ ?_ (fun hHeld2 => ?_)
      · exact keep3_set2 HYb.out hHeld
      clear hK K hHeld
      have hHeld := hHeld2
      clear hHeld2
      try simp only [Act.put, List.setIfInBounds_toArray, List.set_cons_zero, List.set_cons_succ]
      refine wpAnyH_take (i := 6) (v := ?_) (by simp only [List.getElem?_toArray, List.getElem?_cons_succ, List.getElem?_cons_zero]; rfl) (by kernel_rfl) (by kernel_rfl) (by kernel_rfl) (fun _ _ _ h => h) (Or.inl ⟨by rfl, ?_⟩) (by assumption) ?_
      rotate_left
      · intro w hSw
        (try dsimp only at hSw)
        go_simp
        (try with_reducible rfl)
      simp only [Act.put, List.setIfInBounds_toArray, List.set_cons_zero, List.set_cons_succ]
      refine wpAnyH_done (by kernel_rfl) ?_ _
      refine NoPanic.normal ?_
      clear hHeld
      go_wp2_with fail
      refine bodyPost_ret (v := .tuple #[.agg #[.int .u64 cE.2.1, .int .u64 cE.2.2], .bool (!((cE.1 == 0) && isZ cE.2))]) (by simp [results, Try.results13, go_sem, r0, r1]) rfl ⟨by rw [HIs.out, HQE.out, HCE.out], ?_⟩
      exact Kept.drew (((K0.out.trans HV1.out.kept).setCell (p := ⟨y, 0, none⟩) (Nat.le_trans HZE.out HZY.out) _).setCell (p := ⟨y, 1, none⟩) (Nat.le_trans HZE.out HZY.out) _)
    · have hH7 := hHeld
      go_simp
      refine hK.out _ _ ?_ (fun hHeld2 => ?_)
      · exact keepP7 hzl hzl hzl hzl hzl hzi hzi hHeld ((Kept.refl _).alloc _)
      clear hK K hHeld
      have hHeld := hHeld2
      clear hHeld2
      try simp only [Act.put, List.setIfInBounds_toArray, List.set_cons_zero, List.set_cons_succ]
      refine wpAnyH_ready (rs := [6]) (by kernel_rfl) (by simp) ?_
      refine AllReadyH.cons (by simp only [List.getElem?_toArray, List.getElem?_cons_succ, List.getElem?_cons_zero]; rfl) (fun K hK => ?_) (AllReadyH.nil)
      have hQ6 := (hQ.kept (by first | exact Kept.refl _ | exact (Kept.refl _).alloc _) : CellsAt (w5.alloc (.cells #[.int .i64 0, .int .u64 0, .int .u64 0] 60)) _ Q (idsCells q))
      go_simp
      go_at_call 34; with_reducible refine (HOf.out Q cq _ hHeld.2.2.2.2.2.2.2 hQ6).mono ?_
      rintro e w6 ⟨rfl, kk⟩
      have kn : Kept (w5.alloc (.cells #[.int .i64 0, .int .u64 0, .int .u64 0] 60)) w6 := by first | exact kk | exact Kept.trans (Kept.drew (Kept.refl _)) kk
      have hN : HasCells w6 w5.heap.size [.int .i64 0, .int .u64 0, .int .u64 0] := (HasCells.new w5 #[.int .i64 0, .int .u64 0, .int .u64 0] 60 w5.heap.size rfl).kept kn
      have hZ : ∀ j, w6.frozen? ⟨w5.heap.size, j, none⟩ = false := fun j => (kn.frozen (p := ⟨w5.heap.size, j, none⟩) (by simp)).trans (by simp [go_sem])
      refine hK.out _ _ ?_ (fun hHeld2 => ?_)
      · exact keepP7 hzl hzl hzl hzl hzl hzi hzi hHeld kk
      clear hK K hHeld
      have hHeld := hHeld2
      clear hHeld2
      try simp only [Act.put, List.setIfInBounds_toArray, List.set_cons_zero, List.set_cons_succ]
      refine wpAnyH_ready (rs := [8]) (by kernel_rfl) (by simp) ?_
      refine AllReadyH.cons (by simp only [List.getElem?_toArray, List.getElem?_cons_succ, List.getElem?_cons_zero]; rfl) (fun K hK => ?_) (AllReadyH.nil)
      have hK6 := hHeld.2.2.2.2.2.2.2
      obtain ⟨e0, e1, e2⟩ := hN.three
      have f0 := hZ 0
      have f1 := hZ 1
      have f2 := hZ 2
      go_simp
      refine hK.out _ _ ?_ (fun hHeld2 => ?_)
      · exact keepS7 hzl hzl hzl hzl hzl hzi hzi hHeld (below_set3 (hH7.2.2.2.2.2.2.2.size_le) 0 1 2 _ _ _)
      clear hK K hHeld
      have hHeld := hHeld2
      clear hHeld2
      try simp only [Act.put, List.setIfInBounds_toArray, List.set_cons_zero, List.set_cons_succ]
      refine wpAnyH_done (by kernel_rfl) ?_ _
      refine NoPanic.normal ?_
      have HV1 := Cand.set (hH7.2.2.2.2.2.2.2.size_le) (show Cand W w5.heap.size (0, zid) w6 from ⟨hN, hZ 0, hZ 1, hZ 2, hK6⟩) cE.1 cE.2
      have HYb := Lib.hid (Nat.ne_of_lt (Nat.lt_of_lt_of_le HR.out.1 (hH7.2.2.2.2.2.2.2.size_le)))
      replace HV1 := Lib.hid HV1
      clear hHeld hH7 kk hQ hQ6 hN hZ hK6 e0 e1 e2 f0 f1 f2
      generalize ((w6.setCell ⟨w5.heap.size, 0, none⟩ (.int .i64 cE.1)).setCell ⟨w5.heap.size, 1, none⟩ (.int .u64 cE.2.1)).setCell ⟨w5.heap.size, 2, none⟩ (.int .u64 cE.2.2) = V1 at *
      generalize w5.heap.size = b at *
      replace HV1 : Hid (Cand W b cE V1) := HV1
      clear c0 c1 c2 c3 c4 hzl m0 m1 hzi
      obtain ⟨v0, v1, v2⟩ := HV1.out.cells.three
      have hbl := HV1.out.cells.1
      obtain ⟨r0, r1⟩ := (HR.out.kept HV1.out.kept).two
      have hyl := (HR.out.kept HV1.out.kept).1
      have hf0 := (HV1.out.kept.frozen (p := ⟨y, 0, none⟩) HR.out.1).trans (HF.out 0)
      have hf1 := (HV1.out.kept.frozen (p := ⟨y, 1, none⟩) HR.out.1).trans (HF.out 1)
      go_wp2_with fail
      refine wp_region_noPanic ?_
      refine wp_region_held_drew (S := (fun w' => w'.cell? ⟨b, 0, none⟩ = some (.int .i64 cE.1) ∧ w'.cell? ⟨b, 1, none⟩ = some (.int .u64 cE.2.1) ∧ w'.cell? ⟨b, 2, none⟩ = some (.int .u64 cE.2.2))) (by kernel_rfl) ?_ (fun hHeld => ?_)
      · exact ⟨v0, v1, v2⟩
      refine wpAnyH_take (i := 0) (v := ?_) (by simp only [List.getElem?_toArray, List.getElem?_cons_succ, List.getElem?_cons_zero]; rfl) (by kernel_rfl) (by kernel_rfl) (by kernel_rfl) (fun _ _ _ h => h) (Or.inl ⟨by rfl, ?_⟩) (by assumption) ?_
      rotate_left
      · intro w hSw
        (try dsimp only at hSw)
        go_simp
        (try with_reducible rfl)
      simp only [Act.put, List.setIfInBounds_toArray, List.set_cons_zero, List.set_cons_succ]
      refine wpAnyH_take (i := 1) (v := ?_) (by simp only [List.getElem?_toArray, List.getElem?_cons_succ, List.getElem?_cons_zero]; rfl) (by kernel_rfl) (by kernel_rfl) (by kernel_rfl) (fun _ _ _ h => h) (Or.inl ⟨by rfl, ?_⟩) (by assumption) ?_
      rotate_left
      · intro w hSw
        (try dsimp only at hSw)
        go_simp
        (try with_reducible rfl)
      simp only [Act.put, List.setIfInBounds_toArray, List.set_cons_zero, List.set_cons_succ]
      refine wpAnyH_take (i := 2) (v := ?_) (by simp only [List.getElem?_toArray, List.getElem?_cons_succ, List.getElem?_cons_zero]; rfl) (by kernel_rfl) (by kernel_rfl) (by kernel_rfl) (fun _ _ _ h => h) (Or.inl ⟨by rfl, ?_⟩) (by assumption) ?_
      rotate_left
      · intro w hSw
        (try dsimp only at hSw)
        go_simp
        (try with_reducible rfl)
      simp only [Act.put, List.setIfInBounds_toArray, List.set_cons_zero, List.set_cons_succ]
      refine wpAnyH_take (i := 3) (v := ?_) (by simp only [List.getElem?_toArray, List.getElem?_cons_succ, List.getElem?_cons_zero]; rfl) (by kernel_rfl) (by kernel_rfl) (by kernel_rfl) (fun _ _ _ h => h) (Or.inl ⟨by rfl, ?_⟩) (by assumption) ?_
      rotate_left
      · intro w hSw
        (try dsimp only at hSw)
        go_simp
        (try with_reducible rfl)
      simp only [Act.put, List.setIfInBounds_toArray, List.set_cons_zero, List.set_cons_succ]
      refine wpAnyH_take (i := 4) (v := ?_) (by simp only [List.getElem?_toArray, List.getElem?_cons_succ, List.getElem?_cons_zero]; rfl) (by kernel_rfl) (by kernel_rfl) (by kernel_rfl) (fun _ _ _ h => h) (Or.inl ⟨by rfl, ?_⟩) (by assumption) ?_
      rotate_left
      · intro w hSw
        (try dsimp only at hSw)
        go_simp
        (try with_reducible rfl)
      simp only [Act.put, List.setIfInBounds_toArray, List.set_cons_zero, List.set_cons_succ]
      refine wpAnyH_ready (rs := [5]) (by kernel_rfl) (by simp) ?_
      refine AllReadyH.cons (by simp only [List.getElem?_toArray, List.getElem?_cons_succ, List.getElem?_cons_zero]; rfl) (fun K hK => ?_) (AllReadyH.nil)
      go_simp
      refine hK.out _ _ ?_ (fun hHeld2 => ?_)
      · exact keep3_set2 HYb.out hHeld
      clear hK K hHeld
      have hHeld := hHeld2
      clear hHeld2
      try simp only [Act.put, List.setIfInBounds_toArray, List.set_cons_zero, List.set_cons_succ]
      refine wpAnyH_take (i := 6) (v := ?_) (by simp only [List.getElem?_toArray, List.getElem?_cons_succ, List.getElem?_cons_zero]; rfl) (by kernel_rfl) (by kernel_rfl) (by kernel_rfl) (fun _ _ _ h => h) (Or.inl ⟨by rfl, ?_⟩) (by assumption) ?_
      rotate_left
      · intro w hSw
        (try dsimp only at hSw)
        go_simp
        (try with_reducible rfl)
      simp only [Act.put, List.setIfInBounds_toArray, List.set_cons_zero, List.set_cons_succ]
      refine wpAnyH_done (by kernel_rfl) ?_ _
      refine NoPanic.normal ?_
      clear hHeld
      go_wp2_with fail
      refine bodyPost_ret (v := .tuple #[.agg #[.int .u64 cE.2.1, .int .u64 cE.2.2], .bool (!((cE.1 == 0) && isZ cE.2))]) (by simp [results, Try.results13, go_sem, r0, r1]) rfl ⟨by rw [HIs.out, HQE.out, HCE.out], ?_⟩
      exact Kept.drew (((K0.out.trans HV1.out.kept).setCell (p := ⟨y, 0, none⟩) (Nat.le_trans HZE.out HZY.out) _).setCell (p := ⟨y, 1, none⟩) (Nat.le_trans HZE.out HZY.out) _)
  · have hH7 := hHeld
    go_simp
    refine hK.out _ _ ?_ (fun hHeld2 => ?_)
    · exact keepP7 hzl hzl hzl hzl hzl hzi hzi hHeld ((Kept.refl _).alloc _)
    clear hK K hHeld
    have hHeld := hHeld2
    clear hHeld2
    try simp only [Act.put, List.setIfInBounds_toArray, List.set_cons_zero, List.set_cons_succ]
    refine wpAnyH_ready (rs := [5]) (by kernel_rfl) (by simp) ?_
    refine AllReadyH.cons (by simp only [List.getElem?_toArray, List.getElem?_cons_succ, List.getElem?_cons_zero]; rfl) (fun K hK => ?_) (AllReadyH.nil)
    go_simp
    go_at_call 35; with_reducible refine (HKi.out _ hHeld.2.2.2.2.2.2.2).mono ?_
    rintro e w5 ⟨Q, cq, rfl, hQ, _, kk⟩
    have kn : Kept (W.alloc (.cells #[.int .i64 0, .int .u64 0, .int .u64 0] 60)) w5 := by first | exact kk | exact Kept.trans (Kept.drew (Kept.refl _)) kk
    have hN : HasCells w5 W.heap.size [.int .i64 0, .int .u64 0, .int .u64 0] := (HasCells.new W #[.int .i64 0, .int .u64 0, .int .u64 0] 60 W.heap.size rfl).kept kn
    have hZ : ∀ j, w5.frozen? ⟨W.heap.size, j, none⟩ = false := fun j => (kn.frozen (p := ⟨W.heap.size, j, none⟩) (by simp)).trans (by simp [go_sem])
    have k5 := kk
    refine hK.out _ _ ?_ (fun hHeld2 => ?_)
    · exact keepP7 hzl hzl hzl hzl hzl hzi hzi hHeld k5
    clear kk k5
    clear hK K hHeld
    have hHeld := hHeld2
    clear hHeld2
    try simp only [Act.put, List.setIfInBounds_toArray, List.set_cons_zero, List.set_cons_succ]
    refine wpAnyH_ready (rs := [6]) (by kernel_rfl) (by simp) ?_
    refine AllReadyH.cons (by simp only [List.getElem?_toArray, List.getElem?_cons_succ, List.getElem?_cons_zero]; rfl) (fun K hK => ?_) (AllReadyH.nil)
    have hQ6 := (hQ.kept (by first | exact Kept.refl _ | exact (Kept.refl _).alloc _) : CellsAt w5 _ Q (idsCells q))
    go_simp
    go_at_call 34; with_reducible refine (HOf.out Q cq _ hHeld.2.2.2.2.2.2.2 hQ6).mono ?_
    rintro e w6 ⟨rfl, kk⟩
    have hZ2 : ∀ j, w6.frozen? ⟨W.heap.size, j, none⟩ = false := fun j => (kk.frozen (p := ⟨W.heap.size, j, none⟩) hN.1).trans (hZ j)
    replace hN := hN.kept kk
    refine hK.out _ _ ?_ (fun hHeld2 => ?_)
    · exact keepP7 hzl hzl hzl hzl hzl hzi hzi hHeld kk
    clear hK K hHeld
    have hHeld := hHeld2
    clear hHeld2
    try simp only [Act.put, List.setIfInBounds_toArray, List.set_cons_zero, List.set_cons_succ]
    refine wpAnyH_ready (rs := [8]) (by kernel_rfl) (by simp) ?_
    refine AllReadyH.cons (by simp only [List.getElem?_toArray, List.getElem?_cons_succ, List.getElem?_cons_zero]; rfl) (fun K hK => ?_) (AllReadyH.nil)
    have hK6 := hHeld.2.2.2.2.2.2.2
    obtain ⟨e0, e1, e2⟩ := hN.three
    have f0 := hZ2 0
    have f1 := hZ2 1
    have f2 := hZ2 2
    go_simp
    refine hK.out _ _ ?_ (fun hHeld2 => ?_)
    · exact keepS7 hzl hzl hzl hzl hzl hzi hzi hHeld (below_set3 (Nat.le_refl _) 0 1 2 _ _ _)
    clear hK K hHeld
    have hHeld := hHeld2
    clear hHeld2
    try simp only [Act.put, List.setIfInBounds_toArray, List.set_cons_zero, List.set_cons_succ]
    refine wpAnyH_done (by kernel_rfl) ?_ _
    refine NoPanic.normal ?_
    have HV1 := Cand.set (Nat.le_refl _) (show Cand W W.heap.size (0, zid) w6 from ⟨hN, hZ2 0, hZ2 1, hZ2 2, hK6⟩) cE.1 cE.2
    have HYb := Lib.hid (Nat.ne_of_lt (Nat.lt_of_lt_of_le HR.out.1 (Nat.le_refl _)))
    replace HV1 := Lib.hid HV1
    clear hHeld hH7 kk hQ hQ6 hN hZ hZ2 hK6 e0 e1 e2 f0 f1 f2
    generalize ((w6.setCell ⟨W.heap.size, 0, none⟩ (.int .i64 cE.1)).setCell ⟨W.heap.size, 1, none⟩ (.int .u64 cE.2.1)).setCell ⟨W.heap.size, 2, none⟩ (.int .u64 cE.2.2) = V1 at *
    generalize W.heap.size = b at *
    replace HV1 : Hid (Cand W b cE V1) := HV1
    clear c0 c1 c2 c3 c4 hzl m0 m1 hzi
    obtain ⟨v0, v1, v2⟩ := HV1.out.cells.three
    have hbl := HV1.out.cells.1
    obtain ⟨r0, r1⟩ := (HR.out.kept HV1.out.kept).two
    have hyl := (HR.out.kept HV1.out.kept).1
    have hf0 := (HV1.out.kept.frozen (p := ⟨y, 0, none⟩) HR.out.1).trans (HF.out 0)
    have hf1 := (HV1.out.kept.frozen (p := ⟨y, 1, none⟩) HR.out.1).trans (HF.out 1)
    go_wp2_with fail
    refine wp_region_noPanic ?_
    refine wp_region_held_drew (S := (fun w' => w'.cell? ⟨b, 0, none⟩ = some (.int .i64 cE.1) ∧ w'.cell? ⟨b, 1, none⟩ = some (.int .u64 cE.2.1) ∧ w'.cell? ⟨b, 2, none⟩ = some (.int .u64 cE.2.2))) (by kernel_rfl) ?_ (fun hHeld => ?_)
    · exact ⟨v0, v1, v2⟩
    refine wpAnyH_take (i := 0) (v := ?_) (by simp only [List.getElem?_toArray, List.getElem?_cons_succ, List.getElem?_cons_zero]; rfl) (by kernel_rfl) (by kernel_rfl) (by kernel_rfl) (fun _ _ _ h => h) (Or.inl ⟨by rfl, ?_⟩) (by assumption) ?_
    rotate_left
    · intro w hSw
      (try dsimp only at hSw)
      go_simp
      (try with_reducible rfl)
    simp only [Act.put, List.setIfInBounds_toArray, List.set_cons_zero, List.set_cons_succ]
    refine wpAnyH_take (i := 1) (v := ?_) (by simp only [List.getElem?_toArray, List.getElem?_cons_succ, List.getElem?_cons_zero]; rfl) (by kernel_rfl) (by kernel_rfl) (by kernel_rfl) (fun _ _ _ h => h) (Or.inl ⟨by rfl, ?_⟩) (by assumption) ?_
    rotate_left
    · intro w hSw
      (try dsimp only at hSw)
      go_simp
      (try with_reducible rfl)
    simp only [Act.put, List.setIfInBounds_toArray, List.set_cons_zero, List.set_cons_succ]
    refine wpAnyH_take (i := 2) (v := ?_) (by simp only [List.getElem?_toArray, List.getElem?_cons_succ, List.getElem?_cons_zero]; rfl) (by kernel_rfl) (by kernel_rfl) (by kernel_rfl) (fun _ _ _ h => h) (Or.inl ⟨by rfl, ?_⟩) (by assumption) ?_
    rotate_left
    · intro w hSw
      (try dsimp only at hSw)
      go_simp
      (try with_reducible rfl)
    simp only [Act.put, List.setIfInBounds_toArray, List.set_cons_zero, List.set_cons_succ]
    refine wpAnyH_take (i := 3) (v := ?_) (by simp only [List.getElem?_toArray, List.getElem?_cons_succ, List.getElem?_cons_zero]; rfl) (by kernel_rfl) (by kernel_rfl) (by kernel_rfl) (fun _ _ _ h => h) (Or.inl ⟨by rfl, ?_⟩) (by assumption) ?_
    rotate_left
    · intro w hSw
      (try dsimp only at hSw)
      go_simp
      (try with_reducible rfl)
    simp only [Act.put, List.setIfInBounds_toArray, List.set_cons_zero, List.set_cons_succ]
    refine wpAnyH_take (i := 4) (v := ?_) (by simp only [List.getElem?_toArray, List.getElem?_cons_succ, List.getElem?_cons_zero]; rfl) (by kernel_rfl) (by kernel_rfl) (by kernel_rfl) (fun _ _ _ h => h) (Or.inl ⟨by rfl, ?_⟩) (by assumption) ?_
    rotate_left
    · intro w hSw
      (try dsimp only at hSw)
      go_simp
      (try with_reducible rfl)
    simp only [Act.put, List.setIfInBounds_toArray, List.set_cons_zero, List.set_cons_succ]
    refine wpAnyH_ready (rs := [5]) (by kernel_rfl) (by simp) ?_
    refine AllReadyH.cons (by simp only [List.getElem?_toArray, List.getElem?_cons_succ, List.getElem?_cons_zero]; rfl) (fun K hK => ?_) (AllReadyH.nil)
    go_simp
    refine hK.out _ _ ?_ (fun hHeld2 => ?_)
    · exact keep3_set2 HYb.out hHeld
    clear hK K hHeld
    have hHeld := hHeld2
    clear hHeld2
    try simp only [Act.put, List.setIfInBounds_toArray, List.set_cons_zero, List.set_cons_succ]
    refine wpAnyH_take (i := 6) (v := ?_) (by simp only [List.getElem?_toArray, List.getElem?_cons_succ, List.getElem?_cons_zero]; rfl) (by kernel_rfl) (by kernel_rfl) (by kernel_rfl) (fun _ _ _ h => h) (Or.inl ⟨by rfl, ?_⟩) (by assumption) ?_
    rotate_left
    · intro w hSw
      (try dsimp only at hSw)
      go_simp
      (try with_reducible rfl)
    simp only [Act.put, List.setIfInBounds_toArray, List.set_cons_zero, List.set_cons_succ]
    refine wpAnyH_done (by kernel_rfl) ?_ _
    refine NoPanic.normal ?_
    clear hHeld
    go_wp2_with fail
    refine bodyPost_ret (v := .tuple #[.agg #[.int .u64 cE.2.1, .int .u64 cE.2.2], .bool (!((cE.1 == 0) && isZ cE.2))]) (by simp [results, Try.results13, go_sem, r0, r1]) rfl ⟨by rw [HIs.out, HQE.out, HCE.out], ?_⟩
    exact Kept.drew (((K0.out.trans HV1.out.kept).setCell (p := ⟨y, 0, none⟩) (Nat.le_trans HZE.out HZY.out) _).setCell (p := ⟨y, 1, none⟩) (Nat.le_trans HZE.out HZY.out) _)

end Go.Proofs.Ytabmdilhfiembaa
