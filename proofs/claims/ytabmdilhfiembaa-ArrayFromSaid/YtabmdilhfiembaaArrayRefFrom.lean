/-
  The contract of the given package's call From: the array of blocks, with votes on them.
-/
import Derived.Test.YtabmdilhfiembaaArrayFrom
import Derived.Test.YtabmdilhfiembaaArrayRef
import Derived.Test.YtabmdilhfiembaaArrayBare
import Derived.Test.YtabmdilhfiembaaGhostRefTop
import Derived.Test.YtabmdilhfiembaaWeighDbl
import Derived.Test.YtabmdilhfiembaaUntil
import Derived.Test.YtabmdilhfiembaaGround
namespace Go.Proofs.Ytabmdilhfiembaa
set_option maxRecDepth 100000
set_option linter.unusedVariables false
set_option linter.unusedSimpArgs false
set_option linter.unusedVariables false
open Go.ChangeShapes Go.WideShapes Go.ChangeAt Go.RowKit

theorem refFindN_any (A : Option Addr) (c n : Nat) (a : List It) (hn : n = a.length) (hl : a.length ≤ 100000) (x : Id2) (w : World) (hA : CellsAt w w.heap.size A (itemCells a)) :
    Calls Try.prog 40 #[.slice A n c, .agg #[.int .u64 x.1, .int .u64 x.2]] w fun e w' => e = .returned (.int .i64 (posI a x)) ∧ Kept w w' := by
  subst hn; exact refFindA_any A c a hl x w hA
theorem refAnewN_any (A : Option Addr) (c n : Nat) (a : List It) (hn : n = a.length) (hl : a.length ≤ 70) (hr : AllRight a) (ho : ∀ i, i < a.length → 0 ≤ (itA a i).o ∧ (itA a i).o ≤ 1125899906842624) (w : World) (hA : CellsAt w w.heap.size A (itemCells a)) :
    Calls Try.prog 41 #[.slice A n c] w fun e w' => ∃ A' c', e = .returned (.slice A' n c') ∧ Its w (anewC a) (.slice A' n c') w' := by
  subst hn; exact refAnew_any A c a hl hr ho w hA
theorem names_at {l : List Bk} {j : Nat} (hj : j < l.length) : (namesB l)[j]'(by rw [namesB_length]; exact hj) = nameB l[j] := by simp [namesB]

set_option maxRecDepth 100000 in
set_option maxHeartbeats 6400000 in
theorem refFrom_any (A : Option Addr) (c : Nat) (k : Cf) (L : Option Addr) (cl : Nat) (l : List Bk) (V : Option Addr) (cv : Nat) (v : List Vt) (w : World)
    (hk : k.ws.length ≤ 1000) (hl : l.length ≤ 1000000) (hv : v.length ≤ 100000) (hwl : WfL l) (hwv : WfVs v) (hA : CellsAt w w.heap.size A (intCells k.ws)) (hL : CellsAt w w.heap.size L (blockCells l)) (hV : CellsAt w w.heap.size V (votesCells v)) :
    Calls Try.prog 28 #[.agg #[.slice A k.ws.length c, .int .u64 k.seed, .int .i64 k.ep, .int .i64 k.nu, .int .i64 k.de], .slice L l.length cl, .slice V v.length cv] w (FromNew (fromC k l v) w) := by
  have K0 := Lib.hid ((Kept.refl w).alloc (.cells #[.slice A k.ws.length c, .int .u64 k.seed, .int .i64 k.ep, .int .i64 k.nu, .int .i64 k.de] 25))
  have HC := Lib.hid (HasCells.new w #[.slice A k.ws.length c, .int .u64 k.seed, .int .i64 k.ep, .int .i64 k.nu, .int .i64 k.de] 25 w.heap.size rfl)
  have HA := Lib.hid (hA.kept K0.out)
  have HL := Lib.hid (hL.kept K0.out)
  have HV := Lib.hid (hV.kept K0.out)
  have HWL := Lib.hid hwl
  have HWV := Lib.hid hwv
  clear hA hL hV hwl hwv
  go_enter Try.func28, Try.ntmps28
  go_wp2_with fail
  generalize w.alloc (.cells #[.slice A k.ws.length c, .int .u64 k.seed, .int .i64 k.ep, .int .i64 k.nu, .int .i64 k.de] 25) = W at *
  generalize w.heap.size = z at *
  refine (refMay5_any A c k W hk HA.out).mono ?_
  rintro e W1 ⟨rfl, k1⟩
  have K1 := Lib.hid k1
  clear k1
  go_wp2_with fail
  refine (refMay6_any L cl l hl HWL.out W1 (HL.out.kept K1.out)).mono ?_
  rintro e W2 ⟨rfl, k2⟩
  have K2 := Lib.hid (K1.out.trans k2)
  clear k2 K1
  cases hm : mayC k with
  | false =>
    have HE := Lib.hid (fromC_no (k := k) (l := l) v (fun h => by rw [hm] at h; cases h.1))
    clear hm
    go_wp2_with fail
    go_ret
    exact FromNew.nil HE.out (K0.out.trans K2.out)
  | true =>
    have HMc := Lib.hid hm
    clear hm
    cases hm : mayB l with
    | false =>
      have HE := Lib.hid (fromC_no (k := k) (l := l) v (fun h => by rw [hm] at h; cases h.2.1))
      clear hm
      go_wp2_with fail
      go_ret
      exact FromNew.nil HE.out (K0.out.trans K2.out)
    | true =>
      by_cases h60 : l.length ≤ 60
      · have HE := Lib.hid (fromC_yes v HMc.out hm h60)
        clear hm
        go_wp2_with fail
        refine (refNames_any L cl l hl HWL.out W2 (HL.out.kept K2.out)).mono ?_
        rintro e W3 ⟨N, cn, rfl, hN, hcn, _, k3⟩
        have HN := Lib.hid hN
        have HCN := Lib.hid hcn
        have HNL := Lib.hid (namesB_length l)
        have K3 := Lib.hid (K2.out.trans k3)
        clear hN k3 hcn K2
        have HNA := Lib.hid (fun j (hj : j < l.length) => names_at hj)
        go_wp2_with fail
        go_loopw [9, 11] (fun u i w' => ∃ j : Nat, j ≤ l.length ∧ i = .int .i64 j ∧ ∃ B cb, u = .slice B j cb ∧ Its W3 (bareTo (l.take j)) (.slice B j cb) w') (fun _ i _ => l.length - (intOf i).toNat)
        case atStart => exact ⟨0, by omega, rfl, none, 0, rfl, Its.nil W3⟩
        case round =>
          obtain ⟨j, hj, rfl, B, cb, rfl, hI⟩ := hrel
          have HI := Lib.hid hI
          clear hI
          by_cases hlt : j < l.length
          · obtain ⟨zz, oo, rfl, hb, c0, c1, c2, c3, c4⟩ := block_at (HL.out.kept K3.out) hlt
            obtain ⟨zn, on, rfl, hbn, n0, n1⟩ := id_at HN.out (i := j) (by rw [HNL.out]; exact hlt)
            have hjn : j < (namesB l).length := by rw [HNL.out]; exact hlt
            have hjc : j < cn := Nat.lt_of_lt_of_le hjn HCN.out
            rw [HNA.out j hlt] at n0 n1
            have HT := Lib.hid (bare_take hlt)
            have HLn := Lib.hid (show j = (bareTo (l.take j)).length by rw [bare_length, List.length_take]; omega)
            generalize l[j] = y at *
            generalize nameB y = n at *
            generalize hB : bareTo (l.take j) = X at *
            have HBe := Lib.hid hB
            clear hB c0 c1 c4
            go_wp2_with fail
            refine wp_region_noPanic ?_
            refine wp_region_held_drew (S := (fun w' => w'.cell? ⟨zn, on + j * 2, none⟩ = some (.int .u64 n.1) ∧ w'.cell? ⟨zn, on + j * 2 + 1, none⟩ = some (.int .u64 n.2) ∧ w'.cell? ⟨zz, oo + j * 5 + 2, none⟩ = some (.int .u64 y.p.1) ∧ w'.cell? ⟨zz, oo + j * 5 + 3, none⟩ = some (.int .u64 y.p.2) ∧ Kept W3 w')) (by kernel_rfl) ?_ (fun hHeld => ?_)
            · exact keepP4 hbn hbn hb hb ⟨n0, n1, c2, c3, Kept.refl _⟩ HI.out.2.drew
            refine wpAnyH_take (i := 0) (v := ?_) (by simp only [List.getElem?_toArray, List.getElem?_cons_succ, List.getElem?_cons_zero]; rfl) (by kernel_rfl) (by kernel_rfl) (by kernel_rfl) (fun _ _ _ h => h) (Or.inl ⟨by rfl, ?_⟩) (by assumption) ?_
            rotate_left
            · intro w hSw
              (try dsimp only at hSw)
              go_simp
              (try with_reducible rfl)
            simp only [Act.put, List.setIfInBounds_toArray, List.set_cons_zero, List.set_cons_succ]
            refine wpAnyH_take (i := 1) (v := ?_) (by simp only [List.getElem?_toArray, List.getElem?_cons_succ, List.getElem?_cons_zero]; rfl) (by kernel_rfl) (by kernel_rfl) (by kernel_rfl) (fun _ _ _ h => h) (Or.inl ⟨by rfl, ?_⟩) (by assumption) ?_
            rotate_left
            · intro w hSw
              (try dsimp only at hSw)
              go_simp
              (try with_reducible rfl)
            simp only [Act.put, List.setIfInBounds_toArray, List.set_cons_zero, List.set_cons_succ]
            refine wpAnyH_take (i := 2) (v := ?_) (by simp only [List.getElem?_toArray, List.getElem?_cons_succ, List.getElem?_cons_zero]; rfl) (by kernel_rfl) (by kernel_rfl) (by kernel_rfl) (fun _ _ _ h => h) (Or.inl ⟨by rfl, ?_⟩) (by assumption) ?_
            rotate_left
            · intro w hSw
              (try dsimp only at hSw)
              go_simp
              (try with_reducible rfl)
            simp only [Act.put, List.setIfInBounds_toArray, List.set_cons_zero, List.set_cons_succ]
            refine wpAnyH_take (i := 3) (v := ?_) (by simp only [List.getElem?_toArray, List.getElem?_cons_succ, List.getElem?_cons_zero]; rfl) (by kernel_rfl) (by kernel_rfl) (by kernel_rfl) (fun _ _ _ h => h) (Or.inl ⟨by rfl, ?_⟩) (by assumption) ?_
            rotate_left
            · intro w hSw
              (try dsimp only at hSw)
              go_simp
              (try with_reducible rfl)
            simp only [Act.put, List.setIfInBounds_toArray, List.set_cons_zero, List.set_cons_succ]
            refine wpAnyH_take (i := 4) (v := ?_) (by simp only [List.getElem?_toArray, List.getElem?_cons_succ, List.getElem?_cons_zero]; rfl) (by kernel_rfl) (by kernel_rfl) (by kernel_rfl) (fun _ _ _ h => h) (Or.inl ⟨by rfl, ?_⟩) (by assumption) ?_
            rotate_left
            · intro w hSw
              (try dsimp only at hSw)
              go_simp
              (try with_reducible rfl)
            simp only [Act.put, List.setIfInBounds_toArray, List.set_cons_zero, List.set_cons_succ]
            refine wpAnyH_take (i := 5) (v := ?_) (by simp only [List.getElem?_toArray, List.getElem?_cons_succ, List.getElem?_cons_zero]; rfl) (by kernel_rfl) (by kernel_rfl) (by kernel_rfl) (fun _ _ _ h => h) (Or.inl ⟨by rfl, ?_⟩) (by assumption) ?_
            rotate_left
            · intro w hSw
              (try dsimp only at hSw)
              go_simp
              (try with_reducible rfl)
            simp only [Act.put, List.setIfInBounds_toArray, List.set_cons_zero, List.set_cons_succ]
            refine wpAnyH_take (i := 6) (v := ?_) (by simp only [List.getElem?_toArray, List.getElem?_cons_succ, List.getElem?_cons_zero]; rfl) (by kernel_rfl) (by kernel_rfl) (by kernel_rfl) (fun _ _ _ h => h) (Or.inl ⟨by rfl, ?_⟩) (by assumption) ?_
            rotate_left
            · intro w hSw
              (try dsimp only at hSw)
              go_simp
              (try with_reducible rfl)
            simp only [Act.put, List.setIfInBounds_toArray, List.set_cons_zero, List.set_cons_succ]
            refine wpAnyH_take (i := 7) (v := ?_) (by simp only [List.getElem?_toArray, List.getElem?_cons_succ, List.getElem?_cons_zero]; rfl) (by kernel_rfl) (by kernel_rfl) (by kernel_rfl) (fun _ _ _ h => h) (Or.inl ⟨by rfl, ?_⟩) (by assumption) ?_
            rotate_left
            · intro w hSw
              (try dsimp only at hSw)
              go_simp
              (try with_reducible rfl)
            simp only [Act.put, List.setIfInBounds_toArray, List.set_cons_zero, List.set_cons_succ]
            refine wpAnyH_take (i := 8) (v := ?_) (by simp only [List.getElem?_toArray, List.getElem?_cons_succ, List.getElem?_cons_zero]; rfl) (by kernel_rfl) (by kernel_rfl) (by kernel_rfl) (fun _ _ _ h => h) (Or.inl ⟨by rfl, ?_⟩) (by assumption) ?_
            rotate_left
            · intro w hSw
              (try dsimp only at hSw)
              go_simp
              (try with_reducible rfl)
            simp only [Act.put, List.setIfInBounds_toArray, List.set_cons_zero, List.set_cons_succ]
            refine wpAnyH_take (i := 9) (v := ?_) (by simp only [List.getElem?_toArray, List.getElem?_cons_succ, List.getElem?_cons_zero]; rfl) (by kernel_rfl) (by kernel_rfl) (by kernel_rfl) (fun _ _ _ h => h) (Or.inl ⟨by rfl, ?_⟩) (by assumption) ?_
            rotate_left
            · intro w hSw
              (try dsimp only at hSw)
              go_simp
              (try with_reducible rfl)
            simp only [Act.put, List.setIfInBounds_toArray, List.set_cons_zero, List.set_cons_succ]
            refine wpAnyH_take (i := 10) (v := ?_) (by simp only [List.getElem?_toArray, List.getElem?_cons_succ, List.getElem?_cons_zero]; rfl) (by kernel_rfl) (by kernel_rfl) (by kernel_rfl) (fun _ _ _ h => h) (Or.inl ⟨by rfl, ?_⟩) (by assumption) ?_
            rotate_left
            · intro w hSw
              (try dsimp only at hSw)
              go_simp
              (try with_reducible rfl)
            simp only [Act.put, List.setIfInBounds_toArray, List.set_cons_zero, List.set_cons_succ]
            refine wpAnyH_ready (rs := [11]) (by kernel_rfl) (by simp) ?_
            refine AllReadyH.cons (by simp only [List.getElem?_toArray, List.getElem?_cons_succ, List.getElem?_cons_zero]; rfl) (fun K hK => ?_) (AllReadyH.nil)
            go_simp
            go_at_call 40; with_reducible refine (refFindN_any B cb j X HLn.out (by rw [← HLn.out]; omega) y.p _ (HI.out.drew.cells HLn.out)).mono ?_
            rintro e w5 ⟨rfl, kk5⟩
            have hI5 := HI.out.drew.kept kk5
            refine hK.out _ _ ?_ (fun hHeld2 => ?_)
            · exact keepP4 hbn hbn hb hb ⟨n0, n1, c2, c3, Kept.refl _⟩ hI5.2
            clear hK K hHeld
            have hHeld := hHeld2
            clear hHeld2
            try simp only [Act.put, List.setIfInBounds_toArray, List.set_cons_zero, List.set_cons_succ]
            refine wpAnyH_take (i := 12) (v := ?_) (by simp only [List.getElem?_toArray, List.getElem?_cons_succ, List.getElem?_cons_zero]; rfl) (by kernel_rfl) (by kernel_rfl) (by kernel_rfl) (fun _ _ _ h => h) (Or.inl ⟨by rfl, ?_⟩) (by assumption) ?_
            rotate_left
            · intro w hSw
              (try dsimp only at hSw)
              go_simp
              (try with_reducible rfl)
            simp only [Act.put, List.setIfInBounds_toArray, List.set_cons_zero, List.set_cons_succ]
            refine wpAnyH_ready (rs := [13]) (by kernel_rfl) (by simp) ?_
            refine AllReadyH.cons (by simp only [List.getElem?_toArray, List.getElem?_cons_succ, List.getElem?_cons_zero]; rfl) (fun K hK => ?_) (AllReadyH.nil)
            go_simp
            refine hK.out _ _ ?_ (fun hHeld2 => ?_)
            · exact keepP4 hbn hbn hb hb ⟨n0, n1, c2, c3, Kept.refl _⟩ (hI5.alloc _).2
            clear hK K hHeld
            have hHeld := hHeld2
            clear hHeld2
            try simp only [Act.put, List.setIfInBounds_toArray, List.set_cons_zero, List.set_cons_succ]
            refine wpAnyH_ready (rs := [14]) (by kernel_rfl) (by simp) ?_
            refine AllReadyH.cons (by simp only [List.getElem?_toArray, List.getElem?_cons_succ, List.getElem?_cons_zero]; rfl) (fun K hK => ?_) (AllReadyH.nil)
            refine step_its _ (by rfl) 36 Try.underlying36 (.tmp 37) (.tmp 50) (by rfl) _ X _ (by rfl) (hI5.alloc (.cells #[.int .u64 n.1, .int .u64 n.2, .int .i64 (posI X y.p), .int .i64 0, .int .i64 0, .int .i64 0, .int .i64 0] 50)) _ _ 1 1 [⟨n, posI X y.p, 0, 0, 0, 0⟩] (by rfl) rfl (items_new (t := ⟨n, posI X y.p, 0, 0, 0, 0⟩) w5.heap.size rfl 50) (by rw [← HLn.out]; omega) ?_
            intro A6 c6 w6 hI6 g6
            refine hK.out _ _ ?_ (fun hHeld2 => ?_)
            · exact keepP4 hbn hbn hb hb ⟨n0, n1, c2, c3, Kept.refl _⟩ hI6.2
            clear hK K hHeld
            have hHeld := hHeld2
            clear hHeld2
            try simp only [Act.put, List.setIfInBounds_toArray, List.set_cons_zero, List.set_cons_succ]
            refine wpAnyH_take (i := 15) (v := ?_) (by simp only [List.getElem?_toArray, List.getElem?_cons_succ, List.getElem?_cons_zero]; rfl) (by kernel_rfl) (by kernel_rfl) (by kernel_rfl) (fun _ _ _ h => h) (Or.inl ⟨by rfl, ?_⟩) (by assumption) ?_
            rotate_left
            · intro w hSw
              (try dsimp only at hSw)
              go_simp
              (try with_reducible rfl)
            simp only [Act.put, List.setIfInBounds_toArray, List.set_cons_zero, List.set_cons_succ]
            refine wpAnyH_done (by kernel_rfl) ?_ _
            refine NoPanic.normal ?_
            have HI6 := Lib.hid (show Its W3 (bareTo (l.take (j + 1))) (.slice A6 (j + 1) c6) w6 from by have h := hI6; rw [show (X ++ [(⟨n, posI X y.p, 0, 0, 0, 0⟩ : It)]).length = j + 1 from by rw [List.length_append, ← HLn.out]; rfl] at h; rw [HT.out]; exact h)
            have hl6 : (X ++ [(⟨n, posI X y.p, 0, 0, 0, 0⟩ : It)]).length = j + 1 := by rw [List.length_append, ← HLn.out]; rfl
            clear hHeld hI6 g6 hI5 kk5 c2 c3 n0 n1
            try rw [hl6]
            clear hl6
            generalize w6 = V1 at *
            go_wp2_with fail
            go_roundw
            case rel => exact ⟨j + 1, by omega, by go_num, A6, c6, by first | rfl | rw [← HLn.out] | (rw [← HLn.out]; rfl), HI6.out⟩
            case measure => simp [intOf]; omega
          · have hjl : j = l.length := by omega
            subst hjl
            have HI0 := Lib.hid (show Its W3 (bareTo l) (.slice B l.length cb) wr by have h := HI.out; rw [List.take_length] at h; exact h)
            have HVl := Lib.hid (votes_length k l)
            have HGd := Lib.hid (votes_good k l)
            clear HI HNA HN HCN HNL
            go_wp2_with fail
            go_loopw [12] (fun i w' => ∃ j : Nat, j ≤ v.length ∧ i = .int .i64 (j : Nat) ∧ Its W3 (votesTo k (bareTo l) (v.take j)) (.slice B l.length cb) w') (fun i _ => v.length - (intOf i).toNat)
            case atStart => exact ⟨0, by omega, by first | rfl | simp, HI0.out⟩
            case round =>
              obtain ⟨j, hj2, rfl, hI⟩ := hrel
              have HI := Lib.hid hI
              clear hI HI0
              by_cases hlt : j < v.length
              · obtain ⟨zv, ov, rfl, hbv, v0, v1, v2, v3⟩ := vote_at (HV.out.kept (K3.out.trans HI.out.2)) hlt
                have HT := Lib.hid (votes_take (k := k) (a := bareTo l) hlt)
                have HG := Lib.hid (HGd.out (v.take j))
                have HLn := Lib.hid (HVl.out (v.take j))
                have HAr := Lib.hid (HA.out.kept (K3.out.trans HI.out.2))
                have HNo := Lib.hid (fun h => addV_none (k := k) (a := votesTo k (bareTo l) (v.take j)) (y := v[j]'hlt) h)
                have HFu := Lib.hid (fun i h h2 => addV_full (k := k) (a := votesTo k (bareTo l) (v.take j)) (y := v[j]'hlt) (i := i) h h2)
                have HOk := Lib.hid (fun i h h2 => addV_ok (k := k) (a := votesTo k (bareTo l) (v.take j)) (y := v[j]'hlt) (i := i) h h2)
                have HOut := Lib.hid (fun h => add_out (k := k) (a := votesTo k (bareTo l) (v.take j)) (y := v[j]'hlt) HMc.out HG.out.own h)
                have HPw := Lib.hid (posI_way (votesTo k (bareTo l) (v.take j)) v[j].p)
                have HFd := Lib.hid (fun w' (kk : Kept wr w') => refFindN_any B cb l.length (votesTo k (bareTo l) (v.take j)) (by rw [HLn.out]) (by rw [HLn.out]; omega) v[j].p w' ((HI.out.cells (by rw [HLn.out])).kept kk))
                generalize votesTo k (bareTo l) (v.take j) = X at *
                generalize v[j] = y at *
                generalize hpp : posI X y.p = pp at *
                go_wp2_with fail
                refine (HFd.out _ (Kept.refl _)).mono ?_
                rintro e V1 ⟨rfl, kk⟩
                have HI7 := Lib.hid (HI.out.kept kk)
                have HK7 := Lib.hid kk
                have u0 := (kk.cell (p := ⟨zv, ov + j * 4, none⟩) hbv).trans v0
                clear v0 v1 v2 v3 HFd
                obtain ⟨c0, c1, c2, c3, c4⟩ := (HC.out.kept (K3.out.trans HI7.out.2)).five
                have hzl := (HC.out.kept (K3.out.trans HI7.out.2)).1
                clear c1 c2 c3 c4
                rcases HPw.out with ⟨hq, _⟩ | ⟨i, hq, hi, _⟩
                · have hpm : pp = -1 := hq
                  subst hpm
                  have HN := Lib.hid (HNo.out rfl)
                  clear HNo HFu HOk HOut HPw
                  go_wp2_with fail
                  go_quiet (fail)
                  go_wp2_with fail
                  go_roundw
                  case rel => exact ⟨j + 1, by omega, by go_num, by rw [HT.out, HN.out]; exact HI7.out.drewN _⟩
                  case measure => simp [intOf]; omega
                · have hpm : pp = (i : Int) := hq
                  subst hpm
                  have hil : i < l.length := by have := HLn.out; omega
                  obtain ⟨g, rfl, _⟩ := form0 HI7.out (by omega)
                  obtain ⟨_, _, _, s3, _, _, _⟩ := HI7.out.at HLn.out.symm hi
                  have hob := HG.out.own i hi
                  have HFi := Lib.hid (fun h => HFu.out i rfl h)
                  have HOi := Lib.hid (fun h => HOk.out i rfl h)
                  clear HNo HFu HOk HPw
                  generalize hto : (itA X i).o = to at *
                  have HTo := Lib.hid hto
                  clear hto
                  have hi0 : decide (0 ≤ (i : Int)) = true := decide_eq_true (by omega)
                  by_cases hf0 : 0 ≤ y.f
                  · by_cases hf1 : y.f < (k.ws.length : Int)
                    · obtain ⟨fn, hfn⟩ : ∃ fn : Nat, y.f = (fn : Int) := ⟨y.f.toNat, by omega⟩
                      have hfl : fn < k.ws.length := by omega
                      have HW1 := Lib.hid (show weightC k [y.f] = k.ws[fn] by rw [hfn]; exact oneW_in HMc.out hfl)
                      have hwb := weight_bounds k [y.f]
                      rw [HW1.out] at HFi HOi hwb
                      obtain ⟨za, oa, rfl, hba, a0⟩ := int_at HAr.out hfl
                      have w0 := (HK7.out.cell (p := ⟨za, oa + fn, none⟩) hba).trans a0
                      clear a0 HW1 HOut
                      generalize k.ws[fn] = wt at *
                      rw [hfn] at u0
                      clear hfn hf0 hf1
                      have hf0 : decide (0 ≤ (fn : Int)) = true := decide_eq_true (by omega)
                      have hf1 : decide ((fn : Int) < (k.ws.length : Int)) = true := decide_eq_true (by omega)
                      have hwr : IntKind.i64.wrap (to + wt) = to + wt := by rw [IntKind.wrap_i64]; omega
                      by_cases ho : to + wt ≤ 1125899906842624
                      · have HN := Lib.hid (HOi.out (decide_eq_true (by omega)))
                        have hle : decide (to + wt ≤ 1125899906842624) = true := decide_eq_true ho
                        have f3 := HI7.out.frozen (i * 7 + 3)
                        have HI8 := Lib.hid (fun n => (show Its W3 (ownI X i (to + wt)) (.slice (some ⟨g, 0, none⟩) l.length cb) ((V1.drewN n).setCell ⟨g, i * 7 + 3, none⟩ (.int .i64 (to + wt))) from
                          (HI7.out.drewN n).set hi (j := 3) (by omega) (t := { itA X i with o := to + wt }) (by rw [← itA_get hi]; rfl)))
                        clear HFi HOi
                        go_wp2_with fail
                        go_quiet (fail)
                        go_wp2_with fail
                        refine wp_region_noPanic ?_
                        refine wp_region_until 19 (fun w' => w'.cell? ⟨g, i * 7 + 3, none⟩ = some (.int .i64 to) ∧ w'.cell? ⟨z, 0, none⟩ = some (.slice (some ⟨za, oa, none⟩) k.ws.length c) ∧ w'.cell? ⟨zv, ov + j * 4, none⟩ = some (.int .i64 (fn : Int)) ∧ w'.cell? ⟨za, oa + fn, none⟩ = some (.int .i64 wt) ∧ Kept V1 w') (by kernel_rfl) ?_ (fun hHeld => ?_)
                        · exact ⟨s3, c0, u0, w0, ((Kept.refl _).drewN _).drew⟩
                        refine wpAnyU_take 0 ?_ (by simp only [List.getElem?_toArray, List.getElem?_cons_succ, List.getElem?_cons_zero]; rfl) (by kernel_rfl) (by kernel_rfl) (by kernel_rfl) (by kernel_rfl) (by kernel_rfl) (by kernel_rfl) (fun _ _ _ h => h) (Or.inl ⟨by rfl, ?_⟩) (by assumption) ?_
                        rotate_left
                        · intro w hSw
                          (try dsimp only at hSw)
                          go_simp
                          (try with_reducible rfl)
                        simp only [Act.put, List.setIfInBounds_toArray, List.set_cons_zero, List.set_cons_succ]
                        refine wpAnyU_take 1 ?_ (by simp only [List.getElem?_toArray, List.getElem?_cons_succ, List.getElem?_cons_zero]; rfl) (by kernel_rfl) (by kernel_rfl) (by kernel_rfl) (by kernel_rfl) (by kernel_rfl) (by kernel_rfl) (fun _ _ _ h => h) (Or.inl ⟨by rfl, ?_⟩) (by assumption) ?_
                        rotate_left
                        · intro w hSw
                          (try dsimp only at hSw)
                          go_simp
                          (try with_reducible rfl)
                        simp only [Act.put, List.setIfInBounds_toArray, List.set_cons_zero, List.set_cons_succ]
                        refine wpAnyU_take 2 ?_ (by simp only [List.getElem?_toArray, List.getElem?_cons_succ, List.getElem?_cons_zero]; rfl) (by kernel_rfl) (by kernel_rfl) (by kernel_rfl) (by kernel_rfl) (by kernel_rfl) (by kernel_rfl) (fun _ _ _ h => h) (Or.inl ⟨by rfl, ?_⟩) (by assumption) ?_
                        rotate_left
                        · intro w hSw
                          (try dsimp only at hSw)
                          go_simp
                          (try with_reducible rfl)
                        simp only [Act.put, List.setIfInBounds_toArray, List.set_cons_zero, List.set_cons_succ]
                        refine wpAnyU_take 3 ?_ (by simp only [List.getElem?_toArray, List.getElem?_cons_succ, List.getElem?_cons_zero]; rfl) (by kernel_rfl) (by kernel_rfl) (by kernel_rfl) (by kernel_rfl) (by kernel_rfl) (by kernel_rfl) (fun _ _ _ h => h) (Or.inl ⟨by rfl, ?_⟩) (by assumption) ?_
                        rotate_left
                        · intro w hSw
                          (try dsimp only at hSw)
                          go_simp
                          (try with_reducible rfl)
                        simp only [Act.put, List.setIfInBounds_toArray, List.set_cons_zero, List.set_cons_succ]
                        refine wpAnyU_take 4 ?_ (by simp only [List.getElem?_toArray, List.getElem?_cons_succ, List.getElem?_cons_zero]; rfl) (by kernel_rfl) (by kernel_rfl) (by kernel_rfl) (by kernel_rfl) (by kernel_rfl) (by kernel_rfl) (fun _ _ _ h => h) (Or.inl ⟨by rfl, ?_⟩) (by assumption) ?_
                        rotate_left
                        · intro w hSw
                          (try dsimp only at hSw)
                          go_simp
                          (try with_reducible rfl)
                        simp only [Act.put, List.setIfInBounds_toArray, List.set_cons_zero, List.set_cons_succ]
                        refine wpAnyU_take 5 ?_ (by simp only [List.getElem?_toArray, List.getElem?_cons_succ, List.getElem?_cons_zero]; rfl) (by kernel_rfl) (by kernel_rfl) (by kernel_rfl) (by kernel_rfl) (by kernel_rfl) (by kernel_rfl) (fun _ _ _ h => h) (Or.inl ⟨by rfl, ?_⟩) (by assumption) ?_
                        rotate_left
                        · intro w hSw
                          (try dsimp only at hSw)
                          go_simp
                          (try with_reducible rfl)
                        simp only [Act.put, List.setIfInBounds_toArray, List.set_cons_zero, List.set_cons_succ]
                        refine wpAnyU_take 6 ?_ (by simp only [List.getElem?_toArray, List.getElem?_cons_succ, List.getElem?_cons_zero]; rfl) (by kernel_rfl) (by kernel_rfl) (by kernel_rfl) (by kernel_rfl) (by kernel_rfl) (by kernel_rfl) (fun _ _ _ h => h) (Or.inl ⟨by rfl, ?_⟩) (by assumption) ?_
                        rotate_left
                        · intro w hSw
                          (try dsimp only at hSw)
                          go_simp
                          (try with_reducible rfl)
                        simp only [Act.put, List.setIfInBounds_toArray, List.set_cons_zero, List.set_cons_succ]
                        refine wpAnyU_take 7 ?_ (by simp only [List.getElem?_toArray, List.getElem?_cons_succ, List.getElem?_cons_zero]; rfl) (by kernel_rfl) (by kernel_rfl) (by kernel_rfl) (by kernel_rfl) (by kernel_rfl) (by kernel_rfl) (fun _ _ _ h => h) (Or.inl ⟨by rfl, ?_⟩) (by assumption) ?_
                        rotate_left
                        · intro w hSw
                          (try dsimp only at hSw)
                          go_simp
                          (try with_reducible rfl)
                        simp only [Act.put, List.setIfInBounds_toArray, List.set_cons_zero, List.set_cons_succ]
                        refine wpAnyU_take 8 ?_ (by simp only [List.getElem?_toArray, List.getElem?_cons_succ, List.getElem?_cons_zero]; rfl) (by kernel_rfl) (by kernel_rfl) (by kernel_rfl) (by kernel_rfl) (by kernel_rfl) (by kernel_rfl) (fun _ _ _ h => h) (Or.inl ⟨by rfl, ?_⟩) (by assumption) ?_
                        rotate_left
                        · intro w hSw
                          (try dsimp only at hSw)
                          go_simp
                          (try with_reducible rfl)
                        simp only [Act.put, List.setIfInBounds_toArray, List.set_cons_zero, List.set_cons_succ]
                        refine wpAnyU_take 9 ?_ (by simp only [List.getElem?_toArray, List.getElem?_cons_succ, List.getElem?_cons_zero]; rfl) (by kernel_rfl) (by kernel_rfl) (by kernel_rfl) (by kernel_rfl) (by kernel_rfl) (by kernel_rfl) (fun _ _ _ h => h) (Or.inl ⟨by rfl, ?_⟩) (by assumption) ?_
                        rotate_left
                        · intro w hSw
                          (try dsimp only at hSw)
                          go_simp
                          (try with_reducible rfl)
                        simp only [Act.put, List.setIfInBounds_toArray, List.set_cons_zero, List.set_cons_succ]
                        refine wpAnyU_take 10 ?_ (by simp only [List.getElem?_toArray, List.getElem?_cons_succ, List.getElem?_cons_zero]; rfl) (by kernel_rfl) (by kernel_rfl) (by kernel_rfl) (by kernel_rfl) (by kernel_rfl) (by kernel_rfl) (fun _ _ _ h => h) (Or.inl ⟨by rfl, ?_⟩) (by assumption) ?_
                        rotate_left
                        · intro w hSw
                          (try dsimp only at hSw)
                          go_simp
                          (try with_reducible rfl)
                        simp only [Act.put, List.setIfInBounds_toArray, List.set_cons_zero, List.set_cons_succ]
                        refine wpAnyU_take 11 ?_ (by simp only [List.getElem?_toArray, List.getElem?_cons_succ, List.getElem?_cons_zero]; rfl) (by kernel_rfl) (by kernel_rfl) (by kernel_rfl) (by kernel_rfl) (by kernel_rfl) (by kernel_rfl) (fun _ _ _ h => h) (Or.inl ⟨by rfl, ?_⟩) (by assumption) ?_
                        rotate_left
                        · intro w hSw
                          (try dsimp only at hSw)
                          go_simp
                          (try with_reducible rfl)
                        simp only [Act.put, List.setIfInBounds_toArray, List.set_cons_zero, List.set_cons_succ]
                        refine wpAnyU_take 12 ?_ (by simp only [List.getElem?_toArray, List.getElem?_cons_succ, List.getElem?_cons_zero]; rfl) (by kernel_rfl) (by kernel_rfl) (by kernel_rfl) (by kernel_rfl) (by kernel_rfl) (by kernel_rfl) (fun _ _ _ h => h) (Or.inl ⟨by rfl, ?_⟩) (by assumption) ?_
                        rotate_left
                        · intro w hSw
                          (try dsimp only at hSw)
                          go_simp
                          (try with_reducible rfl)
                        simp only [Act.put, List.setIfInBounds_toArray, List.set_cons_zero, List.set_cons_succ]
                        refine wpAnyU_take 13 ?_ (by simp only [List.getElem?_toArray, List.getElem?_cons_succ, List.getElem?_cons_zero]; rfl) (by kernel_rfl) (by kernel_rfl) (by kernel_rfl) (by kernel_rfl) (by kernel_rfl) (by kernel_rfl) (fun _ _ _ h => h) (Or.inl ⟨by rfl, ?_⟩) (by assumption) ?_
                        rotate_left
                        · intro w hSw
                          (try dsimp only at hSw)
                          go_simp
                          (try with_reducible rfl)
                        simp only [Act.put, List.setIfInBounds_toArray, List.set_cons_zero, List.set_cons_succ]
                        refine wpAnyU_take 14 ?_ (by simp only [List.getElem?_toArray, List.getElem?_cons_succ, List.getElem?_cons_zero]; rfl) (by kernel_rfl) (by kernel_rfl) (by kernel_rfl) (by kernel_rfl) (by kernel_rfl) (by kernel_rfl) (fun _ _ _ h => h) (Or.inl ⟨by rfl, ?_⟩) (by assumption) ?_
                        rotate_left
                        · intro w hSw
                          (try dsimp only at hSw)
                          go_simp
                          (try with_reducible rfl)
                        simp only [Act.put, List.setIfInBounds_toArray, List.set_cons_zero, List.set_cons_succ]
                        refine wpAnyU_take 15 ?_ (by simp only [List.getElem?_toArray, List.getElem?_cons_succ, List.getElem?_cons_zero]; rfl) (by kernel_rfl) (by kernel_rfl) (by kernel_rfl) (by kernel_rfl) (by kernel_rfl) (by kernel_rfl) (fun _ _ _ h => h) (Or.inl ⟨by rfl, ?_⟩) (by assumption) ?_
                        rotate_left
                        · intro w hSw
                          (try dsimp only at hSw)
                          go_simp
                          (try with_reducible rfl)
                        simp only [Act.put, List.setIfInBounds_toArray, List.set_cons_zero, List.set_cons_succ]
                        refine wpAnyU_take 16 ?_ (by simp only [List.getElem?_toArray, List.getElem?_cons_succ, List.getElem?_cons_zero]; rfl) (by kernel_rfl) (by kernel_rfl) (by kernel_rfl) (by kernel_rfl) (by kernel_rfl) (by kernel_rfl) (fun _ _ _ h => h) (Or.inl ⟨by rfl, ?_⟩) (by assumption) ?_
                        rotate_left
                        · intro w hSw
                          (try dsimp only at hSw)
                          go_simp
                          (try with_reducible rfl)
                        simp only [Act.put, List.setIfInBounds_toArray, List.set_cons_zero, List.set_cons_succ]
                        refine wpAnyU_take 17 ?_ (by simp only [List.getElem?_toArray, List.getElem?_cons_succ, List.getElem?_cons_zero]; rfl) (by kernel_rfl) (by kernel_rfl) (by kernel_rfl) (by kernel_rfl) (by kernel_rfl) (by kernel_rfl) (fun _ _ _ h => h) (Or.inl ⟨by rfl, ?_⟩) (by assumption) ?_
                        rotate_left
                        · intro w hSw
                          (try dsimp only at hSw)
                          go_simp
                          (try with_reducible rfl)
                        simp only [Act.put, List.setIfInBounds_toArray, List.set_cons_zero, List.set_cons_succ]
                        refine wpAnyU_take 18 ?_ (by simp only [List.getElem?_toArray, List.getElem?_cons_succ, List.getElem?_cons_zero]; rfl) (by kernel_rfl) (by kernel_rfl) (by kernel_rfl) (by kernel_rfl) (by kernel_rfl) (by kernel_rfl) (fun _ _ _ h => h) (Or.inl ⟨by rfl, ?_⟩) (by assumption) ?_
                        rotate_left
                        · intro w hSw
                          (try dsimp only at hSw)
                          go_simp
                          (try with_reducible rfl)
                        simp only [Act.put, List.setIfInBounds_toArray, List.set_cons_zero, List.set_cons_succ]
                        refine wpAnyU_last (by kernel_rfl) (by simp only [List.getElem?_toArray, List.getElem?_cons_succ, List.getElem?_cons_zero]; rfl) (by kernel_rfl) (by kernel_rfl) (fun K hK => ?_)

                        go_simp
                        refine hK.out _ _ ?_
                        clear hK K hHeld
                        refine NoPanic.normal ?_
                        go_wp2_with fail
                        go_roundw
                        case rel => exact ⟨j + 1, by omega, by go_num, by rw [HT.out, HN.out]; exact HI8.out _⟩
                        case measure => simp [intOf]; omega
                      · have HN := Lib.hid (HFi.out (decide_eq_false (by omega)))
                        have hle : decide (to + wt ≤ 1125899906842624) = false := decide_eq_false ho
                        clear HFi HOi
                        go_wp2_with fail
                        go_quiet (fail)
                        go_wp2_with fail
                        go_roundw
                        case rel => exact ⟨j + 1, by omega, by go_num, by rw [HT.out, HN.out]; exact HI7.out.drewN _⟩
                        case measure => simp [intOf]; omega
                    · have HN := Lib.hid (HOut.out (by omega))
                      have hf0' : decide (0 ≤ y.f) = true := decide_eq_true hf0
                      have hf1' : decide (y.f < (k.ws.length : Int)) = false := decide_eq_false hf1
                      clear HFi HOi HOut
                      go_wp2_with fail
                      go_quiet (fail)
                      go_wp2_with fail
                      go_roundw
                      case rel => exact ⟨j + 1, by omega, by go_num, by rw [HT.out, HN.out]; exact HI7.out.drewN _⟩
                      case measure => simp [intOf]; omega
                  · have HN := Lib.hid (HOut.out (by omega))
                    have hf0' : decide (0 ≤ y.f) = false := decide_eq_false hf0
                    clear HFi HOi HOut
                    go_wp2_with fail
                    go_quiet (fail)
                    go_wp2_with fail
                    go_roundw
                    case rel => exact ⟨j + 1, by omega, by go_num, by rw [HT.out, HN.out]; exact HI7.out.drewN _⟩
                    case measure => simp [intOf]; omega
              · have hjl : j = v.length := by omega
                subst hjl
                have HI1 := Lib.hid (show Its W3 (votesTo k (bareTo l) v) (.slice B l.length cb) wr by have h := HI.out; rw [List.take_length] at h; exact h)
                have HSe := Lib.hid (refAnewN_any B cb l.length (votesTo k (bareTo l) v) (HVl.out v).symm (by rw [HVl.out]; omega) ((HGd.out v).right (bare_right l)) (HGd.out v).own wr (HI1.out.cells (HVl.out v).symm))
                have HLn := Lib.hid (show (anewC (votesTo k (bareTo l) v)).length = l.length by rw [anewC_length, HVl.out])
                go_wp2_with fail
                refine HSe.out.mono ?_
                rintro e V2 ⟨A2, c2, rfl, hI2⟩
                have HI2 := Lib.hid hI2
                clear hI2 HSe
                go_wp2_with fail
                go_ret
                rw [HE.out]
                exact ⟨A2, c2, by rw [HLn.out]; rfl, HI2.out.cells HLn.out.symm, by rw [HLn.out]; exact HI2.out.cap, K0.out.trans (K3.out.trans (HI1.out.2.trans HI2.out.2))⟩
      · have HE := Lib.hid (fromC_no (k := k) (l := l) v (fun h => h60 h.2.2))
        clear hm
        go_wp2_with fail
        go_ret
        exact FromNew.nil HE.out (K0.out.trans K2.out)

end Go.Proofs.Ytabmdilhfiembaa
