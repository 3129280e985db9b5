/-
  The contracts of the given package marigoldref14.
-/
import Derived.Test.YtlapcnfhnfkbmaaGreatGoldMath
import Derived.Test.YtlapcnfhnfkbmaaGreatIdBox
import Derived.Test.YtlapcnfhnfkbmaaGreatVoteRefOf
import Derived.Test.YtlapcnfhnfkbmaaGreatDutyRefG
import Derived.Test.YtlapcnfhnfkbmaaGreatDutyG
import Derived.Test.YtlapcnfhnfkbmaaGreatGhostRefTop
import Derived.Test.YtlapcnfhnfkbmaaGreatGround
namespace Go.Proofs.YtlapcnfhnfkbmaaGreat
set_option maxRecDepth 100000
set_option linter.unusedVariables false
set_option linter.unusedSimpArgs false
set_option linter.unusedSimpArgs false
set_option linter.unusedVariables false
open Go.ChangeShapes Go.WideShapes Go.ChangeAt Go.RowKit

/-- The votes of the committee that count, in a row. -/
def GoldNew (k : Cf) (slot : Int) (v : List Vt) (w : World) (e : Ending) (w' : World) : Prop := ∃ R A c, Golds k slot v R ∧ R.length ≤ v.length ∧ e = .returned (.slice A R.length c) ∧ CellsAt w' w'.heap.size A (votesCells R) ∧ Kept w w'
set_option maxRecDepth 100000 in
set_option maxHeartbeats 3200000 in
theorem refGoldOf_any (kA : Option Addr) (kc : Nat) (k : Cf) (vA : Option Addr) (vc : Nat) (v : List Vt) (slot : Int) (w : World)
    (hk : k.ws.length ≤ 1000) (hsd : k.seed < 18446744073709551616) (hv : v.length ≤ 10000) (hA : CellsAt w w.heap.size kA (intCells k.ws)) (hV : CellsAt w w.heap.size vA (votesCells v)) :
    Calls Tryz.prog 13 #[.agg #[.slice kA k.ws.length kc, .int .u64 k.seed, .int .i64 k.ep, .int .i64 k.nu, .int .i64 k.de], .slice vA v.length vc, .int .i64 slot] w (GoldNew k slot v w) := by
  go_enter Tryz.func13, Tryz.ntmps13
  go_wp2_with fail
  have K0 := Lib.hid ((Kept.refl w).alloc (.cells #[.slice kA k.ws.length kc, .int .u64 k.seed, .int .i64 k.ep, .int .i64 k.nu, .int .i64 k.de] 25))
  have HA := Lib.hid (hA.kept K0.out)
  clear hA
  have HV := Lib.hid (hV.kept K0.out)
  clear hV
  have HB0 := Lib.hid (HasCells.new w #[.slice kA k.ws.length kc, .int .u64 k.seed, .int .i64 k.ep, .int .i64 k.nu, .int .i64 k.de] 25 (w.heap.size) (by simp))
  generalize (w.alloc (.cells #[.slice kA k.ws.length kc, .int .u64 k.seed, .int .i64 k.ep, .int .i64 k.nu, .int .i64 k.de] 25)) = W0 at *
  generalize w.heap.size = z0 at *
  have KB0 := Lib.hid (Kept.refl W0)
  refine (refOfV_any vA vc v (by omega) slot W0 (HV.out.kept KB0.out)).mono ?_
  rintro e W1 ⟨al, hR, hRl, A1, c1, rfl, hC1, k⟩
  have KB1 := Lib.hid (KB0.out.trans k)
  clear k
  replace HA := Lib.hid (HA.out.kept KB1.out)
  replace HV := Lib.hid (HV.out.kept KB1.out)
  replace HB0 := Lib.hid (HB0.out.kept KB1.out)
  replace K0 := Lib.hid (K0.out.trans KB1.out)
  have KB2 := Lib.hid (Kept.refl W1)
  have HR := Lib.hid hC1
  clear hC1
  have HCn := Lib.hid hR
  clear hR
  obtain ⟨b00, b01, b02, b03, b04⟩ := (HB0.out.kept KB2.out).five
  have bz0 := (HB0.out.kept KB2.out).1
  go_wp2_with fail
  clear b00 b01 b02 b03 b04 bz0
  refine (refComm_any kA kc k slot W1 hk (HA.out.kept KB2.out) hsd).mono ?_
  rintro e W3 ⟨A2, c2, rfl, hC2, k⟩
  have KB3 := Lib.hid (KB2.out.trans k)
  clear k
  replace HA := Lib.hid (HA.out.kept KB3.out)
  replace HV := Lib.hid (HV.out.kept KB3.out)
  replace HR := Lib.hid (HR.out.kept KB3.out)
  replace HB0 := Lib.hid (HB0.out.kept KB3.out)
  replace K0 := Lib.hid (K0.out.trans KB3.out)
  have KB4 := Lib.hid (Kept.refl W3)
  have HCm := Lib.hid hC2
  clear hC2
  have HLn := Lib.hid (comm_len k slot)
  have HHi := Lib.hid (fun x => inC_has k slot x)
  generalize commC k slot = cm at *
  go_wp2_with fail
  go_loopw [7, 10] (fun u i w' => ∃ (j : Nat) (B : Option Addr) (d : Nat), j ≤ al.length ∧ i = .int .i64 j ∧ u = .slice B (goldL k slot (al.take j)).length d ∧ Vts W3 (goldL k slot (al.take j)) (.slice B (goldL k slot (al.take j)).length d) w') (fun _ i _ => al.length - (intOf i).toNat)
  case atStart => exact ⟨0, none, 0, by omega, rfl, rfl, Vts.nil _⟩
  case round =>
    obtain ⟨j, B, d, hj, rfl, rfl, hI⟩ := hrel
    have HI := Lib.hid hI
    clear hI
    have KB5 := Lib.hid (KB4.out.trans HI.out.2)
    by_cases hlt : j < al.length
    · obtain ⟨z, o, rfl, hb, x0, x1, x2, x3⟩ := vote_at (HR.out.kept KB5.out) hlt
      have HHit := Lib.hid (fun h => goldL_hit (k := k) (slot := slot) hlt h)
      have HMis := Lib.hid (fun h => goldL_miss (k := k) (slot := slot) hlt h)
      have HLe := Lib.hid (Nat.le_trans (goldL_le k slot (al.take j)) (List.length_take_le j al))
      generalize goldL k slot (al.take j) = O at *
      generalize al[j] = x at *
      go_wp2_with fail
      refine (refHas_any A2 c2 cm x.f wr HLn.out (HCm.out.kept KB5.out)).mono ?_
      rintro e V1 ⟨rfl, rfl⟩
      rw [HHi.out x.f]
      cases hin : inC k slot x.f with
      | true =>
        have HN := Lib.hid (HHit.out hin)
        have hol : O.length + 1 ≤ 10000000 := by have := HLe.out; omega
        clear HHit HMis
        go_wp2_with (refine wpList_vts _ rfl _ _ rfl W3 O _ (by rfl) (HI.out.alloc _) _ _ 1 1 [x] (by rfl) (by rfl) (votes_one_at (HasCells.new _ _ _ _ rfl)) hol ?_; intro v3 w3 HR3 _)
        obtain ⟨A3, c3, rfl⟩ := HR3.slice
        have HI3 := Lib.hid HR3
        clear HR3
        go_roundw
        case rel => exact ⟨j + 1, A3, c3, by omega, by go_num, by first | (rw [HN.out]; done) | (rw [HN.out]; simp; done), by rw [HN.out]; exact HI3.out⟩
        case measure => simp [intOf]; omega
      | false =>
        have HN := Lib.hid (HMis.out hin)
        clear HHit HMis
        go_wp2_with fail
        go_roundw
        case rel => exact ⟨j + 1, B, d, by omega, by go_num, by rw [HN.out], by rw [HN.out]; exact HI.out⟩
        case measure => simp [intOf]; omega
    · have hjl : j = al.length := by omega
      subst hjl
      rw [List.take_length] at HI ⊢
      have HG := Lib.hid (golds_of (k := k) HCn.out)
      have HGl := Lib.hid (Nat.le_trans (goldL_le k slot al) hRl)
      go_wp2_with fail
      go_ret
      exact ⟨goldL k slot al, B, d, HG.out, HGl.out, rfl, CellsAt.of_own HI.out.1, K0.out.trans KB5.out⟩
set_option maxRecDepth 100000 in
set_option maxHeartbeats 3200000 in
theorem refGoldHead_any (kA : Option Addr) (kc : Nat) (k : Cf) (lA : Option Addr) (lc : Nat) (l : List Bk) (vA : Option Addr) (vc : Nat) (v : List Vt) (slot : Int) (w : World)
    (hk : k.ws.length ≤ 1000) (hsd : k.seed < 18446744073709551616) (hl : l.length ≤ 10000) (hv : v.length ≤ 10000) (hwl : WfL l) (hA : CellsAt w w.heap.size kA (intCells k.ws)) (hL : CellsAt w w.heap.size lA (blockCells l)) (hV : CellsAt w w.heap.size vA (votesCells v)) :
    Calls Tryz.prog 15 #[.agg #[.slice kA k.ws.length kc, .int .u64 k.seed, .int .i64 k.ep, .int .i64 k.nu, .int .i64 k.de], .agg #[.slice lA l.length lc, .slice vA v.length vc], .int .i64 slot] w fun e w' => ∃ R, Golds k slot v R ∧ e = .returned (.agg #[.int .u64 (headC k l R).1, .int .u64 (headC k l R).2]) ∧ Kept w w' := by
  have KA0 := Lib.hid (((Kept.refl w).alloc (.cells #[.slice kA k.ws.length kc, .int .u64 k.seed, .int .i64 k.ep, .int .i64 k.nu, .int .i64 k.de] 25)).alloc (.cells #[.slice lA l.length lc, .slice vA v.length vc] 29))
  have HC := Lib.hid ((HasCells.new w #[.slice kA k.ws.length kc, .int .u64 k.seed, .int .i64 k.ep, .int .i64 k.nu, .int .i64 k.de] 25 w.heap.size rfl).alloc (.cells #[.slice lA l.length lc, .slice vA v.length vc] 29))
  have HW := Lib.hid (HasCells.new (w.alloc (.cells #[.slice kA k.ws.length kc, .int .u64 k.seed, .int .i64 k.ep, .int .i64 k.nu, .int .i64 k.de] 25)) #[.slice lA l.length lc, .slice vA v.length vc] 29 (w.heap.size + 1) (by simp))
  have HA := Lib.hid (hA.kept KA0.out)
  have HL := Lib.hid (hL.kept KA0.out)
  have HV := Lib.hid (hV.kept KA0.out)
  clear hA hL hV
  have HZ := Lib.hid (show AtI (((w.alloc (.cells #[.slice kA k.ws.length kc, .int .u64 k.seed, .int .i64 k.ep, .int .i64 k.nu, .int .i64 k.de] 25)).alloc (.cells #[.slice lA l.length lc, .slice vA v.length vc] 29)).alloc (.cells #[.int .u64 0, .int .u64 0] 35)) (w.heap.size + 1 + 1) zid from AtI.new _ zid _ (by simp))
  have HSz := Lib.hid (show ((w.alloc (.cells #[.slice kA k.ws.length kc, .int .u64 k.seed, .int .i64 k.ep, .int .i64 k.nu, .int .i64 k.de] 25)).alloc (.cells #[.slice lA l.length lc, .slice vA v.length vc] 29)).heap.size ≤ w.heap.size + 1 + 1 by simp)
  go_enter Tryz.func15, Tryz.ntmps15
  go_wp2_with fail
  generalize ((w.alloc (.cells #[.slice kA k.ws.length kc, .int .u64 k.seed, .int .i64 k.ep, .int .i64 k.nu, .int .i64 k.de] 25)).alloc (.cells #[.slice lA l.length lc, .slice vA v.length vc] 29)) = Wa at *
  generalize w.heap.size + 1 + 1 = z2 at *
  generalize w.heap.size + 1 = z1 at *
  generalize w.heap.size = z0 at *
  obtain ⟨c0, c1_, c2, c3, c4⟩ := HC.out.five
  obtain ⟨v0, v1⟩ := HW.out.two
  have hbc := HC.out.1
  have hbv := HW.out.1
  refine wp_region_noPanic ?_
  refine wp_region_held_drew (S := (fun w' => w'.cell? ⟨z0, 0, none⟩ = some (.slice kA k.ws.length kc) ∧ w'.cell? ⟨z0, 1, none⟩ = some (.int .u64 k.seed) ∧ w'.cell? ⟨z0, 2, none⟩ = some (.int .i64 k.ep) ∧ w'.cell? ⟨z0, 3, none⟩ = some (.int .i64 k.nu) ∧ w'.cell? ⟨z0, 4, none⟩ = some (.int .i64 k.de) ∧ w'.cell? ⟨z1, 0, none⟩ = some (.slice lA l.length lc) ∧ w'.cell? ⟨z1, 1, none⟩ = some (.slice vA v.length vc) ∧ Kept Wa w')) (by kernel_rfl) ?_ (fun hHeld => ?_)
  · exact keepP7 hbc hbc hbc hbc hbc hbv hbv ⟨c0, c1_, c2, c3, c4, v0, v1, Kept.refl _⟩ (((Kept.refl _).alloc _).drew)
  refine wpAnyH_take (i := 0) (v := ?_) (by simp only [List.getElem?_toArray, List.getElem?_cons_succ, List.getElem?_cons_zero]; rfl) (by kernel_rfl) (by kernel_rfl) (by kernel_rfl) (fun _ _ _ h => h) (Or.inl ⟨by rfl, ?_⟩) (by assumption) ?_
  rotate_left
  · intro w hSw
    (try dsimp only at hSw)
    go_simp
    (try with_reducible rfl)
  simp only [Act.put, List.setIfInBounds_toArray, List.set_cons_zero, List.set_cons_succ]
  refine wpAnyH_take (i := 1) (v := ?_) (by simp only [List.getElem?_toArray, List.getElem?_cons_succ, List.getElem?_cons_zero]; rfl) (by kernel_rfl) (by kernel_rfl) (by kernel_rfl) (fun _ _ _ h => h) (Or.inl ⟨by rfl, ?_⟩) (by assumption) ?_
  rotate_left
  · intro w hSw
    (try dsimp only at hSw)
    go_simp
    (try with_reducible rfl)
  simp only [Act.put, List.setIfInBounds_toArray, List.set_cons_zero, List.set_cons_succ]
  refine wpAnyH_take (i := 2) (v := ?_) (by simp only [List.getElem?_toArray, List.getElem?_cons_succ, List.getElem?_cons_zero]; rfl) (by kernel_rfl) (by kernel_rfl) (by kernel_rfl) (fun _ _ _ h => h) (Or.inl ⟨by rfl, ?_⟩) (by assumption) ?_
  rotate_left
  · intro w hSw
    (try dsimp only at hSw)
    go_simp
    (try with_reducible rfl)
  simp only [Act.put, List.setIfInBounds_toArray, List.set_cons_zero, List.set_cons_succ]
  refine wpAnyH_take (i := 3) (v := ?_) (by simp only [List.getElem?_toArray, List.getElem?_cons_succ, List.getElem?_cons_zero]; rfl) (by kernel_rfl) (by kernel_rfl) (by kernel_rfl) (fun _ _ _ h => h) (Or.inl ⟨by rfl, ?_⟩) (by assumption) ?_
  rotate_left
  · intro w hSw
    (try dsimp only at hSw)
    go_simp
    (try with_reducible rfl)
  simp only [Act.put, List.setIfInBounds_toArray, List.set_cons_zero, List.set_cons_succ]
  refine wpAnyH_take (i := 4) (v := ?_) (by simp only [List.getElem?_toArray, List.getElem?_cons_succ, List.getElem?_cons_zero]; rfl) (by kernel_rfl) (by kernel_rfl) (by kernel_rfl) (fun _ _ _ h => h) (Or.inl ⟨by rfl, ?_⟩) (by assumption) ?_
  rotate_left
  · intro w hSw
    (try dsimp only at hSw)
    go_simp
    (try with_reducible rfl)
  simp only [Act.put, List.setIfInBounds_toArray, List.set_cons_zero, List.set_cons_succ]
  refine wpAnyH_take (i := 5) (v := ?_) (by simp only [List.getElem?_toArray, List.getElem?_cons_succ, List.getElem?_cons_zero]; rfl) (by kernel_rfl) (by kernel_rfl) (by kernel_rfl) (fun _ _ _ h => h) (Or.inl ⟨by rfl, ?_⟩) (by assumption) ?_
  rotate_left
  · intro w hSw
    (try dsimp only at hSw)
    go_simp
    (try with_reducible rfl)
  simp only [Act.put, List.setIfInBounds_toArray, List.set_cons_zero, List.set_cons_succ]
  refine wpAnyH_take (i := 6) (v := ?_) (by simp only [List.getElem?_toArray, List.getElem?_cons_succ, List.getElem?_cons_zero]; rfl) (by kernel_rfl) (by kernel_rfl) (by kernel_rfl) (fun _ _ _ h => h) (Or.inl ⟨by rfl, ?_⟩) (by assumption) ?_
  rotate_left
  · intro w hSw
    (try dsimp only at hSw)
    go_simp
    (try with_reducible rfl)
  simp only [Act.put, List.setIfInBounds_toArray, List.set_cons_zero, List.set_cons_succ]
  refine wpAnyH_ready (rs := [7]) (by kernel_rfl) (by simp) ?_
  refine AllReadyH.cons (by simp only [List.getElem?_toArray, List.getElem?_cons_succ, List.getElem?_cons_zero]; rfl) (fun K hK => ?_) AllReadyH.nil
  go_simp
  go_at_call 13; with_reducible refine (refGoldOf_any kA kc k vA vc v slot _ hk hsd hv (HA.out.kept hHeld.2.2.2.2.2.2.2) (HV.out.kept hHeld.2.2.2.2.2.2.2)).mono ?_
  rintro e w1 ⟨R, A1, c1, hR, hRl, rfl, hC1, kk⟩
  have k1 := kk
  try go_wp2_with fail
  refine hK.out _ _ ?_ (fun hHeld2 => ?_)
  · (first | exact keepP7 hbc hbc hbc hbc hbc hbv hbv ⟨c0, c1_, c2, c3, c4, v0, v1, Kept.refl _⟩ kk | exact keepP7 hbc hbc hbc hbc hbc hbv hbv hHeld kk)
  clear hK K hHeld
  have hHeld := hHeld2
  clear hHeld2
  try simp only [Act.put, List.setIfInBounds_toArray, List.set_cons_zero, List.set_cons_succ]
  refine wpAnyH_ready (rs := [8]) (by kernel_rfl) (by simp) ?_
  refine AllReadyH.cons (by simp only [List.getElem?_toArray, List.getElem?_cons_succ, List.getElem?_cons_zero]; rfl) (fun K hK => ?_) AllReadyH.nil
  go_simp
  go_at_call 33; with_reducible refine (refHead_any kA kc k lA lc l A1 c1 R _ hk (by omega) (by omega) hwl (HA.out.kept hHeld.2.2.2.2.2.2.2) (HL.out.kept hHeld.2.2.2.2.2.2.2) hC1).mono ?_
  rintro e w2 ⟨rfl, kk⟩
  have k2 := kk
  have hKw2 := (hHeld.2.2.2.2.2.2.2).trans kk
  obtain ⟨h, hh⟩ : ∃ h, h = headC k l R := ⟨_, rfl⟩
  rw [← hh]
  have HEh := Lib.hid hh
  clear hh
  try go_wp2_with fail
  refine hK.out _ _ ?_ (fun hHeld2 => ?_)
  · (first | exact keepP7 hbc hbc hbc hbc hbc hbv hbv ⟨c0, c1_, c2, c3, c4, v0, v1, Kept.refl _⟩ kk | exact keepP7 hbc hbc hbc hbc hbc hbv hbv hHeld kk)
  clear hK K hHeld
  have hHeld := hHeld2
  clear hHeld2
  try simp only [Act.put, List.setIfInBounds_toArray, List.set_cons_zero, List.set_cons_succ]
  refine wpAnyH_ready (rs := [9]) (by kernel_rfl) (by simp) ?_
  refine AllReadyH.cons (by simp only [List.getElem?_toArray, List.getElem?_cons_succ, List.getElem?_cons_zero]; rfl) (fun K hK => ?_) AllReadyH.nil
  have HZ3 := Lib.hid (((HZ.out.kept (Kept.refl _).drew).kept k1).kept k2)
  have r0 := HZ3.out.c0
  have r1 := HZ3.out.c1
  have hbr := HZ3.out.lt
  have f0 := HZ3.out.fr 0
  have f1 := HZ3.out.fr 1
  have kk := ((hKw2.setCell (p := ⟨z2, 0, none⟩) HSz.out (.int .u64 h.1)).setCell (p := ⟨z2, 1, none⟩) HSz.out (.int .u64 h.2))
  go_simp
  try go_wp2_with fail
  refine hK.out _ _ ?_ (fun hHeld2 => ?_)
  · (first | exact keepP7 hbc hbc hbc hbc hbc hbv hbv ⟨c0, c1_, c2, c3, c4, v0, v1, Kept.refl _⟩ kk | exact keepP7 hbc hbc hbc hbc hbc hbv hbv hHeld kk)
  clear hK K hHeld
  have hHeld := hHeld2
  clear hHeld2
  try simp only [Act.put, List.setIfInBounds_toArray, List.set_cons_zero, List.set_cons_succ]
  refine wpAnyH_done (by kernel_rfl) ?_ _
  refine NoPanic.normal ?_
  go_wp2_with fail
  refine bodyPost_ret (v := .agg #[.int .u64 h.1, .int .u64 h.2]) (by simp [results, Tryz.results15, go_sem, r0, r1]) rfl ⟨R, hR, by rw [← HEh.out], ?_⟩
  exact KA0.out.trans kk

end Go.Proofs.YtlapcnfhnfkbmaaGreat
