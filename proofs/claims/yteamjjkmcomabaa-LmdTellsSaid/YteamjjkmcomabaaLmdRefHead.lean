/-
  The contract of Head of the given package marigoldref13.
-/
import Derived.Test.YteamjjkmcomabaaLmdRef
import Derived.Test.YteamjjkmcomabaaIdBox
import Derived.Test.YteamjjkmcomabaaTreeRefG
import Derived.Test.YteamjjkmcomabaaMixRefLess
import Derived.Test.YteamjjkmcomabaaKeepT
namespace Go.Proofs.Yteamjjkmcomabaa
set_option maxRecDepth 100000
set_option linter.unusedVariables false
set_option linter.unusedSimpArgs false
set_option linter.unusedSimpArgs false
set_option linter.unusedVariables false
open Go.ChangeShapes Go.WideShapes Go.ChangeAt Go.RowKit

set_option maxRecDepth 100000 in
set_option maxHeartbeats 12800000 in
theorem refHeadB_any (kA : Option Addr) (kc : Nat) (k : Cf) (lA : Option Addr) (lc : Nat) (l : List Bk) (vA : Option Addr) (vc : Nat) (v : List Vt) (upto : Int) (bo : Id2) (pct : Int) (w : World)
    (hk : k.ws.length ≤ 1000) (hl : l.length ≤ 1000000) (hv : v.length ≤ 100000) (hwl : WfL l) (hA : CellsAt w w.heap.size kA (intCells k.ws)) (hL : CellsAt w w.heap.size lA (blockCells l)) (hV : CellsAt w w.heap.size vA (votesCells v)) :
    Calls Try.prog 13 #[.agg #[.slice kA k.ws.length kc, .int .u64 k.seed, .int .i64 k.ep, .int .i64 k.nu, .int .i64 k.de], .slice lA l.length lc, .slice vA v.length vc, .int .i64 upto, .agg #[.int .u64 bo.1, .int .u64 bo.2], .int .i64 pct] w fun e w' => ∃ R, Cnts v (upQ upto) R ∧ e = .returned (.agg #[.int .u64 (headG (onB k l R bo pct) l).1, .int .u64 (headG (onB k l R bo pct) l).2]) ∧ Kept w w' := by
  go_enter Try.func13, Try.ntmps13
  go_wp2_with fail
  have K0 := Lib.hid ((((Kept.refl w).alloc (.cells #[.slice kA k.ws.length kc, .int .u64 k.seed, .int .i64 k.ep, .int .i64 k.nu, .int .i64 k.de] 25)).alloc (.cells #[.int .u64 bo.1, .int .u64 bo.2] 29)).alloc (.cells #[.int .u64 0, .int .u64 0] 29))
  have HA := Lib.hid (hA.kept K0.out)
  clear hA
  have HL := Lib.hid (hL.kept K0.out)
  clear hL
  have HV := Lib.hid (hV.kept K0.out)
  clear hV
  have HB0 := Lib.hid (((HasCells.new w #[.slice kA k.ws.length kc, .int .u64 k.seed, .int .i64 k.ep, .int .i64 k.nu, .int .i64 k.de] 25 (w.heap.size) (by simp)).alloc (.cells #[.int .u64 bo.1, .int .u64 bo.2] 29)).alloc (.cells #[.int .u64 0, .int .u64 0] 29))
  have HB1 := Lib.hid ((HasCells.new (w.alloc (.cells #[.slice kA k.ws.length kc, .int .u64 k.seed, .int .i64 k.ep, .int .i64 k.nu, .int .i64 k.de] 25)) #[.int .u64 bo.1, .int .u64 bo.2] 29 (w.heap.size + 1) (by simp)).alloc (.cells #[.int .u64 0, .int .u64 0] 29))
  have HB2 := Lib.hid (HasCells.new ((w.alloc (.cells #[.slice kA k.ws.length kc, .int .u64 k.seed, .int .i64 k.ep, .int .i64 k.nu, .int .i64 k.de] 25)).alloc (.cells #[.int .u64 bo.1, .int .u64 bo.2] 29)) #[.int .u64 0, .int .u64 0] 29 (w.heap.size + 1 + 1) (by simp))
  have HRb := Lib.hid (show AtI (((w.alloc (.cells #[.slice kA k.ws.length kc, .int .u64 k.seed, .int .i64 k.ep, .int .i64 k.nu, .int .i64 k.de] 25)).alloc (.cells #[.int .u64 bo.1, .int .u64 bo.2] 29)).alloc (.cells #[.int .u64 0, .int .u64 0] 29)) (w.heap.size + 1 + 1) zid from AtI.new _ zid _ (by simp))
  have HZ2 := Lib.hid (show w.heap.size ≤ w.heap.size + 1 + 1 by omega)
  generalize (((w.alloc (.cells #[.slice kA k.ws.length kc, .int .u64 k.seed, .int .i64 k.ep, .int .i64 k.nu, .int .i64 k.de] 25)).alloc (.cells #[.int .u64 bo.1, .int .u64 bo.2] 29)).alloc (.cells #[.int .u64 0, .int .u64 0] 29)) = W0 at *
  generalize w.heap.size + 1 + 1 = z2 at *
  generalize w.heap.size + 1 = z1 at *
  generalize hz0 : w.heap.size = z0 at *
  have HZ0 := Lib.hid hz0
  clear hz0
  have KB0 := Lib.hid (Kept.refl W0)
  refine (refLast_any vA vc v (by omega) upto W0 (HV.out.kept KB0.out)).mono ?_
  rintro e W1 ⟨R, hR, hRl, A1, c1, rfl, hC1, k⟩
  replace HRb := Lib.hid (HRb.out.kept k)
  have KB1 := Lib.hid (KB0.out.trans k)
  clear k
  replace HA := Lib.hid (HA.out.kept KB1.out)
  replace HL := Lib.hid (HL.out.kept KB1.out)
  replace HV := Lib.hid (HV.out.kept KB1.out)
  replace HB0 := Lib.hid (HB0.out.kept KB1.out)
  replace HB1 := Lib.hid (HB1.out.kept KB1.out)
  replace HB2 := Lib.hid (HB2.out.kept KB1.out)
  replace K0 := Lib.hid (K0.out.trans KB1.out)
  have KB2 := Lib.hid (Kept.refl W1)
  have HRw := Lib.hid hC1
  clear hC1
  have HR := Lib.hid hR
  clear hR
  have HOn := Lib.hid (fun x w' (kk : Kept W1 w') => refOnL_any kA kc k lA lc l A1 c1 R bo pct x w' hk hl (by omega) hwl (HA.out.kept kk) (HL.out.kept kk) (HRw.out.kept kk))
  obtain ⟨g, hg⟩ : ∃ g, g = onB k l R bo pct := ⟨_, rfl⟩
  rw [← hg] at HOn
  have HG := Lib.hid hg
  clear hg
  go_wp2_with fail
  obtain ⟨zi, hzi⟩ : ∃ zi, zi = W1.heap.size := ⟨_, rfl⟩
  rw [← hzi]
  have HZi := Lib.hid (Nat.le_of_eq hzi.symm)
  have HI0 := Lib.hid (show AtI (W1.alloc (.cells #[.int .u64 0, .int .u64 0] 29)) zi zid from AtI.new _ zid _ hzi)
  clear hzi
  go_loopw [15] (fun i w' => ∃ (cur : Id2) (j : Nat), i = .int .i64 j ∧ AtI w' zi cur ∧ Kept W1 w' ∧ j ≤ rank l cur ∧ headGX g l cur = headG g l) (fun i _ => l.length + 1 - (intOf i).toNat)
  case atStart => exact ⟨zid, 0, rfl, HI0.out, (Kept.refl _).alloc _, Nat.zero_le _, rfl⟩
  case round =>
    obtain ⟨cur, j, rfl, hI, hKr, hj, hH⟩ := hrel
    clear HI0
    have HI := Lib.hid hI
    have HKr := Lib.hid hKr
    have HH := Lib.hid hH
    have hjl : j ≤ l.length := Nat.le_trans hj (rank_le l cur)
    have hjl2 : decide ((j : Int) ≤ (l.length : Int)) = true := decide_eq_true (by omega)
    have HJ := Lib.hid hj
    clear hI hKr hH hj
    have KB3 := Lib.hid (KB2.out.trans HKr.out)
    have i0 := HI.out.c0
    have i1 := HI.out.c1
    have hbi := HI.out.lt
    go_wp2_with fail
    refine (refKids_any lA lc l hl hwl cur wr (HL.out.kept KB3.out)).mono ?_
    rintro e W4 ⟨kA2, kc2, rfl, hK, _, k⟩
    replace HI := Lib.hid (HI.out.kept k)
    replace HKr := Lib.hid (HKr.out.trans k)
    have KB4 := Lib.hid (KB3.out.trans k)
    clear k
    have HKi := Lib.hid hK
    clear hK i0 i1 hbi
    have HBn := Lib.hid (fun (h : kidsC l cur = []) => headGX_stop (show bestG g l cur = none by unfold bestG; rw [h]; rfl))
    have HBs := Lib.hid (fun y (h : bestTo g (kidsC l cur) = some y) => (⟨headGX_step (g := g) (x := cur) h, bestG_rank (g := g) (x := cur) h⟩ : _ ∧ _))
    have hkl : (kidsC l cur).length ≤ 1000000 := Nat.le_trans (kids_len l cur) hl
    have HKw := Lib.hid (fun y (h : y ∈ kidsC l cur) => kids_wf l cur y h)
    generalize kidsC l cur = ks at *
    by_cases h0 : ks.length = 0
    · have hn : ks = [] := List.eq_nil_of_length_eq_zero h0
      have HE := Lib.hid (HH.out.symm.trans (HBn.out hn))
      subst hn
      have i0 := HI.out.c0
      have i1 := HI.out.c1
      have hbi := HI.out.lt
      have HRn := Lib.hid (HRb.out.kept HKr.out)
      have r0 := HRn.out.c0
      have r1 := HRn.out.c1
      have hbr := HRn.out.lt
      have f0 := HRn.out.fr 0
      have f1 := HRn.out.fr 1
      have hlz : (([] : List Id2).length : Int) = 0 := rfl
      go_wp2_with fail
      refine bodyPost_ret (v := .agg #[.int .u64 cur.1, .int .u64 cur.2]) (by simp [results, Try.results13, go_sem, r0, r1]) rfl ⟨R, HR.out, by rw [← HG.out, HE.out], ?_⟩
      exact ((K0.out.trans HKr.out).setCell (p := ⟨z2, 0, none⟩) (Nat.le_trans (Nat.le_of_eq HZ0.out) HZ2.out) _).setCell (p := ⟨z2, 1, none⟩) (Nat.le_trans (Nat.le_of_eq HZ0.out) HZ2.out) _
    · have h0p : 0 < ks.length := by omega
      have h0b : ((ks.length : Int) == 0) = false := by rw [beq_eq_false_iff_ne]; omega
      obtain ⟨zk, ok, hzk, hbk, x0, x1⟩ := id_at HKi.out h0p
      subst hzk
      have HBo := Lib.hid (bestI_one (g := g) h0p)
      simp only [Nat.zero_mul, Nat.add_zero] at x0 x1
      generalize ks[0] = fst at *
      obtain ⟨zb, hzb⟩ : ∃ zb, zb = W4.heap.size := ⟨_, rfl⟩
      have HAb := Lib.hid (AtI.new W4 fst zb hzb)
      have HKb := Lib.hid ((Kept.refl W4).alloc (.cells #[.int .u64 fst.1, .int .u64 fst.2] 29))
      have HZb := Lib.hid (Nat.le_of_eq hzb.symm)
      obtain ⟨b00, b01, b02, b03, b04⟩ := (HB0.out.kept KB4.out).five
      have bz0 := (HB0.out.kept KB4.out).1
      obtain ⟨b10, b11⟩ := (HB1.out.kept KB4.out).two
      have bz1 := (HB1.out.kept KB4.out).1
      go_wp2_with fail
      clear b00 b01 b02 b03 b04 bz0 b10 b11 bz1
      clear x0 x1
      rw [← hzb]
      clear hzb
      generalize (W4.alloc (.cells #[.int .u64 fst.1, .int .u64 fst.2] 29)) = V0 at *
      refine (HOn.out fst V0 (HKr.out.trans HKb.out)).mono ?_
      rintro e V1 ⟨rfl, k⟩
      replace HAb := Lib.hid (HAb.out.kept k)
      replace HKb := Lib.hid (HKb.out.trans k)
      clear k
      go_wp2_with fail
      go_loopw [18, 19] (fun u i w' => ∃ (m : Nat) (b : Id2), 1 ≤ m ∧ m ≤ ks.length ∧ i = .int .i64 m ∧ u = .int .i64 (g b) ∧ bestTo g (ks.take m) = some b ∧ AtI w' zb b ∧ Kept W4 w') (fun _ i _ => ks.length - (intOf i).toNat)
      case atStart => exact ⟨1, fst, by omega, by omega, rfl, rfl, HBo.out, HAb.out, HKb.out⟩
      case round =>
        clear HAb HKb HBo
        obtain ⟨m, b, hm1, hm, rfl, rfl, hB, hAb, hKb⟩ := hrel
        have HBm := Lib.hid hB
        have HAb := Lib.hid hAb
        have HKb := Lib.hid hKb
        clear hB hAb hKb
        have KBi := Lib.hid (HKr.out.trans HKb.out)
        by_cases hlt : m < ks.length
        · obtain ⟨zq, oq, hzq, hbq, x0, x1⟩ := id_at (HKi.out.kept HKb.out) hlt
          injection hzq with hzq
          injection hzq with hz1 hz2 _
          subst hz1 hz2
          have HHit := Lib.hid (fun h => bestI_hit hlt HBm.out h)
          have HMis := Lib.hid (fun h => bestI_miss hlt HBm.out h)
          generalize ks[m] = x at *
          have HOx := Lib.hid (fun w' (kk : Kept wr w') => HOn.out x w' (KBi.out.trans kk))
          have a0 := HAb.out.c0
          have a1 := HAb.out.c1
          have hba := HAb.out.lt
          obtain ⟨b00, b01, b02, b03, b04⟩ := (HB0.out.kept KBi.out).five
          have bz0 := (HB0.out.kept KBi.out).1
          obtain ⟨b10, b11⟩ := (HB1.out.kept KBi.out).two
          have bz1 := (HB1.out.kept KBi.out).1
          go_wp2_with fail
          refine wp_region_noPanic ?_
          refine wp_region_held_drew (S := (fun w' => w'.cell? ⟨z0, 0, none⟩ = some (.slice kA k.ws.length kc) ∧ w'.cell? ⟨z0, 1, none⟩ = some (.int .u64 k.seed) ∧ w'.cell? ⟨z0, 2, none⟩ = some (.int .i64 k.ep) ∧ w'.cell? ⟨z0, 3, none⟩ = some (.int .i64 k.nu) ∧ w'.cell? ⟨z0, 4, none⟩ = some (.int .i64 k.de) ∧ w'.cell? ⟨z1, 0, none⟩ = some (.int .u64 bo.1) ∧ w'.cell? ⟨z1, 1, none⟩ = some (.int .u64 bo.2) ∧ w'.cell? ⟨zk, ok + m * 2, none⟩ = some (.int .u64 x.1) ∧ w'.cell? ⟨zk, ok + m * 2 + 1, none⟩ = some (.int .u64 x.2) ∧ Kept wr w')) (by kernel_rfl) ?_ (fun hHeld => ?_)
          · exact ⟨b00, b01, b02, b03, b04, b10, b11, x0, x1, (Kept.refl _).drew⟩
          refine wpAnyH_take (i := 0) (v := ?_) (by simp only [List.getElem?_toArray, List.getElem?_cons_succ, List.getElem?_cons_zero]; rfl) (by kernel_rfl) (by kernel_rfl) (by kernel_rfl) (fun _ _ _ h => h) (Or.inl ⟨by rfl, ?_⟩) (by assumption) ?_
          rotate_left
          · intro w hSw
            (try dsimp only at hSw)
            go_simp
            (try with_reducible rfl)
          simp only [Act.put, List.setIfInBounds_toArray, List.set_cons_zero, List.set_cons_succ]
          refine wpAnyH_take (i := 1) (v := ?_) (by simp only [List.getElem?_toArray, List.getElem?_cons_succ, List.getElem?_cons_zero]; rfl) (by kernel_rfl) (by kernel_rfl) (by kernel_rfl) (fun _ _ _ h => h) (Or.inl ⟨by rfl, ?_⟩) (by assumption) ?_
          rotate_left
          · intro w hSw
            (try dsimp only at hSw)
            go_simp
            (try with_reducible rfl)
          simp only [Act.put, List.setIfInBounds_toArray, List.set_cons_zero, List.set_cons_succ]
          refine wpAnyH_take (i := 2) (v := ?_) (by simp only [List.getElem?_toArray, List.getElem?_cons_succ, List.getElem?_cons_zero]; rfl) (by kernel_rfl) (by kernel_rfl) (by kernel_rfl) (fun _ _ _ h => h) (Or.inl ⟨by rfl, ?_⟩) (by assumption) ?_
          rotate_left
          · intro w hSw
            (try dsimp only at hSw)
            go_simp
            (try with_reducible rfl)
          simp only [Act.put, List.setIfInBounds_toArray, List.set_cons_zero, List.set_cons_succ]
          refine wpAnyH_take (i := 3) (v := ?_) (by simp only [List.getElem?_toArray, List.getElem?_cons_succ, List.getElem?_cons_zero]; rfl) (by kernel_rfl) (by kernel_rfl) (by kernel_rfl) (fun _ _ _ h => h) (Or.inl ⟨by rfl, ?_⟩) (by assumption) ?_
          rotate_left
          · intro w hSw
            (try dsimp only at hSw)
            go_simp
            (try with_reducible rfl)
          simp only [Act.put, List.setIfInBounds_toArray, List.set_cons_zero, List.set_cons_succ]
          refine wpAnyH_take (i := 4) (v := ?_) (by simp only [List.getElem?_toArray, List.getElem?_cons_succ, List.getElem?_cons_zero]; rfl) (by kernel_rfl) (by kernel_rfl) (by kernel_rfl) (fun _ _ _ h => h) (Or.inl ⟨by rfl, ?_⟩) (by assumption) ?_
          rotate_left
          · intro w hSw
            (try dsimp only at hSw)
            go_simp
            (try with_reducible rfl)
          simp only [Act.put, List.setIfInBounds_toArray, List.set_cons_zero, List.set_cons_succ]
          refine wpAnyH_take (i := 5) (v := ?_) (by simp only [List.getElem?_toArray, List.getElem?_cons_succ, List.getElem?_cons_zero]; rfl) (by kernel_rfl) (by kernel_rfl) (by kernel_rfl) (fun _ _ _ h => h) (Or.inl ⟨by rfl, ?_⟩) (by assumption) ?_
          rotate_left
          · intro w hSw
            (try dsimp only at hSw)
            go_simp
            (try with_reducible rfl)
          simp only [Act.put, List.setIfInBounds_toArray, List.set_cons_zero, List.set_cons_succ]
          refine wpAnyH_take (i := 6) (v := ?_) (by simp only [List.getElem?_toArray, List.getElem?_cons_succ, List.getElem?_cons_zero]; rfl) (by kernel_rfl) (by kernel_rfl) (by kernel_rfl) (fun _ _ _ h => h) (Or.inl ⟨by rfl, ?_⟩) (by assumption) ?_
          rotate_left
          · intro w hSw
            (try dsimp only at hSw)
            go_simp
            (try with_reducible rfl)
          simp only [Act.put, List.setIfInBounds_toArray, List.set_cons_zero, List.set_cons_succ]
          refine wpAnyH_take (i := 7) (v := ?_) (by simp only [List.getElem?_toArray, List.getElem?_cons_succ, List.getElem?_cons_zero]; rfl) (by kernel_rfl) (by kernel_rfl) (by kernel_rfl) (fun _ _ _ h => h) (Or.inl ⟨by rfl, ?_⟩) (by assumption) ?_
          rotate_left
          · intro w hSw
            (try dsimp only at hSw)
            go_simp
            (try with_reducible rfl)
          simp only [Act.put, List.setIfInBounds_toArray, List.set_cons_zero, List.set_cons_succ]
          refine wpAnyH_take (i := 8) (v := ?_) (by simp only [List.getElem?_toArray, List.getElem?_cons_succ, List.getElem?_cons_zero]; rfl) (by kernel_rfl) (by kernel_rfl) (by kernel_rfl) (fun _ _ _ h => h) (Or.inl ⟨by rfl, ?_⟩) (by assumption) ?_
          rotate_left
          · intro w hSw
            (try dsimp only at hSw)
            go_simp
            (try with_reducible rfl)
          simp only [Act.put, List.setIfInBounds_toArray, List.set_cons_zero, List.set_cons_succ]
          refine wpAnyH_ready (rs := [9]) (by kernel_rfl) (by simp) ?_
          refine AllReadyH.cons (by simp only [List.getElem?_toArray, List.getElem?_cons_succ, List.getElem?_cons_zero]; rfl) (fun K hK => ?_) AllReadyH.nil
          go_simp
          go_at_call 26; with_reducible refine (HOx.out _ hHeld.2.2.2.2.2.2.2.2.2).mono ?_
          rintro e w' ⟨rfl, kk⟩
          try go_wp2_with fail
          refine hK.out _ _ ?_ (fun hHeld2 => ?_)
          · exact keepP9 bz0 bz0 bz0 bz0 bz0 bz1 bz1 hbq hbq hHeld kk
          clear hK K hHeld
          have hHeld := hHeld2
          clear hHeld2
          try simp only [Act.put, List.setIfInBounds_toArray, List.set_cons_zero, List.set_cons_succ]
          refine wpAnyH_take (i := 10) (v := ?_) (by simp only [List.getElem?_toArray, List.getElem?_cons_succ, List.getElem?_cons_zero]; rfl) (by kernel_rfl) (by kernel_rfl) (by kernel_rfl) (fun _ _ _ h => h) (Or.inl ⟨by rfl, ?_⟩) (by assumption) ?_
          rotate_left
          · intro w hSw
            (try dsimp only at hSw)
            go_simp
            (try with_reducible rfl)
          simp only [Act.put, List.setIfInBounds_toArray, List.set_cons_zero, List.set_cons_succ]
          refine wpAnyH_done (by kernel_rfl) ?_ _
          refine NoPanic.normal ?_
          have k := hHeld.2.2.2.2.2.2.2.2.2
          clear hHeld HOx
          clear b00 b01 b02 b03 b04 bz0 b10 b11 bz1
          have x0 := (k.cell (p := ⟨zk, ok + m * 2, none⟩) hbq).trans x0
          have x1 := (k.cell (p := ⟨zk, ok + m * 2 + 1, none⟩) hbq).trans x1
          have hbq := Nat.lt_of_lt_of_le hbq k.size_le
          replace HAb := Lib.hid (HAb.out.kept k)
          replace HKb := Lib.hid (HKb.out.trans k)
          clear k a0 a1 hba
          generalize w' = V2 at *
          have a0 := HAb.out.c0
          have a1 := HAb.out.c1
          have hba := HAb.out.lt
          go_wp2_with fail
          refine wp_region_noPanic ?_
          refine wp_region_held_drew (S := (fun w' => w'.cell? ⟨zb, 0, none⟩ = some (.int .u64 b.1) ∧ w'.cell? ⟨zb, 1, none⟩ = some (.int .u64 b.2) ∧ w'.cell? ⟨zk, ok + m * 2, none⟩ = some (.int .u64 x.1) ∧ w'.cell? ⟨zk, ok + m * 2 + 1, none⟩ = some (.int .u64 x.2) ∧ Kept V2 w')) (by kernel_rfl) ?_ (fun hHeld => ?_)
          · exact ⟨a0, a1, x0, x1, (Kept.refl _).drew⟩
          refine wpAnyH_take (i := 0) (v := ?_) (by simp only [List.getElem?_toArray, List.getElem?_cons_succ, List.getElem?_cons_zero]; rfl) (by kernel_rfl) (by kernel_rfl) (by kernel_rfl) (fun _ _ _ h => h) (Or.inl ⟨by rfl, ?_⟩) (by assumption) ?_
          rotate_left
          · intro w hSw
            (try dsimp only at hSw)
            go_simp
            (try with_reducible rfl)
          simp only [Act.put, List.setIfInBounds_toArray, List.set_cons_zero, List.set_cons_succ]
          refine wpAnyH_take (i := 1) (v := ?_) (by simp only [List.getElem?_toArray, List.getElem?_cons_succ, List.getElem?_cons_zero]; rfl) (by kernel_rfl) (by kernel_rfl) (by kernel_rfl) (fun _ _ _ h => h) (Or.inl ⟨by rfl, ?_⟩) (by assumption) ?_
          rotate_left
          · intro w hSw
            (try dsimp only at hSw)
            go_simp
            (try with_reducible rfl)
          simp only [Act.put, List.setIfInBounds_toArray, List.set_cons_zero, List.set_cons_succ]
          refine wpAnyH_take (i := 2) (v := ?_) (by simp only [List.getElem?_toArray, List.getElem?_cons_succ, List.getElem?_cons_zero]; rfl) (by kernel_rfl) (by kernel_rfl) (by kernel_rfl) (fun _ _ _ h => h) (Or.inl ⟨by rfl, ?_⟩) (by assumption) ?_
          rotate_left
          · intro w hSw
            (try dsimp only at hSw)
            go_simp
            (try with_reducible rfl)
          simp only [Act.put, List.setIfInBounds_toArray, List.set_cons_zero, List.set_cons_succ]
          refine wpAnyH_take (i := 3) (v := ?_) (by simp only [List.getElem?_toArray, List.getElem?_cons_succ, List.getElem?_cons_zero]; rfl) (by kernel_rfl) (by kernel_rfl) (by kernel_rfl) (fun _ _ _ h => h) (Or.inl ⟨by rfl, ?_⟩) (by assumption) ?_
          rotate_left
          · intro w hSw
            (try dsimp only at hSw)
            go_simp
            (try with_reducible rfl)
          simp only [Act.put, List.setIfInBounds_toArray, List.set_cons_zero, List.set_cons_succ]
          refine wpAnyH_take (i := 4) (v := ?_) (by simp only [List.getElem?_toArray, List.getElem?_cons_succ, List.getElem?_cons_zero]; rfl) (by kernel_rfl) (by kernel_rfl) (by kernel_rfl) (fun _ _ _ h => h) (Or.inl ⟨by rfl, ?_⟩) (by assumption) ?_
          rotate_left
          · intro w hSw
            (try dsimp only at hSw)
            go_simp
            (try with_reducible rfl)
          simp only [Act.put, List.setIfInBounds_toArray, List.set_cons_zero, List.set_cons_succ]
          refine wpAnyH_ready (rs := [5]) (by kernel_rfl) (by simp) ?_
          refine AllReadyH.cons (by simp only [List.getElem?_toArray, List.getElem?_cons_succ, List.getElem?_cons_zero]; rfl) (fun K hK => ?_) AllReadyH.nil
          go_simp
          go_at_call 29; with_reducible refine (refLess_any b x _).mono ?_
          rintro e w' ⟨rfl, kk⟩
          try go_wp2_with fail
          refine hK.out _ _ ?_ (fun hHeld2 => ?_)
          · exact keepP4 hba hba hbq hbq hHeld kk
          clear hK K hHeld
          have hHeld := hHeld2
          clear hHeld2
          try simp only [Act.put, List.setIfInBounds_toArray, List.set_cons_zero, List.set_cons_succ]
          refine wpAnyH_take (i := 6) (v := ?_) (by simp only [List.getElem?_toArray, List.getElem?_cons_succ, List.getElem?_cons_zero]; rfl) (by kernel_rfl) (by kernel_rfl) (by kernel_rfl) (fun _ _ _ h => h) (Or.inl ⟨by rfl, ?_⟩) (by assumption) ?_
          rotate_left
          · intro w hSw
            (try dsimp only at hSw)
            go_simp
            (try with_reducible rfl)
          simp only [Act.put, List.setIfInBounds_toArray, List.set_cons_zero, List.set_cons_succ]
          refine wpAnyH_done (by kernel_rfl) ?_ _
          refine NoPanic.normal ?_
          have k := hHeld.2.2.2.2
          clear hHeld
          have x0 := (k.cell (p := ⟨zk, ok + m * 2, none⟩) hbq).trans x0
          have x1 := (k.cell (p := ⟨zk, ok + m * 2 + 1, none⟩) hbq).trans x1
          have hbq := Nat.lt_of_lt_of_le hbq k.size_le
          replace HAb := Lib.hid (HAb.out.kept k)
          replace HKb := Lib.hid (HKb.out.trans k)
          clear k a0 a1 hba
          generalize w' = V3 at *
          have a0 := HAb.out.c0
          have a1 := HAb.out.c1
          have hba := HAb.out.lt
          have f0 := HAb.out.fr 0
          have f1 := HAb.out.fr 1
          have HLe := Lib.hid (fun c (h : lessN b x = c) => h)
          have HEv := Lib.hid (fun (h : g x = g b) c (hl : lessN b x = c) => beats_even (g := g) h hl)
          have HMo := Lib.hid (fun (h : g b < g x) => beats_more (g := g) h)
          have HNe := Lib.hid (fun (h1 : ¬ g b < g x) (h2 : ¬ g x = g b) => beats_never (g := g) h1 h2)
          by_cases hlt2 : g b < g x
          · have HN := Lib.hid (HHit.out (HMo.out hlt2))
            have hgb : decide (g b < g x) = true := decide_eq_true hlt2
            clear HHit HMis HEv HMo HNe HLe
            generalize lessN b x = lb at *
            go_wp2_with fail
            go_roundw
            case rel => exact ⟨m + 1, x, by omega, by omega, by go_num, rfl, HN.out, AtI.set2 HAb.out, (HKb.out.setCell (p := ⟨zb, 0, none⟩) HZb.out _).setCell (p := ⟨zb, 1, none⟩) HZb.out _⟩
            case measure => simp [intOf]; omega
          · have hgb : decide (g b < g x) = false := decide_eq_false hlt2
            by_cases heq : g x = g b
            · have heb : (g x == g b) = true := by rw [beq_iff_eq]; exact heq
              cases hl : lessN b x with
              | true =>
                have HN := Lib.hid (HHit.out (HEv.out heq _ hl))
                clear HHit HMis HEv HMo HNe HLe
                clear heq hlt2
                go_wp2_with fail
                go_roundw
                case rel => exact ⟨m + 1, x, by omega, by omega, by go_num, rfl, HN.out, AtI.set2 HAb.out, (HKb.out.setCell (p := ⟨zb, 0, none⟩) HZb.out _).setCell (p := ⟨zb, 1, none⟩) HZb.out _⟩
                case measure => simp [intOf]; omega
              | false =>
                have HN := Lib.hid (HMis.out (HEv.out heq _ hl))
                clear HHit HMis HEv HMo HNe HLe
                clear heq hlt2
                go_wp2_with fail
                go_roundw
                case rel => exact ⟨m + 1, b, by omega, by omega, by go_num, rfl, HN.out, HAb.out, HKb.out⟩
                case measure => simp [intOf]; omega
            · have HN := Lib.hid (HMis.out (HNe.out hlt2 heq))
              have heb : (g x == g b) = false := by rw [beq_eq_false_iff_ne]; exact heq
              clear HHit HMis HEv HMo HNe HLe
              generalize lessN b x = lb at *
              clear heq hlt2
              go_wp2_with fail
              go_roundw
              case rel => exact ⟨m + 1, b, by omega, by omega, by go_num, rfl, HN.out, HAb.out, HKb.out⟩
              case measure => simp [intOf]; omega
        · have hml : m = ks.length := by omega
          subst hml
          rw [List.take_length] at HBm
          obtain ⟨hst, hrk, hrl⟩ := HBs.out b HBm.out
          have HSt := Lib.hid hst
          clear hst
          have a0 := HAb.out.c0
          have a1 := HAb.out.c1
          have hba := HAb.out.lt
          have HIn := Lib.hid (HI.out.kept HKb.out)
          have i0 := HIn.out.c0
          have i1 := HIn.out.c1
          have hbi := HIn.out.lt
          have f0 := HIn.out.fr 0
          have f1 := HIn.out.fr 1
          go_wp2_with fail
          go_roundw
          case rel => exact ⟨b, j + 1, by go_num, AtI.set2 HIn.out, ((HKr.out.trans HKb.out).setCell (p := ⟨zi, 0, none⟩) HZi.out _).setCell (p := ⟨zi, 1, none⟩) HZi.out _, by have := HJ.out; omega, HSt.out.symm.trans HH.out⟩
          case measure => have := HJ.out; simp [intOf]; omega

end Go.Proofs.Yteamjjkmcomabaa
