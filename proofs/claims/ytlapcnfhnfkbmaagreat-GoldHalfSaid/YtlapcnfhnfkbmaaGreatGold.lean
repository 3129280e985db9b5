/-
  The contracts of package gold's calls.
-/
import Derived.Test.YtlapcnfhnfkbmaaGreatGoldRef
import Derived.Test.YtlapcnfhnfkbmaaGreatVtsPut
import Derived.Test.YtlapcnfhnfkbmaaGreatVoteOfG
import Derived.Test.YtlapcnfhnfkbmaaGreatDutyG
import Derived.Test.YtlapcnfhnfkbmaaGreatGhostHead
namespace Go.Proofs.YtlapcnfhnfkbmaaGreat
set_option maxRecDepth 100000
set_option linter.unusedVariables false
set_option linter.unusedSimpArgs false
set_option linter.unusedSimpArgs false
set_option linter.unusedVariables false
open Go.ChangeShapes Go.WideShapes Go.ChangeAt Go.RowKit

set_option maxRecDepth 100000 in
set_option maxHeartbeats 3200000 in
theorem casts_any (kA : Option Addr) (kc : Nat) (k : Cf) (slot : Int) (x : Vt) (w : World) (hsd : k.seed < 18446744073709551616) (hA : CellsAt w w.heap.size kA (intCells k.ws)) :
    Calls Tryz.prog 28 #[.agg #[.slice kA k.ws.length kc, .int .u64 k.seed, .int .i64 k.ep, .int .i64 k.nu, .int .i64 k.de, .int .i64 slot], .agg #[.int .i64 x.f, .int .i64 x.s, .int .u64 x.p.1, .int .u64 x.p.2]] w fun e w' => e = .returned (.bool (inC k slot x.f)) ∧ Kept w w' := by
  have K0 := Lib.hid (((Kept.refl w).alloc (.cells #[.slice kA k.ws.length kc, .int .u64 k.seed, .int .i64 k.ep, .int .i64 k.nu, .int .i64 k.de, .int .i64 slot] 60)).alloc (.cells #[.int .i64 x.f, .int .i64 x.s, .int .u64 x.p.1, .int .u64 x.p.2] 39))
  have HA := Lib.hid (hA.kept K0.out)
  clear hA
  go_enter Tryz.func28, Tryz.ntmps28
  go_wp2_with fail
  refine (in_any kA kc k slot x.f _ HA.out hsd).mono ?_
  rintro e W1 ⟨rfl, k1⟩
  have K1 := Lib.hid (K0.out.trans k1)
  go_wp2_with fail
  go_ret
  exact ⟨rfl, K1.out⟩

/-- A function value, its bound argument ahead, that tells whether q of a vote. -/
def FitsB (f : Nat) (bd : Value) (q : Vt → Bool) (w : World) : Prop := ∀ W, Kept w W → ∀ x, WfV x → Calls Tryz.prog f #[bd, .agg #[.int .i64 x.f, .int .i64 x.s, .int .u64 x.p.1, .int .u64 x.p.2]] W fun e w' => e = .returned (.bool (q x)) ∧ Kept W w'
set_option maxRecDepth 100000 in
set_option maxHeartbeats 3200000 in
theorem cut_any (Wb : World) (A : Option Addr) (c : Nat) (R : List Vt) (hR : R.length ≤ 1000000) (hwf : WfVs R) (f : Nat) (bd : Value) (q : Vt → Bool) (w : World) (hF : FitsB f bd q Wb) (hC : Vts Wb R (.slice A R.length c) w)
    (eg : ∀ args w, (callFunc f args).run Tryz.prog w = .ok (.enter f args) w) :
    Calls Tryz.prog 29 #[.slice A R.length c, .func (.func f) #[bd] #[]] w fun e w' => e = .returned (.slice A (R.filter q).length (R.filter q).length) ∧ CellsAt w' w'.heap.size A (votesCells (R.filter q)) ∧ Kept Wb w' := by
  have HF := Lib.hid hF
  have HC := Lib.hid hC
  have HWf := Lib.hid hwf
  have HS := Lib.hid (CutI.start q R)
  clear hF hC hwf
  go_enter Tryz.func29, Tryz.ntmps29
  go_wp2_with fail
  go_loopw [5, 10] (fun s5 s10 wr => ∃ (i j : Nat) (S : List Vt), s5 = .int .i64 i ∧ s10 = .int .i64 j ∧ j ≤ R.length ∧ Hid (CutI q R i j S) ∧ Vts Wb S (.slice A R.length c) wr) (fun _ s10 _ => R.length - (intOf s10).toNat)
  case atStart => exact ⟨0, 0, R, by go_num, by go_num, Nat.zero_le _, HS, HC.out⟩
  case round =>
    obtain ⟨i, j, S, rfl, rfl, hj, HI, hC⟩ := hrel
    have HC := Lib.hid hC
    clear hC HS
    have hSl := Lib.hid HI.out.len
    have hij := HI.out.ij
    have hcap := HC.out.cap
    by_cases hlt : j < R.length
    · obtain ⟨hjS, eS⟩ := HI.out.at hlt
      obtain ⟨g, rfl, hge, hgl⟩ := HC.out.form (by rw [hSl.out]; omega)
      obtain ⟨x0, x1, x2, x3⟩ := HC.out.at hjS
      rw [eS] at x0 x1 x2 x3
      clear eS
      have HX := Lib.hid (HWf.out _ (List.getElem_mem hlt))
      have HSk := Lib.hid (fun h : q R[j] = false => HI.out.skip hlt h)
      have HKp := Lib.hid (fun h : q R[j] = true => HI.out.keep hlt h)
      generalize R[j] = x at *
      have K0 := Lib.hid ((Kept.refl wr).alloc (.cells #[.int .i64 x.f, .int .i64 x.s, .int .u64 x.p.1, .int .u64 x.p.2] 39))
      have HB := Lib.hid (HasCells.new wr #[.int .i64 x.f, .int .i64 x.s, .int .u64 x.p.1, .int .u64 x.p.2] 39 wr.heap.size rfl)
      clear HI
      go_wp2_with fail
      clear x0 x1 x2 x3
      refine (HF.out (wr.alloc (.cells #[.int .i64 x.f, .int .i64 x.s, .int .u64 x.p.1, .int .u64 x.p.2] 39)) (HC.out.2.trans K0.out) x HX.out).mono ?_
      rintro e W2 ⟨rfl, k1⟩
      have HC2 := Lib.hid ((HC.out.kept K0.out).kept k1)
      obtain ⟨b0, b1, b2, b3⟩ := (HB.out.kept k1).four
      have hb := (HB.out.kept k1).1
      clear k1 HB HC K0
      cases hq : q x with
      | false =>
        have HE := Lib.hid (HSk.out hq)
        clear hq HSk HKp
        go_wp2_with fail
        go_roundw
        case rel => exact ⟨i, j + 1, S, by go_num, by go_num, by omega, HE, HC2.out⟩
        case measure => simp [intOf]; omega
      | true =>
        have HE := Lib.hid (HKp.out hq)
        clear hq HSk HKp
        have hiS : i < S.length := by rw [hSl.out]; omega
        obtain ⟨y0, y1, y2, y3⟩ := HC2.out.at hiS
        have f0 := HC2.out.frozen (i * 4)
        have f1 := HC2.out.frozen (i * 4 + 1)
        have f2 := HC2.out.frozen (i * 4 + 2)
        have f3 := HC2.out.frozen (i * 4 + 3)
        have HC3 := Lib.hid (HC2.out.put hiS x)
        clear HC2
        go_wp2_with fail
        go_roundw
        case rel => exact ⟨i + 1, j + 1, S.set i x, by go_num, by go_num, by omega, HE, HC3.out⟩
        case measure => simp [intOf]; omega
    · have hjx : j = R.length := by omega
      subst hjx
      have eh := HI.out.head
      rw [List.take_length] at eh
      have hfl : (R.filter q).length = i := by rw [← eh, List.length_take, hSl.out]; omega
      have hupto := fun w' => upto3_votes A R.length c i (by omega) w'
      have HEnd := Lib.hid (show CellsAt wr wr.heap.size A (votesCells (R.filter q)) from by
        rw [← eh]
        exact cells_votes_take (HC.out.cells hSl.out.symm) i)
      have HEq := Lib.hid hfl
      clear eh hfl
      go_wp2_with fail
      go_ret
      exact ⟨by rw [HEq.out]; rfl, HEnd.out, HC.out.2⟩

set_option maxRecDepth 100000 in
set_option maxHeartbeats 3200000 in
theorem goldOf_any (kA : Option Addr) (kc : Nat) (k : Cf) (vA : Option Addr) (vc : Nat) (v : List Vt) (slot : Int) (w : World)
    (hk : k.ws.length ≤ 1000) (hsd : k.seed < 18446744073709551616) (hv : v.length ≤ 10000) (hwv : WfVs v) (hA : CellsAt w w.heap.size kA (intCells k.ws)) (hV : CellsAt w w.heap.size vA (votesCells v)) :
    Calls Tryz.prog 12 #[.agg #[.slice kA k.ws.length kc, .int .u64 k.seed, .int .i64 k.ep, .int .i64 k.nu, .int .i64 k.de], .slice vA v.length vc, .int .i64 slot] w (GoldNew k slot v w) := by
  have eg : ∀ args w, (callFunc 28 args).run Tryz.prog w = .ok (.enter 28 args) w := enters_of Tryz.func28 (by kernel_rfl) rfl
  have K0 := Lib.hid ((Kept.refl w).alloc (.cells #[.slice kA k.ws.length kc, .int .u64 k.seed, .int .i64 k.ep, .int .i64 k.nu, .int .i64 k.de] 25))
  have HA := Lib.hid (hA.kept K0.out)
  have HV := Lib.hid (hV.kept K0.out)
  have HW := Lib.hid hwv
  clear hA hV hwv
  go_enter Tryz.func12, Tryz.ntmps12
  go_wp2_with fail
  generalize w.alloc (.cells #[.slice kA k.ws.length kc, .int .u64 k.seed, .int .i64 k.ep, .int .i64 k.nu, .int .i64 k.de] 25) = W0 at *
  refine (ofVOwn_any vA vc v (by omega) HW.out slot W0 HV.out).mono ?_
  rintro e W1 ⟨R, hR, hRl, A1, c1, rfl, hC1⟩
  have HR := Lib.hid hR
  have HC := Lib.hid hC1
  have HRl := Lib.hid hRl
  clear hR hC1 hRl
  go_wp2_with fail
  have HFit := Lib.hid (show FitsB 28 (.agg #[.slice kA k.ws.length kc, .int .u64 k.seed, .int .i64 k.ep, .int .i64 k.nu, .int .i64 k.de, .int .i64 slot]) (fun x => inC k slot x.f) W0 from fun W hW x hx => casts_any kA kc k slot x W hsd (HA.out.kept hW))
  have HW1 := Lib.hid (show WfVs R from fun a ha => HW.out a (cnts_mem HR.out a ha))
  have hR6 : R.length ≤ 1000000 := by have := HRl.out; omega
  have HG := Lib.hid (golds_of (k := k) HR.out)
  have HGl := Lib.hid (Nat.le_trans (goldL_le k slot R) HRl.out)
  refine (cut_any W0 A1 c1 R hR6 HW1.out _ _ (fun x => inC k slot x.f) W1 HFit.out HC.out eg).mono ?_
  rintro e W2 ⟨rfl, hC2, k2⟩
  have HE := Lib.hid (show GoldNew k slot v w (.returned (.slice A1 (goldL k slot R).length (goldL k slot R).length)) W2 from ⟨goldL k slot R, A1, _, HG.out, HGl.out, rfl, hC2, K0.out.trans k2⟩)
  clear hC2 k2
  change Hid (GoldNew k slot v w (.returned (.slice A1 (R.filter fun x => inC k slot x.f).length (R.filter fun x => inC k slot x.f).length)) W2) at HE
  go_wp2_with fail
  go_ret
  exact HE.out

set_option maxRecDepth 100000 in
set_option maxHeartbeats 3200000 in
theorem goldHead_any (kA : Option Addr) (kc : Nat) (k : Cf) (lA : Option Addr) (lc : Nat) (l : List Bk) (vA : Option Addr) (vc : Nat) (v : List Vt) (slot : Int) (w : World)
    (hk : k.ws.length ≤ 1000) (hsd : k.seed < 18446744073709551616) (hl : l.length ≤ 10000) (hv : v.length ≤ 10000) (hwl : WfL l) (hwv : WfVs v) (hA : CellsAt w w.heap.size kA (intCells k.ws)) (hL : CellsAt w w.heap.size lA (blockCells l)) (hV : CellsAt w w.heap.size vA (votesCells v)) :
    Calls Tryz.prog 14 #[.agg #[.slice kA k.ws.length kc, .int .u64 k.seed, .int .i64 k.ep, .int .i64 k.nu, .int .i64 k.de], .agg #[.slice lA l.length lc, .slice vA v.length vc], .int .i64 slot] w fun e w' => ∃ R, Golds k slot v R ∧ e = .returned (.agg #[.int .u64 (headC k l R).1, .int .u64 (headC k l R).2]) ∧ Kept w w' := by
  have HWv := Lib.hid hwv
  clear hwv
  have KA0 := Lib.hid (((Kept.refl w).alloc (.cells #[.slice kA k.ws.length kc, .int .u64 k.seed, .int .i64 k.ep, .int .i64 k.nu, .int .i64 k.de] 25)).alloc (.cells #[.slice lA l.length lc, .slice vA v.length vc] 29))
  have HC := Lib.hid ((HasCells.new w #[.slice kA k.ws.length kc, .int .u64 k.seed, .int .i64 k.ep, .int .i64 k.nu, .int .i64 k.de] 25 w.heap.size rfl).alloc (.cells #[.slice lA l.length lc, .slice vA v.length vc] 29))
  have HW := Lib.hid (HasCells.new (w.alloc (.cells #[.slice kA k.ws.length kc, .int .u64 k.seed, .int .i64 k.ep, .int .i64 k.nu, .int .i64 k.de] 25)) #[.slice lA l.length lc, .slice vA v.length vc] 29 (w.heap.size + 1) (by simp))
  have HA := Lib.hid (hA.kept KA0.out)
  have HL := Lib.hid (hL.kept KA0.out)
  have HV := Lib.hid (hV.kept KA0.out)
  clear hA hL hV
  have HZ := Lib.hid (show AtI (((w.alloc (.cells #[.slice kA k.ws.length kc, .int .u64 k.seed, .int .i64 k.ep, .int .i64 k.nu, .int .i64 k.de] 25)).alloc (.cells #[.slice lA l.length lc, .slice vA v.length vc] 29)).alloc (.cells #[.int .u64 0, .int .u64 0] 35)) (w.heap.size + 1 + 1) zid from AtI.new _ zid _ (by simp))
  have HSz := Lib.hid (show ((w.alloc (.cells #[.slice kA k.ws.length kc, .int .u64 k.seed, .int .i64 k.ep, .int .i64 k.nu, .int .i64 k.de] 25)).alloc (.cells #[.slice lA l.length lc, .slice vA v.length vc] 29)).heap.size ≤ w.heap.size + 1 + 1 by simp)
  go_enter Tryz.func14, Tryz.ntmps14
  go_wp2_with fail
  generalize ((w.alloc (.cells #[.slice kA k.ws.length kc, .int .u64 k.seed, .int .i64 k.ep, .int .i64 k.nu, .int .i64 k.de] 25)).alloc (.cells #[.slice lA l.length lc, .slice vA v.length vc] 29)) = Wa at *
  generalize w.heap.size + 1 + 1 = z2 at *
  generalize w.heap.size + 1 = z1 at *
  generalize w.heap.size = z0 at *
  obtain ⟨c0, c1_, c2, c3, c4⟩ := HC.out.five
  obtain ⟨v0, v1⟩ := HW.out.two
  have hbc := HC.out.1
  have hbv := HW.out.1
  refine wp_region_noPanic ?_
  refine wp_region_held_drew (S := (fun w' => w'.cell? ⟨z0, 0, none⟩ = some (.slice kA k.ws.length kc) ∧ w'.cell? ⟨z0, 1, none⟩ = some (.int .u64 k.seed) ∧ w'.cell? ⟨z0, 2, none⟩ = some (.int .i64 k.ep) ∧ w'.cell? ⟨z0, 3, none⟩ = some (.int .i64 k.nu) ∧ w'.cell? ⟨z0, 4, none⟩ = some (.int .i64 k.de) ∧ w'.cell? ⟨z1, 0, none⟩ = some (.slice lA l.length lc) ∧ w'.cell? ⟨z1, 1, none⟩ = some (.slice vA v.length vc) ∧ Kept Wa w')) (by kernel_rfl) ?_ (fun hHeld => ?_)
  · exact keepP7 hbc hbc hbc hbc hbc hbv hbv ⟨c0, c1_, c2, c3, c4, v0, v1, Kept.refl _⟩ (((Kept.refl _).alloc _).drew)
  refine wpAnyH_take (i := 0) (v := ?_) (by simp only [List.getElem?_toArray, List.getElem?_cons_succ, List.getElem?_cons_zero]; rfl) (by kernel_rfl) (by kernel_rfl) (by kernel_rfl) (fun _ _ _ h => h) (Or.inl ⟨by rfl, ?_⟩) (by assumption) ?_
  rotate_left
  · intro w hSw
    (try dsimp only at hSw)
    go_simp
    (try with_reducible rfl)
  simp only [Act.put, List.setIfInBounds_toArray, List.set_cons_zero, List.set_cons_succ]
  refine wpAnyH_take (i := 1) (v := ?_) (by simp only [List.getElem?_toArray, List.getElem?_cons_succ, List.getElem?_cons_zero]; rfl) (by kernel_rfl) (by kernel_rfl) (by kernel_rfl) (fun _ _ _ h => h) (Or.inl ⟨by rfl, ?_⟩) (by assumption) ?_
  rotate_left
  · intro w hSw
    (try dsimp only at hSw)
    go_simp
    (try with_reducible rfl)
  simp only [Act.put, List.setIfInBounds_toArray, List.set_cons_zero, List.set_cons_succ]
  refine wpAnyH_take (i := 2) (v := ?_) (by simp only [List.getElem?_toArray, List.getElem?_cons_succ, List.getElem?_cons_zero]; rfl) (by kernel_rfl) (by kernel_rfl) (by kernel_rfl) (fun _ _ _ h => h) (Or.inl ⟨by rfl, ?_⟩) (by assumption) ?_
  rotate_left
  · intro w hSw
    (try dsimp only at hSw)
    go_simp
    (try with_reducible rfl)
  simp only [Act.put, List.setIfInBounds_toArray, List.set_cons_zero, List.set_cons_succ]
  refine wpAnyH_take (i := 3) (v := ?_) (by simp only [List.getElem?_toArray, List.getElem?_cons_succ, List.getElem?_cons_zero]; rfl) (by kernel_rfl) (by kernel_rfl) (by kernel_rfl) (fun _ _ _ h => h) (Or.inl ⟨by rfl, ?_⟩) (by assumption) ?_
  rotate_left
  · intro w hSw
    (try dsimp only at hSw)
    go_simp
    (try with_reducible rfl)
  simp only [Act.put, List.setIfInBounds_toArray, List.set_cons_zero, List.set_cons_succ]
  refine wpAnyH_take (i := 4) (v := ?_) (by simp only [List.getElem?_toArray, List.getElem?_cons_succ, List.getElem?_cons_zero]; rfl) (by kernel_rfl) (by kernel_rfl) (by kernel_rfl) (fun _ _ _ h => h) (Or.inl ⟨by rfl, ?_⟩) (by assumption) ?_
  rotate_left
  · intro w hSw
    (try dsimp only at hSw)
    go_simp
    (try with_reducible rfl)
  simp only [Act.put, List.setIfInBounds_toArray, List.set_cons_zero, List.set_cons_succ]
  refine wpAnyH_take (i := 5) (v := ?_) (by simp only [List.getElem?_toArray, List.getElem?_cons_succ, List.getElem?_cons_zero]; rfl) (by kernel_rfl) (by kernel_rfl) (by kernel_rfl) (fun _ _ _ h => h) (Or.inl ⟨by rfl, ?_⟩) (by assumption) ?_
  rotate_left
  · intro w hSw
    (try dsimp only at hSw)
    go_simp
    (try with_reducible rfl)
  simp only [Act.put, List.setIfInBounds_toArray, List.set_cons_zero, List.set_cons_succ]
  refine wpAnyH_take (i := 6) (v := ?_) (by simp only [List.getElem?_toArray, List.getElem?_cons_succ, List.getElem?_cons_zero]; rfl) (by kernel_rfl) (by kernel_rfl) (by kernel_rfl) (fun _ _ _ h => h) (Or.inl ⟨by rfl, ?_⟩) (by assumption) ?_
  rotate_left
  · intro w hSw
    (try dsimp only at hSw)
    go_simp
    (try with_reducible rfl)
  simp only [Act.put, List.setIfInBounds_toArray, List.set_cons_zero, List.set_cons_succ]
  refine wpAnyH_ready (rs := [7]) (by kernel_rfl) (by simp) ?_
  refine AllReadyH.cons (by simp only [List.getElem?_toArray, List.getElem?_cons_succ, List.getElem?_cons_zero]; rfl) (fun K hK => ?_) AllReadyH.nil
  go_simp
  go_at_call 12; with_reducible refine (goldOf_any kA kc k vA vc v slot _ hk hsd hv HWv.out (HA.out.kept hHeld.2.2.2.2.2.2.2) (HV.out.kept hHeld.2.2.2.2.2.2.2)).mono ?_
  rintro e w1 ⟨R, A1, c1, hR, hRl, rfl, hC1, kk⟩
  have HWR := Lib.hid (show WfVs R from fun a ha => HWv.out a (golds_mem hR a ha))
  have k1 := kk
  try go_wp2_with fail
  refine hK.out _ _ ?_ (fun hHeld2 => ?_)
  · (first | exact keepP7 hbc hbc hbc hbc hbc hbv hbv ⟨c0, c1_, c2, c3, c4, v0, v1, Kept.refl _⟩ kk | exact keepP7 hbc hbc hbc hbc hbc hbv hbv hHeld kk)
  clear hK K hHeld
  have hHeld := hHeld2
  clear hHeld2
  try simp only [Act.put, List.setIfInBounds_toArray, List.set_cons_zero, List.set_cons_succ]
  refine wpAnyH_ready (rs := [8]) (by kernel_rfl) (by simp) ?_
  refine AllReadyH.cons (by simp only [List.getElem?_toArray, List.getElem?_cons_succ, List.getElem?_cons_zero]; rfl) (fun K hK => ?_) AllReadyH.nil
  go_simp
  go_at_call 24; with_reducible refine (head_any kA kc k lA lc l A1 c1 R _ (by omega) (by omega) hwl HWR.out (HA.out.kept hHeld.2.2.2.2.2.2.2) (HL.out.kept hHeld.2.2.2.2.2.2.2) hC1).mono ?_
  rintro e w2 ⟨rfl, kk⟩
  have k2 := kk
  have hKw2 := (hHeld.2.2.2.2.2.2.2).trans kk
  obtain ⟨h, hh⟩ : ∃ h, h = headC k l R := ⟨_, rfl⟩
  rw [← hh]
  have HEh := Lib.hid hh
  clear hh
  try go_wp2_with fail
  refine hK.out _ _ ?_ (fun hHeld2 => ?_)
  · (first | exact keepP7 hbc hbc hbc hbc hbc hbv hbv ⟨c0, c1_, c2, c3, c4, v0, v1, Kept.refl _⟩ kk | exact keepP7 hbc hbc hbc hbc hbc hbv hbv hHeld kk)
  clear hK K hHeld
  have hHeld := hHeld2
  clear hHeld2
  try simp only [Act.put, List.setIfInBounds_toArray, List.set_cons_zero, List.set_cons_succ]
  refine wpAnyH_ready (rs := [9]) (by kernel_rfl) (by simp) ?_
  refine AllReadyH.cons (by simp only [List.getElem?_toArray, List.getElem?_cons_succ, List.getElem?_cons_zero]; rfl) (fun K hK => ?_) AllReadyH.nil
  have HZ3 := Lib.hid (((HZ.out.kept (Kept.refl _).drew).kept k1).kept k2)
  have r0 := HZ3.out.c0
  have r1 := HZ3.out.c1
  have hbr := HZ3.out.lt
  have f0 := HZ3.out.fr 0
  have f1 := HZ3.out.fr 1
  have kk := ((hKw2.setCell (p := ⟨z2, 0, none⟩) HSz.out (.int .u64 h.1)).setCell (p := ⟨z2, 1, none⟩) HSz.out (.int .u64 h.2))
  go_simp
  try go_wp2_with fail
  refine hK.out _ _ ?_ (fun hHeld2 => ?_)
  · (first | exact keepP7 hbc hbc hbc hbc hbc hbv hbv ⟨c0, c1_, c2, c3, c4, v0, v1, Kept.refl _⟩ kk | exact keepP7 hbc hbc hbc hbc hbc hbv hbv hHeld kk)
  clear hK K hHeld
  have hHeld := hHeld2
  clear hHeld2
  try simp only [Act.put, List.setIfInBounds_toArray, List.set_cons_zero, List.set_cons_succ]
  refine wpAnyH_done (by kernel_rfl) ?_ _
  refine NoPanic.normal ?_
  go_wp2_with fail
  refine bodyPost_ret (v := .agg #[.int .u64 h.1, .int .u64 h.2]) (by simp [results, Tryz.results14, go_sem, r0, r1]) rfl ⟨R, hR, by rw [← HEh.out], ?_⟩
  exact KA0.out.trans kk

end Go.Proofs.YtlapcnfhnfkbmaaGreat
