/-
  Law ViewOnly of layer 16: of what may come all is left, and again; what is left may come, and is in order, whatever conf and view.
-/
import Derived.Test.YtacdiicnfoejoaaViewUse
import Derived.Test.YtacdiicnfoejoaaView
import Derived.Test.YtacdiicnfoejoaaViewAwake
import Derived.Test.YtacdiicnfoejoaaViewOpen64
import Derived.Test.YtacdiicnfoejoaaMixG
import Derived.Test.YtacdiicnfoejoaaGround
import Derived.Test.YtacdiicnfoejoaaVoteG
import Derived.Test.YtacdiicnfoejoaaDutyG
import Derived.Test.YtacdiicnfoejoaaViewRefOnly
namespace Go.Proofs.Ytacdiicnfoejoaa.viewOnly
set_option maxRecDepth 100000
set_option linter.unusedVariables false
set_option linter.unusedSimpArgs false
open Go.ChangeShapes Go.WideShapes Go.ChangeAt Go.RowKit
set_option linter.unusedVariables false

theorem only_none {k : Cf} (h : mayC k = false) (l : List Bk) (v : List Vt) : (l.filter (blockC k)).length + (v.filter (voteC k)).length = 0 := by
  have e1 : l.filter (blockC k) = [] := List.filter_eq_nil_iff.2 fun b _ q => by
    have := (dutyC_yes (blockC_yes q).1).1
    rw [h] at this
    cases this
  have e2 : v.filter (voteC k) = [] := List.filter_eq_nil_iff.2 fun b _ q => by
    have := (voteC_yes q).2.2
    rw [h] at this
    cases this
  rw [e1, e2]
  rfl

/-! ### The walk: the call returns true, and of what was there nothing has changed. -/
set_option maxRecDepth 100000 in
set_option maxHeartbeats 12800000 in
theorem walk (w : World) (kA : Option Addr) (kc : Nat) (k : Cf) (khm : k.ws.length ≤ maxLen) (khs : k.seed < 18446744073709551616) (khl : CellsAt w w.heap.size kA (intCells k.ws)) (lA : Option Addr) (lc : Nat) (l : List Bk) (vA : Option Addr) (vc : Nat) (v : List Vt) (lhm : l.length ≤ maxLen) (lhc : l.length ≤ lc) (lhw : WfL l) (lh6 : Wf64L l) (lhl : CellsAt w w.heap.size lA (blockCells l)) (vhm : v.length ≤ maxLen) (vhc : v.length ≤ vc) (vhw : WfVs v) (vhl : CellsAt w w.heap.size vA (votesCells v)) :
    Calls Try.prog 6 #[.agg #[.slice kA k.ws.length kc, .int .u64 k.seed, .int .i64 k.ep, .int .i64 k.nu, .int .i64 k.de], .agg #[.slice lA l.length lc, .slice vA v.length vc]] w fun e w' => e = .returned (.bool true) ∧ Kept w w' := by
  cases hf0 : few16C l v 40 with
  | false =>
    go_enter Try.func6, Try.ntmps6
    go_wp2_with fail
    have K0 := Lib.hid (((Kept.refl w).alloc (.cells #[.slice kA k.ws.length kc, .int .u64 k.seed, .int .i64 k.ep, .int .i64 k.nu, .int .i64 k.de] 25)).alloc (.cells #[.slice lA l.length lc, .slice vA v.length vc] 29))
    have HA := Lib.hid (khl.kept K0.out)
    clear khl
    have HL := Lib.hid (lhl.kept K0.out)
    clear lhl
    have HV := Lib.hid (vhl.kept K0.out)
    clear vhl
    have HB0 := Lib.hid ((HasCells.new w #[.slice kA k.ws.length kc, .int .u64 k.seed, .int .i64 k.ep, .int .i64 k.nu, .int .i64 k.de] 25 (w.heap.size) (by simp)).alloc (.cells #[.slice lA l.length lc, .slice vA v.length vc] 29))
    have HB1 := Lib.hid (HasCells.new (w.alloc (.cells #[.slice kA k.ws.length kc, .int .u64 k.seed, .int .i64 k.ep, .int .i64 k.nu, .int .i64 k.de] 25)) #[.slice lA l.length lc, .slice vA v.length vc] 29 (w.heap.size + 1) (by simp))
    generalize ((w.alloc (.cells #[.slice kA k.ws.length kc, .int .u64 k.seed, .int .i64 k.ep, .int .i64 k.nu, .int .i64 k.de] 25)).alloc (.cells #[.slice lA l.length lc, .slice vA v.length vc] 29)) = W0 at *
    generalize w.heap.size + 1 = z1 at *
    generalize w.heap.size = z0 at *
    have KB0 := Lib.hid (Kept.refl W0)
    refine (awake16 W0).mono ?_
    rintro e W1 ⟨rfl, k⟩
    have KB1 := Lib.hid (KB0.out.trans k)
    clear k
    obtain ⟨b00, b01, b02, b03, b04⟩ := (HB0.out.kept KB1.out).five
    have bz0 := (HB0.out.kept KB1.out).1
    obtain ⟨b10, b11⟩ := (HB1.out.kept KB1.out).two
    have bz1 := (HB1.out.kept KB1.out).1
    go_wp2_with fail
    clear b00 b01 b02 b03 b04 bz0 b10 b11 bz1
    refine (few16_any lA lc l vA vc v 40 W1).mono ?_
    rintro e W2 ⟨rfl, k⟩
    have KB2 := Lib.hid (KB1.out.trans k)
    clear k
    rw [hf0]
    obtain ⟨b00, b01, b02, b03, b04⟩ := (HB0.out.kept KB2.out).five
    have bz0 := (HB0.out.kept KB2.out).1
    obtain ⟨b10, b11⟩ := (HB1.out.kept KB2.out).two
    have bz1 := (HB1.out.kept KB2.out).1
    go_wp2_with fail
    clear b00 b01 b02 b03 b04 bz0 b10 b11 bz1
    go_ret
    exact ⟨by first | rfl | (simp; done), K0.out.trans KB2.out⟩
  | true =>
    have F0 := Lib.hid hf0
    clear hf0
    go_enter Try.func6, Try.ntmps6
    go_wp2_with fail
    have K0 := Lib.hid (((Kept.refl w).alloc (.cells #[.slice kA k.ws.length kc, .int .u64 k.seed, .int .i64 k.ep, .int .i64 k.nu, .int .i64 k.de] 25)).alloc (.cells #[.slice lA l.length lc, .slice vA v.length vc] 29))
    have HA := Lib.hid (khl.kept K0.out)
    clear khl
    have HL := Lib.hid (lhl.kept K0.out)
    clear lhl
    have HV := Lib.hid (vhl.kept K0.out)
    clear vhl
    have HB0 := Lib.hid ((HasCells.new w #[.slice kA k.ws.length kc, .int .u64 k.seed, .int .i64 k.ep, .int .i64 k.nu, .int .i64 k.de] 25 (w.heap.size) (by simp)).alloc (.cells #[.slice lA l.length lc, .slice vA v.length vc] 29))
    have HB1 := Lib.hid (HasCells.new (w.alloc (.cells #[.slice kA k.ws.length kc, .int .u64 k.seed, .int .i64 k.ep, .int .i64 k.nu, .int .i64 k.de] 25)) #[.slice lA l.length lc, .slice vA v.length vc] 29 (w.heap.size + 1) (by simp))
    generalize ((w.alloc (.cells #[.slice kA k.ws.length kc, .int .u64 k.seed, .int .i64 k.ep, .int .i64 k.nu, .int .i64 k.de] 25)).alloc (.cells #[.slice lA l.length lc, .slice vA v.length vc] 29)) = W0 at *
    generalize w.heap.size + 1 = z1 at *
    generalize w.heap.size = z0 at *
    have KB0 := Lib.hid (Kept.refl W0)
    refine (awake16 W0).mono ?_
    rintro e W1 ⟨rfl, k⟩
    have KB1 := Lib.hid (KB0.out.trans k)
    clear k
    obtain ⟨b00, b01, b02, b03, b04⟩ := (HB0.out.kept KB1.out).five
    have bz0 := (HB0.out.kept KB1.out).1
    obtain ⟨b10, b11⟩ := (HB1.out.kept KB1.out).two
    have bz1 := (HB1.out.kept KB1.out).1
    go_wp2_with fail
    clear b00 b01 b02 b03 b04 bz0 b10 b11 bz1
    refine (few16_any lA lc l vA vc v 40 W1).mono ?_
    rintro e W2 ⟨rfl, k⟩
    have KB2 := Lib.hid (KB1.out.trans k)
    clear k
    rw [F0.out]
    obtain ⟨hl40, hv40⟩ := few16_yes (n := 40) F0.out
    by_cases hw : (40 : Int) < (k.ws.length : Int)
    · have g40 : decide ((40 : Int) < (k.ws.length : Int)) = true := decide_eq_true hw
      obtain ⟨b00, b01, b02, b03, b04⟩ := (HB0.out.kept KB2.out).five
      have bz0 := (HB0.out.kept KB2.out).1
      obtain ⟨b10, b11⟩ := (HB1.out.kept KB2.out).two
      have bz1 := (HB1.out.kept KB2.out).1
      go_wp2_with fail
      clear b00 b01 b02 b03 b04 bz0 b10 b11 bz1
      go_ret
      exact ⟨by first | rfl | (simp; done), K0.out.trans KB2.out⟩
    · have g40 : decide ((40 : Int) < (k.ws.length : Int)) = false := decide_eq_false hw
      have hk1 : k.ws.length ≤ 1000 := by omega
      obtain ⟨b00, b01, b02, b03, b04⟩ := (HB0.out.kept KB2.out).five
      have bz0 := (HB0.out.kept KB2.out).1
      obtain ⟨b10, b11⟩ := (HB1.out.kept KB2.out).two
      have bz1 := (HB1.out.kept KB2.out).1
      go_wp2_with fail
      clear b00 b01 b02 b03 b04 bz0 b10 b11 bz1
      clear g40
      refine (viewOnly_any kA kc k lA lc l vA vc v W2 hk1 khs (by omega) (by omega) lhc vhc lhw vhw (HA.out.kept KB2.out) (HL.out.kept KB2.out) (HV.out.kept KB2.out)).mono ?_
      rintro e W3 ⟨A, c, B, d, rfl, h1, h2, hjA, hjB, k⟩
      have KB3 := Lib.hid (KB2.out.trans k)
      clear k
      have HJA := Lib.hid hjA
      have HJB := Lib.hid hjB
      clear hjA hjB
      have e1 : (onlyW k ⟨l.filter (blockC k), v.filter (voteC k)⟩) = ⟨l.filter (blockC k), v.filter (voteC k)⟩ := only_only k ⟨l, v⟩
      have hwj : WfL (l.filter (blockC k)) := wfl_sub lhw fun b hb => (List.mem_filter.1 hb).1
      have hwk : WfVs (v.filter (voteC k)) := wfv_sub vhw fun b hb => (List.mem_filter.1 hb).1
      have n1 : (l.filter (blockC k)).length ≤ l.length := List.length_filter_le _ _
      have n2 : (v.filter (voteC k)).length ≤ v.length := List.length_filter_le _ _
      have hz : mayC k = false → (l.filter (blockC k)).length + (v.filter (voteC k)).length = 0 := fun h => only_none h l v
      change Hid (CellsAt _ _ A (blockCells (l.filter (blockC k)))) at HJA
      change Hid (CellsAt _ _ B (votesCells (v.filter (voteC k)))) at HJB
      change (l.filter (blockC k)).length ≤ c at h1
      change (v.filter (voteC k)).length ≤ d at h2
      obtain ⟨jb, hjb⟩ : ∃ jb, jb = l.filter (blockC k) := ⟨_, rfl⟩
      obtain ⟨jv, hjv⟩ : ∃ jv, jv = v.filter (voteC k) := ⟨_, rfl⟩
      rw [show (onlyW k ⟨l, v⟩).b = jb from hjb.symm, show (onlyW k ⟨l, v⟩).v = jv from hjv.symm]
      rw [← hjb] at HJA h1 hwj n1 hz
      rw [← hjv] at HJB h2 hwk n2 hz
      rw [← hjb, ← hjv] at e1
      have HWj := Lib.hid hwj
      have HWk := Lib.hid hwk
      have HE := Lib.hid e1
      have HZ := Lib.hid hz
      have HJb := Lib.hid hjb
      have HJv := Lib.hid hjv
      clear hjb hjv e1 hwj hwk hz
      obtain ⟨b00, b01, b02, b03, b04⟩ := (HB0.out.kept KB3.out).five
      have bz0 := (HB0.out.kept KB3.out).1
      obtain ⟨b10, b11⟩ := (HB1.out.kept KB3.out).two
      have bz1 := (HB1.out.kept KB3.out).1
      go_wp2_with fail
      clear b00 b01 b02 b03 b04 bz0 b10 b11 bz1
      have HJ := Lib.hid (AtB.new W3 #[.slice A jb.length c, .slice B jv.length d] 29)
      have k := (Kept.refl W3).alloc (.cells #[.slice A jb.length c, .slice B jv.length d] 29)
      replace HJA := Lib.hid (HJA.out.kept k)
      replace HJB := Lib.hid (HJB.out.kept k)
      have KB4 := Lib.hid (KB3.out.trans k)
      clear k
      generalize W3.alloc (.cells #[.slice A jb.length c, .slice B jv.length d] 29) = W4 at *
      generalize W3.heap.size = z7 at *
      have KJ := Lib.hid (Kept.refl W4)
      have p0 : W4.cell? ⟨z7, 0, none⟩ = some (.slice A jb.length c) := HJ.out.cell
      have p1 : W4.cell? ⟨z7, 1, none⟩ = some (.slice B jv.length d) := HJ.out.cell
      have pl := HJ.out.lt
      obtain ⟨b00, b01, b02, b03, b04⟩ := (HB0.out.kept KB4.out).five
      have bz0 := (HB0.out.kept KB4.out).1
      go_wp2_with fail
      refine wp_region_noPanic ?_
      refine wp_region_held_drew (S := (fun w' => w'.cell? ⟨z0, 0, none⟩ = some (.slice kA k.ws.length kc) ∧ w'.cell? ⟨z0, 1, none⟩ = some (.int .u64 k.seed) ∧ w'.cell? ⟨z0, 2, none⟩ = some (.int .i64 k.ep) ∧ w'.cell? ⟨z0, 3, none⟩ = some (.int .i64 k.nu) ∧ w'.cell? ⟨z0, 4, none⟩ = some (.int .i64 k.de) ∧ w'.cell? ⟨z7, 0, none⟩ = some (.slice A jb.length c) ∧ w'.cell? ⟨z7, 1, none⟩ = some (.slice B jv.length d) ∧ Kept W4 w')) (by kernel_rfl) ?_ (fun hHeld => ?_)
      · exact ⟨b00, b01, b02, b03, b04, p0, p1, (Kept.refl _).drew⟩
      refine wpAnyH_take (i := 0) (v := ?_) (by simp only [List.getElem?_toArray, List.getElem?_cons_succ, List.getElem?_cons_zero]; rfl) (by kernel_rfl) (by kernel_rfl) (by kernel_rfl) (fun _ _ _ h => h) (Or.inl ⟨by rfl, ?_⟩) (by assumption) ?_
      rotate_left
      · intro w hSw
        (try dsimp only at hSw)
        go_simp
        (try with_reducible rfl)
      simp only [Act.put, List.setIfInBounds_toArray, List.set_cons_zero, List.set_cons_succ]
      refine wpAnyH_take (i := 1) (v := ?_) (by simp only [List.getElem?_toArray, List.getElem?_cons_succ, List.getElem?_cons_zero]; rfl) (by kernel_rfl) (by kernel_rfl) (by kernel_rfl) (fun _ _ _ h => h) (Or.inl ⟨by rfl, ?_⟩) (by assumption) ?_
      rotate_left
      · intro w hSw
        (try dsimp only at hSw)
        go_simp
        (try with_reducible rfl)
      simp only [Act.put, List.setIfInBounds_toArray, List.set_cons_zero, List.set_cons_succ]
      refine wpAnyH_take (i := 3) (v := ?_) (by simp only [List.getElem?_toArray, List.getElem?_cons_succ, List.getElem?_cons_zero]; rfl) (by kernel_rfl) (by kernel_rfl) (by kernel_rfl) (fun _ _ _ h => h) (Or.inl ⟨by rfl, ?_⟩) (by assumption) ?_
      rotate_left
      · intro w hSw
        (try dsimp only at hSw)
        go_simp
        (try with_reducible rfl)
      simp only [Act.put, List.setIfInBounds_toArray, List.set_cons_zero, List.set_cons_succ]
      refine wpAnyH_ready (rs := [2]) (by kernel_rfl) (by simp) ?_
      refine AllReadyH.cons (by simp only [List.getElem?_toArray, List.getElem?_cons_succ, List.getElem?_cons_zero]; rfl) (fun K hK => ?_) AllReadyH.nil
      go_simp
      go_at_call 18; with_reducible refine (viewOnly_any kA kc k A c jb B d jv _ hk1 khs (by omega) (by omega) h1 h2 HWj.out HWk.out (HA.out.kept (KB4.out.trans hHeld.2.2.2.2.2.2.2)) (HJA.out.kept (KJ.out.trans hHeld.2.2.2.2.2.2.2)) (HJB.out.kept (KJ.out.trans hHeld.2.2.2.2.2.2.2))).mono ?_
      rintro e w' ⟨A1, c1, B1, d1, rfl, hq1, hq2, hq3, hq4, kk⟩
      rw [HE.out] at hq1 hq2 hq3 hq4 ⊢
      try go_wp2_with fail
      refine hK.out _ _ ?_ (fun hHeld2 => ?_)
      · exact keepP7 bz0 bz0 bz0 bz0 bz0 pl pl hHeld kk
      clear hK K hHeld
      have hHeld := hHeld2
      clear hHeld2
      try simp only [Act.put, List.setIfInBounds_toArray, List.set_cons_zero, List.set_cons_succ]
      refine wpAnyH_ready (rs := [4]) (by kernel_rfl) (by simp) ?_
      refine AllReadyH.cons (by simp only [List.getElem?_toArray, List.getElem?_cons_succ, List.getElem?_cons_zero]; rfl) (fun K hK => ?_) AllReadyH.nil
      go_simp
      go_at_call 14; with_reducible refine (same_yes A1 c1 B1 d1 A c B d jb jv _ (by omega) (by omega) hq3 hq4 (HJA.out.kept (KJ.out.trans hHeld.2.2.2.2.2.2.2)) (HJB.out.kept (KJ.out.trans hHeld.2.2.2.2.2.2.2))).mono ?_
      rintro e w' ⟨rfl, kk⟩
      try go_wp2_with fail
      refine hK.out _ _ ?_ (fun hHeld2 => ?_)
      · exact keepP7 bz0 bz0 bz0 bz0 bz0 pl pl hHeld kk
      clear hK K hHeld
      have hHeld := hHeld2
      clear hHeld2
      try simp only [Act.put, List.setIfInBounds_toArray, List.set_cons_zero, List.set_cons_succ]
      refine wpAnyH_take (i := 5) (v := ?_) (by simp only [List.getElem?_toArray, List.getElem?_cons_succ, List.getElem?_cons_zero]; rfl) (by kernel_rfl) (by kernel_rfl) (by kernel_rfl) (fun _ _ _ h => h) (Or.inl ⟨by rfl, ?_⟩) (by assumption) ?_
      rotate_left
      · intro w hSw
        (try dsimp only at hSw)
        go_simp
        (try with_reducible rfl)
      simp only [Act.put, List.setIfInBounds_toArray, List.set_cons_zero, List.set_cons_succ]
      refine wpAnyH_done (by kernel_rfl) ?_ _
      refine NoPanic.normal ?_
      have k := hHeld.2.2.2.2.2.2.2
      clear hHeld p0 p1 pl b00 b01 b02 b03 b04 bz0
      replace HJ := Lib.hid (HJ.out.kept k)
      replace KJ := Lib.hid (KJ.out.trans k)
      have KB5 := Lib.hid (KB4.out.trans k)
      clear k
      generalize w' = W5 at *
      have p0 : W5.cell? ⟨z7, 0, none⟩ = some (.slice A jb.length c) := HJ.out.cell
      have p1 : W5.cell? ⟨z7, 1, none⟩ = some (.slice B jv.length d) := HJ.out.cell
      have pl := HJ.out.lt
      obtain ⟨b10, b11⟩ := (HB1.out.kept KB5.out).two
      have bz1 := (HB1.out.kept KB5.out).1
      have g1 : decide (l.length < jb.length) = false := decide_eq_false (by omega)
      have g2 : decide (v.length < jv.length) = false := decide_eq_false (by omega)
      go_wp2_with fail
      try simp only [g1, g2, Bool.or_false, Bool.false_or]
      clear g1 g2 p0 p1 pl b10 b11 bz1
      replace HA := Lib.hid (HA.out.kept KB5.out)
      replace HL := Lib.hid (HL.out.kept KB5.out)
      replace HV := Lib.hid (HV.out.kept KB5.out)
      replace HB0 := Lib.hid (HB0.out.kept KB5.out)
      replace HB1 := Lib.hid (HB1.out.kept KB5.out)
      replace K0 := Lib.hid (K0.out.trans KB5.out)
      have KB6 := Lib.hid (Kept.refl W5)
      generalize W5 = WL at *
      go_loopw [9, 10] (fun n i w' => ∃ j : Nat, j ≤ l.length ∧ i = .int .i64 (j : Nat) ∧ n = .int .i64 ((((l.take j).filter (blockC k)).length : Nat) : Int) ∧ Kept WL w') (fun _ i _ => l.length - (intOf i).toNat)
      case atStart => exact ⟨0, by omega, rfl, rfl, Kept.refl _⟩
      case round =>
        obtain ⟨j, hj, rfl, rfl, hK⟩ := hrel
        have KB7 := Lib.hid (KB6.out.trans hK)
        clear hK
        by_cases hlt : j < l.length
        · obtain ⟨z, o, rfl, hb, c0, c1, c2, c3, c4⟩ := block_at HL.out hlt
          have HWy := Lib.hid (lhw _ (List.getElem_mem hlt))
          have HHit := Lib.hid (fun h => filter_hit (p := blockC k) hlt h)
          have HMis := Lib.hid (fun h => filter_miss (p := blockC k) hlt h)
          have hle := Nat.le_trans (List.length_filter_le (blockC k) (l.take j)) (List.length_take_le j l)
          generalize (l.take j).filter (blockC k) = q at *
          generalize l[j] = y at *
          have e0 := (KB7.out.cell (p := ⟨z, o + j * 5, none⟩) hb).trans c0
          have e1 := (KB7.out.cell (p := ⟨z, o + j * 5 + 1, none⟩) hb).trans c1
          have e2 := (KB7.out.cell (p := ⟨z, o + j * 5 + 2, none⟩) hb).trans c2
          have e3 := (KB7.out.cell (p := ⟨z, o + j * 5 + 3, none⟩) hb).trans c3
          have e4 := (KB7.out.cell (p := ⟨z, o + j * 5 + 4, none⟩) hb).trans c4
          have hbw := Nat.lt_of_lt_of_le hb KB7.out.size_le
          obtain ⟨b00, b01, b02, b03, b04⟩ := (HB0.out.kept KB7.out).five
          have bz0 := (HB0.out.kept KB7.out).1
          obtain ⟨b10, b11⟩ := (HB1.out.kept KB7.out).two
          have bz1 := (HB1.out.kept KB7.out).1
          go_wp2_with fail
          go_region_held3 (fun w' => w'.cell? ⟨z0, 0, none⟩ = some (.slice kA k.ws.length kc) ∧ w'.cell? ⟨z0, 1, none⟩ = some (.int .u64 k.seed) ∧ w'.cell? ⟨z0, 2, none⟩ = some (.int .i64 k.ep) ∧ w'.cell? ⟨z0, 3, none⟩ = some (.int .i64 k.nu) ∧ w'.cell? ⟨z0, 4, none⟩ = some (.int .i64 k.de) ∧ w'.cell? ⟨z1, 0, none⟩ = some (.slice (some ⟨z, o, none⟩) l.length lc) ∧ w'.cell? ⟨z, o + j * 5, none⟩ = some (.int .i64 y.s) ∧ w'.cell? ⟨z, o + j * 5 + 1, none⟩ = some (.int .i64 y.f) ∧ w'.cell? ⟨z, o + j * 5 + 2, none⟩ = some (.int .u64 y.p.1) ∧ w'.cell? ⟨z, o + j * 5 + 3, none⟩ = some (.int .u64 y.p.2) ∧ w'.cell? ⟨z, o + j * 5 + 4, none⟩ = some (.int .u64 y.t) ∧ Kept wr w')
            (first | exact ⟨b00, b01, b02, b03, b04, b10, e0, e1, e2, e3, e4, Kept.refl _⟩ | exact ⟨b00, b01, b02, b03, b04, b10, e0, e1, e2, e3, e4, (Kept.refl _).drew⟩ | assumption | exact keepP11 bz0 bz0 bz0 bz0 bz0 bz1 hbw hbw hbw hbw hbw (by assumption) (by assumption))
            (first
              | (go_at_call 19; ((first | (with_reducible refine (viewBlock_any kA kc k y HWy.out _ hk1 khs (HA.out.kept (KB7.out.trans (by assumption : _ ∧ _ ∧ _ ∧ _ ∧ _ ∧ _ ∧ _ ∧ _ ∧ _ ∧ _ ∧ _ ∧ Kept wr _).2.2.2.2.2.2.2.2.2.2.2))).mono ?_)); rintro e w' ⟨rfl, kk⟩)))
          all_goals
            rename_i hh
            have k := hh.2.2.2.2.2.2.2.2.2.2.2
            clear hh
            have KB8 := Lib.hid (KB7.out.trans k)
            clear k
            generalize w' = W8 at *
            cases hin : blockC k y with
            | true =>
              have HN := Lib.hid (HHit.out hin)
              clear HHit HMis hin
              go_wp2_with fail
              go_roundw
              case rel => exact ⟨j + 1, by omega, by go_num, by rw [HN.out, List.length_append, List.length_singleton]; go_num, KB8.out⟩
              case measure => simp [intOf]; omega
            | false =>
              have HN := Lib.hid (HMis.out hin)
              clear HHit HMis hin
              go_wp2_with fail
              go_roundw
              case rel => exact ⟨j + 1, by omega, by go_num, by first | (rw [HN.out]; done) | (rw [HN.out]; simp; done), KB8.out⟩
              case measure => simp [intOf]; omega
        · have hjl : j = l.length := by omega
          subst hjl
          rw [List.take_length, ← HJb.out]
          obtain ⟨b10, b11⟩ := (HB1.out.kept KB7.out).two
          have bz1 := (HB1.out.kept KB7.out).1
          go_wp2_with fail
          clear b10 b11 bz1
          have KX := KB7
          go_loopw [9, 11] (fun n i w' => ∃ j : Nat, j ≤ v.length ∧ i = .int .i64 (j : Nat) ∧ n = .int .i64 ((jb.length + ((v.take j).filter (voteC k)).length : Nat) : Int) ∧ Kept WL w') (fun _ i _ => v.length - (intOf i).toNat)
          case atStart => exact ⟨0, by omega, rfl, by simp, KX.out⟩
          case round =>
            obtain ⟨j, hj, rfl, rfl, hK⟩ := hrel
            have KB7 := Lib.hid (KB6.out.trans hK)
            clear hK
            by_cases hlt : j < v.length
            · obtain ⟨z, o, rfl, hb, c0, c1, c2, c3⟩ := vote_at HV.out hlt
              have HWy := Lib.hid (vhw _ (List.getElem_mem hlt))
              have HHit := Lib.hid (fun h => filter_hit (p := voteC k) hlt h)
              have HMis := Lib.hid (fun h => filter_miss (p := voteC k) hlt h)
              have hle := Nat.le_trans (List.length_filter_le (voteC k) (v.take j)) (List.length_take_le j v)
              generalize (v.take j).filter (voteC k) = q at *
              generalize v[j] = y at *
              have e0 := (KB7.out.cell (p := ⟨z, o + j * 4, none⟩) hb).trans c0
              have e1 := (KB7.out.cell (p := ⟨z, o + j * 4 + 1, none⟩) hb).trans c1
              have e2 := (KB7.out.cell (p := ⟨z, o + j * 4 + 2, none⟩) hb).trans c2
              have e3 := (KB7.out.cell (p := ⟨z, o + j * 4 + 3, none⟩) hb).trans c3
              have hbw := Nat.lt_of_lt_of_le hb KB7.out.size_le
              obtain ⟨b00, b01, b02, b03, b04⟩ := (HB0.out.kept KB7.out).five
              have bz0 := (HB0.out.kept KB7.out).1
              obtain ⟨b10, b11⟩ := (HB1.out.kept KB7.out).two
              have bz1 := (HB1.out.kept KB7.out).1
              go_wp2_with fail
              go_region_held3 (fun w' => w'.cell? ⟨z0, 0, none⟩ = some (.slice kA k.ws.length kc) ∧ w'.cell? ⟨z0, 1, none⟩ = some (.int .u64 k.seed) ∧ w'.cell? ⟨z0, 2, none⟩ = some (.int .i64 k.ep) ∧ w'.cell? ⟨z0, 3, none⟩ = some (.int .i64 k.nu) ∧ w'.cell? ⟨z0, 4, none⟩ = some (.int .i64 k.de) ∧ w'.cell? ⟨z1, 1, none⟩ = some (.slice (some ⟨z, o, none⟩) v.length vc) ∧ w'.cell? ⟨z, o + j * 4, none⟩ = some (.int .i64 y.f) ∧ w'.cell? ⟨z, o + j * 4 + 1, none⟩ = some (.int .i64 y.s) ∧ w'.cell? ⟨z, o + j * 4 + 2, none⟩ = some (.int .u64 y.p.1) ∧ w'.cell? ⟨z, o + j * 4 + 3, none⟩ = some (.int .u64 y.p.2) ∧ Kept wr w')
                (first | exact ⟨b00, b01, b02, b03, b04, b11, e0, e1, e2, e3, Kept.refl _⟩ | exact ⟨b00, b01, b02, b03, b04, b11, e0, e1, e2, e3, (Kept.refl _).drew⟩ | assumption | exact keepP10 bz0 bz0 bz0 bz0 bz0 bz1 hbw hbw hbw hbw (by assumption) (by assumption))
                (first
                  | (go_at_call 20; ((first | (with_reducible refine (viewVote_any kA kc k y HWy.out _ hk1 khs (HA.out.kept (KB7.out.trans (by assumption : _ ∧ _ ∧ _ ∧ _ ∧ _ ∧ _ ∧ _ ∧ _ ∧ _ ∧ _ ∧ Kept wr _).2.2.2.2.2.2.2.2.2.2))).mono ?_)); rintro e w' ⟨rfl, kk⟩)))
              all_goals
                rename_i hh
                have k := hh.2.2.2.2.2.2.2.2.2.2
                clear hh
                have KB8 := Lib.hid (KB7.out.trans k)
                clear k
                generalize w' = W8 at *
                cases hin : voteC k y with
                | true =>
                  have HN := Lib.hid (HHit.out hin)
                  clear HHit HMis hin
                  go_wp2_with fail
                  go_roundw
                  case rel => exact ⟨j + 1, by omega, by go_num, by rw [HN.out, List.length_append, List.length_singleton]; go_num, KB8.out⟩
                  case measure => simp [intOf]; omega
                | false =>
                  have HN := Lib.hid (HMis.out hin)
                  clear HHit HMis hin
                  go_wp2_with fail
                  go_roundw
                  case rel => exact ⟨j + 1, by omega, by go_num, by first | (rw [HN.out]; done) | (rw [HN.out]; simp; done), KB8.out⟩
                  case measure => simp [intOf]; omega
            · have hjl : j = v.length := by omega
              subst hjl
              rw [List.take_length, ← HJv.out]
              replace HJ := Lib.hid (HJ.out.kept KB7.out)
              have p0 : wr.cell? ⟨z7, 0, none⟩ = some (.slice A jb.length c) := HJ.out.cell
              have p1 : wr.cell? ⟨z7, 1, none⟩ = some (.slice B jv.length d) := HJ.out.cell
              have pl := HJ.out.lt
              have g5 : IntKind.i64.wrap ((jb.length : Int) + (jv.length : Int)) = ((jb.length + jv.length : Nat) : Int) := by rw [IntKind.wrap_i64]; omega
              have g6 : (((jb.length + jv.length : Nat) : Int) == ((jb.length + jv.length : Nat) : Int)) = true := beq_self_eq_true _
              obtain ⟨b00, b01, b02, b03, b04⟩ := (HB0.out.kept KB7.out).five
              have bz0 := (HB0.out.kept KB7.out).1
              obtain ⟨b10, b11⟩ := (HB1.out.kept KB7.out).two
              have bz1 := (HB1.out.kept KB7.out).1
              go_wp2_with fail
              clear b00 b01 b02 b03 b04 bz0 b10 b11 bz1
              refine (mayD_any kA kc k wr (HA.out.kept KB7.out)).mono ?_
              rintro e W8 ⟨rfl, k⟩
              have KB8 := Lib.hid (KB7.out.trans k)
              clear k
              cases hm : mayC k with
              | true =>
                go_wp2_with fail
                go_ret
                exact ⟨by first | rfl | (simp; done), K0.out.trans KB8.out⟩
              | false =>
                have h0 := HZ.out hm
                have h1 : jb.length = 0 := by omega
                have h2 : jv.length = 0 := by omega
                have g7 : (((jb.length + jv.length : Nat) : Int) == 0) = true := by rw [h1, h2]; rfl
                have g8 : (((jb.length : Int) + (jv.length : Int)) == 0) = true := by rw [h1, h2]; rfl
                go_wp2_with fail
                go_ret
                exact ⟨by first | rfl | (simp; done), K0.out.trans KB8.out⟩

/-! ### The row's step -/
set_option maxRecDepth 100000 in
theorem lifted (os : Os) (started : os.Started) (H : Type) (enc : TypeId × Value → H) :
    ReturnsInHanded {} Try.checked os 6 .any (Rows.viewOnlySpec.pre6 enc Try.prog Try.f6 Rows.viewOnlyRow.domain false) (Rows.viewOnlySpec.post enc Try.prog Try.f6 false true false false) := by
  refine returnsInHanded_of_change (C := Try.checked) own started (by kernel_rfl) Try.func6
    (ChangeSpec.witness6 (enc := enc) (C := Try.checked) false ⟨#[], #[.agg #[.slice none 0 0, .int .u64 0, .int .i64 0, .int .i64 0, .int .i64 0], .agg #[.slice none 0 0, .slice none 0 0]], []⟩ 8 (by kernel_rfl) (by kernel_rfl) (by kernel_rfl) (by kernel_rfl)) ?_
  intro W base args ds gs before hval0 hW hcnd _
  have hval : ∀ (j : Nat) t v, Try.f6.params[j]? = some t → args[j]? = some v → Value.okWide Try.prog W .any base t v := hval0
  have hW' := hW
  obtain ⟨p, q, hA0, hV, rfl, hfz, hnd⟩ := hW
  have hA : DataW.TrodAll enc Try.prog W 0 (fun _ => true) true Try.f6.params.toList args.toList ds p := hA0
  rw [Try.params6] at hA hval
  obtain ⟨v0, vs0, d0, ds0, p0, q0, hargs, rfl, rfl, h0, r0⟩ := trodAll_cons hA
  obtain ⟨v1, vs1, d1, ds1, p1, q1, rfl, rfl, rfl, h1, r1⟩ := trodAll_cons r0
  obtain ⟨rfl, rfl, rfl⟩ := trodAll_nil r1
  obtain rfl : args = #[v0, v1] := by cases args; simp_all
  obtain ⟨rfl, rfl⟩ := trodVars_none hV
  obtain ⟨kA, kc, k, rfl, khm, khs, khl⟩ := open_conf (hval 0 _ v0 rfl rfl) h0
  obtain ⟨lA, lc, l, vA, vc, v, rfl, lhm, lhc, ⟨lhw, lh6⟩, lhl, vhm, vhc, vhw, vhl⟩ := open_view64 (hval 1 _ v1 rfl rfl) h1
  clear hA0 hval0
  refine (walk W kA kc k khm khs khl lA lc l vA vc v lhm lhc lhw lh6 lhl vhm vhc vhw vhl).mono fun e W' ⟨he, hb⟩ => ?_
  subst he
  exact ⟨_, rfl, law_post rfl (by kernel_rfl) rfl hW' rfl hb⟩

theorem over : Rows.viewOnlyRow.holds Try.pinned (OpenSpec.ofChange Rows.viewOnlySpec) :=
  OpenClaim.holds_of_wide 6 Try.f6 rfl rfl rfl rfl rfl rfl rfl ⟨rfl, rfl, rfl, rfl, rfl⟩ rfl rfl rfl rfl rfl (by kernel_rfl) Try.func6 (by kernel_rfl)
    (of_decide_eq_true (by kernel_rfl)) (by unfold Func.isWrapper; first | (rw [if_pos (by decide +kernel)]; kernel_rfl) | (rw [if_neg (by decide +kernel)]; exact ⟨rfl, rfl⟩))
    (fun os started H enc _ => lifted os started H enc)

/-- The statement. -/
theorem proved : Rows.ViewOnlySaid :=
  over
#print axioms proved

end Go.Proofs.Ytacdiicnfoejoaa.viewOnly
