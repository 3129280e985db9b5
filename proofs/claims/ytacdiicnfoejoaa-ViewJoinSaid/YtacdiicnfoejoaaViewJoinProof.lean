/-
  Law ViewJoin of layer 16: what is joined has all of both, and begins by the first one; joined with either again it is the same, whatever two views.
-/
import Derived.Test.YtacdiicnfoejoaaViewUse
import Derived.Test.YtacdiicnfoejoaaView
import Derived.Test.YtacdiicnfoejoaaViewAwake
import Derived.Test.YtacdiicnfoejoaaViewOpen64
import Derived.Test.YtacdiicnfoejoaaMixG
import Derived.Test.YtacdiicnfoejoaaGround
import Derived.Test.YtacdiicnfoejoaaVoteG
import Derived.Test.YtacdiicnfoejoaaDutyG
namespace Go.Proofs.Ytacdiicnfoejoaa.viewJoin
set_option maxRecDepth 100000
set_option linter.unusedVariables false
set_option linter.unusedSimpArgs false
open Go.ChangeShapes Go.WideShapes Go.ChangeAt Go.RowKit
set_option linter.unusedVariables false

/-! ### The walk: the call returns true, and of what was there nothing has changed. -/
set_option maxRecDepth 100000 in
set_option maxHeartbeats 12800000 in
theorem walk (w : World) (lA : Option Addr) (lc : Nat) (l : List Bk) (vA : Option Addr) (vc : Nat) (v : List Vt) (lhm : l.length ≤ maxLen) (lhc : l.length ≤ lc) (lhw : WfL l) (lh6 : Wf64L l) (lhl : CellsAt w w.heap.size lA (blockCells l)) (vhm : v.length ≤ maxLen) (vhc : v.length ≤ vc) (vhw : WfVs v) (vhl : CellsAt w w.heap.size vA (votesCells v)) (mA : Option Addr) (mc : Nat) (m : List Bk) (uA : Option Addr) (uc : Nat) (u : List Vt) (mhm : m.length ≤ maxLen) (mhc : m.length ≤ mc) (mhw : WfL m) (mh6 : Wf64L m) (mhl : CellsAt w w.heap.size mA (blockCells m)) (uhm : u.length ≤ maxLen) (uhc : u.length ≤ uc) (uhw : WfVs u) (uhl : CellsAt w w.heap.size uA (votesCells u)) :
    Calls Try.prog 7 #[.agg #[.slice lA l.length lc, .slice vA v.length vc], .agg #[.slice mA m.length mc, .slice uA u.length uc]] w fun e w' => e = .returned (.bool true) ∧ Kept w w' := by
  cases hf0 : few16C l v 40 with
  | false =>
    go_enter Try.func7, Try.ntmps7
    go_wp2_with fail
    have K0 := Lib.hid (((Kept.refl w).alloc (.cells #[.slice lA l.length lc, .slice vA v.length vc] 29)).alloc (.cells #[.slice mA m.length mc, .slice uA u.length uc] 29))
    have HL := Lib.hid (lhl.kept K0.out)
    clear lhl
    have HV := Lib.hid (vhl.kept K0.out)
    clear vhl
    have HM := Lib.hid (mhl.kept K0.out)
    clear mhl
    have HU := Lib.hid (uhl.kept K0.out)
    clear uhl
    have HB0 := Lib.hid ((HasCells.new w #[.slice lA l.length lc, .slice vA v.length vc] 29 (w.heap.size) (by simp)).alloc (.cells #[.slice mA m.length mc, .slice uA u.length uc] 29))
    have HB1 := Lib.hid (HasCells.new (w.alloc (.cells #[.slice lA l.length lc, .slice vA v.length vc] 29)) #[.slice mA m.length mc, .slice uA u.length uc] 29 (w.heap.size + 1) (by simp))
    generalize ((w.alloc (.cells #[.slice lA l.length lc, .slice vA v.length vc] 29)).alloc (.cells #[.slice mA m.length mc, .slice uA u.length uc] 29)) = W0 at *
    generalize w.heap.size + 1 = z1 at *
    generalize w.heap.size = z0 at *
    have KB0 := Lib.hid (Kept.refl W0)
    refine (awake16 W0).mono ?_
    rintro e W1 ⟨rfl, k⟩
    have KB1 := Lib.hid (KB0.out.trans k)
    clear k
    obtain ⟨b00, b01⟩ := (HB0.out.kept KB1.out).two
    have bz0 := (HB0.out.kept KB1.out).1
    obtain ⟨b10, b11⟩ := (HB1.out.kept KB1.out).two
    have bz1 := (HB1.out.kept KB1.out).1
    go_wp2_with fail
    clear b00 b01 bz0 b10 b11 bz1
    refine (few16_any lA lc l vA vc v 40 W1).mono ?_
    rintro e W2 ⟨rfl, k⟩
    have KB2 := Lib.hid (KB1.out.trans k)
    clear k
    rw [hf0]
    obtain ⟨b00, b01⟩ := (HB0.out.kept KB2.out).two
    have bz0 := (HB0.out.kept KB2.out).1
    obtain ⟨b10, b11⟩ := (HB1.out.kept KB2.out).two
    have bz1 := (HB1.out.kept KB2.out).1
    go_wp2_with fail
    clear b00 b01 bz0 b10 b11 bz1
    refine (few16_any mA mc m uA uc u 40 W2).mono ?_
    rintro e W3 ⟨rfl, k⟩
    have KB3 := Lib.hid (KB2.out.trans k)
    clear k
    obtain ⟨b00, b01⟩ := (HB0.out.kept KB3.out).two
    have bz0 := (HB0.out.kept KB3.out).1
    obtain ⟨b10, b11⟩ := (HB1.out.kept KB3.out).two
    have bz1 := (HB1.out.kept KB3.out).1
    go_wp2_with fail
    clear b00 b01 bz0 b10 b11 bz1
    go_ret
    exact ⟨by first | rfl | (simp; done), K0.out.trans KB3.out⟩
  | true =>
    have F0 := Lib.hid hf0
    clear hf0
    cases hf1 : few16C m u 40 with
    | false =>
      go_enter Try.func7, Try.ntmps7
      go_wp2_with fail
      have K0 := Lib.hid (((Kept.refl w).alloc (.cells #[.slice lA l.length lc, .slice vA v.length vc] 29)).alloc (.cells #[.slice mA m.length mc, .slice uA u.length uc] 29))
      have HL := Lib.hid (lhl.kept K0.out)
      clear lhl
      have HV := Lib.hid (vhl.kept K0.out)
      clear vhl
      have HM := Lib.hid (mhl.kept K0.out)
      clear mhl
      have HU := Lib.hid (uhl.kept K0.out)
      clear uhl
      have HB0 := Lib.hid ((HasCells.new w #[.slice lA l.length lc, .slice vA v.length vc] 29 (w.heap.size) (by simp)).alloc (.cells #[.slice mA m.length mc, .slice uA u.length uc] 29))
      have HB1 := Lib.hid (HasCells.new (w.alloc (.cells #[.slice lA l.length lc, .slice vA v.length vc] 29)) #[.slice mA m.length mc, .slice uA u.length uc] 29 (w.heap.size + 1) (by simp))
      generalize ((w.alloc (.cells #[.slice lA l.length lc, .slice vA v.length vc] 29)).alloc (.cells #[.slice mA m.length mc, .slice uA u.length uc] 29)) = W0 at *
      generalize w.heap.size + 1 = z1 at *
      generalize w.heap.size = z0 at *
      have KB0 := Lib.hid (Kept.refl W0)
      refine (awake16 W0).mono ?_
      rintro e W1 ⟨rfl, k⟩
      have KB1 := Lib.hid (KB0.out.trans k)
      clear k
      obtain ⟨b00, b01⟩ := (HB0.out.kept KB1.out).two
      have bz0 := (HB0.out.kept KB1.out).1
      obtain ⟨b10, b11⟩ := (HB1.out.kept KB1.out).two
      have bz1 := (HB1.out.kept KB1.out).1
      go_wp2_with fail
      clear b00 b01 bz0 b10 b11 bz1
      refine (few16_any lA lc l vA vc v 40 W1).mono ?_
      rintro e W2 ⟨rfl, k⟩
      have KB2 := Lib.hid (KB1.out.trans k)
      clear k
      rw [F0.out]
      obtain ⟨b00, b01⟩ := (HB0.out.kept KB2.out).two
      have bz0 := (HB0.out.kept KB2.out).1
      obtain ⟨b10, b11⟩ := (HB1.out.kept KB2.out).two
      have bz1 := (HB1.out.kept KB2.out).1
      go_wp2_with fail
      clear b00 b01 bz0 b10 b11 bz1
      refine (few16_any mA mc m uA uc u 40 W2).mono ?_
      rintro e W3 ⟨rfl, k⟩
      have KB3 := Lib.hid (KB2.out.trans k)
      clear k
      rw [hf1]
      obtain ⟨b00, b01⟩ := (HB0.out.kept KB3.out).two
      have bz0 := (HB0.out.kept KB3.out).1
      obtain ⟨b10, b11⟩ := (HB1.out.kept KB3.out).two
      have bz1 := (HB1.out.kept KB3.out).1
      go_wp2_with fail
      clear b00 b01 bz0 b10 b11 bz1
      go_ret
      exact ⟨by first | rfl | (simp; done), K0.out.trans KB3.out⟩
    | true =>
      have F1 := Lib.hid hf1
      clear hf1
      go_enter Try.func7, Try.ntmps7
      go_wp2_with fail
      have K0 := Lib.hid (((Kept.refl w).alloc (.cells #[.slice lA l.length lc, .slice vA v.length vc] 29)).alloc (.cells #[.slice mA m.length mc, .slice uA u.length uc] 29))
      have HL := Lib.hid (lhl.kept K0.out)
      clear lhl
      have HV := Lib.hid (vhl.kept K0.out)
      clear vhl
      have HM := Lib.hid (mhl.kept K0.out)
      clear mhl
      have HU := Lib.hid (uhl.kept K0.out)
      clear uhl
      have HB0 := Lib.hid ((HasCells.new w #[.slice lA l.length lc, .slice vA v.length vc] 29 (w.heap.size) (by simp)).alloc (.cells #[.slice mA m.length mc, .slice uA u.length uc] 29))
      have HB1 := Lib.hid (HasCells.new (w.alloc (.cells #[.slice lA l.length lc, .slice vA v.length vc] 29)) #[.slice mA m.length mc, .slice uA u.length uc] 29 (w.heap.size + 1) (by simp))
      generalize ((w.alloc (.cells #[.slice lA l.length lc, .slice vA v.length vc] 29)).alloc (.cells #[.slice mA m.length mc, .slice uA u.length uc] 29)) = W0 at *
      generalize w.heap.size + 1 = z1 at *
      generalize w.heap.size = z0 at *
      have KB0 := Lib.hid (Kept.refl W0)
      refine (awake16 W0).mono ?_
      rintro e W1 ⟨rfl, k⟩
      have KB1 := Lib.hid (KB0.out.trans k)
      clear k
      obtain ⟨b00, b01⟩ := (HB0.out.kept KB1.out).two
      have bz0 := (HB0.out.kept KB1.out).1
      obtain ⟨b10, b11⟩ := (HB1.out.kept KB1.out).two
      have bz1 := (HB1.out.kept KB1.out).1
      go_wp2_with fail
      clear b00 b01 bz0 b10 b11 bz1
      refine (few16_any lA lc l vA vc v 40 W1).mono ?_
      rintro e W2 ⟨rfl, k⟩
      have KB2 := Lib.hid (KB1.out.trans k)
      clear k
      rw [F0.out]
      obtain ⟨b00, b01⟩ := (HB0.out.kept KB2.out).two
      have bz0 := (HB0.out.kept KB2.out).1
      obtain ⟨b10, b11⟩ := (HB1.out.kept KB2.out).two
      have bz1 := (HB1.out.kept KB2.out).1
      go_wp2_with fail
      clear b00 b01 bz0 b10 b11 bz1
      refine (few16_any mA mc m uA uc u 40 W2).mono ?_
      rintro e W3 ⟨rfl, k⟩
      have KB3 := Lib.hid (KB2.out.trans k)
      clear k
      rw [F1.out]
      obtain ⟨hl40, hv40⟩ := few16_yes (n := 40) F0.out
      obtain ⟨hm40, hu40⟩ := few16_yes (n := 40) F1.out
      obtain ⟨b00, b01⟩ := (HB0.out.kept KB3.out).two
      have bz0 := (HB0.out.kept KB3.out).1
      obtain ⟨b10, b11⟩ := (HB1.out.kept KB3.out).two
      have bz1 := (HB1.out.kept KB3.out).1
      go_wp2_with fail
      clear b00 b01 bz0 b10 b11 bz1
      refine (viewJoin_any lA lc l vA vc v mA mc m uA uc u W3 (by omega) (by omega) (by omega) (by omega) lhc vhc mhc uhc lhw vhw mhw uhw lh6 mh6 (HL.out.kept KB3.out) (HV.out.kept KB3.out) (HM.out.kept KB3.out) (HU.out.kept KB3.out)).mono ?_
      rintro e W4 ⟨A, c, B, d, rfl, h1, h2, hjA, hjB, k⟩
      have KB4 := Lib.hid (KB3.out.trans k)
      clear k
      have HJA := Lib.hid hjA
      have HJB := Lib.hid hjB
      clear hjA hjB
      have e1 := joinL_left l m
      have e2 := joinL_left v u
      have e3 := joinL_right l m
      have e4 := joinL_right v u
      have hwj := wfl_join lhw mhw
      have hj6 := wf64_join lh6 mh6
      have hwk := wfv_join vhw uhw
      have t1 := join_take l m
      have t2 := join_take v u
      have n1 := joinL_len l m
      have n2 := joinL_len v u
      obtain ⟨jb, hjb⟩ : ∃ jb, jb = joinL l m := ⟨_, rfl⟩
      obtain ⟨jv, hjv⟩ : ∃ jv, jv = joinL v u := ⟨_, rfl⟩
      change jb = (joinW ⟨l, v⟩ ⟨m, u⟩).b at hjb
      change jv = (joinW ⟨l, v⟩ ⟨m, u⟩).v at hjv
      rw [← hjb] at HJA h1 ⊢
      rw [← hjv] at HJB h2 ⊢
      change jb = joinL l m at hjb
      change jv = joinL v u at hjv
      rw [← hjb] at e1 e3 hwj hj6 t1 n1
      rw [← hjv] at e2 e4 hwk t2 n2
      have HWj := Lib.hid hwj
      have HJ6 := Lib.hid hj6
      have HWk := Lib.hid hwk
      have HE := Lib.hid (⟨e1, e2, e3, e4⟩ : _ ∧ _ ∧ _ ∧ _)
      clear hj6
      have HT := Lib.hid (⟨t1, t2⟩ : _ ∧ _)
      clear hjb hjv e1 e2 e3 e4 hwj hwk t1 t2
      have hc1 : l.length ≤ c := by omega
      have hd1 : v.length ≤ d := by omega
      obtain ⟨b00, b01⟩ := (HB0.out.kept KB4.out).two
      have bz0 := (HB0.out.kept KB4.out).1
      obtain ⟨b10, b11⟩ := (HB1.out.kept KB4.out).two
      have bz1 := (HB1.out.kept KB4.out).1
      go_wp2_with fail
      clear b00 b01 bz0 b10 b11 bz1
      have HJ := Lib.hid (AtB.new W4 #[.slice A jb.length c, .slice B jv.length d] 29)
      have k := (Kept.refl W4).alloc (.cells #[.slice A jb.length c, .slice B jv.length d] 29)
      replace HJA := Lib.hid (HJA.out.kept k)
      replace HJB := Lib.hid (HJB.out.kept k)
      have KB5 := Lib.hid (KB4.out.trans k)
      clear k
      generalize W4.alloc (.cells #[.slice A jb.length c, .slice B jv.length d] 29) = W5 at *
      generalize W4.heap.size = z8 at *
      have KJ := Lib.hid (Kept.refl W5)
      have p0 : W5.cell? ⟨z8, 0, none⟩ = some (.slice A jb.length c) := HJ.out.cell
      have p1 : W5.cell? ⟨z8, 1, none⟩ = some (.slice B jv.length d) := HJ.out.cell
      have pl := HJ.out.lt
      obtain ⟨b00, b01⟩ := (HB0.out.kept KB5.out).two
      have bz0 := (HB0.out.kept KB5.out).1
      go_wp2_with fail
      refine wp_region_noPanic ?_
      refine wp_region_held_drew (S := (fun w' => w'.cell? ⟨z8, 0, none⟩ = some (.slice A jb.length c) ∧ w'.cell? ⟨z8, 1, none⟩ = some (.slice B jv.length d) ∧ w'.cell? ⟨z0, 0, none⟩ = some (.slice lA l.length lc) ∧ w'.cell? ⟨z0, 1, none⟩ = some (.slice vA v.length vc) ∧ Kept W5 w')) (by kernel_rfl) ?_ (fun hHeld => ?_)
      · exact ⟨p0, p1, b00, b01, (Kept.refl _).drew⟩
      refine wpAnyH_take (i := 0) (v := ?_) (by simp only [List.getElem?_toArray, List.getElem?_cons_succ, List.getElem?_cons_zero]; rfl) (by kernel_rfl) (by kernel_rfl) (by kernel_rfl) (fun _ _ _ h => h) (Or.inl ⟨by rfl, ?_⟩) (by assumption) ?_
      rotate_left
      · intro w hSw
        (try dsimp only at hSw)
        go_simp
        (try with_reducible rfl)
      simp only [Act.put, List.setIfInBounds_toArray, List.set_cons_zero, List.set_cons_succ]
      refine wpAnyH_take (i := 1) (v := ?_) (by simp only [List.getElem?_toArray, List.getElem?_cons_succ, List.getElem?_cons_zero]; rfl) (by kernel_rfl) (by kernel_rfl) (by kernel_rfl) (fun _ _ _ h => h) (Or.inl ⟨by rfl, ?_⟩) (by assumption) ?_
      rotate_left
      · intro w hSw
        (try dsimp only at hSw)
        go_simp
        (try with_reducible rfl)
      simp only [Act.put, List.setIfInBounds_toArray, List.set_cons_zero, List.set_cons_succ]
      refine wpAnyH_take (i := 3) (v := ?_) (by simp only [List.getElem?_toArray, List.getElem?_cons_succ, List.getElem?_cons_zero]; rfl) (by kernel_rfl) (by kernel_rfl) (by kernel_rfl) (fun _ _ _ h => h) (Or.inl ⟨by rfl, ?_⟩) (by assumption) ?_
      rotate_left
      · intro w hSw
        (try dsimp only at hSw)
        go_simp
        (try with_reducible rfl)
      simp only [Act.put, List.setIfInBounds_toArray, List.set_cons_zero, List.set_cons_succ]
      refine wpAnyH_ready (rs := [2]) (by kernel_rfl) (by simp) ?_
      refine AllReadyH.cons (by simp only [List.getElem?_toArray, List.getElem?_cons_succ, List.getElem?_cons_zero]; rfl) (fun K hK => ?_) AllReadyH.nil
      go_simp
      go_at_call 15; with_reducible refine (viewJoin_any A c jb B d jv lA lc l vA vc v _ (by omega) (by omega) (by omega) (by omega) h1 h2 lhc vhc HWj.out HWk.out lhw vhw HJ6.out lh6 (HJA.out.kept (KJ.out.trans hHeld.2.2.2.2)) (HJB.out.kept (KJ.out.trans hHeld.2.2.2.2)) (HL.out.kept (KB5.out.trans hHeld.2.2.2.2)) (HV.out.kept (KB5.out.trans hHeld.2.2.2.2))).mono ?_
      rintro e w' ⟨A1, c1, B1, d1, rfl, hq1, hq2, hq3, hq4, kk⟩
      rw [show (joinW ⟨jb, jv⟩ ⟨l, v⟩).b = jb from HE.out.1] at hq1 hq3 ⊢
      rw [show (joinW ⟨jb, jv⟩ ⟨l, v⟩).v = jv from HE.out.2.1] at hq2 hq4 ⊢
      try go_wp2_with fail
      refine hK.out _ _ ?_ (fun hHeld2 => ?_)
      · exact keepP4 pl pl bz0 bz0 hHeld kk
      clear hK K hHeld
      have hHeld := hHeld2
      clear hHeld2
      try simp only [Act.put, List.setIfInBounds_toArray, List.set_cons_zero, List.set_cons_succ]
      refine wpAnyH_ready (rs := [4]) (by kernel_rfl) (by simp) ?_
      refine AllReadyH.cons (by simp only [List.getElem?_toArray, List.getElem?_cons_succ, List.getElem?_cons_zero]; rfl) (fun K hK => ?_) AllReadyH.nil
      go_simp
      go_at_call 14; with_reducible refine (same_yes A1 c1 B1 d1 A c B d jb jv _ (by omega) (by omega) hq3 hq4 (HJA.out.kept (KJ.out.trans hHeld.2.2.2.2)) (HJB.out.kept (KJ.out.trans hHeld.2.2.2.2))).mono ?_
      rintro e w' ⟨rfl, kk⟩
      try go_wp2_with fail
      refine hK.out _ _ ?_ (fun hHeld2 => ?_)
      · exact keepP4 pl pl bz0 bz0 hHeld kk
      clear hK K hHeld
      have hHeld := hHeld2
      clear hHeld2
      try simp only [Act.put, List.setIfInBounds_toArray, List.set_cons_zero, List.set_cons_succ]
      refine wpAnyH_take (i := 5) (v := ?_) (by simp only [List.getElem?_toArray, List.getElem?_cons_succ, List.getElem?_cons_zero]; rfl) (by kernel_rfl) (by kernel_rfl) (by kernel_rfl) (fun _ _ _ h => h) (Or.inl ⟨by rfl, ?_⟩) (by assumption) ?_
      rotate_left
      · intro w hSw
        (try dsimp only at hSw)
        go_simp
        (try with_reducible rfl)
      simp only [Act.put, List.setIfInBounds_toArray, List.set_cons_zero, List.set_cons_succ]
      refine wpAnyH_done (by kernel_rfl) ?_ _
      refine NoPanic.normal ?_
      have k := hHeld.2.2.2.2
      clear hHeld p0 p1 pl b00 b01 bz0
      replace HJ := Lib.hid (HJ.out.kept k)
      replace KJ := Lib.hid (KJ.out.trans k)
      have KB6 := Lib.hid (KB5.out.trans k)
      clear k
      generalize w' = W6 at *
      have p0 : W6.cell? ⟨z8, 0, none⟩ = some (.slice A jb.length c) := HJ.out.cell
      have p1 : W6.cell? ⟨z8, 1, none⟩ = some (.slice B jv.length d) := HJ.out.cell
      have pl := HJ.out.lt
      obtain ⟨b10, b11⟩ := (HB1.out.kept KB6.out).two
      have bz1 := (HB1.out.kept KB6.out).1
      go_wp2_with fail
      refine wp_region_noPanic ?_
      refine wp_region_held_drew (S := (fun w' => w'.cell? ⟨z8, 0, none⟩ = some (.slice A jb.length c) ∧ w'.cell? ⟨z8, 1, none⟩ = some (.slice B jv.length d) ∧ w'.cell? ⟨z1, 0, none⟩ = some (.slice mA m.length mc) ∧ w'.cell? ⟨z1, 1, none⟩ = some (.slice uA u.length uc) ∧ Kept W6 w')) (by kernel_rfl) ?_ (fun hHeld => ?_)
      · exact ⟨p0, p1, b10, b11, (Kept.refl _).drew⟩
      refine wpAnyH_take (i := 0) (v := ?_) (by simp only [List.getElem?_toArray, List.getElem?_cons_succ, List.getElem?_cons_zero]; rfl) (by kernel_rfl) (by kernel_rfl) (by kernel_rfl) (fun _ _ _ h => h) (Or.inl ⟨by rfl, ?_⟩) (by assumption) ?_
      rotate_left
      · intro w hSw
        (try dsimp only at hSw)
        go_simp
        (try with_reducible rfl)
      simp only [Act.put, List.setIfInBounds_toArray, List.set_cons_zero, List.set_cons_succ]
      refine wpAnyH_take (i := 1) (v := ?_) (by simp only [List.getElem?_toArray, List.getElem?_cons_succ, List.getElem?_cons_zero]; rfl) (by kernel_rfl) (by kernel_rfl) (by kernel_rfl) (fun _ _ _ h => h) (Or.inl ⟨by rfl, ?_⟩) (by assumption) ?_
      rotate_left
      · intro w hSw
        (try dsimp only at hSw)
        go_simp
        (try with_reducible rfl)
      simp only [Act.put, List.setIfInBounds_toArray, List.set_cons_zero, List.set_cons_succ]
      refine wpAnyH_take (i := 3) (v := ?_) (by simp only [List.getElem?_toArray, List.getElem?_cons_succ, List.getElem?_cons_zero]; rfl) (by kernel_rfl) (by kernel_rfl) (by kernel_rfl) (fun _ _ _ h => h) (Or.inl ⟨by rfl, ?_⟩) (by assumption) ?_
      rotate_left
      · intro w hSw
        (try dsimp only at hSw)
        go_simp
        (try with_reducible rfl)
      simp only [Act.put, List.setIfInBounds_toArray, List.set_cons_zero, List.set_cons_succ]
      refine wpAnyH_ready (rs := [2]) (by kernel_rfl) (by simp) ?_
      refine AllReadyH.cons (by simp only [List.getElem?_toArray, List.getElem?_cons_succ, List.getElem?_cons_zero]; rfl) (fun K hK => ?_) AllReadyH.nil
      go_simp
      go_at_call 15; with_reducible refine (viewJoin_any A c jb B d jv mA mc m uA uc u _ (by omega) (by omega) (by omega) (by omega) h1 h2 mhc uhc HWj.out HWk.out mhw uhw HJ6.out mh6 (HJA.out.kept (KJ.out.trans hHeld.2.2.2.2)) (HJB.out.kept (KJ.out.trans hHeld.2.2.2.2)) (HM.out.kept (KB6.out.trans hHeld.2.2.2.2)) (HU.out.kept (KB6.out.trans hHeld.2.2.2.2))).mono ?_
      rintro e w' ⟨A1, c1, B1, d1, rfl, hq1, hq2, hq3, hq4, kk⟩
      rw [show (joinW ⟨jb, jv⟩ ⟨m, u⟩).b = jb from HE.out.2.2.1] at hq1 hq3 ⊢
      rw [show (joinW ⟨jb, jv⟩ ⟨m, u⟩).v = jv from HE.out.2.2.2] at hq2 hq4 ⊢
      try go_wp2_with fail
      refine hK.out _ _ ?_ (fun hHeld2 => ?_)
      · exact keepP4 pl pl bz1 bz1 hHeld kk
      clear hK K hHeld
      have hHeld := hHeld2
      clear hHeld2
      try simp only [Act.put, List.setIfInBounds_toArray, List.set_cons_zero, List.set_cons_succ]
      refine wpAnyH_ready (rs := [4]) (by kernel_rfl) (by simp) ?_
      refine AllReadyH.cons (by simp only [List.getElem?_toArray, List.getElem?_cons_succ, List.getElem?_cons_zero]; rfl) (fun K hK => ?_) AllReadyH.nil
      go_simp
      go_at_call 14; with_reducible refine (same_yes A1 c1 B1 d1 A c B d jb jv _ (by omega) (by omega) hq3 hq4 (HJA.out.kept (KJ.out.trans hHeld.2.2.2.2)) (HJB.out.kept (KJ.out.trans hHeld.2.2.2.2))).mono ?_
      rintro e w' ⟨rfl, kk⟩
      try go_wp2_with fail
      refine hK.out _ _ ?_ (fun hHeld2 => ?_)
      · exact keepP4 pl pl bz1 bz1 hHeld kk
      clear hK K hHeld
      have hHeld := hHeld2
      clear hHeld2
      try simp only [Act.put, List.setIfInBounds_toArray, List.set_cons_zero, List.set_cons_succ]
      refine wpAnyH_take (i := 5) (v := ?_) (by simp only [List.getElem?_toArray, List.getElem?_cons_succ, List.getElem?_cons_zero]; rfl) (by kernel_rfl) (by kernel_rfl) (by kernel_rfl) (fun _ _ _ h => h) (Or.inl ⟨by rfl, ?_⟩) (by assumption) ?_
      rotate_left
      · intro w hSw
        (try dsimp only at hSw)
        go_simp
        (try with_reducible rfl)
      simp only [Act.put, List.setIfInBounds_toArray, List.set_cons_zero, List.set_cons_succ]
      refine wpAnyH_done (by kernel_rfl) ?_ _
      refine NoPanic.normal ?_
      have k := hHeld.2.2.2.2
      clear hHeld p0 p1 pl b10 b11 bz1
      replace HJ := Lib.hid (HJ.out.kept k)
      replace KJ := Lib.hid (KJ.out.trans k)
      have KB7 := Lib.hid (KB6.out.trans k)
      clear k
      generalize w' = W7 at *
      have p0 : W7.cell? ⟨z8, 0, none⟩ = some (.slice A jb.length c) := HJ.out.cell
      have p1 : W7.cell? ⟨z8, 1, none⟩ = some (.slice B jv.length d) := HJ.out.cell
      have pl := HJ.out.lt
      obtain ⟨b00, b01⟩ := (HB0.out.kept KB7.out).two
      have bz0 := (HB0.out.kept KB7.out).1
      obtain ⟨b10, b11⟩ := (HB1.out.kept KB7.out).two
      have bz1 := (HB1.out.kept KB7.out).1
      have g1 : decide ((jb.length : Int) < (l.length : Int)) = false := decide_eq_false (by omega)
      have g2 : decide ((jv.length : Int) < (v.length : Int)) = false := decide_eq_false (by omega)
      have g4 : IntKind.i64.wrap ((l.length : Int) + (m.length : Int)) = (l.length : Int) + (m.length : Int) := by rw [IntKind.wrap_i64]; omega
      have g3 : decide ((l.length : Int) + (m.length : Int) < (jb.length : Int)) = false := decide_eq_false (by omega)
      go_wp2_with fail
      have hs1 := fun w' => upto_blocks A jb.length c l.length hc1 w'
      have hs2 := fun w' => upto_vts B jv.length d v.length hd1 w'
      have HS1 := Lib.hid (cells_blocks_take HJA.out l.length)
      have HS2 := Lib.hid (vts_take HJB.out v.length)
      rw [HT.out.1] at HS1
      rw [HT.out.2] at HS2
      clear g1 g2 g3 g4
      refine wp_region_noPanic ?_
      refine wp_region_held_drew (S := (fun w' => w'.cell? ⟨z8, 0, none⟩ = some (.slice A jb.length c) ∧ w'.cell? ⟨z8, 1, none⟩ = some (.slice B jv.length d) ∧ w'.cell? ⟨z0, 0, none⟩ = some (.slice lA l.length lc) ∧ w'.cell? ⟨z0, 1, none⟩ = some (.slice vA v.length vc) ∧ Kept W7 w')) (by kernel_rfl) ?_ (fun hHeld => ?_)
      · exact ⟨p0, p1, b00, b01, (Kept.refl _).drew⟩
      refine wpAnyH_take (i := 0) (v := ?_) (by simp only [List.getElem?_toArray, List.getElem?_cons_succ, List.getElem?_cons_zero]; rfl) (by kernel_rfl) (by kernel_rfl) (by kernel_rfl) (fun _ _ _ h => h) (Or.inl ⟨by rfl, ?_⟩) (by assumption) ?_
      rotate_left
      · intro w hSw
        (try dsimp only at hSw)
        go_simp
        (try with_reducible rfl)
      simp only [Act.put, List.setIfInBounds_toArray, List.set_cons_zero, List.set_cons_succ]
      refine wpAnyH_take (i := 1) (v := ?_) (by simp only [List.getElem?_toArray, List.getElem?_cons_succ, List.getElem?_cons_zero]; rfl) (by kernel_rfl) (by kernel_rfl) (by kernel_rfl) (fun _ _ _ h => h) (Or.inl ⟨by rfl, ?_⟩) (by assumption) ?_
      rotate_left
      · intro w hSw
        (try dsimp only at hSw)
        go_simp
        (try with_reducible rfl)
      simp only [Act.put, List.setIfInBounds_toArray, List.set_cons_zero, List.set_cons_succ]
      refine wpAnyH_take (i := 2) (v := ?_) (by simp only [List.getElem?_toArray, List.getElem?_cons_succ, List.getElem?_cons_zero]; rfl) (by kernel_rfl) (by kernel_rfl) (by kernel_rfl) (fun _ _ _ h => h) (Or.inl ⟨by rfl, ?_⟩) (by assumption) ?_
      rotate_left
      · intro w hSw
        (try dsimp only at hSw)
        go_simp
        (try with_reducible rfl)
      simp only [Act.put, List.setIfInBounds_toArray, List.set_cons_zero, List.set_cons_succ]
      refine wpAnyH_take (i := 3) (v := ?_) (by simp only [List.getElem?_toArray, List.getElem?_cons_succ, List.getElem?_cons_zero]; rfl) (by kernel_rfl) (by kernel_rfl) (by kernel_rfl) (fun _ _ _ h => h) (Or.inl ⟨by rfl, ?_⟩) (by assumption) ?_
      rotate_left
      · intro w hSw
        (try dsimp only at hSw)
        go_simp
        (try with_reducible rfl)
      simp only [Act.put, List.setIfInBounds_toArray, List.set_cons_zero, List.set_cons_succ]
      refine wpAnyH_take (i := 4) (v := ?_) (by simp only [List.getElem?_toArray, List.getElem?_cons_succ, List.getElem?_cons_zero]; rfl) (by kernel_rfl) (by kernel_rfl) (by kernel_rfl) (fun _ _ _ h => h) (Or.inl ⟨by rfl, ?_⟩) (by assumption) ?_
      rotate_left
      · intro w hSw
        (try dsimp only at hSw)
        go_simp
        (try with_reducible rfl)
      simp only [Act.put, List.setIfInBounds_toArray, List.set_cons_zero, List.set_cons_succ]
      refine wpAnyH_take (i := 5) (v := ?_) (by simp only [List.getElem?_toArray, List.getElem?_cons_succ, List.getElem?_cons_zero]; rfl) (by kernel_rfl) (by kernel_rfl) (by kernel_rfl) (fun _ _ _ h => h) (Or.inl ⟨by rfl, ?_⟩) (by assumption) ?_
      rotate_left
      · intro w hSw
        (try dsimp only at hSw)
        go_simp
        (try with_reducible rfl)
      simp only [Act.put, List.setIfInBounds_toArray, List.set_cons_zero, List.set_cons_succ]
      refine wpAnyH_take (i := 6) (v := ?_) (by simp only [List.getElem?_toArray, List.getElem?_cons_succ, List.getElem?_cons_zero]; rfl) (by kernel_rfl) (by kernel_rfl) (by kernel_rfl) (fun _ _ _ h => h) (Or.inl ⟨by rfl, ?_⟩) (by assumption) ?_
      rotate_left
      · intro w hSw
        (try dsimp only at hSw)
        go_simp
        (try with_reducible rfl)
      simp only [Act.put, List.setIfInBounds_toArray, List.set_cons_zero, List.set_cons_succ]
      refine wpAnyH_take (i := 7) (v := ?_) (by simp only [List.getElem?_toArray, List.getElem?_cons_succ, List.getElem?_cons_zero]; rfl) (by kernel_rfl) (by kernel_rfl) (by kernel_rfl) (fun _ _ _ h => h) (Or.inl ⟨by rfl, ?_⟩) (by assumption) ?_
      rotate_left
      · intro w hSw
        (try dsimp only at hSw)
        go_simp
        (try with_reducible rfl)
      simp only [Act.put, List.setIfInBounds_toArray, List.set_cons_zero, List.set_cons_succ]
      refine wpAnyH_take (i := 8) (v := ?_) (by simp only [List.getElem?_toArray, List.getElem?_cons_succ, List.getElem?_cons_zero]; rfl) (by kernel_rfl) (by kernel_rfl) (by kernel_rfl) (fun _ _ _ h => h) (Or.inl ⟨by rfl, ?_⟩) (by assumption) ?_
      rotate_left
      · intro w hSw
        (try dsimp only at hSw)
        go_simp
        (try with_reducible rfl)
      simp only [Act.put, List.setIfInBounds_toArray, List.set_cons_zero, List.set_cons_succ]
      refine wpAnyH_take (i := 9) (v := ?_) (by simp only [List.getElem?_toArray, List.getElem?_cons_succ, List.getElem?_cons_zero]; rfl) (by kernel_rfl) (by kernel_rfl) (by kernel_rfl) (fun _ _ _ h => h) (Or.inl ⟨by rfl, ?_⟩) (by assumption) ?_
      rotate_left
      · intro w hSw
        (try dsimp only at hSw)
        go_simp
        (try with_reducible rfl)
      simp only [Act.put, List.setIfInBounds_toArray, List.set_cons_zero, List.set_cons_succ]
      refine wpAnyH_take (i := 10) (v := ?_) (by simp only [List.getElem?_toArray, List.getElem?_cons_succ, List.getElem?_cons_zero]; rfl) (by kernel_rfl) (by kernel_rfl) (by kernel_rfl) (fun _ _ _ h => h) (Or.inl ⟨by rfl, ?_⟩) (by assumption) ?_
      rotate_left
      · intro w hSw
        (try dsimp only at hSw)
        go_simp
        (try with_reducible rfl)
      simp only [Act.put, List.setIfInBounds_toArray, List.set_cons_zero, List.set_cons_succ]
      refine wpAnyH_take (i := 11) (v := ?_) (by simp only [List.getElem?_toArray, List.getElem?_cons_succ, List.getElem?_cons_zero]; rfl) (by kernel_rfl) (by kernel_rfl) (by kernel_rfl) (fun _ _ _ h => h) (Or.inl ⟨by rfl, ?_⟩) (by assumption) ?_
      rotate_left
      · intro w hSw
        (try dsimp only at hSw)
        go_simp
        (try with_reducible rfl)
      simp only [Act.put, List.setIfInBounds_toArray, List.set_cons_zero, List.set_cons_succ]
      refine wpAnyH_take (i := 12) (v := ?_) (by simp only [List.getElem?_toArray, List.getElem?_cons_succ, List.getElem?_cons_zero]; rfl) (by kernel_rfl) (by kernel_rfl) (by kernel_rfl) (fun _ _ _ h => h) (Or.inl ⟨by rfl, ?_⟩) (by assumption) ?_
      rotate_left
      · intro w hSw
        (try dsimp only at hSw)
        go_simp
        (try with_reducible rfl)
      simp only [Act.put, List.setIfInBounds_toArray, List.set_cons_zero, List.set_cons_succ]
      refine wpAnyH_take (i := 13) (v := ?_) (by simp only [List.getElem?_toArray, List.getElem?_cons_succ, List.getElem?_cons_zero]; rfl) (by kernel_rfl) (by kernel_rfl) (by kernel_rfl) (fun _ _ _ h => h) (Or.inl ⟨by rfl, ?_⟩) (by assumption) ?_
      rotate_left
      · intro w hSw
        (try dsimp only at hSw)
        go_simp
        (try with_reducible rfl)
      simp only [Act.put, List.setIfInBounds_toArray, List.set_cons_zero, List.set_cons_succ]
      refine wpAnyH_ready (rs := [14]) (by kernel_rfl) (by simp) ?_
      refine AllReadyH.cons (by simp only [List.getElem?_toArray, List.getElem?_cons_succ, List.getElem?_cons_zero]; rfl) (fun K hK => ?_) AllReadyH.nil
      go_simp
      go_at_call 14; with_reducible refine (same_yes A c B d lA lc vA vc l v _ (by omega) (by omega) (HS1.out.kept (KJ.out.trans hHeld.2.2.2.2)) (HS2.out.kept (KJ.out.trans hHeld.2.2.2.2)) (HL.out.kept (KB7.out.trans hHeld.2.2.2.2)) (HV.out.kept (KB7.out.trans hHeld.2.2.2.2))).mono ?_
      rintro e w' ⟨rfl, kk⟩
      try go_wp2_with fail
      refine hK.out _ _ ?_ (fun hHeld2 => ?_)
      · exact keepP4 pl pl bz0 bz0 hHeld kk
      clear hK K hHeld
      have hHeld := hHeld2
      clear hHeld2
      try simp only [Act.put, List.setIfInBounds_toArray, List.set_cons_zero, List.set_cons_succ]
      refine wpAnyH_take (i := 15) (v := ?_) (by simp only [List.getElem?_toArray, List.getElem?_cons_succ, List.getElem?_cons_zero]; rfl) (by kernel_rfl) (by kernel_rfl) (by kernel_rfl) (fun _ _ _ h => h) (Or.inl ⟨by rfl, ?_⟩) (by assumption) ?_
      rotate_left
      · intro w hSw
        (try dsimp only at hSw)
        go_simp
        (try with_reducible rfl)
      simp only [Act.put, List.setIfInBounds_toArray, List.set_cons_zero, List.set_cons_succ]
      refine wpAnyH_done (by kernel_rfl) ?_ _
      refine NoPanic.normal ?_
      have k := hHeld.2.2.2.2
      clear hHeld p0 p1 pl b00 b01 bz0 b10 b11 bz1
      have KB8 := Lib.hid (KB7.out.trans k)
      clear k
      generalize w' = W8 at *
      go_wp2_with fail
      go_ret
      exact ⟨by first | rfl | (simp; done), K0.out.trans KB8.out⟩

/-! ### The row's step -/
set_option maxRecDepth 100000 in
theorem lifted (os : Os) (started : os.Started) (H : Type) (enc : TypeId × Value → H) :
    ReturnsInHanded {} Try.checked os 7 .any (Rows.viewJoinSpec.pre6 enc Try.prog Try.f7 Rows.viewJoinRow.domain false) (Rows.viewJoinSpec.post enc Try.prog Try.f7 false true false false) := by
  refine returnsInHanded_of_change (C := Try.checked) own started (by kernel_rfl) Try.func7
    (ChangeSpec.witness6 (enc := enc) (C := Try.checked) false ⟨#[], #[.agg #[.slice none 0 0, .slice none 0 0], .agg #[.slice none 0 0, .slice none 0 0]], []⟩ 8 (by kernel_rfl) (by kernel_rfl) (by kernel_rfl) (by kernel_rfl)) ?_
  intro W base args ds gs before hval0 hW hcnd _
  have hval : ∀ (j : Nat) t v, Try.f7.params[j]? = some t → args[j]? = some v → Value.okWide Try.prog W .any base t v := hval0
  have hW' := hW
  obtain ⟨p, q, hA0, hV, rfl, hfz, hnd⟩ := hW
  have hA : DataW.TrodAll enc Try.prog W 0 (fun _ => true) true Try.f7.params.toList args.toList ds p := hA0
  rw [Try.params7] at hA hval
  obtain ⟨v0, vs0, d0, ds0, p0, q0, hargs, rfl, rfl, h0, r0⟩ := trodAll_cons hA
  obtain ⟨v1, vs1, d1, ds1, p1, q1, rfl, rfl, rfl, h1, r1⟩ := trodAll_cons r0
  obtain ⟨rfl, rfl, rfl⟩ := trodAll_nil r1
  obtain rfl : args = #[v0, v1] := by cases args; simp_all
  obtain ⟨rfl, rfl⟩ := trodVars_none hV
  obtain ⟨lA, lc, l, vA, vc, v, rfl, lhm, lhc, ⟨lhw, lh6⟩, lhl, vhm, vhc, vhw, vhl⟩ := open_view64 (hval 0 _ v0 rfl rfl) h0
  obtain ⟨mA, mc, m, uA, uc, u, rfl, mhm, mhc, ⟨mhw, mh6⟩, mhl, uhm, uhc, uhw, uhl⟩ := open_view64 (hval 1 _ v1 rfl rfl) h1
  clear hA0 hval0
  refine (walk W lA lc l vA vc v lhm lhc lhw lh6 lhl vhm vhc vhw vhl mA mc m uA uc u mhm mhc mhw mh6 mhl uhm uhc uhw uhl).mono fun e W' ⟨he, hb⟩ => ?_
  subst he
  exact ⟨_, rfl, law_post rfl (by kernel_rfl) rfl hW' rfl hb⟩

theorem over : Rows.viewJoinRow.holds Try.pinned (OpenSpec.ofChange Rows.viewJoinSpec) :=
  OpenClaim.holds_of_wide 7 Try.f7 rfl rfl rfl rfl rfl rfl rfl ⟨rfl, rfl, rfl, rfl, rfl⟩ rfl rfl rfl rfl rfl (by kernel_rfl) Try.func7 (by kernel_rfl)
    (of_decide_eq_true (by kernel_rfl)) (by unfold Func.isWrapper; first | (rw [if_pos (by decide +kernel)]; kernel_rfl) | (rw [if_neg (by decide +kernel)]; exact ⟨rfl, rfl⟩))
    (fun os started H enc _ => lifted os started H enc)

/-- The statement. -/
theorem proved : Rows.ViewJoinSaid :=
  over
#print axioms proved

end Go.Proofs.Ytacdiicnfoejoaa.viewJoin
