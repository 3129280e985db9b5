/-
  Law GoldSlot of layer 14: votes of other slots, and of who is not in the committee, do not matter to the head by a slot's votes, nor does the order of what there is, whatever conf, view, slot and vote.
-/
import Derived.Test.YtlapcnfhnfkbmaaGreatGoldAwake
import Derived.Test.YtlapcnfhnfkbmaaGreatGhostAwake
import Derived.Test.YtlapcnfhnfkbmaaGreatDutyG
import Derived.Test.YtlapcnfhnfkbmaaGreatViewOpen
import Derived.Test.YtlapcnfhnfkbmaaGreatMixG
import Derived.Test.YtlapcnfhnfkbmaaGreatGround
import Derived.Test.YtlapcnfhnfkbmaaGreatTreeG
import Derived.Test.YtlapcnfhnfkbmaaGreatIdBox
import Derived.Test.YtlapcnfhnfkbmaaGreatViewStep
import Derived.Test.YtlapcnfhnfkbmaaGreatVoteMoreFacts
import Derived.Test.YtlapcnfhnfkbmaaGreatVoteG
import Derived.Test.YtlapcnfhnfkbmaaGreatKeepS
namespace Go.Proofs.YtlapcnfhnfkbmaaGreat.goldSlot
set_option maxRecDepth 100000
set_option linter.unusedVariables false
set_option linter.unusedSimpArgs false
open Go.ChangeShapes Go.WideShapes Go.ChangeAt Go.RowKit
set_option linter.unusedVariables false

/-! ### The walk: the call returns true, and of what was there nothing has changed. -/
attribute [local go_sem high] eqIdN eqIdZ in
set_option maxRecDepth 100000 in
set_option maxHeartbeats 6400000 in
theorem walk (w : World) (kA : Option Addr) (kc : Nat) (k : Cf) (khm : k.ws.length ≤ maxLen) (khs : k.seed < 18446744073709551616) (khl : CellsAt w w.heap.size kA (intCells k.ws)) (lA : Option Addr) (lc : Nat) (l : List Bk) (vA : Option Addr) (vc : Nat) (v : List Vt) (lhm : l.length ≤ maxLen) (lhc : l.length ≤ lc) (lhw : WfL l) (lhl : CellsAt w w.heap.size lA (blockCells l)) (vhm : v.length ≤ maxLen) (vhc : v.length ≤ vc) (vhw : WfVs v) (vhl : CellsAt w w.heap.size vA (votesCells v)) (slot : Int) (hslot1 : -9223372036854775808 ≤ slot) (hslot2 : slot ≤ 9223372036854775807) (y : Vt) (hy : WfV y) (a : Int) (ha1 : -9223372036854775808 ≤ a) (ha2 : a ≤ 9223372036854775807) :
    Calls Tryz.prog 4 #[.agg #[.slice kA k.ws.length kc, .int .u64 k.seed, .int .i64 k.ep, .int .i64 k.nu, .int .i64 k.de], .agg #[.slice lA l.length lc, .slice vA v.length vc], .int .i64 slot, .agg #[.int .i64 y.f, .int .i64 y.s, .int .u64 y.p.1, .int .u64 y.p.2], .int .i64 a] w fun e w' => e = .returned (.bool true) ∧ Kept w w' := by
  cases hf : few9C k l v with
  | false =>
    go_enter Tryz.func4, Tryz.ntmps4
    go_wp2_with fail
    have K0 := Lib.hid ((((Kept.refl w).alloc (.cells #[.slice kA k.ws.length kc, .int .u64 k.seed, .int .i64 k.ep, .int .i64 k.nu, .int .i64 k.de] 25)).alloc (.cells #[.slice lA l.length lc, .slice vA v.length vc] 29)).alloc (.cells #[.int .i64 y.f, .int .i64 y.s, .int .u64 y.p.1, .int .u64 y.p.2] 39))
    have HA := Lib.hid (khl.kept K0.out)
    clear khl
    have HL := Lib.hid (lhl.kept K0.out)
    clear lhl
    have HV := Lib.hid (vhl.kept K0.out)
    clear vhl
    have HB0 := Lib.hid (((HasCells.new w #[.slice kA k.ws.length kc, .int .u64 k.seed, .int .i64 k.ep, .int .i64 k.nu, .int .i64 k.de] 25 (w.heap.size) (by simp)).alloc (.cells #[.slice lA l.length lc, .slice vA v.length vc] 29)).alloc (.cells #[.int .i64 y.f, .int .i64 y.s, .int .u64 y.p.1, .int .u64 y.p.2] 39))
    have HB1 := Lib.hid ((HasCells.new (w.alloc (.cells #[.slice kA k.ws.length kc, .int .u64 k.seed, .int .i64 k.ep, .int .i64 k.nu, .int .i64 k.de] 25)) #[.slice lA l.length lc, .slice vA v.length vc] 29 (w.heap.size + 1) (by simp)).alloc (.cells #[.int .i64 y.f, .int .i64 y.s, .int .u64 y.p.1, .int .u64 y.p.2] 39))
    have HB2 := Lib.hid (HasCells.new ((w.alloc (.cells #[.slice kA k.ws.length kc, .int .u64 k.seed, .int .i64 k.ep, .int .i64 k.nu, .int .i64 k.de] 25)).alloc (.cells #[.slice lA l.length lc, .slice vA v.length vc] 29)) #[.int .i64 y.f, .int .i64 y.s, .int .u64 y.p.1, .int .u64 y.p.2] 39 (w.heap.size + 1 + 1) (by simp))
    generalize (((w.alloc (.cells #[.slice kA k.ws.length kc, .int .u64 k.seed, .int .i64 k.ep, .int .i64 k.nu, .int .i64 k.de] 25)).alloc (.cells #[.slice lA l.length lc, .slice vA v.length vc] 29)).alloc (.cells #[.int .i64 y.f, .int .i64 y.s, .int .u64 y.p.1, .int .u64 y.p.2] 39)) = W0 at *
    generalize w.heap.size + 1 + 1 = z2 at *
    generalize w.heap.size + 1 = z1 at *
    generalize w.heap.size = z0 at *
    have KB0 := Lib.hid (Kept.refl W0)
    refine (goldAwake W0).mono ?_
    rintro e W1 ⟨rfl, k⟩
    have KB1 := Lib.hid (KB0.out.trans k)
    clear k
    obtain ⟨b00, b01, b02, b03, b04⟩ := (HB0.out.kept KB1.out).five
    have bz0 := (HB0.out.kept KB1.out).1
    obtain ⟨b10, b11⟩ := (HB1.out.kept KB1.out).two
    have bz1 := (HB1.out.kept KB1.out).1
    obtain ⟨b20, b21, b22, b23⟩ := (HB2.out.kept KB1.out).four
    have bz2 := (HB2.out.kept KB1.out).1
    go_wp2_with fail
    clear b00 b01 b02 b03 b04 bz0 b10 b11 bz1 b20 b21 b22 b23 bz2
    refine (few9_any kA kc k lA lc l vA vc v W1).mono ?_
    rintro e W2 ⟨rfl, k⟩
    have KB2 := Lib.hid (KB1.out.trans k)
    clear k
    rw [hf]
    obtain ⟨b00, b01, b02, b03, b04⟩ := (HB0.out.kept KB2.out).five
    have bz0 := (HB0.out.kept KB2.out).1
    obtain ⟨b10, b11⟩ := (HB1.out.kept KB2.out).two
    have bz1 := (HB1.out.kept KB2.out).1
    obtain ⟨b20, b21, b22, b23⟩ := (HB2.out.kept KB2.out).four
    have bz2 := (HB2.out.kept KB2.out).1
    go_wp2_with fail
    clear b00 b01 b02 b03 b04 bz0 b10 b11 bz1 b20 b21 b22 b23 bz2
    go_ret
    exact ⟨by first | rfl | (simp; done), K0.out.trans KB2.out⟩
  | true =>
    obtain ⟨hk40, hl20, hv30⟩ := few9C_yes hf
    have HF := Lib.hid hf
    clear hf
    go_enter Tryz.func4, Tryz.ntmps4
    go_wp2_with fail
    have K0 := Lib.hid ((((Kept.refl w).alloc (.cells #[.slice kA k.ws.length kc, .int .u64 k.seed, .int .i64 k.ep, .int .i64 k.nu, .int .i64 k.de] 25)).alloc (.cells #[.slice lA l.length lc, .slice vA v.length vc] 29)).alloc (.cells #[.int .i64 y.f, .int .i64 y.s, .int .u64 y.p.1, .int .u64 y.p.2] 39))
    have HA := Lib.hid (khl.kept K0.out)
    clear khl
    have HL := Lib.hid (lhl.kept K0.out)
    clear lhl
    have HV := Lib.hid (vhl.kept K0.out)
    clear vhl
    have HB0 := Lib.hid (((HasCells.new w #[.slice kA k.ws.length kc, .int .u64 k.seed, .int .i64 k.ep, .int .i64 k.nu, .int .i64 k.de] 25 (w.heap.size) (by simp)).alloc (.cells #[.slice lA l.length lc, .slice vA v.length vc] 29)).alloc (.cells #[.int .i64 y.f, .int .i64 y.s, .int .u64 y.p.1, .int .u64 y.p.2] 39))
    have HB1 := Lib.hid ((HasCells.new (w.alloc (.cells #[.slice kA k.ws.length kc, .int .u64 k.seed, .int .i64 k.ep, .int .i64 k.nu, .int .i64 k.de] 25)) #[.slice lA l.length lc, .slice vA v.length vc] 29 (w.heap.size + 1) (by simp)).alloc (.cells #[.int .i64 y.f, .int .i64 y.s, .int .u64 y.p.1, .int .u64 y.p.2] 39))
    have HB2 := Lib.hid (HasCells.new ((w.alloc (.cells #[.slice kA k.ws.length kc, .int .u64 k.seed, .int .i64 k.ep, .int .i64 k.nu, .int .i64 k.de] 25)).alloc (.cells #[.slice lA l.length lc, .slice vA v.length vc] 29)) #[.int .i64 y.f, .int .i64 y.s, .int .u64 y.p.1, .int .u64 y.p.2] 39 (w.heap.size + 1 + 1) (by simp))
    generalize (((w.alloc (.cells #[.slice kA k.ws.length kc, .int .u64 k.seed, .int .i64 k.ep, .int .i64 k.nu, .int .i64 k.de] 25)).alloc (.cells #[.slice lA l.length lc, .slice vA v.length vc] 29)).alloc (.cells #[.int .i64 y.f, .int .i64 y.s, .int .u64 y.p.1, .int .u64 y.p.2] 39)) = W0 at *
    generalize w.heap.size + 1 + 1 = z2 at *
    generalize w.heap.size + 1 = z1 at *
    generalize w.heap.size = z0 at *
    have KB0 := Lib.hid (Kept.refl W0)
    refine (goldAwake W0).mono ?_
    rintro e W1 ⟨rfl, k⟩
    have KB1 := Lib.hid (KB0.out.trans k)
    clear k
    obtain ⟨b00, b01, b02, b03, b04⟩ := (HB0.out.kept KB1.out).five
    have bz0 := (HB0.out.kept KB1.out).1
    obtain ⟨b10, b11⟩ := (HB1.out.kept KB1.out).two
    have bz1 := (HB1.out.kept KB1.out).1
    obtain ⟨b20, b21, b22, b23⟩ := (HB2.out.kept KB1.out).four
    have bz2 := (HB2.out.kept KB1.out).1
    go_wp2_with fail
    clear b00 b01 b02 b03 b04 bz0 b10 b11 bz1 b20 b21 b22 b23 bz2
    refine (few9_any kA kc k lA lc l vA vc v W1).mono ?_
    rintro e W2 ⟨rfl, k⟩
    have KB2 := Lib.hid (KB1.out.trans k)
    clear k
    rw [HF.out]
    by_cases ha0 : a < 0
    · have g1 : decide (a < 0) = true := decide_eq_true ha0
      obtain ⟨b00, b01, b02, b03, b04⟩ := (HB0.out.kept KB2.out).five
      have bz0 := (HB0.out.kept KB2.out).1
      obtain ⟨b10, b11⟩ := (HB1.out.kept KB2.out).two
      have bz1 := (HB1.out.kept KB2.out).1
      obtain ⟨b20, b21, b22, b23⟩ := (HB2.out.kept KB2.out).four
      have bz2 := (HB2.out.kept KB2.out).1
      go_wp2_with fail
      clear b00 b01 b02 b03 b04 bz0 b10 b11 bz1 b20 b21 b22 b23 bz2
      go_ret
      exact ⟨by first | rfl | (simp; done), K0.out.trans KB2.out⟩
    · by_cases ha1 : (v.length : Int) < a
      · have g1 : decide (a < 0) = false := decide_eq_false ha0
        have g2 : decide ((v.length : Int) < a) = true := decide_eq_true ha1
        obtain ⟨b00, b01, b02, b03, b04⟩ := (HB0.out.kept KB2.out).five
        have bz0 := (HB0.out.kept KB2.out).1
        obtain ⟨b10, b11⟩ := (HB1.out.kept KB2.out).two
        have bz1 := (HB1.out.kept KB2.out).1
        obtain ⟨b20, b21, b22, b23⟩ := (HB2.out.kept KB2.out).four
        have bz2 := (HB2.out.kept KB2.out).1
        go_wp2_with fail
        clear b00 b01 b02 b03 b04 bz0 b10 b11 bz1 b20 b21 b22 b23 bz2
        go_ret
        exact ⟨by first | rfl | (simp; done), K0.out.trans KB2.out⟩
      · have g1 : decide (a < 0) = false := decide_eq_false ha0
        have g2 : decide ((v.length : Int) < a) = false := decide_eq_false ha1
        obtain ⟨n, rfl⟩ : ∃ n : Nat, a = (n : Int) := ⟨a.toNat, by omega⟩
        have hnv : n ≤ v.length := by omega
        obtain ⟨b00, b01, b02, b03, b04⟩ := (HB0.out.kept KB2.out).five
        have bz0 := (HB0.out.kept KB2.out).1
        obtain ⟨b10, b11⟩ := (HB1.out.kept KB2.out).two
        have bz1 := (HB1.out.kept KB2.out).1
        obtain ⟨b20, b21, b22, b23⟩ := (HB2.out.kept KB2.out).four
        have bz2 := (HB2.out.kept KB2.out).1
        go_wp2_with fail
        clear b00 b01 b02 b03 b04 bz0 b10 b11 bz1 b20 b21 b22 b23 bz2
        clear g1 g2 ha0 ha1
        refine (goldHead_any kA kc k lA lc l vA vc v slot W2 (by omega) khs (by omega) (by omega) lhw vhw (HA.out.kept KB2.out) (HL.out.kept KB2.out) (HV.out.kept KB2.out)).mono ?_
        rintro e W3 ⟨R, hR, rfl, k⟩
        have KB3 := Lib.hid (KB2.out.trans k)
        clear k
        have HR := Lib.hid hR
        clear hR
        obtain ⟨hd, hhd⟩ : ∃ hd, hd = headC k l R := ⟨_, rfl⟩
        rw [← hhd]
        have HEh := Lib.hid hhd
        clear hhd
        have hhh : sameI hd hd = true := decide_eq_true rfl
        obtain ⟨b00, b01, b02, b03, b04⟩ := (HB0.out.kept KB3.out).five
        have bz0 := (HB0.out.kept KB3.out).1
        obtain ⟨b10, b11⟩ := (HB1.out.kept KB3.out).two
        have bz1 := (HB1.out.kept KB3.out).1
        obtain ⟨b20, b21, b22, b23⟩ := (HB2.out.kept KB3.out).four
        have bz2 := (HB2.out.kept KB3.out).1
        go_wp2_with fail
        clear b00 b01 b02 b03 b04 bz0 b10 b11 bz1 b20 b21 b22 b23 bz2
        have H13 := Lib.hid (AtB.new W3 #[.int .u64 hd.1, .int .u64 hd.2] 35)
        have k := (Kept.refl W3).alloc (.cells #[.int .u64 hd.1, .int .u64 hd.2] 35)
        have KB4 := Lib.hid (KB3.out.trans k)
        clear k
        generalize W3.alloc (.cells #[.int .u64 hd.1, .int .u64 hd.2] 35) = W4 at *
        generalize W3.heap.size = z13 at *
        obtain ⟨vA2, hfr, hfc⟩ := from_votes (B := W4.heap.size) (HV.out.kept KB4.out) vc n hnv vhc
        have hup := fun w' => upto_vts vA v.length vc n (by omega) w'
        have huc := vts_take (HV.out.kept KB4.out) n
        have HFc := Lib.hid hfc
        have HUc := Lib.hid huc
        clear hfc huc
        obtain ⟨D, hD⟩ : ∃ D, D = v.drop n := ⟨_, rfl⟩
        obtain ⟨U, hU⟩ : ∃ U, U = v.take n := ⟨_, rfl⟩
        obtain ⟨T, hT⟩ : ∃ T, T = D ++ U := ⟨_, rfl⟩
        obtain ⟨M, hM⟩ : ∃ M, M = v ++ [y] := ⟨_, rfl⟩
        rw [← hD] at HFc
        rw [← hU] at HUc
        have HTm := Lib.hid (show ∀ a, a ∈ T ↔ a ∈ v from fun a => by rw [hT, hD, hU]; exact turned_mem n)
        have HTl := Lib.hid (show T.length = v.length from by rw [hT, hD, hU]; simp; omega)
        have HDl := Lib.hid (show D.length = v.length - n from by rw [hD]; simp)
        have HUl := Lib.hid (show U.length = n from by rw [hU]; simp; omega)
        have HTe := Lib.hid hT.symm
        have HMe := Lib.hid hM
        have HMe2 := Lib.hid hM.symm
        clear hD hU hT hM
        refine cut5 (α := Nat) (β := Option Addr) (γ := Nat) (δ := Option Addr) (ε := Nat) ?f6 (fun z _ _ A2 c2 w' => AtB w' z #[.slice lA l.length lc, .slice A2 T.length c2] 29 ∧ CellsAt w' w'.heap.size A2 (votesCells T) ∧ Kept W4 w') ?_ ?_
        rotate_left
        · intro Q1 hQ1
          obtain ⟨b10, b11⟩ := (HB1.out.kept KB4.out).two
          have bz1 := (HB1.out.kept KB4.out).1
          refine wp_region_noPanic ?_
          refine wp_region_held_drew (S := (fun w' => w'.cell? ⟨z1, 0, none⟩ = some (.slice lA l.length lc) ∧ w'.cell? ⟨z1, 1, none⟩ = some (.slice vA v.length vc) ∧ Kept W4.drew w')) (by kernel_rfl) ?_ (fun hHeld => ?_)
          · exact ⟨b10, b11, Kept.refl _⟩
          have HFc0 := Lib.hid (HFc.out.kept (Kept.refl W4).drew)
          have HUc0 := Lib.hid (HUc.out.kept (Kept.refl W4).drew)
          have HKd := Lib.hid (Kept.refl W4).drew
          have d0 : W4.drew.cell? ⟨z1, 0, none⟩ = _ := b10
          have d1 : W4.drew.cell? ⟨z1, 1, none⟩ = _ := b11
          have bz1 : z1 < W4.drew.heap.size := bz1
          clear b10 b11
          generalize W4.drew = V0 at *
          refine wpAnyH_take (i := 0) (v := ?_) (by simp only [List.getElem?_toArray, List.getElem?_cons_succ, List.getElem?_cons_zero]; rfl) (by kernel_rfl) (by kernel_rfl) (by kernel_rfl) (fun _ _ _ h => h) (Or.inl ⟨by rfl, ?_⟩) (by assumption) ?_
          rotate_left
          · intro w hSw
            (try dsimp only at hSw)
            go_simp
            (try with_reducible rfl)
          simp only [Act.put, List.setIfInBounds_toArray, List.set_cons_zero, List.set_cons_succ]
          refine wpAnyH_take (i := 1) (v := ?_) (by simp only [List.getElem?_toArray, List.getElem?_cons_succ, List.getElem?_cons_zero]; rfl) (by kernel_rfl) (by kernel_rfl) (by kernel_rfl) (fun _ _ _ h => h) (Or.inl ⟨by rfl, ?_⟩) (by assumption) ?_
          rotate_left
          · intro w hSw
            (try dsimp only at hSw)
            go_simp
            (try with_reducible rfl)
          simp only [Act.put, List.setIfInBounds_toArray, List.set_cons_zero, List.set_cons_succ]
          refine wpAnyH_take (i := 2) (v := ?_) (by simp only [List.getElem?_toArray, List.getElem?_cons_succ, List.getElem?_cons_zero]; rfl) (by kernel_rfl) (by kernel_rfl) (by kernel_rfl) (fun _ _ _ h => h) (Or.inl ⟨by rfl, ?_⟩) (by assumption) ?_
          rotate_left
          · intro w hSw
            (try dsimp only at hSw)
            go_simp
            (try with_reducible rfl)
          simp only [Act.put, List.setIfInBounds_toArray, List.set_cons_zero, List.set_cons_succ]
          refine wpAnyH_take (i := 3) (v := ?_) (by simp only [List.getElem?_toArray, List.getElem?_cons_succ, List.getElem?_cons_zero]; rfl) (by kernel_rfl) (by kernel_rfl) (by kernel_rfl) (fun _ _ _ h => h) (Or.inl ⟨by rfl, ?_⟩) (by assumption) ?_
          rotate_left
          · intro w hSw
            (try dsimp only at hSw)
            go_simp
            (try with_reducible rfl)
          simp only [Act.put, List.setIfInBounds_toArray, List.set_cons_zero, List.set_cons_succ]
          refine wpAnyH_take (i := 4) (v := ?_) (by simp only [List.getElem?_toArray, List.getElem?_cons_succ, List.getElem?_cons_zero]; rfl) (by kernel_rfl) (by kernel_rfl) (by kernel_rfl) (fun _ _ _ h => h) (Or.inl ⟨by rfl, ?_⟩) (by assumption) ?_
          rotate_left
          · intro w hSw
            (try dsimp only at hSw)
            go_simp
            (try with_reducible rfl)
          simp only [Act.put, List.setIfInBounds_toArray, List.set_cons_zero, List.set_cons_succ]
          refine wpAnyH_take (i := 5) (v := ?_) (by simp only [List.getElem?_toArray, List.getElem?_cons_succ, List.getElem?_cons_zero]; rfl) (by kernel_rfl) (by kernel_rfl) (by kernel_rfl) (fun _ _ _ h => h) (Or.inl ⟨by rfl, ?_⟩) (by assumption) ?_
          rotate_left
          · intro w hSw
            (try dsimp only at hSw)
            go_simp
            (try with_reducible rfl)
          simp only [Act.put, List.setIfInBounds_toArray, List.set_cons_zero, List.set_cons_succ]
          refine wpAnyH_take (i := 7) (v := ?_) (by simp only [List.getElem?_toArray, List.getElem?_cons_succ, List.getElem?_cons_zero]; rfl) (by kernel_rfl) (by kernel_rfl) (by kernel_rfl) (fun _ _ _ h => h) (Or.inl ⟨by rfl, ?_⟩) (by assumption) ?_
          rotate_left
          · intro w hSw
            (try dsimp only at hSw)
            go_simp
            (try with_reducible rfl)
          simp only [Act.put, List.setIfInBounds_toArray, List.set_cons_zero, List.set_cons_succ]
          refine wpAnyH_take (i := 8) (v := ?_) (by simp only [List.getElem?_toArray, List.getElem?_cons_succ, List.getElem?_cons_zero]; rfl) (by kernel_rfl) (by kernel_rfl) (by kernel_rfl) (fun _ _ _ h => h) (Or.inl ⟨by rfl, ?_⟩) (by assumption) ?_
          rotate_left
          · intro w hSw
            (try dsimp only at hSw)
            go_simp
            (try with_reducible rfl)
          simp only [Act.put, List.setIfInBounds_toArray, List.set_cons_zero, List.set_cons_succ]
          refine wpAnyH_take (i := 9) (v := ?_) (by simp only [List.getElem?_toArray, List.getElem?_cons_succ, List.getElem?_cons_zero]; rfl) (by kernel_rfl) (by kernel_rfl) (by kernel_rfl) (fun _ _ _ h => h) (Or.inl ⟨by rfl, ?_⟩) (by assumption) ?_
          rotate_left
          · intro w hSw
            (try dsimp only at hSw)
            go_simp
            (try with_reducible rfl)
          simp only [Act.put, List.setIfInBounds_toArray, List.set_cons_zero, List.set_cons_succ]
          refine wpAnyH_take (i := 10) (v := ?_) (by simp only [List.getElem?_toArray, List.getElem?_cons_succ, List.getElem?_cons_zero]; rfl) (by kernel_rfl) (by kernel_rfl) (by kernel_rfl) (fun _ _ _ h => h) (Or.inl ⟨by rfl, ?_⟩) (by assumption) ?_
          rotate_left
          · intro w hSw
            (try dsimp only at hSw)
            go_simp
            (try with_reducible rfl)
          simp only [Act.put, List.setIfInBounds_toArray, List.set_cons_zero, List.set_cons_succ]
          refine wpAnyH_ready (rs := [6, 13]) (by kernel_rfl) (by simp) ?_
          refine AllReadyH.cons (by simp only [List.getElem?_toArray, List.getElem?_cons_succ, List.getElem?_cons_zero]; rfl) (fun K hK => ?_) (AllReadyH.cons (by simp only [List.getElem?_toArray, List.getElem?_cons_succ, List.getElem?_cons_zero]; rfl) (fun K hK => ?_) (AllReadyH.nil))
          · refine step_vnew V0 (by rfl) (.tmp 50) (by rfl) V0 hHeld.2.2 _ vA2 (v.length - n) _ D (by rfl) HDl.out (HFc0.out.kept hHeld.2.2) (by omega) ?_
            intro A1 c1 V1 hT kk
            have kT := hT.2
            refine hK.out _ _ ?_ (fun hHeld2 => ?_)
            · exact ⟨(kT.cell (p := ⟨z1, 0, none⟩) bz1).trans d0, (kT.cell (p := ⟨z1, 1, none⟩) bz1).trans d1, kT⟩
            clear hK K hHeld
            have hHeld := hHeld2
            clear hHeld2
            try simp only [Act.put, List.setIfInBounds_toArray, List.set_cons_zero, List.set_cons_succ]
            refine wpAnyH_ready (rs := [11, 13]) (by kernel_rfl) (by simp) ?_
            refine AllReadyH.cons (by simp only [List.getElem?_toArray, List.getElem?_cons_succ, List.getElem?_cons_zero]; rfl) (fun K hK => ?_) (AllReadyH.cons (by simp only [List.getElem?_toArray, List.getElem?_cons_succ, List.getElem?_cons_zero]; rfl) (fun K hK => ?_) (AllReadyH.nil))
            · refine step_vgrow V1 (by rfl) (.tmp 51) (.tmp 55) (by rfl) V0 D _ (by rfl) hT _ vA n _ U (by rfl) HUl.out (HUc0.out.kept hHeld.2.2) (by have := HDl.out; omega) ?_
              intro A2 c2 V2 hT2 gg
              rw [HTe.out] at hT2 ⊢
              clear gg hT
              have hT := hT2
              clear hT2
              have kT := hT.2
              refine hK.out _ _ ?_ (fun hHeld2 => ?_)
              · exact ⟨(kT.cell (p := ⟨z1, 0, none⟩) bz1).trans d0, (kT.cell (p := ⟨z1, 1, none⟩) bz1).trans d1, kT⟩
              clear hK K hHeld
              have hHeld := hHeld2
              clear hHeld2
              try simp only [Act.put, List.setIfInBounds_toArray, List.set_cons_zero, List.set_cons_succ]
              refine wpAnyH_take (i := 12) (v := ?_) (by simp only [List.getElem?_toArray, List.getElem?_cons_succ, List.getElem?_cons_zero]; rfl) (by kernel_rfl) (by kernel_rfl) (by kernel_rfl) (fun _ _ _ h => h) (Or.inl ⟨by rfl, ?_⟩) (by assumption) ?_
              rotate_left
              · intro w hSw
                (try dsimp only at hSw)
                go_simp
                (try with_reducible rfl)
              simp only [Act.put, List.setIfInBounds_toArray, List.set_cons_zero, List.set_cons_succ]
              refine wpAnyH_ready (rs := [13]) (by kernel_rfl) (by simp) ?_
              refine AllReadyH.cons (by simp only [List.getElem?_toArray, List.getElem?_cons_succ, List.getElem?_cons_zero]; rfl) (fun K hK => ?_) (AllReadyH.nil)
              have h14 := AtB.new V2 #[.slice none 0 0, .slice none 0 0] 29
              have kk := (Kept.refl V2).alloc (.cells #[.slice none 0 0, .slice none 0 0] 29)
              replace hT := hT.kept kk
              have kT := (hHeld.2.2).trans kk
              go_simp
              obtain ⟨z14, hz⟩ : ∃ z14, z14 = V2.heap.size := ⟨_, rfl⟩
              have hz14 : V0.heap.size ≤ z14 := by rw [hz]; exact (hHeld.2.2).size_le
              rw [← hz] at h14 ⊢
              generalize V2.alloc (.cells #[.slice none 0 0, .slice none 0 0] 29) = V3 at *
              clear hz
              refine hK.out _ _ ?_ (fun hHeld2 => ?_)
              · exact ⟨(kT.cell (p := ⟨z1, 0, none⟩) bz1).trans d0, (kT.cell (p := ⟨z1, 1, none⟩) bz1).trans d1, kT⟩
              clear hK K hHeld
              have hHeld := hHeld2
              clear hHeld2
              try simp only [Act.put, List.setIfInBounds_toArray, List.set_cons_zero, List.set_cons_succ]
              refine wpAnyH_ready (rs := [14]) (by kernel_rfl) (by simp) ?_
              refine AllReadyH.cons (by simp only [List.getElem?_toArray, List.getElem?_cons_succ, List.getElem?_cons_zero]; rfl) (fun K hK => ?_) (AllReadyH.nil)
              have c0 : V3.cell? ⟨z14, 0, none⟩ = some (.slice none 0 0) := h14.cell
              have c1' : V3.cell? ⟨z14, 1, none⟩ = some (.slice none 0 0) := h14.cell
              have f0 := h14.fr 0
              have f1 := h14.fr 1
              have lt14 := h14.lt
              replace hT := vts_past_box (vts_past_box hT h14 (by decide) hz14 0 (.slice lA l.length lc)) (h14.set 0 (.slice lA l.length lc)) (by decide) hz14 1 (.slice A2 T.length c2)
              replace h14 := h14.set2 (.slice lA l.length lc) (.slice A2 T.length c2)
              have kT := hT.2
              go_simp
              generalize (V3.setCell ⟨z14, 0, none⟩ (.slice lA l.length lc)).setCell ⟨z14, 1, none⟩ (.slice A2 T.length c2) = V4 at *
              clear c0 c1' f0 f1 lt14
              refine hK.out _ _ ?_ (fun hHeld2 => ?_)
              · exact ⟨(kT.cell (p := ⟨z1, 0, none⟩) bz1).trans d0, (kT.cell (p := ⟨z1, 1, none⟩) bz1).trans d1, kT⟩
              clear hK K hHeld
              have hHeld := hHeld2
              clear hHeld2
              try simp only [Act.put, List.setIfInBounds_toArray, List.set_cons_zero, List.set_cons_succ]
              refine wpAnyH_done (by kernel_rfl) ?_ _
              refine NoPanic.normal ?_
              exact hQ1.out z14 A1 c1 A2 c2 _ ⟨h14, CellsAt.of_own hT.1, HKd.out.trans hT.2⟩
            · have h14 := AtB.new V1 #[.slice none 0 0, .slice none 0 0] 29
              have kk := (Kept.refl V1).alloc (.cells #[.slice none 0 0, .slice none 0 0] 29)
              replace hT := hT.kept kk
              have kT := (hHeld.2.2).trans kk
              go_simp
              obtain ⟨z14, hz⟩ : ∃ z14, z14 = V1.heap.size := ⟨_, rfl⟩
              have hz14 : V0.heap.size ≤ z14 := by rw [hz]; exact (hHeld.2.2).size_le
              rw [← hz] at h14 ⊢
              generalize V1.alloc (.cells #[.slice none 0 0, .slice none 0 0] 29) = V2 at *
              clear hz
              refine hK.out _ _ ?_ (fun hHeld2 => ?_)
              · exact ⟨(kT.cell (p := ⟨z1, 0, none⟩) bz1).trans d0, (kT.cell (p := ⟨z1, 1, none⟩) bz1).trans d1, kT⟩
              clear hK K hHeld
              have hHeld := hHeld2
              clear hHeld2
              try simp only [Act.put, List.setIfInBounds_toArray, List.set_cons_zero, List.set_cons_succ]
              refine wpAnyH_ready (rs := [11]) (by kernel_rfl) (by simp) ?_
              refine AllReadyH.cons (by simp only [List.getElem?_toArray, List.getElem?_cons_succ, List.getElem?_cons_zero]; rfl) (fun K hK => ?_) (AllReadyH.nil)
              refine step_vgrow V2 (by rfl) (.tmp 51) (.tmp 55) (by rfl) V0 D _ (by rfl) hT _ vA n _ U (by rfl) HUl.out (HUc0.out.kept hHeld.2.2) (by have := HDl.out; omega) ?_
              intro A2 c2 V3 hT2 gg
              rw [HTe.out] at hT2 ⊢
              replace h14 := h14.grown gg (own_apart hT.1 h14 (by decide))
              clear gg hT
              have hT := hT2
              clear hT2
              have kT := hT.2
              refine hK.out _ _ ?_ (fun hHeld2 => ?_)
              · exact ⟨(kT.cell (p := ⟨z1, 0, none⟩) bz1).trans d0, (kT.cell (p := ⟨z1, 1, none⟩) bz1).trans d1, kT⟩
              clear hK K hHeld
              have hHeld := hHeld2
              clear hHeld2
              try simp only [Act.put, List.setIfInBounds_toArray, List.set_cons_zero, List.set_cons_succ]
              refine wpAnyH_take (i := 12) (v := ?_) (by simp only [List.getElem?_toArray, List.getElem?_cons_succ, List.getElem?_cons_zero]; rfl) (by kernel_rfl) (by kernel_rfl) (by kernel_rfl) (fun _ _ _ h => h) (Or.inl ⟨by rfl, ?_⟩) (by assumption) ?_
              rotate_left
              · intro w hSw
                (try dsimp only at hSw)
                go_simp
                (try with_reducible rfl)
              simp only [Act.put, List.setIfInBounds_toArray, List.set_cons_zero, List.set_cons_succ]
              refine wpAnyH_ready (rs := [14]) (by kernel_rfl) (by simp) ?_
              refine AllReadyH.cons (by simp only [List.getElem?_toArray, List.getElem?_cons_succ, List.getElem?_cons_zero]; rfl) (fun K hK => ?_) (AllReadyH.nil)
              have c0 : V3.cell? ⟨z14, 0, none⟩ = some (.slice none 0 0) := h14.cell
              have c1' : V3.cell? ⟨z14, 1, none⟩ = some (.slice none 0 0) := h14.cell
              have f0 := h14.fr 0
              have f1 := h14.fr 1
              have lt14 := h14.lt
              replace hT := vts_past_box (vts_past_box hT h14 (by decide) hz14 0 (.slice lA l.length lc)) (h14.set 0 (.slice lA l.length lc)) (by decide) hz14 1 (.slice A2 T.length c2)
              replace h14 := h14.set2 (.slice lA l.length lc) (.slice A2 T.length c2)
              have kT := hT.2
              go_simp
              generalize (V3.setCell ⟨z14, 0, none⟩ (.slice lA l.length lc)).setCell ⟨z14, 1, none⟩ (.slice A2 T.length c2) = V4 at *
              clear c0 c1' f0 f1 lt14
              refine hK.out _ _ ?_ (fun hHeld2 => ?_)
              · exact ⟨(kT.cell (p := ⟨z1, 0, none⟩) bz1).trans d0, (kT.cell (p := ⟨z1, 1, none⟩) bz1).trans d1, kT⟩
              clear hK K hHeld
              have hHeld := hHeld2
              clear hHeld2
              try simp only [Act.put, List.setIfInBounds_toArray, List.set_cons_zero, List.set_cons_succ]
              refine wpAnyH_done (by kernel_rfl) ?_ _
              refine NoPanic.normal ?_
              exact hQ1.out z14 A1 c1 A2 c2 _ ⟨h14, CellsAt.of_own hT.1, HKd.out.trans hT.2⟩
          · have h14 := AtB.new V0 #[.slice none 0 0, .slice none 0 0] 29
            have kk := (Kept.refl V0).alloc (.cells #[.slice none 0 0, .slice none 0 0] 29)
            have kT := (hHeld.2.2).trans kk
            go_simp
            obtain ⟨z14, hz⟩ : ∃ z14, z14 = V0.heap.size := ⟨_, rfl⟩
            have hz14 : V0.heap.size ≤ z14 := by rw [hz]; exact (hHeld.2.2).size_le
            rw [← hz] at h14 ⊢
            generalize V0.alloc (.cells #[.slice none 0 0, .slice none 0 0] 29) = V1 at *
            clear hz
            refine hK.out _ _ ?_ (fun hHeld2 => ?_)
            · exact ⟨(kT.cell (p := ⟨z1, 0, none⟩) bz1).trans d0, (kT.cell (p := ⟨z1, 1, none⟩) bz1).trans d1, kT⟩
            clear hK K hHeld
            have hHeld := hHeld2
            clear hHeld2
            try simp only [Act.put, List.setIfInBounds_toArray, List.set_cons_zero, List.set_cons_succ]
            refine wpAnyH_ready (rs := [6]) (by kernel_rfl) (by simp) ?_
            refine AllReadyH.cons (by simp only [List.getElem?_toArray, List.getElem?_cons_succ, List.getElem?_cons_zero]; rfl) (fun K hK => ?_) (AllReadyH.nil)
            refine step_vnew V1 (by rfl) (.tmp 50) (by rfl) V0 hHeld.2.2 _ vA2 (v.length - n) _ D (by rfl) HDl.out (HFc0.out.kept hHeld.2.2) (by omega) ?_
            intro A1 c1 V2 hT kk
            replace h14 := h14.kept kk
            have kT := hT.2
            refine hK.out _ _ ?_ (fun hHeld2 => ?_)
            · exact ⟨(kT.cell (p := ⟨z1, 0, none⟩) bz1).trans d0, (kT.cell (p := ⟨z1, 1, none⟩) bz1).trans d1, kT⟩
            clear hK K hHeld
            have hHeld := hHeld2
            clear hHeld2
            try simp only [Act.put, List.setIfInBounds_toArray, List.set_cons_zero, List.set_cons_succ]
            refine wpAnyH_ready (rs := [11]) (by kernel_rfl) (by simp) ?_
            refine AllReadyH.cons (by simp only [List.getElem?_toArray, List.getElem?_cons_succ, List.getElem?_cons_zero]; rfl) (fun K hK => ?_) (AllReadyH.nil)
            refine step_vgrow V2 (by rfl) (.tmp 51) (.tmp 55) (by rfl) V0 D _ (by rfl) hT _ vA n _ U (by rfl) HUl.out (HUc0.out.kept hHeld.2.2) (by have := HDl.out; omega) ?_
            intro A2 c2 V3 hT2 gg
            rw [HTe.out] at hT2 ⊢
            replace h14 := h14.grown gg (own_apart hT.1 h14 (by decide))
            clear gg hT
            have hT := hT2
            clear hT2
            have kT := hT.2
            refine hK.out _ _ ?_ (fun hHeld2 => ?_)
            · exact ⟨(kT.cell (p := ⟨z1, 0, none⟩) bz1).trans d0, (kT.cell (p := ⟨z1, 1, none⟩) bz1).trans d1, kT⟩
            clear hK K hHeld
            have hHeld := hHeld2
            clear hHeld2
            try simp only [Act.put, List.setIfInBounds_toArray, List.set_cons_zero, List.set_cons_succ]
            refine wpAnyH_take (i := 12) (v := ?_) (by simp only [List.getElem?_toArray, List.getElem?_cons_succ, List.getElem?_cons_zero]; rfl) (by kernel_rfl) (by kernel_rfl) (by kernel_rfl) (fun _ _ _ h => h) (Or.inl ⟨by rfl, ?_⟩) (by assumption) ?_
            rotate_left
            · intro w hSw
              (try dsimp only at hSw)
              go_simp
              (try with_reducible rfl)
            simp only [Act.put, List.setIfInBounds_toArray, List.set_cons_zero, List.set_cons_succ]
            refine wpAnyH_ready (rs := [14]) (by kernel_rfl) (by simp) ?_
            refine AllReadyH.cons (by simp only [List.getElem?_toArray, List.getElem?_cons_succ, List.getElem?_cons_zero]; rfl) (fun K hK => ?_) (AllReadyH.nil)
            have c0 : V3.cell? ⟨z14, 0, none⟩ = some (.slice none 0 0) := h14.cell
            have c1' : V3.cell? ⟨z14, 1, none⟩ = some (.slice none 0 0) := h14.cell
            have f0 := h14.fr 0
            have f1 := h14.fr 1
            have lt14 := h14.lt
            replace hT := vts_past_box (vts_past_box hT h14 (by decide) hz14 0 (.slice lA l.length lc)) (h14.set 0 (.slice lA l.length lc)) (by decide) hz14 1 (.slice A2 T.length c2)
            replace h14 := h14.set2 (.slice lA l.length lc) (.slice A2 T.length c2)
            have kT := hT.2
            go_simp
            generalize (V3.setCell ⟨z14, 0, none⟩ (.slice lA l.length lc)).setCell ⟨z14, 1, none⟩ (.slice A2 T.length c2) = V4 at *
            clear c0 c1' f0 f1 lt14
            refine hK.out _ _ ?_ (fun hHeld2 => ?_)
            · exact ⟨(kT.cell (p := ⟨z1, 0, none⟩) bz1).trans d0, (kT.cell (p := ⟨z1, 1, none⟩) bz1).trans d1, kT⟩
            clear hK K hHeld
            have hHeld := hHeld2
            clear hHeld2
            try simp only [Act.put, List.setIfInBounds_toArray, List.set_cons_zero, List.set_cons_succ]
            refine wpAnyH_done (by kernel_rfl) ?_ _
            refine NoPanic.normal ?_
            exact hQ1.out z14 A1 c1 A2 c2 _ ⟨h14, CellsAt.of_own hT.1, HKd.out.trans hT.2⟩
        intro z14 A1 c1 A2 c2 wT hpost
        obtain ⟨h14, hTc, k⟩ := hpost
        have H14 := Lib.hid h14
        have HTc := Lib.hid hTc
        replace H13 := Lib.hid (H13.out.kept k)
        clear h14 hTc HFc HUc hfr hup
        have KB5 := Lib.hid (KB4.out.trans k)
        clear k
        generalize wT = W5 at *
        try dsimp only
        go_wp2_with fail
        refine cut6 (α := Nat) (β := Option Addr) (γ := Nat) (δ := Option Addr) (ε := Nat) (ζ := Nat) ?f7 (fun z _ _ A2 c2 _ w' => AtB w' z #[.slice lA l.length lc, .slice A2 M.length c2] 29 ∧ CellsAt w' w'.heap.size A2 (votesCells M) ∧ Kept W5 w') ?_ ?_
        rotate_left
        · intro Q1 hQ1
          obtain ⟨b10, b11⟩ := (HB1.out.kept KB5.out).two
          have bz1 := (HB1.out.kept KB5.out).1
          obtain ⟨b20, b21, b22, b23⟩ := (HB2.out.kept KB5.out).four
          have bz2 := (HB2.out.kept KB5.out).1
          refine wp_region_noPanic ?_
          refine wp_region_held_drew (S := (fun w' => w'.cell? ⟨z1, 0, none⟩ = some (.slice lA l.length lc) ∧ w'.cell? ⟨z1, 1, none⟩ = some (.slice vA v.length vc) ∧ w'.cell? ⟨z2, 0, none⟩ = some (.int .i64 y.f) ∧ w'.cell? ⟨z2, 1, none⟩ = some (.int .i64 y.s) ∧ w'.cell? ⟨z2, 2, none⟩ = some (.int .u64 y.p.1) ∧ w'.cell? ⟨z2, 3, none⟩ = some (.int .u64 y.p.2) ∧ Kept W5.drew w')) (by kernel_rfl) ?_ (fun hHeld => ?_)
          · exact ⟨b10, b11, b20, b21, b22, b23, Kept.refl _⟩
          have HV0 := Lib.hid ((HV.out.kept KB5.out).kept (Kept.refl W5).drew)
          have HKd := Lib.hid (Kept.refl W5).drew
          have d0 : W5.drew.cell? ⟨z1, 0, none⟩ = _ := b10
          have d1 : W5.drew.cell? ⟨z1, 1, none⟩ = _ := b11
          have d2 : W5.drew.cell? ⟨z2, 0, none⟩ = _ := b20
          have d3 : W5.drew.cell? ⟨z2, 1, none⟩ = _ := b21
          have d4 : W5.drew.cell? ⟨z2, 2, none⟩ = _ := b22
          have d5 : W5.drew.cell? ⟨z2, 3, none⟩ = _ := b23
          have bz1 : z1 < W5.drew.heap.size := bz1
          have bz2 : z2 < W5.drew.heap.size := bz2
          clear b10 b11 b20 b21 b22 b23
          generalize W5.drew = V0 at *
          refine wpAnyH_take (i := 0) (v := ?_) (by simp only [List.getElem?_toArray, List.getElem?_cons_succ, List.getElem?_cons_zero]; rfl) (by kernel_rfl) (by kernel_rfl) (by kernel_rfl) (fun _ _ _ h => h) (Or.inl ⟨by rfl, ?_⟩) (by assumption) ?_
          rotate_left
          · intro w hSw
            (try dsimp only at hSw)
            go_simp
            (try with_reducible rfl)
          simp only [Act.put, List.setIfInBounds_toArray, List.set_cons_zero, List.set_cons_succ]
          refine wpAnyH_take (i := 1) (v := ?_) (by simp only [List.getElem?_toArray, List.getElem?_cons_succ, List.getElem?_cons_zero]; rfl) (by kernel_rfl) (by kernel_rfl) (by kernel_rfl) (fun _ _ _ h => h) (Or.inl ⟨by rfl, ?_⟩) (by assumption) ?_
          rotate_left
          · intro w hSw
            (try dsimp only at hSw)
            go_simp
            (try with_reducible rfl)
          simp only [Act.put, List.setIfInBounds_toArray, List.set_cons_zero, List.set_cons_succ]
          refine wpAnyH_take (i := 2) (v := ?_) (by simp only [List.getElem?_toArray, List.getElem?_cons_succ, List.getElem?_cons_zero]; rfl) (by kernel_rfl) (by kernel_rfl) (by kernel_rfl) (fun _ _ _ h => h) (Or.inl ⟨by rfl, ?_⟩) (by assumption) ?_
          rotate_left
          · intro w hSw
            (try dsimp only at hSw)
            go_simp
            (try with_reducible rfl)
          simp only [Act.put, List.setIfInBounds_toArray, List.set_cons_zero, List.set_cons_succ]
          refine wpAnyH_take (i := 3) (v := ?_) (by simp only [List.getElem?_toArray, List.getElem?_cons_succ, List.getElem?_cons_zero]; rfl) (by kernel_rfl) (by kernel_rfl) (by kernel_rfl) (fun _ _ _ h => h) (Or.inl ⟨by rfl, ?_⟩) (by assumption) ?_
          rotate_left
          · intro w hSw
            (try dsimp only at hSw)
            go_simp
            (try with_reducible rfl)
          simp only [Act.put, List.setIfInBounds_toArray, List.set_cons_zero, List.set_cons_succ]
          refine wpAnyH_take (i := 5) (v := ?_) (by simp only [List.getElem?_toArray, List.getElem?_cons_succ, List.getElem?_cons_zero]; rfl) (by kernel_rfl) (by kernel_rfl) (by kernel_rfl) (fun _ _ _ h => h) (Or.inl ⟨by rfl, ?_⟩) (by assumption) ?_
          rotate_left
          · intro w hSw
            (try dsimp only at hSw)
            go_simp
            (try with_reducible rfl)
          simp only [Act.put, List.setIfInBounds_toArray, List.set_cons_zero, List.set_cons_succ]
          refine wpAnyH_ready (rs := [4, 6, 9]) (by kernel_rfl) (by simp) ?_
          refine AllReadyH.cons (by simp only [List.getElem?_toArray, List.getElem?_cons_succ, List.getElem?_cons_zero]; rfl) (fun K hK => ?_) (AllReadyH.cons (by simp only [List.getElem?_toArray, List.getElem?_cons_succ, List.getElem?_cons_zero]; rfl) (fun K hK => ?_) (AllReadyH.cons (by simp only [List.getElem?_toArray, List.getElem?_cons_succ, List.getElem?_cons_zero]; rfl) (fun K hK => ?_) (AllReadyH.nil)))
          · refine step_vnew V0 (by rfl) (.tmp 61) (by rfl) V0 hHeld.2.2.2.2.2.2 _ vA v.length vc v (by rfl) rfl (HV0.out.kept hHeld.2.2.2.2.2.2) (by omega) ?_
            intro A1 c1 V1 hT kk
            have kT := hT.2
            refine hK.out _ _ ?_ (fun hHeld2 => ?_)
            · exact ⟨(kT.cell (p := ⟨z1, 0, none⟩) bz1).trans d0, (kT.cell (p := ⟨z1, 1, none⟩) bz1).trans d1, (kT.cell (p := ⟨z2, 0, none⟩) bz2).trans d2, (kT.cell (p := ⟨z2, 1, none⟩) bz2).trans d3, (kT.cell (p := ⟨z2, 2, none⟩) bz2).trans d4, (kT.cell (p := ⟨z2, 3, none⟩) bz2).trans d5, kT⟩
            clear hK K hHeld
            have hHeld := hHeld2
            clear hHeld2
            try simp only [Act.put, List.setIfInBounds_toArray, List.set_cons_zero, List.set_cons_succ]
            refine wpAnyH_ready (rs := [6, 9]) (by kernel_rfl) (by simp) ?_
            refine AllReadyH.cons (by simp only [List.getElem?_toArray, List.getElem?_cons_succ, List.getElem?_cons_zero]; rfl) (fun K hK => ?_) (AllReadyH.cons (by simp only [List.getElem?_toArray, List.getElem?_cons_succ, List.getElem?_cons_zero]; rfl) (fun K hK => ?_) (AllReadyH.nil))
            · have hyb := AtB.new V1 #[.int .i64 y.f, .int .i64 y.s, .int .u64 y.p.1, .int .u64 y.p.2] 39
              have kk := (Kept.refl V1).alloc (.cells #[.int .i64 y.f, .int .i64 y.s, .int .u64 y.p.1, .int .u64 y.p.2] 39)
              replace hT := hT.kept kk
              have kT := (hHeld.2.2.2.2.2.2).trans kk
              go_simp
              obtain ⟨zy, hz⟩ : ∃ zy, zy = V1.heap.size := ⟨_, rfl⟩
              rw [← hz] at hyb ⊢
              generalize V1.alloc (.cells #[.int .i64 y.f, .int .i64 y.s, .int .u64 y.p.1, .int .u64 y.p.2] 39) = V2 at *
              clear hz
              refine hK.out _ _ ?_ (fun hHeld2 => ?_)
              · exact ⟨(kT.cell (p := ⟨z1, 0, none⟩) bz1).trans d0, (kT.cell (p := ⟨z1, 1, none⟩) bz1).trans d1, (kT.cell (p := ⟨z2, 0, none⟩) bz2).trans d2, (kT.cell (p := ⟨z2, 1, none⟩) bz2).trans d3, (kT.cell (p := ⟨z2, 2, none⟩) bz2).trans d4, (kT.cell (p := ⟨z2, 3, none⟩) bz2).trans d5, kT⟩
              clear hK K hHeld
              have hHeld := hHeld2
              clear hHeld2
              try simp only [Act.put, List.setIfInBounds_toArray, List.set_cons_zero, List.set_cons_succ]
              refine wpAnyH_ready (rs := [7, 9]) (by kernel_rfl) (by simp) ?_
              refine AllReadyH.cons (by simp only [List.getElem?_toArray, List.getElem?_cons_succ, List.getElem?_cons_zero]; rfl) (fun K hK => ?_) (AllReadyH.cons (by simp only [List.getElem?_toArray, List.getElem?_cons_succ, List.getElem?_cons_zero]; rfl) (fun K hK => ?_) (AllReadyH.nil))
              · refine step_vgrow V2 (by rfl) (.tmp 62) (.tmp 64) (by rfl) V0 v _ (by rfl) hT _ (some ⟨zy, 0, none⟩) 1 1 [y] (by rfl) rfl (votes_one_at hyb.has) (by omega) ?_
                intro A2 c2 V3 hT2 gg
                rw [HMe2.out] at hT2 ⊢
                clear gg hT hyb
                have hT := hT2
                clear hT2
                have kT := hT.2
                refine hK.out _ _ ?_ (fun hHeld2 => ?_)
                · exact ⟨(kT.cell (p := ⟨z1, 0, none⟩) bz1).trans d0, (kT.cell (p := ⟨z1, 1, none⟩) bz1).trans d1, (kT.cell (p := ⟨z2, 0, none⟩) bz2).trans d2, (kT.cell (p := ⟨z2, 1, none⟩) bz2).trans d3, (kT.cell (p := ⟨z2, 2, none⟩) bz2).trans d4, (kT.cell (p := ⟨z2, 3, none⟩) bz2).trans d5, kT⟩
                clear hK K hHeld
                have hHeld := hHeld2
                clear hHeld2
                try simp only [Act.put, List.setIfInBounds_toArray, List.set_cons_zero, List.set_cons_succ]
                refine wpAnyH_take (i := 8) (v := ?_) (by simp only [List.getElem?_toArray, List.getElem?_cons_succ, List.getElem?_cons_zero]; rfl) (by kernel_rfl) (by kernel_rfl) (by kernel_rfl) (fun _ _ _ h => h) (Or.inl ⟨by rfl, ?_⟩) (by assumption) ?_
                rotate_left
                · intro w hSw
                  (try dsimp only at hSw)
                  go_simp
                  (try with_reducible rfl)
                simp only [Act.put, List.setIfInBounds_toArray, List.set_cons_zero, List.set_cons_succ]
                refine wpAnyH_ready (rs := [9]) (by kernel_rfl) (by simp) ?_
                refine AllReadyH.cons (by simp only [List.getElem?_toArray, List.getElem?_cons_succ, List.getElem?_cons_zero]; rfl) (fun K hK => ?_) (AllReadyH.nil)
                have h15 := AtB.new V3 #[.slice none 0 0, .slice none 0 0] 29
                have kk := (Kept.refl V3).alloc (.cells #[.slice none 0 0, .slice none 0 0] 29)
                replace hT := hT.kept kk
                have kT := (hHeld.2.2.2.2.2.2).trans kk
                go_simp
                obtain ⟨z15, hz⟩ : ∃ z15, z15 = V3.heap.size := ⟨_, rfl⟩
                have hz15 : V0.heap.size ≤ z15 := by rw [hz]; exact (hHeld.2.2.2.2.2.2).size_le
                rw [← hz] at h15 ⊢
                generalize V3.alloc (.cells #[.slice none 0 0, .slice none 0 0] 29) = V4 at *
                clear hz
                refine hK.out _ _ ?_ (fun hHeld2 => ?_)
                · exact ⟨(kT.cell (p := ⟨z1, 0, none⟩) bz1).trans d0, (kT.cell (p := ⟨z1, 1, none⟩) bz1).trans d1, (kT.cell (p := ⟨z2, 0, none⟩) bz2).trans d2, (kT.cell (p := ⟨z2, 1, none⟩) bz2).trans d3, (kT.cell (p := ⟨z2, 2, none⟩) bz2).trans d4, (kT.cell (p := ⟨z2, 3, none⟩) bz2).trans d5, kT⟩
                clear hK K hHeld
                have hHeld := hHeld2
                clear hHeld2
                try simp only [Act.put, List.setIfInBounds_toArray, List.set_cons_zero, List.set_cons_succ]
                refine wpAnyH_ready (rs := [10]) (by kernel_rfl) (by simp) ?_
                refine AllReadyH.cons (by simp only [List.getElem?_toArray, List.getElem?_cons_succ, List.getElem?_cons_zero]; rfl) (fun K hK => ?_) (AllReadyH.nil)
                have c0 : V4.cell? ⟨z15, 0, none⟩ = some (.slice none 0 0) := h15.cell
                have c1' : V4.cell? ⟨z15, 1, none⟩ = some (.slice none 0 0) := h15.cell
                have f0 := h15.fr 0
                have f1 := h15.fr 1
                have lt15 := h15.lt
                replace hT := vts_past_box (vts_past_box hT h15 (by decide) hz15 0 (.slice lA l.length lc)) (h15.set 0 (.slice lA l.length lc)) (by decide) hz15 1 (.slice A2 M.length c2)
                replace h15 := h15.set2 (.slice lA l.length lc) (.slice A2 M.length c2)
                have kT := hT.2
                go_simp
                generalize (V4.setCell ⟨z15, 0, none⟩ (.slice lA l.length lc)).setCell ⟨z15, 1, none⟩ (.slice A2 M.length c2) = V5 at *
                clear c0 c1' f0 f1 lt15
                refine hK.out _ _ ?_ (fun hHeld2 => ?_)
                · exact ⟨(kT.cell (p := ⟨z1, 0, none⟩) bz1).trans d0, (kT.cell (p := ⟨z1, 1, none⟩) bz1).trans d1, (kT.cell (p := ⟨z2, 0, none⟩) bz2).trans d2, (kT.cell (p := ⟨z2, 1, none⟩) bz2).trans d3, (kT.cell (p := ⟨z2, 2, none⟩) bz2).trans d4, (kT.cell (p := ⟨z2, 3, none⟩) bz2).trans d5, kT⟩
                clear hK K hHeld
                have hHeld := hHeld2
                clear hHeld2
                try simp only [Act.put, List.setIfInBounds_toArray, List.set_cons_zero, List.set_cons_succ]
                refine wpAnyH_done (by kernel_rfl) ?_ _
                refine NoPanic.normal ?_
                exact hQ1.out z15 A1 c1 A2 c2 zy _ ⟨h15, CellsAt.of_own hT.1, HKd.out.trans hT.2⟩
              · have h15 := AtB.new V2 #[.slice none 0 0, .slice none 0 0] 29
                have kk := (Kept.refl V2).alloc (.cells #[.slice none 0 0, .slice none 0 0] 29)
                replace hT := hT.kept kk
                replace hyb := hyb.kept kk
                have kT := (hHeld.2.2.2.2.2.2).trans kk
                go_simp
                obtain ⟨z15, hz⟩ : ∃ z15, z15 = V2.heap.size := ⟨_, rfl⟩
                have hz15 : V0.heap.size ≤ z15 := by rw [hz]; exact (hHeld.2.2.2.2.2.2).size_le
                rw [← hz] at h15 ⊢
                generalize V2.alloc (.cells #[.slice none 0 0, .slice none 0 0] 29) = V3 at *
                clear hz
                refine hK.out _ _ ?_ (fun hHeld2 => ?_)
                · exact ⟨(kT.cell (p := ⟨z1, 0, none⟩) bz1).trans d0, (kT.cell (p := ⟨z1, 1, none⟩) bz1).trans d1, (kT.cell (p := ⟨z2, 0, none⟩) bz2).trans d2, (kT.cell (p := ⟨z2, 1, none⟩) bz2).trans d3, (kT.cell (p := ⟨z2, 2, none⟩) bz2).trans d4, (kT.cell (p := ⟨z2, 3, none⟩) bz2).trans d5, kT⟩
                clear hK K hHeld
                have hHeld := hHeld2
                clear hHeld2
                try simp only [Act.put, List.setIfInBounds_toArray, List.set_cons_zero, List.set_cons_succ]
                refine wpAnyH_ready (rs := [7]) (by kernel_rfl) (by simp) ?_
                refine AllReadyH.cons (by simp only [List.getElem?_toArray, List.getElem?_cons_succ, List.getElem?_cons_zero]; rfl) (fun K hK => ?_) (AllReadyH.nil)
                refine step_vgrow V3 (by rfl) (.tmp 62) (.tmp 64) (by rfl) V0 v _ (by rfl) hT _ (some ⟨zy, 0, none⟩) 1 1 [y] (by rfl) rfl (votes_one_at hyb.has) (by omega) ?_
                intro A2 c2 V4 hT2 gg
                rw [HMe2.out] at hT2 ⊢
                replace h15 := h15.grown gg (own_apart hT.1 h15 (by decide))
                clear gg hT hyb
                have hT := hT2
                clear hT2
                have kT := hT.2
                refine hK.out _ _ ?_ (fun hHeld2 => ?_)
                · exact ⟨(kT.cell (p := ⟨z1, 0, none⟩) bz1).trans d0, (kT.cell (p := ⟨z1, 1, none⟩) bz1).trans d1, (kT.cell (p := ⟨z2, 0, none⟩) bz2).trans d2, (kT.cell (p := ⟨z2, 1, none⟩) bz2).trans d3, (kT.cell (p := ⟨z2, 2, none⟩) bz2).trans d4, (kT.cell (p := ⟨z2, 3, none⟩) bz2).trans d5, kT⟩
                clear hK K hHeld
                have hHeld := hHeld2
                clear hHeld2
                try simp only [Act.put, List.setIfInBounds_toArray, List.set_cons_zero, List.set_cons_succ]
                refine wpAnyH_take (i := 8) (v := ?_) (by simp only [List.getElem?_toArray, List.getElem?_cons_succ, List.getElem?_cons_zero]; rfl) (by kernel_rfl) (by kernel_rfl) (by kernel_rfl) (fun _ _ _ h => h) (Or.inl ⟨by rfl, ?_⟩) (by assumption) ?_
                rotate_left
                · intro w hSw
                  (try dsimp only at hSw)
                  go_simp
                  (try with_reducible rfl)
                simp only [Act.put, List.setIfInBounds_toArray, List.set_cons_zero, List.set_cons_succ]
                refine wpAnyH_ready (rs := [10]) (by kernel_rfl) (by simp) ?_
                refine AllReadyH.cons (by simp only [List.getElem?_toArray, List.getElem?_cons_succ, List.getElem?_cons_zero]; rfl) (fun K hK => ?_) (AllReadyH.nil)
                have c0 : V4.cell? ⟨z15, 0, none⟩ = some (.slice none 0 0) := h15.cell
                have c1' : V4.cell? ⟨z15, 1, none⟩ = some (.slice none 0 0) := h15.cell
                have f0 := h15.fr 0
                have f1 := h15.fr 1
                have lt15 := h15.lt
                replace hT := vts_past_box (vts_past_box hT h15 (by decide) hz15 0 (.slice lA l.length lc)) (h15.set 0 (.slice lA l.length lc)) (by decide) hz15 1 (.slice A2 M.length c2)
                replace h15 := h15.set2 (.slice lA l.length lc) (.slice A2 M.length c2)
                have kT := hT.2
                go_simp
                generalize (V4.setCell ⟨z15, 0, none⟩ (.slice lA l.length lc)).setCell ⟨z15, 1, none⟩ (.slice A2 M.length c2) = V5 at *
                clear c0 c1' f0 f1 lt15
                refine hK.out _ _ ?_ (fun hHeld2 => ?_)
                · exact ⟨(kT.cell (p := ⟨z1, 0, none⟩) bz1).trans d0, (kT.cell (p := ⟨z1, 1, none⟩) bz1).trans d1, (kT.cell (p := ⟨z2, 0, none⟩) bz2).trans d2, (kT.cell (p := ⟨z2, 1, none⟩) bz2).trans d3, (kT.cell (p := ⟨z2, 2, none⟩) bz2).trans d4, (kT.cell (p := ⟨z2, 3, none⟩) bz2).trans d5, kT⟩
                clear hK K hHeld
                have hHeld := hHeld2
                clear hHeld2
                try simp only [Act.put, List.setIfInBounds_toArray, List.set_cons_zero, List.set_cons_succ]
                refine wpAnyH_done (by kernel_rfl) ?_ _
                refine NoPanic.normal ?_
                exact hQ1.out z15 A1 c1 A2 c2 zy _ ⟨h15, CellsAt.of_own hT.1, HKd.out.trans hT.2⟩
            · have h15 := AtB.new V1 #[.slice none 0 0, .slice none 0 0] 29
              have kk := (Kept.refl V1).alloc (.cells #[.slice none 0 0, .slice none 0 0] 29)
              replace hT := hT.kept kk
              have kT := (hHeld.2.2.2.2.2.2).trans kk
              go_simp
              obtain ⟨z15, hz⟩ : ∃ z15, z15 = V1.heap.size := ⟨_, rfl⟩
              have hz15 : V0.heap.size ≤ z15 := by rw [hz]; exact (hHeld.2.2.2.2.2.2).size_le
              rw [← hz] at h15 ⊢
              generalize V1.alloc (.cells #[.slice none 0 0, .slice none 0 0] 29) = V2 at *
              clear hz
              refine hK.out _ _ ?_ (fun hHeld2 => ?_)
              · exact ⟨(kT.cell (p := ⟨z1, 0, none⟩) bz1).trans d0, (kT.cell (p := ⟨z1, 1, none⟩) bz1).trans d1, (kT.cell (p := ⟨z2, 0, none⟩) bz2).trans d2, (kT.cell (p := ⟨z2, 1, none⟩) bz2).trans d3, (kT.cell (p := ⟨z2, 2, none⟩) bz2).trans d4, (kT.cell (p := ⟨z2, 3, none⟩) bz2).trans d5, kT⟩
              clear hK K hHeld
              have hHeld := hHeld2
              clear hHeld2
              try simp only [Act.put, List.setIfInBounds_toArray, List.set_cons_zero, List.set_cons_succ]
              refine wpAnyH_ready (rs := [6]) (by kernel_rfl) (by simp) ?_
              refine AllReadyH.cons (by simp only [List.getElem?_toArray, List.getElem?_cons_succ, List.getElem?_cons_zero]; rfl) (fun K hK => ?_) (AllReadyH.nil)
              have hyb := AtB.new V2 #[.int .i64 y.f, .int .i64 y.s, .int .u64 y.p.1, .int .u64 y.p.2] 39
              have kk := (Kept.refl V2).alloc (.cells #[.int .i64 y.f, .int .i64 y.s, .int .u64 y.p.1, .int .u64 y.p.2] 39)
              replace h15 := h15.kept kk
              replace hT := hT.kept kk
              have kT := (hHeld.2.2.2.2.2.2).trans kk
              go_simp
              obtain ⟨zy, hz⟩ : ∃ zy, zy = V2.heap.size := ⟨_, rfl⟩
              rw [← hz] at hyb ⊢
              generalize V2.alloc (.cells #[.int .i64 y.f, .int .i64 y.s, .int .u64 y.p.1, .int .u64 y.p.2] 39) = V3 at *
              clear hz
              refine hK.out _ _ ?_ (fun hHeld2 => ?_)
              · exact ⟨(kT.cell (p := ⟨z1, 0, none⟩) bz1).trans d0, (kT.cell (p := ⟨z1, 1, none⟩) bz1).trans d1, (kT.cell (p := ⟨z2, 0, none⟩) bz2).trans d2, (kT.cell (p := ⟨z2, 1, none⟩) bz2).trans d3, (kT.cell (p := ⟨z2, 2, none⟩) bz2).trans d4, (kT.cell (p := ⟨z2, 3, none⟩) bz2).trans d5, kT⟩
              clear hK K hHeld
              have hHeld := hHeld2
              clear hHeld2
              try simp only [Act.put, List.setIfInBounds_toArray, List.set_cons_zero, List.set_cons_succ]
              refine wpAnyH_ready (rs := [7]) (by kernel_rfl) (by simp) ?_
              refine AllReadyH.cons (by simp only [List.getElem?_toArray, List.getElem?_cons_succ, List.getElem?_cons_zero]; rfl) (fun K hK => ?_) (AllReadyH.nil)
              refine step_vgrow V3 (by rfl) (.tmp 62) (.tmp 64) (by rfl) V0 v _ (by rfl) hT _ (some ⟨zy, 0, none⟩) 1 1 [y] (by rfl) rfl (votes_one_at hyb.has) (by omega) ?_
              intro A2 c2 V4 hT2 gg
              rw [HMe2.out] at hT2 ⊢
              replace h15 := h15.grown gg (own_apart hT.1 h15 (by decide))
              clear gg hT hyb
              have hT := hT2
              clear hT2
              have kT := hT.2
              refine hK.out _ _ ?_ (fun hHeld2 => ?_)
              · exact ⟨(kT.cell (p := ⟨z1, 0, none⟩) bz1).trans d0, (kT.cell (p := ⟨z1, 1, none⟩) bz1).trans d1, (kT.cell (p := ⟨z2, 0, none⟩) bz2).trans d2, (kT.cell (p := ⟨z2, 1, none⟩) bz2).trans d3, (kT.cell (p := ⟨z2, 2, none⟩) bz2).trans d4, (kT.cell (p := ⟨z2, 3, none⟩) bz2).trans d5, kT⟩
              clear hK K hHeld
              have hHeld := hHeld2
              clear hHeld2
              try simp only [Act.put, List.setIfInBounds_toArray, List.set_cons_zero, List.set_cons_succ]
              refine wpAnyH_take (i := 8) (v := ?_) (by simp only [List.getElem?_toArray, List.getElem?_cons_succ, List.getElem?_cons_zero]; rfl) (by kernel_rfl) (by kernel_rfl) (by kernel_rfl) (fun _ _ _ h => h) (Or.inl ⟨by rfl, ?_⟩) (by assumption) ?_
              rotate_left
              · intro w hSw
                (try dsimp only at hSw)
                go_simp
                (try with_reducible rfl)
              simp only [Act.put, List.setIfInBounds_toArray, List.set_cons_zero, List.set_cons_succ]
              refine wpAnyH_ready (rs := [10]) (by kernel_rfl) (by simp) ?_
              refine AllReadyH.cons (by simp only [List.getElem?_toArray, List.getElem?_cons_succ, List.getElem?_cons_zero]; rfl) (fun K hK => ?_) (AllReadyH.nil)
              have c0 : V4.cell? ⟨z15, 0, none⟩ = some (.slice none 0 0) := h15.cell
              have c1' : V4.cell? ⟨z15, 1, none⟩ = some (.slice none 0 0) := h15.cell
              have f0 := h15.fr 0
              have f1 := h15.fr 1
              have lt15 := h15.lt
              replace hT := vts_past_box (vts_past_box hT h15 (by decide) hz15 0 (.slice lA l.length lc)) (h15.set 0 (.slice lA l.length lc)) (by decide) hz15 1 (.slice A2 M.length c2)
              replace h15 := h15.set2 (.slice lA l.length lc) (.slice A2 M.length c2)
              have kT := hT.2
              go_simp
              generalize (V4.setCell ⟨z15, 0, none⟩ (.slice lA l.length lc)).setCell ⟨z15, 1, none⟩ (.slice A2 M.length c2) = V5 at *
              clear c0 c1' f0 f1 lt15
              refine hK.out _ _ ?_ (fun hHeld2 => ?_)
              · exact ⟨(kT.cell (p := ⟨z1, 0, none⟩) bz1).trans d0, (kT.cell (p := ⟨z1, 1, none⟩) bz1).trans d1, (kT.cell (p := ⟨z2, 0, none⟩) bz2).trans d2, (kT.cell (p := ⟨z2, 1, none⟩) bz2).trans d3, (kT.cell (p := ⟨z2, 2, none⟩) bz2).trans d4, (kT.cell (p := ⟨z2, 3, none⟩) bz2).trans d5, kT⟩
              clear hK K hHeld
              have hHeld := hHeld2
              clear hHeld2
              try simp only [Act.put, List.setIfInBounds_toArray, List.set_cons_zero, List.set_cons_succ]
              refine wpAnyH_done (by kernel_rfl) ?_ _
              refine NoPanic.normal ?_
              exact hQ1.out z15 A1 c1 A2 c2 zy _ ⟨h15, CellsAt.of_own hT.1, HKd.out.trans hT.2⟩
          · have hyb := AtB.new V0 #[.int .i64 y.f, .int .i64 y.s, .int .u64 y.p.1, .int .u64 y.p.2] 39
            have kk := (Kept.refl V0).alloc (.cells #[.int .i64 y.f, .int .i64 y.s, .int .u64 y.p.1, .int .u64 y.p.2] 39)
            have kT := (hHeld.2.2.2.2.2.2).trans kk
            go_simp
            obtain ⟨zy, hz⟩ : ∃ zy, zy = V0.heap.size := ⟨_, rfl⟩
            rw [← hz] at hyb ⊢
            generalize V0.alloc (.cells #[.int .i64 y.f, .int .i64 y.s, .int .u64 y.p.1, .int .u64 y.p.2] 39) = V1 at *
            clear hz
            refine hK.out _ _ ?_ (fun hHeld2 => ?_)
            · exact ⟨(kT.cell (p := ⟨z1, 0, none⟩) bz1).trans d0, (kT.cell (p := ⟨z1, 1, none⟩) bz1).trans d1, (kT.cell (p := ⟨z2, 0, none⟩) bz2).trans d2, (kT.cell (p := ⟨z2, 1, none⟩) bz2).trans d3, (kT.cell (p := ⟨z2, 2, none⟩) bz2).trans d4, (kT.cell (p := ⟨z2, 3, none⟩) bz2).trans d5, kT⟩
            clear hK K hHeld
            have hHeld := hHeld2
            clear hHeld2
            try simp only [Act.put, List.setIfInBounds_toArray, List.set_cons_zero, List.set_cons_succ]
            refine wpAnyH_ready (rs := [4, 9]) (by kernel_rfl) (by simp) ?_
            refine AllReadyH.cons (by simp only [List.getElem?_toArray, List.getElem?_cons_succ, List.getElem?_cons_zero]; rfl) (fun K hK => ?_) (AllReadyH.cons (by simp only [List.getElem?_toArray, List.getElem?_cons_succ, List.getElem?_cons_zero]; rfl) (fun K hK => ?_) (AllReadyH.nil))
            · refine step_vnew V1 (by rfl) (.tmp 61) (by rfl) V0 hHeld.2.2.2.2.2.2 _ vA v.length vc v (by rfl) rfl (HV0.out.kept hHeld.2.2.2.2.2.2) (by omega) ?_
              intro A1 c1 V2 hT kk
              replace hyb := hyb.kept kk
              have kT := hT.2
              refine hK.out _ _ ?_ (fun hHeld2 => ?_)
              · exact ⟨(kT.cell (p := ⟨z1, 0, none⟩) bz1).trans d0, (kT.cell (p := ⟨z1, 1, none⟩) bz1).trans d1, (kT.cell (p := ⟨z2, 0, none⟩) bz2).trans d2, (kT.cell (p := ⟨z2, 1, none⟩) bz2).trans d3, (kT.cell (p := ⟨z2, 2, none⟩) bz2).trans d4, (kT.cell (p := ⟨z2, 3, none⟩) bz2).trans d5, kT⟩
              clear hK K hHeld
              have hHeld := hHeld2
              clear hHeld2
              try simp only [Act.put, List.setIfInBounds_toArray, List.set_cons_zero, List.set_cons_succ]
              refine wpAnyH_ready (rs := [7, 9]) (by kernel_rfl) (by simp) ?_
              refine AllReadyH.cons (by simp only [List.getElem?_toArray, List.getElem?_cons_succ, List.getElem?_cons_zero]; rfl) (fun K hK => ?_) (AllReadyH.cons (by simp only [List.getElem?_toArray, List.getElem?_cons_succ, List.getElem?_cons_zero]; rfl) (fun K hK => ?_) (AllReadyH.nil))
              · refine step_vgrow V2 (by rfl) (.tmp 62) (.tmp 64) (by rfl) V0 v _ (by rfl) hT _ (some ⟨zy, 0, none⟩) 1 1 [y] (by rfl) rfl (votes_one_at hyb.has) (by omega) ?_
                intro A2 c2 V3 hT2 gg
                rw [HMe2.out] at hT2 ⊢
                clear gg hT hyb
                have hT := hT2
                clear hT2
                have kT := hT.2
                refine hK.out _ _ ?_ (fun hHeld2 => ?_)
                · exact ⟨(kT.cell (p := ⟨z1, 0, none⟩) bz1).trans d0, (kT.cell (p := ⟨z1, 1, none⟩) bz1).trans d1, (kT.cell (p := ⟨z2, 0, none⟩) bz2).trans d2, (kT.cell (p := ⟨z2, 1, none⟩) bz2).trans d3, (kT.cell (p := ⟨z2, 2, none⟩) bz2).trans d4, (kT.cell (p := ⟨z2, 3, none⟩) bz2).trans d5, kT⟩
                clear hK K hHeld
                have hHeld := hHeld2
                clear hHeld2
                try simp only [Act.put, List.setIfInBounds_toArray, List.set_cons_zero, List.set_cons_succ]
                refine wpAnyH_take (i := 8) (v := ?_) (by simp only [List.getElem?_toArray, List.getElem?_cons_succ, List.getElem?_cons_zero]; rfl) (by kernel_rfl) (by kernel_rfl) (by kernel_rfl) (fun _ _ _ h => h) (Or.inl ⟨by rfl, ?_⟩) (by assumption) ?_
                rotate_left
                · intro w hSw
                  (try dsimp only at hSw)
                  go_simp
                  (try with_reducible rfl)
                simp only [Act.put, List.setIfInBounds_toArray, List.set_cons_zero, List.set_cons_succ]
                refine wpAnyH_ready (rs := [9]) (by kernel_rfl) (by simp) ?_
                refine AllReadyH.cons (by simp only [List.getElem?_toArray, List.getElem?_cons_succ, List.getElem?_cons_zero]; rfl) (fun K hK => ?_) (AllReadyH.nil)
                have h15 := AtB.new V3 #[.slice none 0 0, .slice none 0 0] 29
                have kk := (Kept.refl V3).alloc (.cells #[.slice none 0 0, .slice none 0 0] 29)
                replace hT := hT.kept kk
                have kT := (hHeld.2.2.2.2.2.2).trans kk
                go_simp
                obtain ⟨z15, hz⟩ : ∃ z15, z15 = V3.heap.size := ⟨_, rfl⟩
                have hz15 : V0.heap.size ≤ z15 := by rw [hz]; exact (hHeld.2.2.2.2.2.2).size_le
                rw [← hz] at h15 ⊢
                generalize V3.alloc (.cells #[.slice none 0 0, .slice none 0 0] 29) = V4 at *
                clear hz
                refine hK.out _ _ ?_ (fun hHeld2 => ?_)
                · exact ⟨(kT.cell (p := ⟨z1, 0, none⟩) bz1).trans d0, (kT.cell (p := ⟨z1, 1, none⟩) bz1).trans d1, (kT.cell (p := ⟨z2, 0, none⟩) bz2).trans d2, (kT.cell (p := ⟨z2, 1, none⟩) bz2).trans d3, (kT.cell (p := ⟨z2, 2, none⟩) bz2).trans d4, (kT.cell (p := ⟨z2, 3, none⟩) bz2).trans d5, kT⟩
                clear hK K hHeld
                have hHeld := hHeld2
                clear hHeld2
                try simp only [Act.put, List.setIfInBounds_toArray, List.set_cons_zero, List.set_cons_succ]
                refine wpAnyH_ready (rs := [10]) (by kernel_rfl) (by simp) ?_
                refine AllReadyH.cons (by simp only [List.getElem?_toArray, List.getElem?_cons_succ, List.getElem?_cons_zero]; rfl) (fun K hK => ?_) (AllReadyH.nil)
                have c0 : V4.cell? ⟨z15, 0, none⟩ = some (.slice none 0 0) := h15.cell
                have c1' : V4.cell? ⟨z15, 1, none⟩ = some (.slice none 0 0) := h15.cell
                have f0 := h15.fr 0
                have f1 := h15.fr 1
                have lt15 := h15.lt
                replace hT := vts_past_box (vts_past_box hT h15 (by decide) hz15 0 (.slice lA l.length lc)) (h15.set 0 (.slice lA l.length lc)) (by decide) hz15 1 (.slice A2 M.length c2)
                replace h15 := h15.set2 (.slice lA l.length lc) (.slice A2 M.length c2)
                have kT := hT.2
                go_simp
                generalize (V4.setCell ⟨z15, 0, none⟩ (.slice lA l.length lc)).setCell ⟨z15, 1, none⟩ (.slice A2 M.length c2) = V5 at *
                clear c0 c1' f0 f1 lt15
                refine hK.out _ _ ?_ (fun hHeld2 => ?_)
                · exact ⟨(kT.cell (p := ⟨z1, 0, none⟩) bz1).trans d0, (kT.cell (p := ⟨z1, 1, none⟩) bz1).trans d1, (kT.cell (p := ⟨z2, 0, none⟩) bz2).trans d2, (kT.cell (p := ⟨z2, 1, none⟩) bz2).trans d3, (kT.cell (p := ⟨z2, 2, none⟩) bz2).trans d4, (kT.cell (p := ⟨z2, 3, none⟩) bz2).trans d5, kT⟩
                clear hK K hHeld
                have hHeld := hHeld2
                clear hHeld2
                try simp only [Act.put, List.setIfInBounds_toArray, List.set_cons_zero, List.set_cons_succ]
                refine wpAnyH_done (by kernel_rfl) ?_ _
                refine NoPanic.normal ?_
                exact hQ1.out z15 A1 c1 A2 c2 zy _ ⟨h15, CellsAt.of_own hT.1, HKd.out.trans hT.2⟩
              · have h15 := AtB.new V2 #[.slice none 0 0, .slice none 0 0] 29
                have kk := (Kept.refl V2).alloc (.cells #[.slice none 0 0, .slice none 0 0] 29)
                replace hT := hT.kept kk
                replace hyb := hyb.kept kk
                have kT := (hHeld.2.2.2.2.2.2).trans kk
                go_simp
                obtain ⟨z15, hz⟩ : ∃ z15, z15 = V2.heap.size := ⟨_, rfl⟩
                have hz15 : V0.heap.size ≤ z15 := by rw [hz]; exact (hHeld.2.2.2.2.2.2).size_le
                rw [← hz] at h15 ⊢
                generalize V2.alloc (.cells #[.slice none 0 0, .slice none 0 0] 29) = V3 at *
                clear hz
                refine hK.out _ _ ?_ (fun hHeld2 => ?_)
                · exact ⟨(kT.cell (p := ⟨z1, 0, none⟩) bz1).trans d0, (kT.cell (p := ⟨z1, 1, none⟩) bz1).trans d1, (kT.cell (p := ⟨z2, 0, none⟩) bz2).trans d2, (kT.cell (p := ⟨z2, 1, none⟩) bz2).trans d3, (kT.cell (p := ⟨z2, 2, none⟩) bz2).trans d4, (kT.cell (p := ⟨z2, 3, none⟩) bz2).trans d5, kT⟩
                clear hK K hHeld
                have hHeld := hHeld2
                clear hHeld2
                try simp only [Act.put, List.setIfInBounds_toArray, List.set_cons_zero, List.set_cons_succ]
                refine wpAnyH_ready (rs := [7]) (by kernel_rfl) (by simp) ?_
                refine AllReadyH.cons (by simp only [List.getElem?_toArray, List.getElem?_cons_succ, List.getElem?_cons_zero]; rfl) (fun K hK => ?_) (AllReadyH.nil)
                refine step_vgrow V3 (by rfl) (.tmp 62) (.tmp 64) (by rfl) V0 v _ (by rfl) hT _ (some ⟨zy, 0, none⟩) 1 1 [y] (by rfl) rfl (votes_one_at hyb.has) (by omega) ?_
                intro A2 c2 V4 hT2 gg
                rw [HMe2.out] at hT2 ⊢
                replace h15 := h15.grown gg (own_apart hT.1 h15 (by decide))
                clear gg hT hyb
                have hT := hT2
                clear hT2
                have kT := hT.2
                refine hK.out _ _ ?_ (fun hHeld2 => ?_)
                · exact ⟨(kT.cell (p := ⟨z1, 0, none⟩) bz1).trans d0, (kT.cell (p := ⟨z1, 1, none⟩) bz1).trans d1, (kT.cell (p := ⟨z2, 0, none⟩) bz2).trans d2, (kT.cell (p := ⟨z2, 1, none⟩) bz2).trans d3, (kT.cell (p := ⟨z2, 2, none⟩) bz2).trans d4, (kT.cell (p := ⟨z2, 3, none⟩) bz2).trans d5, kT⟩
                clear hK K hHeld
                have hHeld := hHeld2
                clear hHeld2
                try simp only [Act.put, List.setIfInBounds_toArray, List.set_cons_zero, List.set_cons_succ]
                refine wpAnyH_take (i := 8) (v := ?_) (by simp only [List.getElem?_toArray, List.getElem?_cons_succ, List.getElem?_cons_zero]; rfl) (by kernel_rfl) (by kernel_rfl) (by kernel_rfl) (fun _ _ _ h => h) (Or.inl ⟨by rfl, ?_⟩) (by assumption) ?_
                rotate_left
                · intro w hSw
                  (try dsimp only at hSw)
                  go_simp
                  (try with_reducible rfl)
                simp only [Act.put, List.setIfInBounds_toArray, List.set_cons_zero, List.set_cons_succ]
                refine wpAnyH_ready (rs := [10]) (by kernel_rfl) (by simp) ?_
                refine AllReadyH.cons (by simp only [List.getElem?_toArray, List.getElem?_cons_succ, List.getElem?_cons_zero]; rfl) (fun K hK => ?_) (AllReadyH.nil)
                have c0 : V4.cell? ⟨z15, 0, none⟩ = some (.slice none 0 0) := h15.cell
                have c1' : V4.cell? ⟨z15, 1, none⟩ = some (.slice none 0 0) := h15.cell
                have f0 := h15.fr 0
                have f1 := h15.fr 1
                have lt15 := h15.lt
                replace hT := vts_past_box (vts_past_box hT h15 (by decide) hz15 0 (.slice lA l.length lc)) (h15.set 0 (.slice lA l.length lc)) (by decide) hz15 1 (.slice A2 M.length c2)
                replace h15 := h15.set2 (.slice lA l.length lc) (.slice A2 M.length c2)
                have kT := hT.2
                go_simp
                generalize (V4.setCell ⟨z15, 0, none⟩ (.slice lA l.length lc)).setCell ⟨z15, 1, none⟩ (.slice A2 M.length c2) = V5 at *
                clear c0 c1' f0 f1 lt15
                refine hK.out _ _ ?_ (fun hHeld2 => ?_)
                · exact ⟨(kT.cell (p := ⟨z1, 0, none⟩) bz1).trans d0, (kT.cell (p := ⟨z1, 1, none⟩) bz1).trans d1, (kT.cell (p := ⟨z2, 0, none⟩) bz2).trans d2, (kT.cell (p := ⟨z2, 1, none⟩) bz2).trans d3, (kT.cell (p := ⟨z2, 2, none⟩) bz2).trans d4, (kT.cell (p := ⟨z2, 3, none⟩) bz2).trans d5, kT⟩
                clear hK K hHeld
                have hHeld := hHeld2
                clear hHeld2
                try simp only [Act.put, List.setIfInBounds_toArray, List.set_cons_zero, List.set_cons_succ]
                refine wpAnyH_done (by kernel_rfl) ?_ _
                refine NoPanic.normal ?_
                exact hQ1.out z15 A1 c1 A2 c2 zy _ ⟨h15, CellsAt.of_own hT.1, HKd.out.trans hT.2⟩
            · have h15 := AtB.new V1 #[.slice none 0 0, .slice none 0 0] 29
              have kk := (Kept.refl V1).alloc (.cells #[.slice none 0 0, .slice none 0 0] 29)
              replace hyb := hyb.kept kk
              have kT := (hHeld.2.2.2.2.2.2).trans kk
              go_simp
              obtain ⟨z15, hz⟩ : ∃ z15, z15 = V1.heap.size := ⟨_, rfl⟩
              have hz15 : V0.heap.size ≤ z15 := by rw [hz]; exact (hHeld.2.2.2.2.2.2).size_le
              rw [← hz] at h15 ⊢
              generalize V1.alloc (.cells #[.slice none 0 0, .slice none 0 0] 29) = V2 at *
              clear hz
              refine hK.out _ _ ?_ (fun hHeld2 => ?_)
              · exact ⟨(kT.cell (p := ⟨z1, 0, none⟩) bz1).trans d0, (kT.cell (p := ⟨z1, 1, none⟩) bz1).trans d1, (kT.cell (p := ⟨z2, 0, none⟩) bz2).trans d2, (kT.cell (p := ⟨z2, 1, none⟩) bz2).trans d3, (kT.cell (p := ⟨z2, 2, none⟩) bz2).trans d4, (kT.cell (p := ⟨z2, 3, none⟩) bz2).trans d5, kT⟩
              clear hK K hHeld
              have hHeld := hHeld2
              clear hHeld2
              try simp only [Act.put, List.setIfInBounds_toArray, List.set_cons_zero, List.set_cons_succ]
              refine wpAnyH_ready (rs := [4]) (by kernel_rfl) (by simp) ?_
              refine AllReadyH.cons (by simp only [List.getElem?_toArray, List.getElem?_cons_succ, List.getElem?_cons_zero]; rfl) (fun K hK => ?_) (AllReadyH.nil)
              refine step_vnew V2 (by rfl) (.tmp 61) (by rfl) V0 hHeld.2.2.2.2.2.2 _ vA v.length vc v (by rfl) rfl (HV0.out.kept hHeld.2.2.2.2.2.2) (by omega) ?_
              intro A1 c1 V3 hT kk
              replace h15 := h15.kept kk
              replace hyb := hyb.kept kk
              have kT := hT.2
              refine hK.out _ _ ?_ (fun hHeld2 => ?_)
              · exact ⟨(kT.cell (p := ⟨z1, 0, none⟩) bz1).trans d0, (kT.cell (p := ⟨z1, 1, none⟩) bz1).trans d1, (kT.cell (p := ⟨z2, 0, none⟩) bz2).trans d2, (kT.cell (p := ⟨z2, 1, none⟩) bz2).trans d3, (kT.cell (p := ⟨z2, 2, none⟩) bz2).trans d4, (kT.cell (p := ⟨z2, 3, none⟩) bz2).trans d5, kT⟩
              clear hK K hHeld
              have hHeld := hHeld2
              clear hHeld2
              try simp only [Act.put, List.setIfInBounds_toArray, List.set_cons_zero, List.set_cons_succ]
              refine wpAnyH_ready (rs := [7]) (by kernel_rfl) (by simp) ?_
              refine AllReadyH.cons (by simp only [List.getElem?_toArray, List.getElem?_cons_succ, List.getElem?_cons_zero]; rfl) (fun K hK => ?_) (AllReadyH.nil)
              refine step_vgrow V3 (by rfl) (.tmp 62) (.tmp 64) (by rfl) V0 v _ (by rfl) hT _ (some ⟨zy, 0, none⟩) 1 1 [y] (by rfl) rfl (votes_one_at hyb.has) (by omega) ?_
              intro A2 c2 V4 hT2 gg
              rw [HMe2.out] at hT2 ⊢
              replace h15 := h15.grown gg (own_apart hT.1 h15 (by decide))
              clear gg hT hyb
              have hT := hT2
              clear hT2
              have kT := hT.2
              refine hK.out _ _ ?_ (fun hHeld2 => ?_)
              · exact ⟨(kT.cell (p := ⟨z1, 0, none⟩) bz1).trans d0, (kT.cell (p := ⟨z1, 1, none⟩) bz1).trans d1, (kT.cell (p := ⟨z2, 0, none⟩) bz2).trans d2, (kT.cell (p := ⟨z2, 1, none⟩) bz2).trans d3, (kT.cell (p := ⟨z2, 2, none⟩) bz2).trans d4, (kT.cell (p := ⟨z2, 3, none⟩) bz2).trans d5, kT⟩
              clear hK K hHeld
              have hHeld := hHeld2
              clear hHeld2
              try simp only [Act.put, List.setIfInBounds_toArray, List.set_cons_zero, List.set_cons_succ]
              refine wpAnyH_take (i := 8) (v := ?_) (by simp only [List.getElem?_toArray, List.getElem?_cons_succ, List.getElem?_cons_zero]; rfl) (by kernel_rfl) (by kernel_rfl) (by kernel_rfl) (fun _ _ _ h => h) (Or.inl ⟨by rfl, ?_⟩) (by assumption) ?_
              rotate_left
              · intro w hSw
                (try dsimp only at hSw)
                go_simp
                (try with_reducible rfl)
              simp only [Act.put, List.setIfInBounds_toArray, List.set_cons_zero, List.set_cons_succ]
              refine wpAnyH_ready (rs := [10]) (by kernel_rfl) (by simp) ?_
              refine AllReadyH.cons (by simp only [List.getElem?_toArray, List.getElem?_cons_succ, List.getElem?_cons_zero]; rfl) (fun K hK => ?_) (AllReadyH.nil)
              have c0 : V4.cell? ⟨z15, 0, none⟩ = some (.slice none 0 0) := h15.cell
              have c1' : V4.cell? ⟨z15, 1, none⟩ = some (.slice none 0 0) := h15.cell
              have f0 := h15.fr 0
              have f1 := h15.fr 1
              have lt15 := h15.lt
              replace hT := vts_past_box (vts_past_box hT h15 (by decide) hz15 0 (.slice lA l.length lc)) (h15.set 0 (.slice lA l.length lc)) (by decide) hz15 1 (.slice A2 M.length c2)
              replace h15 := h15.set2 (.slice lA l.length lc) (.slice A2 M.length c2)
              have kT := hT.2
              go_simp
              generalize (V4.setCell ⟨z15, 0, none⟩ (.slice lA l.length lc)).setCell ⟨z15, 1, none⟩ (.slice A2 M.length c2) = V5 at *
              clear c0 c1' f0 f1 lt15
              refine hK.out _ _ ?_ (fun hHeld2 => ?_)
              · exact ⟨(kT.cell (p := ⟨z1, 0, none⟩) bz1).trans d0, (kT.cell (p := ⟨z1, 1, none⟩) bz1).trans d1, (kT.cell (p := ⟨z2, 0, none⟩) bz2).trans d2, (kT.cell (p := ⟨z2, 1, none⟩) bz2).trans d3, (kT.cell (p := ⟨z2, 2, none⟩) bz2).trans d4, (kT.cell (p := ⟨z2, 3, none⟩) bz2).trans d5, kT⟩
              clear hK K hHeld
              have hHeld := hHeld2
              clear hHeld2
              try simp only [Act.put, List.setIfInBounds_toArray, List.set_cons_zero, List.set_cons_succ]
              refine wpAnyH_done (by kernel_rfl) ?_ _
              refine NoPanic.normal ?_
              exact hQ1.out z15 A1 c1 A2 c2 zy _ ⟨h15, CellsAt.of_own hT.1, HKd.out.trans hT.2⟩
          · have h15 := AtB.new V0 #[.slice none 0 0, .slice none 0 0] 29
            have kk := (Kept.refl V0).alloc (.cells #[.slice none 0 0, .slice none 0 0] 29)
            have kT := (hHeld.2.2.2.2.2.2).trans kk
            go_simp
            obtain ⟨z15, hz⟩ : ∃ z15, z15 = V0.heap.size := ⟨_, rfl⟩
            have hz15 : V0.heap.size ≤ z15 := by rw [hz]; exact (hHeld.2.2.2.2.2.2).size_le
            rw [← hz] at h15 ⊢
            generalize V0.alloc (.cells #[.slice none 0 0, .slice none 0 0] 29) = V1 at *
            clear hz
            refine hK.out _ _ ?_ (fun hHeld2 => ?_)
            · exact ⟨(kT.cell (p := ⟨z1, 0, none⟩) bz1).trans d0, (kT.cell (p := ⟨z1, 1, none⟩) bz1).trans d1, (kT.cell (p := ⟨z2, 0, none⟩) bz2).trans d2, (kT.cell (p := ⟨z2, 1, none⟩) bz2).trans d3, (kT.cell (p := ⟨z2, 2, none⟩) bz2).trans d4, (kT.cell (p := ⟨z2, 3, none⟩) bz2).trans d5, kT⟩
            clear hK K hHeld
            have hHeld := hHeld2
            clear hHeld2
            try simp only [Act.put, List.setIfInBounds_toArray, List.set_cons_zero, List.set_cons_succ]
            refine wpAnyH_ready (rs := [4, 6]) (by kernel_rfl) (by simp) ?_
            refine AllReadyH.cons (by simp only [List.getElem?_toArray, List.getElem?_cons_succ, List.getElem?_cons_zero]; rfl) (fun K hK => ?_) (AllReadyH.cons (by simp only [List.getElem?_toArray, List.getElem?_cons_succ, List.getElem?_cons_zero]; rfl) (fun K hK => ?_) (AllReadyH.nil))
            · refine step_vnew V1 (by rfl) (.tmp 61) (by rfl) V0 hHeld.2.2.2.2.2.2 _ vA v.length vc v (by rfl) rfl (HV0.out.kept hHeld.2.2.2.2.2.2) (by omega) ?_
              intro A1 c1 V2 hT kk
              replace h15 := h15.kept kk
              have kT := hT.2
              refine hK.out _ _ ?_ (fun hHeld2 => ?_)
              · exact ⟨(kT.cell (p := ⟨z1, 0, none⟩) bz1).trans d0, (kT.cell (p := ⟨z1, 1, none⟩) bz1).trans d1, (kT.cell (p := ⟨z2, 0, none⟩) bz2).trans d2, (kT.cell (p := ⟨z2, 1, none⟩) bz2).trans d3, (kT.cell (p := ⟨z2, 2, none⟩) bz2).trans d4, (kT.cell (p := ⟨z2, 3, none⟩) bz2).trans d5, kT⟩
              clear hK K hHeld
              have hHeld := hHeld2
              clear hHeld2
              try simp only [Act.put, List.setIfInBounds_toArray, List.set_cons_zero, List.set_cons_succ]
              refine wpAnyH_ready (rs := [6]) (by kernel_rfl) (by simp) ?_
              refine AllReadyH.cons (by simp only [List.getElem?_toArray, List.getElem?_cons_succ, List.getElem?_cons_zero]; rfl) (fun K hK => ?_) (AllReadyH.nil)
              have hyb := AtB.new V2 #[.int .i64 y.f, .int .i64 y.s, .int .u64 y.p.1, .int .u64 y.p.2] 39
              have kk := (Kept.refl V2).alloc (.cells #[.int .i64 y.f, .int .i64 y.s, .int .u64 y.p.1, .int .u64 y.p.2] 39)
              replace h15 := h15.kept kk
              replace hT := hT.kept kk
              have kT := (hHeld.2.2.2.2.2.2).trans kk
              go_simp
              obtain ⟨zy, hz⟩ : ∃ zy, zy = V2.heap.size := ⟨_, rfl⟩
              rw [← hz] at hyb ⊢
              generalize V2.alloc (.cells #[.int .i64 y.f, .int .i64 y.s, .int .u64 y.p.1, .int .u64 y.p.2] 39) = V3 at *
              clear hz
              refine hK.out _ _ ?_ (fun hHeld2 => ?_)
              · exact ⟨(kT.cell (p := ⟨z1, 0, none⟩) bz1).trans d0, (kT.cell (p := ⟨z1, 1, none⟩) bz1).trans d1, (kT.cell (p := ⟨z2, 0, none⟩) bz2).trans d2, (kT.cell (p := ⟨z2, 1, none⟩) bz2).trans d3, (kT.cell (p := ⟨z2, 2, none⟩) bz2).trans d4, (kT.cell (p := ⟨z2, 3, none⟩) bz2).trans d5, kT⟩
              clear hK K hHeld
              have hHeld := hHeld2
              clear hHeld2
              try simp only [Act.put, List.setIfInBounds_toArray, List.set_cons_zero, List.set_cons_succ]
              refine wpAnyH_ready (rs := [7]) (by kernel_rfl) (by simp) ?_
              refine AllReadyH.cons (by simp only [List.getElem?_toArray, List.getElem?_cons_succ, List.getElem?_cons_zero]; rfl) (fun K hK => ?_) (AllReadyH.nil)
              refine step_vgrow V3 (by rfl) (.tmp 62) (.tmp 64) (by rfl) V0 v _ (by rfl) hT _ (some ⟨zy, 0, none⟩) 1 1 [y] (by rfl) rfl (votes_one_at hyb.has) (by omega) ?_
              intro A2 c2 V4 hT2 gg
              rw [HMe2.out] at hT2 ⊢
              replace h15 := h15.grown gg (own_apart hT.1 h15 (by decide))
              clear gg hT hyb
              have hT := hT2
              clear hT2
              have kT := hT.2
              refine hK.out _ _ ?_ (fun hHeld2 => ?_)
              · exact ⟨(kT.cell (p := ⟨z1, 0, none⟩) bz1).trans d0, (kT.cell (p := ⟨z1, 1, none⟩) bz1).trans d1, (kT.cell (p := ⟨z2, 0, none⟩) bz2).trans d2, (kT.cell (p := ⟨z2, 1, none⟩) bz2).trans d3, (kT.cell (p := ⟨z2, 2, none⟩) bz2).trans d4, (kT.cell (p := ⟨z2, 3, none⟩) bz2).trans d5, kT⟩
              clear hK K hHeld
              have hHeld := hHeld2
              clear hHeld2
              try simp only [Act.put, List.setIfInBounds_toArray, List.set_cons_zero, List.set_cons_succ]
              refine wpAnyH_take (i := 8) (v := ?_) (by simp only [List.getElem?_toArray, List.getElem?_cons_succ, List.getElem?_cons_zero]; rfl) (by kernel_rfl) (by kernel_rfl) (by kernel_rfl) (fun _ _ _ h => h) (Or.inl ⟨by rfl, ?_⟩) (by assumption) ?_
              rotate_left
              · intro w hSw
                (try dsimp only at hSw)
                go_simp
                (try with_reducible rfl)
              simp only [Act.put, List.setIfInBounds_toArray, List.set_cons_zero, List.set_cons_succ]
              refine wpAnyH_ready (rs := [10]) (by kernel_rfl) (by simp) ?_
              refine AllReadyH.cons (by simp only [List.getElem?_toArray, List.getElem?_cons_succ, List.getElem?_cons_zero]; rfl) (fun K hK => ?_) (AllReadyH.nil)
              have c0 : V4.cell? ⟨z15, 0, none⟩ = some (.slice none 0 0) := h15.cell
              have c1' : V4.cell? ⟨z15, 1, none⟩ = some (.slice none 0 0) := h15.cell
              have f0 := h15.fr 0
              have f1 := h15.fr 1
              have lt15 := h15.lt
              replace hT := vts_past_box (vts_past_box hT h15 (by decide) hz15 0 (.slice lA l.length lc)) (h15.set 0 (.slice lA l.length lc)) (by decide) hz15 1 (.slice A2 M.length c2)
              replace h15 := h15.set2 (.slice lA l.length lc) (.slice A2 M.length c2)
              have kT := hT.2
              go_simp
              generalize (V4.setCell ⟨z15, 0, none⟩ (.slice lA l.length lc)).setCell ⟨z15, 1, none⟩ (.slice A2 M.length c2) = V5 at *
              clear c0 c1' f0 f1 lt15
              refine hK.out _ _ ?_ (fun hHeld2 => ?_)
              · exact ⟨(kT.cell (p := ⟨z1, 0, none⟩) bz1).trans d0, (kT.cell (p := ⟨z1, 1, none⟩) bz1).trans d1, (kT.cell (p := ⟨z2, 0, none⟩) bz2).trans d2, (kT.cell (p := ⟨z2, 1, none⟩) bz2).trans d3, (kT.cell (p := ⟨z2, 2, none⟩) bz2).trans d4, (kT.cell (p := ⟨z2, 3, none⟩) bz2).trans d5, kT⟩
              clear hK K hHeld
              have hHeld := hHeld2
              clear hHeld2
              try simp only [Act.put, List.setIfInBounds_toArray, List.set_cons_zero, List.set_cons_succ]
              refine wpAnyH_done (by kernel_rfl) ?_ _
              refine NoPanic.normal ?_
              exact hQ1.out z15 A1 c1 A2 c2 zy _ ⟨h15, CellsAt.of_own hT.1, HKd.out.trans hT.2⟩
            · have hyb := AtB.new V1 #[.int .i64 y.f, .int .i64 y.s, .int .u64 y.p.1, .int .u64 y.p.2] 39
              have kk := (Kept.refl V1).alloc (.cells #[.int .i64 y.f, .int .i64 y.s, .int .u64 y.p.1, .int .u64 y.p.2] 39)
              replace h15 := h15.kept kk
              have kT := (hHeld.2.2.2.2.2.2).trans kk
              go_simp
              obtain ⟨zy, hz⟩ : ∃ zy, zy = V1.heap.size := ⟨_, rfl⟩
              rw [← hz] at hyb ⊢
              generalize V1.alloc (.cells #[.int .i64 y.f, .int .i64 y.s, .int .u64 y.p.1, .int .u64 y.p.2] 39) = V2 at *
              clear hz
              refine hK.out _ _ ?_ (fun hHeld2 => ?_)
              · exact ⟨(kT.cell (p := ⟨z1, 0, none⟩) bz1).trans d0, (kT.cell (p := ⟨z1, 1, none⟩) bz1).trans d1, (kT.cell (p := ⟨z2, 0, none⟩) bz2).trans d2, (kT.cell (p := ⟨z2, 1, none⟩) bz2).trans d3, (kT.cell (p := ⟨z2, 2, none⟩) bz2).trans d4, (kT.cell (p := ⟨z2, 3, none⟩) bz2).trans d5, kT⟩
              clear hK K hHeld
              have hHeld := hHeld2
              clear hHeld2
              try simp only [Act.put, List.setIfInBounds_toArray, List.set_cons_zero, List.set_cons_succ]
              refine wpAnyH_ready (rs := [4]) (by kernel_rfl) (by simp) ?_
              refine AllReadyH.cons (by simp only [List.getElem?_toArray, List.getElem?_cons_succ, List.getElem?_cons_zero]; rfl) (fun K hK => ?_) (AllReadyH.nil)
              refine step_vnew V2 (by rfl) (.tmp 61) (by rfl) V0 hHeld.2.2.2.2.2.2 _ vA v.length vc v (by rfl) rfl (HV0.out.kept hHeld.2.2.2.2.2.2) (by omega) ?_
              intro A1 c1 V3 hT kk
              replace h15 := h15.kept kk
              replace hyb := hyb.kept kk
              have kT := hT.2
              refine hK.out _ _ ?_ (fun hHeld2 => ?_)
              · exact ⟨(kT.cell (p := ⟨z1, 0, none⟩) bz1).trans d0, (kT.cell (p := ⟨z1, 1, none⟩) bz1).trans d1, (kT.cell (p := ⟨z2, 0, none⟩) bz2).trans d2, (kT.cell (p := ⟨z2, 1, none⟩) bz2).trans d3, (kT.cell (p := ⟨z2, 2, none⟩) bz2).trans d4, (kT.cell (p := ⟨z2, 3, none⟩) bz2).trans d5, kT⟩
              clear hK K hHeld
              have hHeld := hHeld2
              clear hHeld2
              try simp only [Act.put, List.setIfInBounds_toArray, List.set_cons_zero, List.set_cons_succ]
              refine wpAnyH_ready (rs := [7]) (by kernel_rfl) (by simp) ?_
              refine AllReadyH.cons (by simp only [List.getElem?_toArray, List.getElem?_cons_succ, List.getElem?_cons_zero]; rfl) (fun K hK => ?_) (AllReadyH.nil)
              refine step_vgrow V3 (by rfl) (.tmp 62) (.tmp 64) (by rfl) V0 v _ (by rfl) hT _ (some ⟨zy, 0, none⟩) 1 1 [y] (by rfl) rfl (votes_one_at hyb.has) (by omega) ?_
              intro A2 c2 V4 hT2 gg
              rw [HMe2.out] at hT2 ⊢
              replace h15 := h15.grown gg (own_apart hT.1 h15 (by decide))
              clear gg hT hyb
              have hT := hT2
              clear hT2
              have kT := hT.2
              refine hK.out _ _ ?_ (fun hHeld2 => ?_)
              · exact ⟨(kT.cell (p := ⟨z1, 0, none⟩) bz1).trans d0, (kT.cell (p := ⟨z1, 1, none⟩) bz1).trans d1, (kT.cell (p := ⟨z2, 0, none⟩) bz2).trans d2, (kT.cell (p := ⟨z2, 1, none⟩) bz2).trans d3, (kT.cell (p := ⟨z2, 2, none⟩) bz2).trans d4, (kT.cell (p := ⟨z2, 3, none⟩) bz2).trans d5, kT⟩
              clear hK K hHeld
              have hHeld := hHeld2
              clear hHeld2
              try simp only [Act.put, List.setIfInBounds_toArray, List.set_cons_zero, List.set_cons_succ]
              refine wpAnyH_take (i := 8) (v := ?_) (by simp only [List.getElem?_toArray, List.getElem?_cons_succ, List.getElem?_cons_zero]; rfl) (by kernel_rfl) (by kernel_rfl) (by kernel_rfl) (fun _ _ _ h => h) (Or.inl ⟨by rfl, ?_⟩) (by assumption) ?_
              rotate_left
              · intro w hSw
                (try dsimp only at hSw)
                go_simp
                (try with_reducible rfl)
              simp only [Act.put, List.setIfInBounds_toArray, List.set_cons_zero, List.set_cons_succ]
              refine wpAnyH_ready (rs := [10]) (by kernel_rfl) (by simp) ?_
              refine AllReadyH.cons (by simp only [List.getElem?_toArray, List.getElem?_cons_succ, List.getElem?_cons_zero]; rfl) (fun K hK => ?_) (AllReadyH.nil)
              have c0 : V4.cell? ⟨z15, 0, none⟩ = some (.slice none 0 0) := h15.cell
              have c1' : V4.cell? ⟨z15, 1, none⟩ = some (.slice none 0 0) := h15.cell
              have f0 := h15.fr 0
              have f1 := h15.fr 1
              have lt15 := h15.lt
              replace hT := vts_past_box (vts_past_box hT h15 (by decide) hz15 0 (.slice lA l.length lc)) (h15.set 0 (.slice lA l.length lc)) (by decide) hz15 1 (.slice A2 M.length c2)
              replace h15 := h15.set2 (.slice lA l.length lc) (.slice A2 M.length c2)
              have kT := hT.2
              go_simp
              generalize (V4.setCell ⟨z15, 0, none⟩ (.slice lA l.length lc)).setCell ⟨z15, 1, none⟩ (.slice A2 M.length c2) = V5 at *
              clear c0 c1' f0 f1 lt15
              refine hK.out _ _ ?_ (fun hHeld2 => ?_)
              · exact ⟨(kT.cell (p := ⟨z1, 0, none⟩) bz1).trans d0, (kT.cell (p := ⟨z1, 1, none⟩) bz1).trans d1, (kT.cell (p := ⟨z2, 0, none⟩) bz2).trans d2, (kT.cell (p := ⟨z2, 1, none⟩) bz2).trans d3, (kT.cell (p := ⟨z2, 2, none⟩) bz2).trans d4, (kT.cell (p := ⟨z2, 3, none⟩) bz2).trans d5, kT⟩
              clear hK K hHeld
              have hHeld := hHeld2
              clear hHeld2
              try simp only [Act.put, List.setIfInBounds_toArray, List.set_cons_zero, List.set_cons_succ]
              refine wpAnyH_done (by kernel_rfl) ?_ _
              refine NoPanic.normal ?_
              exact hQ1.out z15 A1 c1 A2 c2 zy _ ⟨h15, CellsAt.of_own hT.1, HKd.out.trans hT.2⟩
        intro z15 A3 c3 A4 c4 zy wM hpost
        obtain ⟨h15, hMc, k⟩ := hpost
        have H15 := Lib.hid h15
        have HMc := Lib.hid hMc
        replace H13 := Lib.hid (H13.out.kept k)
        replace H14 := Lib.hid (H14.out.kept k)
        replace HTc := Lib.hid (HTc.out.kept k)
        clear h15 hMc
        have KB6 := Lib.hid (KB5.out.trans k)
        clear k
        generalize wM = W6 at *
        try dsimp only
        go_wp2_with fail
        replace HA := Lib.hid (HA.out.kept KB6.out)
        replace HL := Lib.hid (HL.out.kept KB6.out)
        replace HV := Lib.hid (HV.out.kept KB6.out)
        replace HB0 := Lib.hid (HB0.out.kept KB6.out)
        replace HB1 := Lib.hid (HB1.out.kept KB6.out)
        replace HB2 := Lib.hid (HB2.out.kept KB6.out)
        replace K0 := Lib.hid (K0.out.trans KB6.out)
        have KB7 := Lib.hid (Kept.refl W6)
        have htw : WfVs T := fun a ha => vhw a ((HTm.out a).1 ha)
        have htl : T.length ≤ 10000 := by have := HTl.out; omega
        have HTurn := Lib.hid (fun R2 (hR2 : Golds k slot T R2) => golds_same (k := k) (slot := slot) (fun a _ => HTm.out a) hR2 HR.out)
        have HMore := Lib.hid (fun h R2 (hR2 : Golds k slot M R2) => golds_other (k := k) (slot := slot) (x := y) h (by rw [← HMe.out]; exact hR2) HR.out)
        have hmw : WfVs M := fun a ha => by
          rw [HMe.out] at ha
          rcases List.mem_append.1 ha with q | q
          · exact vhw a q
          · rw [List.mem_singleton] at q; rw [q]; exact hy
        have hml : M.length ≤ 10000 := by rw [HMe.out]; simp; omega
        obtain ⟨b00, b01, b02, b03, b04⟩ := (HB0.out.kept KB7.out).five
        have bz0 := (HB0.out.kept KB7.out).1
        obtain ⟨b10, b11⟩ := (HB1.out.kept KB7.out).two
        have bz1 := (HB1.out.kept KB7.out).1
        obtain ⟨b20, b21, b22, b23⟩ := (HB2.out.kept KB7.out).four
        have bz2 := (HB2.out.kept KB7.out).1
        have p0 : W6.cell? ⟨z13, 0, none⟩ = some (.int .u64 hd.1) := H13.out.cell
        have p1 : W6.cell? ⟨z13, 1, none⟩ = some (.int .u64 hd.2) := H13.out.cell
        have q0 : W6.cell? ⟨z14, 0, none⟩ = some (.slice lA l.length lc) := H14.out.cell
        have q1 : W6.cell? ⟨z14, 1, none⟩ = some (.slice A2 T.length c2) := H14.out.cell
        have l13 := H13.out.lt
        have l14 := H14.out.lt
        refine wp_region_noPanic ?_
        refine wp_region_held_drew (S := (fun w' => w'.cell? ⟨z0, 0, none⟩ = some (.slice kA k.ws.length kc) ∧ w'.cell? ⟨z0, 1, none⟩ = some (.int .u64 k.seed) ∧ w'.cell? ⟨z0, 2, none⟩ = some (.int .i64 k.ep) ∧ w'.cell? ⟨z0, 3, none⟩ = some (.int .i64 k.nu) ∧ w'.cell? ⟨z0, 4, none⟩ = some (.int .i64 k.de) ∧ w'.cell? ⟨z14, 0, none⟩ = some (.slice lA l.length lc) ∧ w'.cell? ⟨z14, 1, none⟩ = some (.slice A2 T.length c2) ∧ w'.cell? ⟨z13, 0, none⟩ = some (.int .u64 hd.1) ∧ w'.cell? ⟨z13, 1, none⟩ = some (.int .u64 hd.2) ∧ Kept W6 w')) (by kernel_rfl) ?_ (fun hHeld => ?_)
        · exact ⟨b00, b01, b02, b03, b04, q0, q1, p0, p1, (Kept.refl _).drew⟩
        refine wpAnyH_take (i := 0) (v := ?_) (by simp only [List.getElem?_toArray, List.getElem?_cons_succ, List.getElem?_cons_zero]; rfl) (by kernel_rfl) (by kernel_rfl) (by kernel_rfl) (fun _ _ _ h => h) (Or.inl ⟨by rfl, ?_⟩) (by assumption) ?_
        rotate_left
        · intro w hSw
          (try dsimp only at hSw)
          go_simp
          (try with_reducible rfl)
        simp only [Act.put, List.setIfInBounds_toArray, List.set_cons_zero, List.set_cons_succ]
        refine wpAnyH_take (i := 1) (v := ?_) (by simp only [List.getElem?_toArray, List.getElem?_cons_succ, List.getElem?_cons_zero]; rfl) (by kernel_rfl) (by kernel_rfl) (by kernel_rfl) (fun _ _ _ h => h) (Or.inl ⟨by rfl, ?_⟩) (by assumption) ?_
        rotate_left
        · intro w hSw
          (try dsimp only at hSw)
          go_simp
          (try with_reducible rfl)
        simp only [Act.put, List.setIfInBounds_toArray, List.set_cons_zero, List.set_cons_succ]
        refine wpAnyH_take (i := 2) (v := ?_) (by simp only [List.getElem?_toArray, List.getElem?_cons_succ, List.getElem?_cons_zero]; rfl) (by kernel_rfl) (by kernel_rfl) (by kernel_rfl) (fun _ _ _ h => h) (Or.inl ⟨by rfl, ?_⟩) (by assumption) ?_
        rotate_left
        · intro w hSw
          (try dsimp only at hSw)
          go_simp
          (try with_reducible rfl)
        simp only [Act.put, List.setIfInBounds_toArray, List.set_cons_zero, List.set_cons_succ]
        refine wpAnyH_take (i := 4) (v := ?_) (by simp only [List.getElem?_toArray, List.getElem?_cons_succ, List.getElem?_cons_zero]; rfl) (by kernel_rfl) (by kernel_rfl) (by kernel_rfl) (fun _ _ _ h => h) (Or.inl ⟨by rfl, ?_⟩) (by assumption) ?_
        rotate_left
        · intro w hSw
          (try dsimp only at hSw)
          go_simp
          (try with_reducible rfl)
        simp only [Act.put, List.setIfInBounds_toArray, List.set_cons_zero, List.set_cons_succ]
        refine wpAnyH_ready (rs := [3]) (by kernel_rfl) (by simp) ?_
        refine AllReadyH.cons (by simp only [List.getElem?_toArray, List.getElem?_cons_succ, List.getElem?_cons_zero]; rfl) (fun K hK => ?_) AllReadyH.nil
        go_simp
        go_at_call 14; with_reducible refine (goldHead_any kA kc k lA lc l A2 c2 T slot _ (by omega) khs (by omega) htl lhw htw (HA.out.kept hHeld.2.2.2.2.2.2.2.2.2) (HL.out.kept hHeld.2.2.2.2.2.2.2.2.2) (HTc.out.kept hHeld.2.2.2.2.2.2.2.2.2)).mono ?_
        rintro e w' ⟨R2, hR2, rfl, kk⟩
        have eR := HTurn.out _ hR2
        subst eR
        clear hR2
        rw [← HEh.out]
        try go_wp2_with fail
        refine hK.out _ _ ?_ (fun hHeld2 => ?_)
        · exact keepP9 bz0 bz0 bz0 bz0 bz0 l14 l14 l13 l13 hHeld kk
        clear hK K hHeld
        have hHeld := hHeld2
        clear hHeld2
        try simp only [Act.put, List.setIfInBounds_toArray, List.set_cons_zero, List.set_cons_succ]
        refine wpAnyH_take (i := 5) (v := ?_) (by simp only [List.getElem?_toArray, List.getElem?_cons_succ, List.getElem?_cons_zero]; rfl) (by kernel_rfl) (by kernel_rfl) (by kernel_rfl) (fun _ _ _ h => h) (Or.inl ⟨by rfl, ?_⟩) (by assumption) ?_
        rotate_left
        · intro w hSw
          (try dsimp only at hSw)
          go_simp
          (try with_reducible rfl)
        simp only [Act.put, List.setIfInBounds_toArray, List.set_cons_zero, List.set_cons_succ]
        try simp only [hhh]
        refine wpAnyH_done (by kernel_rfl) ?_ _
        refine NoPanic.normal ?_
        have k := hHeld.2.2.2.2.2.2.2.2.2
        clear hHeld q0 q1 p0 p1 l13 l14 HTurn htw htl
        replace H13 := Lib.hid (H13.out.kept k)
        replace H15 := Lib.hid (H15.out.kept k)
        replace HMc := Lib.hid (HMc.out.kept k)
        clear b00 b01 b02 b03 b04 bz0 b10 b11 bz1 b20 b21 b22 b23 bz2
        have KB8 := Lib.hid (KB7.out.trans k)
        clear k
        generalize w' = W8 at *
        clear H14 HTc
        go_wp2_with fail
        have p0 : W8.cell? ⟨z13, 0, none⟩ = some (.int .u64 hd.1) := H13.out.cell
        have p1 : W8.cell? ⟨z13, 1, none⟩ = some (.int .u64 hd.2) := H13.out.cell
        have q0 : W8.cell? ⟨z15, 0, none⟩ = some (.slice lA l.length lc) := H15.out.cell
        have q1 : W8.cell? ⟨z15, 1, none⟩ = some (.slice A4 M.length c4) := H15.out.cell
        have l13 := H13.out.lt
        have l15 := H15.out.lt
        obtain ⟨b00, b01, b02, b03, b04⟩ := (HB0.out.kept KB8.out).five
        have bz0 := (HB0.out.kept KB8.out).1
        obtain ⟨b20, b21, b22, b23⟩ := (HB2.out.kept KB8.out).four
        have bz2 := (HB2.out.kept KB8.out).1
        by_cases hs : y.s = slot
        · have hbs : (y.s == slot) = true := by rw [beq_iff_eq]; exact hs
          cases hi : inC k slot y.f with
          | true =>
            have hin := hi
            refine wp_region_noPanic ?_
            refine wp_region_held_drew (S := (fun w' => w'.cell? ⟨z0, 0, none⟩ = some (.slice kA k.ws.length kc) ∧ w'.cell? ⟨z0, 1, none⟩ = some (.int .u64 k.seed) ∧ w'.cell? ⟨z0, 2, none⟩ = some (.int .i64 k.ep) ∧ w'.cell? ⟨z0, 3, none⟩ = some (.int .i64 k.nu) ∧ w'.cell? ⟨z0, 4, none⟩ = some (.int .i64 k.de) ∧ w'.cell? ⟨z2, 0, none⟩ = some (.int .i64 y.f) ∧ w'.cell? ⟨z2, 1, none⟩ = some (.int .i64 y.s) ∧ w'.cell? ⟨z2, 2, none⟩ = some (.int .u64 y.p.1) ∧ w'.cell? ⟨z2, 3, none⟩ = some (.int .u64 y.p.2) ∧ w'.cell? ⟨z15, 0, none⟩ = some (.slice lA l.length lc) ∧ w'.cell? ⟨z15, 1, none⟩ = some (.slice A4 M.length c4) ∧ w'.cell? ⟨z13, 0, none⟩ = some (.int .u64 hd.1) ∧ w'.cell? ⟨z13, 1, none⟩ = some (.int .u64 hd.2) ∧ Kept W8 w')) (by kernel_rfl) ?_ (fun hHeld => ?_)
            · exact ⟨b00, b01, b02, b03, b04, b20, b21, b22, b23, q0, q1, p0, p1, (Kept.refl _).drew⟩
            refine wpAnyH_take (i := 0) (v := ?_) (by simp only [List.getElem?_toArray, List.getElem?_cons_succ, List.getElem?_cons_zero]; rfl) (by kernel_rfl) (by kernel_rfl) (by kernel_rfl) (fun _ _ _ h => h) (Or.inl ⟨by rfl, ?_⟩) (by assumption) ?_
            rotate_left
            · intro w hSw
              (try dsimp only at hSw)
              go_simp
              (try with_reducible rfl)
            simp only [Act.put, List.setIfInBounds_toArray, List.set_cons_zero, List.set_cons_succ]
            refine wpAnyH_take (i := 1) (v := ?_) (by simp only [List.getElem?_toArray, List.getElem?_cons_succ, List.getElem?_cons_zero]; rfl) (by kernel_rfl) (by kernel_rfl) (by kernel_rfl) (fun _ _ _ h => h) (Or.inl ⟨by rfl, ?_⟩) (by assumption) ?_
            rotate_left
            · intro w hSw
              (try dsimp only at hSw)
              go_simp
              (try with_reducible rfl)
            simp only [Act.put, List.setIfInBounds_toArray, List.set_cons_zero, List.set_cons_succ]
            refine wpAnyH_take (i := 2) (v := ?_) (by simp only [List.getElem?_toArray, List.getElem?_cons_succ, List.getElem?_cons_zero]; rfl) (by kernel_rfl) (by kernel_rfl) (by kernel_rfl) (fun _ _ _ h => h) (Or.inl ⟨by rfl, ?_⟩) (by assumption) ?_
            rotate_left
            · intro w hSw
              (try dsimp only at hSw)
              go_simp
              (try with_reducible rfl)
            simp only [Act.put, List.setIfInBounds_toArray, List.set_cons_zero, List.set_cons_succ]
            refine wpAnyH_take (i := 3) (v := ?_) (by simp only [List.getElem?_toArray, List.getElem?_cons_succ, List.getElem?_cons_zero]; rfl) (by kernel_rfl) (by kernel_rfl) (by kernel_rfl) (fun _ _ _ h => h) (Or.inl ⟨by rfl, ?_⟩) (by assumption) ?_
            rotate_left
            · intro w hSw
              (try dsimp only at hSw)
              go_simp
              (try with_reducible rfl)
            simp only [Act.put, List.setIfInBounds_toArray, List.set_cons_zero, List.set_cons_succ]
            refine wpAnyH_take (i := 4) (v := ?_) (by simp only [List.getElem?_toArray, List.getElem?_cons_succ, List.getElem?_cons_zero]; rfl) (by kernel_rfl) (by kernel_rfl) (by kernel_rfl) (fun _ _ _ h => h) (Or.inl ⟨by rfl, ?_⟩) (by assumption) ?_
            rotate_left
            · intro w hSw
              (try dsimp only at hSw)
              go_simp
              (try with_reducible rfl)
            simp only [Act.put, List.setIfInBounds_toArray, List.set_cons_zero, List.set_cons_succ]
            refine wpAnyH_take (i := 5) (v := ?_) (by simp only [List.getElem?_toArray, List.getElem?_cons_succ, List.getElem?_cons_zero]; rfl) (by kernel_rfl) (by kernel_rfl) (by kernel_rfl) (fun _ _ _ h => h) (Or.inl ⟨by rfl, ?_⟩) (by assumption) ?_
            rotate_left
            · intro w hSw
              (try dsimp only at hSw)
              go_simp
              (try with_reducible rfl)
            simp only [Act.put, List.setIfInBounds_toArray, List.set_cons_zero, List.set_cons_succ]
            refine wpAnyH_take (i := 6) (v := ?_) (by simp only [List.getElem?_toArray, List.getElem?_cons_succ, List.getElem?_cons_zero]; rfl) (by kernel_rfl) (by kernel_rfl) (by kernel_rfl) (fun _ _ _ h => h) (Or.inl ⟨by rfl, ?_⟩) (by assumption) ?_
            rotate_left
            · intro w hSw
              (try dsimp only at hSw)
              go_simp
              (try with_reducible rfl)
            simp only [Act.put, List.setIfInBounds_toArray, List.set_cons_zero, List.set_cons_succ]
            refine wpAnyH_take (i := 7) (v := ?_) (by simp only [List.getElem?_toArray, List.getElem?_cons_succ, List.getElem?_cons_zero]; rfl) (by kernel_rfl) (by kernel_rfl) (by kernel_rfl) (fun _ _ _ h => h) (Or.inl ⟨by rfl, ?_⟩) (by assumption) ?_
            rotate_left
            · intro w hSw
              (try dsimp only at hSw)
              go_simp
              (try with_reducible rfl)
            simp only [Act.put, List.setIfInBounds_toArray, List.set_cons_zero, List.set_cons_succ]
            refine wpAnyH_take (i := 8) (v := ?_) (by simp only [List.getElem?_toArray, List.getElem?_cons_succ, List.getElem?_cons_zero]; rfl) (by kernel_rfl) (by kernel_rfl) (by kernel_rfl) (fun _ _ _ h => h) (Or.inl ⟨by rfl, ?_⟩) (by assumption) ?_
            rotate_left
            · intro w hSw
              (try dsimp only at hSw)
              go_simp
              (try with_reducible rfl)
            simp only [Act.put, List.setIfInBounds_toArray, List.set_cons_zero, List.set_cons_succ]
            refine wpAnyH_ready (rs := [9]) (by kernel_rfl) (by simp) ?_
            refine AllReadyH.cons (by simp only [List.getElem?_toArray, List.getElem?_cons_succ, List.getElem?_cons_zero]; rfl) (fun K hK => ?_) AllReadyH.nil
            go_simp
            go_at_call 16; with_reducible refine (in_any kA kc k slot y.f _ (HA.out.kept (KB8.out.trans hHeld.2.2.2.2.2.2.2.2.2.2.2.2.2)) khs).mono ?_
            rintro e w' ⟨rfl, kk⟩
            rw [hin]
            try go_wp2_with fail
            refine hK.out _ _ ?_ (fun hHeld2 => ?_)
            · exact keepP13 bz0 bz0 bz0 bz0 bz0 bz2 bz2 bz2 bz2 l15 l15 l13 l13 hHeld kk
            clear hK K hHeld
            have hHeld := hHeld2
            clear hHeld2
            try simp only [Act.put, List.setIfInBounds_toArray, List.set_cons_zero, List.set_cons_succ]
            refine wpAnyH_take (i := 10) (v := ?_) (by simp only [List.getElem?_toArray, List.getElem?_cons_succ, List.getElem?_cons_zero]; rfl) (by kernel_rfl) (by kernel_rfl) (by kernel_rfl) (fun _ _ _ h => h) (Or.inl ⟨by rfl, ?_⟩) (by assumption) ?_
            rotate_left
            · intro w hSw
              (try dsimp only at hSw)
              go_simp
              (try with_reducible rfl)
            simp only [Act.put, List.setIfInBounds_toArray, List.set_cons_zero, List.set_cons_succ]
            refine wpAnyH_take (i := 11) (v := ?_) (by simp only [List.getElem?_toArray, List.getElem?_cons_succ, List.getElem?_cons_zero]; rfl) (by kernel_rfl) (by kernel_rfl) (by kernel_rfl) (fun _ _ _ h => h) (Or.inl ⟨by rfl, ?_⟩) (by assumption) ?_
            rotate_left
            · intro w hSw
              (try dsimp only at hSw)
              go_simp
              (try with_reducible rfl)
            simp only [Act.put, List.setIfInBounds_toArray, List.set_cons_zero, List.set_cons_succ]
            refine wpAnyH_take (i := 12) (v := undef) (by simp only [List.getElem?_toArray, List.getElem?_cons_succ, List.getElem?_cons_zero]; rfl) (by kernel_rfl) (by kernel_rfl) (by kernel_rfl) (fun _ _ _ h => h) (Or.inr ⟨by rfl, rfl⟩) (by assumption) ?_
            simp only [Act.put, List.setIfInBounds_toArray, List.set_cons_zero, List.set_cons_succ]
            refine wpAnyH_take (i := 13) (v := undef) (by simp only [List.getElem?_toArray, List.getElem?_cons_succ, List.getElem?_cons_zero]; rfl) (by kernel_rfl) (by kernel_rfl) (by kernel_rfl) (fun _ _ _ h => h) (Or.inr ⟨by rfl, rfl⟩) (by assumption) ?_
            simp only [Act.put, List.setIfInBounds_toArray, List.set_cons_zero, List.set_cons_succ]
            refine wpAnyH_take (i := 14) (v := undef) (by simp only [List.getElem?_toArray, List.getElem?_cons_succ, List.getElem?_cons_zero]; rfl) (by kernel_rfl) (by kernel_rfl) (by kernel_rfl) (fun _ _ _ h => h) (Or.inr ⟨by rfl, rfl⟩) (by assumption) ?_
            simp only [Act.put, List.setIfInBounds_toArray, List.set_cons_zero, List.set_cons_succ]
            refine wpAnyH_take (i := 15) (v := undef) (by simp only [List.getElem?_toArray, List.getElem?_cons_succ, List.getElem?_cons_zero]; rfl) (by kernel_rfl) (by kernel_rfl) (by kernel_rfl) (fun _ _ _ h => h) (Or.inr ⟨by rfl, rfl⟩) (by assumption) ?_
            simp only [Act.put, List.setIfInBounds_toArray, List.set_cons_zero, List.set_cons_succ]
            refine wpAnyH_take (i := 16) (v := undef) (by simp only [List.getElem?_toArray, List.getElem?_cons_succ, List.getElem?_cons_zero]; rfl) (by kernel_rfl) (by kernel_rfl) (by kernel_rfl) (fun _ _ _ h => h) (Or.inr ⟨by rfl, rfl⟩) (by assumption) ?_
            simp only [Act.put, List.setIfInBounds_toArray, List.set_cons_zero, List.set_cons_succ]
            refine wpAnyH_take (i := 17) (v := undef) (by simp only [List.getElem?_toArray, List.getElem?_cons_succ, List.getElem?_cons_zero]; rfl) (by kernel_rfl) (by kernel_rfl) (by kernel_rfl) (fun _ _ _ h => h) (Or.inr ⟨by rfl, rfl⟩) (by assumption) ?_
            simp only [Act.put, List.setIfInBounds_toArray, List.set_cons_zero, List.set_cons_succ]
            refine wpAnyH_take (i := 18) (v := ?_) (by simp only [List.getElem?_toArray, List.getElem?_cons_succ, List.getElem?_cons_zero]; rfl) (by kernel_rfl) (by kernel_rfl) (by kernel_rfl) (fun _ _ _ h => h) (Or.inl ⟨by rfl, ?_⟩) (by assumption) ?_
            rotate_left
            · intro w hSw
              (try dsimp only at hSw)
              go_simp
              (try with_reducible rfl)
            simp only [Act.put, List.setIfInBounds_toArray, List.set_cons_zero, List.set_cons_succ]
            refine wpAnyH_take (i := 19) (v := ?_) (by simp only [List.getElem?_toArray, List.getElem?_cons_succ, List.getElem?_cons_zero]; rfl) (by kernel_rfl) (by kernel_rfl) (by kernel_rfl) (fun _ _ _ h => h) (Or.inl ⟨by rfl, ?_⟩) (by assumption) ?_
            rotate_left
            · intro w hSw
              (try dsimp only at hSw)
              go_simp
              (try with_reducible rfl)
            simp only [Act.put, List.setIfInBounds_toArray, List.set_cons_zero, List.set_cons_succ]
            refine wpAnyH_done (by kernel_rfl) ?_ _
            refine NoPanic.normal ?_
            have k := hHeld.2.2.2.2.2.2.2.2.2.2.2.2.2
            clear hHeld
            have KB9 := Lib.hid (KB8.out.trans k)
            clear k
            go_wp2_with fail
            go_ret
            exact ⟨by first | rfl | (simp; done), K0.out.trans KB9.out⟩
          | false =>
            have hin := hi
            refine wp_region_noPanic ?_
            refine wp_region_held_drew (S := (fun w' => w'.cell? ⟨z0, 0, none⟩ = some (.slice kA k.ws.length kc) ∧ w'.cell? ⟨z0, 1, none⟩ = some (.int .u64 k.seed) ∧ w'.cell? ⟨z0, 2, none⟩ = some (.int .i64 k.ep) ∧ w'.cell? ⟨z0, 3, none⟩ = some (.int .i64 k.nu) ∧ w'.cell? ⟨z0, 4, none⟩ = some (.int .i64 k.de) ∧ w'.cell? ⟨z2, 0, none⟩ = some (.int .i64 y.f) ∧ w'.cell? ⟨z2, 1, none⟩ = some (.int .i64 y.s) ∧ w'.cell? ⟨z2, 2, none⟩ = some (.int .u64 y.p.1) ∧ w'.cell? ⟨z2, 3, none⟩ = some (.int .u64 y.p.2) ∧ w'.cell? ⟨z15, 0, none⟩ = some (.slice lA l.length lc) ∧ w'.cell? ⟨z15, 1, none⟩ = some (.slice A4 M.length c4) ∧ w'.cell? ⟨z13, 0, none⟩ = some (.int .u64 hd.1) ∧ w'.cell? ⟨z13, 1, none⟩ = some (.int .u64 hd.2) ∧ Kept W8 w')) (by kernel_rfl) ?_ (fun hHeld => ?_)
            · exact ⟨b00, b01, b02, b03, b04, b20, b21, b22, b23, q0, q1, p0, p1, (Kept.refl _).drew⟩
            refine wpAnyH_take (i := 0) (v := ?_) (by simp only [List.getElem?_toArray, List.getElem?_cons_succ, List.getElem?_cons_zero]; rfl) (by kernel_rfl) (by kernel_rfl) (by kernel_rfl) (fun _ _ _ h => h) (Or.inl ⟨by rfl, ?_⟩) (by assumption) ?_
            rotate_left
            · intro w hSw
              (try dsimp only at hSw)
              go_simp
              (try with_reducible rfl)
            simp only [Act.put, List.setIfInBounds_toArray, List.set_cons_zero, List.set_cons_succ]
            refine wpAnyH_take (i := 1) (v := ?_) (by simp only [List.getElem?_toArray, List.getElem?_cons_succ, List.getElem?_cons_zero]; rfl) (by kernel_rfl) (by kernel_rfl) (by kernel_rfl) (fun _ _ _ h => h) (Or.inl ⟨by rfl, ?_⟩) (by assumption) ?_
            rotate_left
            · intro w hSw
              (try dsimp only at hSw)
              go_simp
              (try with_reducible rfl)
            simp only [Act.put, List.setIfInBounds_toArray, List.set_cons_zero, List.set_cons_succ]
            refine wpAnyH_take (i := 2) (v := ?_) (by simp only [List.getElem?_toArray, List.getElem?_cons_succ, List.getElem?_cons_zero]; rfl) (by kernel_rfl) (by kernel_rfl) (by kernel_rfl) (fun _ _ _ h => h) (Or.inl ⟨by rfl, ?_⟩) (by assumption) ?_
            rotate_left
            · intro w hSw
              (try dsimp only at hSw)
              go_simp
              (try with_reducible rfl)
            simp only [Act.put, List.setIfInBounds_toArray, List.set_cons_zero, List.set_cons_succ]
            refine wpAnyH_take (i := 3) (v := ?_) (by simp only [List.getElem?_toArray, List.getElem?_cons_succ, List.getElem?_cons_zero]; rfl) (by kernel_rfl) (by kernel_rfl) (by kernel_rfl) (fun _ _ _ h => h) (Or.inl ⟨by rfl, ?_⟩) (by assumption) ?_
            rotate_left
            · intro w hSw
              (try dsimp only at hSw)
              go_simp
              (try with_reducible rfl)
            simp only [Act.put, List.setIfInBounds_toArray, List.set_cons_zero, List.set_cons_succ]
            refine wpAnyH_take (i := 4) (v := ?_) (by simp only [List.getElem?_toArray, List.getElem?_cons_succ, List.getElem?_cons_zero]; rfl) (by kernel_rfl) (by kernel_rfl) (by kernel_rfl) (fun _ _ _ h => h) (Or.inl ⟨by rfl, ?_⟩) (by assumption) ?_
            rotate_left
            · intro w hSw
              (try dsimp only at hSw)
              go_simp
              (try with_reducible rfl)
            simp only [Act.put, List.setIfInBounds_toArray, List.set_cons_zero, List.set_cons_succ]
            refine wpAnyH_take (i := 5) (v := ?_) (by simp only [List.getElem?_toArray, List.getElem?_cons_succ, List.getElem?_cons_zero]; rfl) (by kernel_rfl) (by kernel_rfl) (by kernel_rfl) (fun _ _ _ h => h) (Or.inl ⟨by rfl, ?_⟩) (by assumption) ?_
            rotate_left
            · intro w hSw
              (try dsimp only at hSw)
              go_simp
              (try with_reducible rfl)
            simp only [Act.put, List.setIfInBounds_toArray, List.set_cons_zero, List.set_cons_succ]
            refine wpAnyH_take (i := 6) (v := ?_) (by simp only [List.getElem?_toArray, List.getElem?_cons_succ, List.getElem?_cons_zero]; rfl) (by kernel_rfl) (by kernel_rfl) (by kernel_rfl) (fun _ _ _ h => h) (Or.inl ⟨by rfl, ?_⟩) (by assumption) ?_
            rotate_left
            · intro w hSw
              (try dsimp only at hSw)
              go_simp
              (try with_reducible rfl)
            simp only [Act.put, List.setIfInBounds_toArray, List.set_cons_zero, List.set_cons_succ]
            refine wpAnyH_take (i := 7) (v := ?_) (by simp only [List.getElem?_toArray, List.getElem?_cons_succ, List.getElem?_cons_zero]; rfl) (by kernel_rfl) (by kernel_rfl) (by kernel_rfl) (fun _ _ _ h => h) (Or.inl ⟨by rfl, ?_⟩) (by assumption) ?_
            rotate_left
            · intro w hSw
              (try dsimp only at hSw)
              go_simp
              (try with_reducible rfl)
            simp only [Act.put, List.setIfInBounds_toArray, List.set_cons_zero, List.set_cons_succ]
            refine wpAnyH_take (i := 8) (v := ?_) (by simp only [List.getElem?_toArray, List.getElem?_cons_succ, List.getElem?_cons_zero]; rfl) (by kernel_rfl) (by kernel_rfl) (by kernel_rfl) (fun _ _ _ h => h) (Or.inl ⟨by rfl, ?_⟩) (by assumption) ?_
            rotate_left
            · intro w hSw
              (try dsimp only at hSw)
              go_simp
              (try with_reducible rfl)
            simp only [Act.put, List.setIfInBounds_toArray, List.set_cons_zero, List.set_cons_succ]
            refine wpAnyH_ready (rs := [9]) (by kernel_rfl) (by simp) ?_
            refine AllReadyH.cons (by simp only [List.getElem?_toArray, List.getElem?_cons_succ, List.getElem?_cons_zero]; rfl) (fun K hK => ?_) AllReadyH.nil
            go_simp
            go_at_call 16; with_reducible refine (in_any kA kc k slot y.f _ (HA.out.kept (KB8.out.trans hHeld.2.2.2.2.2.2.2.2.2.2.2.2.2)) khs).mono ?_
            rintro e w' ⟨rfl, kk⟩
            rw [hin]
            try go_wp2_with fail
            refine hK.out _ _ ?_ (fun hHeld2 => ?_)
            · exact keepP13 bz0 bz0 bz0 bz0 bz0 bz2 bz2 bz2 bz2 l15 l15 l13 l13 hHeld kk
            clear hK K hHeld
            have hHeld := hHeld2
            clear hHeld2
            try simp only [Act.put, List.setIfInBounds_toArray, List.set_cons_zero, List.set_cons_succ]
            refine wpAnyH_take (i := 10) (v := ?_) (by simp only [List.getElem?_toArray, List.getElem?_cons_succ, List.getElem?_cons_zero]; rfl) (by kernel_rfl) (by kernel_rfl) (by kernel_rfl) (fun _ _ _ h => h) (Or.inl ⟨by rfl, ?_⟩) (by assumption) ?_
            rotate_left
            · intro w hSw
              (try dsimp only at hSw)
              go_simp
              (try with_reducible rfl)
            simp only [Act.put, List.setIfInBounds_toArray, List.set_cons_zero, List.set_cons_succ]
            refine wpAnyH_take (i := 11) (v := ?_) (by simp only [List.getElem?_toArray, List.getElem?_cons_succ, List.getElem?_cons_zero]; rfl) (by kernel_rfl) (by kernel_rfl) (by kernel_rfl) (fun _ _ _ h => h) (Or.inl ⟨by rfl, ?_⟩) (by assumption) ?_
            rotate_left
            · intro w hSw
              (try dsimp only at hSw)
              go_simp
              (try with_reducible rfl)
            simp only [Act.put, List.setIfInBounds_toArray, List.set_cons_zero, List.set_cons_succ]
            refine wpAnyH_take (i := 12) (v := ?_) (by simp only [List.getElem?_toArray, List.getElem?_cons_succ, List.getElem?_cons_zero]; rfl) (by kernel_rfl) (by kernel_rfl) (by kernel_rfl) (fun _ _ _ h => h) (Or.inl ⟨by rfl, ?_⟩) (by assumption) ?_
            rotate_left
            · intro w hSw
              (try dsimp only at hSw)
              go_simp
              (try with_reducible rfl)
            simp only [Act.put, List.setIfInBounds_toArray, List.set_cons_zero, List.set_cons_succ]
            refine wpAnyH_take (i := 13) (v := ?_) (by simp only [List.getElem?_toArray, List.getElem?_cons_succ, List.getElem?_cons_zero]; rfl) (by kernel_rfl) (by kernel_rfl) (by kernel_rfl) (fun _ _ _ h => h) (Or.inl ⟨by rfl, ?_⟩) (by assumption) ?_
            rotate_left
            · intro w hSw
              (try dsimp only at hSw)
              go_simp
              (try with_reducible rfl)
            simp only [Act.put, List.setIfInBounds_toArray, List.set_cons_zero, List.set_cons_succ]
            refine wpAnyH_take (i := 14) (v := ?_) (by simp only [List.getElem?_toArray, List.getElem?_cons_succ, List.getElem?_cons_zero]; rfl) (by kernel_rfl) (by kernel_rfl) (by kernel_rfl) (fun _ _ _ h => h) (Or.inl ⟨by rfl, ?_⟩) (by assumption) ?_
            rotate_left
            · intro w hSw
              (try dsimp only at hSw)
              go_simp
              (try with_reducible rfl)
            simp only [Act.put, List.setIfInBounds_toArray, List.set_cons_zero, List.set_cons_succ]
            refine wpAnyH_take (i := 16) (v := ?_) (by simp only [List.getElem?_toArray, List.getElem?_cons_succ, List.getElem?_cons_zero]; rfl) (by kernel_rfl) (by kernel_rfl) (by kernel_rfl) (fun _ _ _ h => h) (Or.inl ⟨by rfl, ?_⟩) (by assumption) ?_
            rotate_left
            · intro w hSw
              (try dsimp only at hSw)
              go_simp
              (try with_reducible rfl)
            simp only [Act.put, List.setIfInBounds_toArray, List.set_cons_zero, List.set_cons_succ]
            refine wpAnyH_ready (rs := [15]) (by kernel_rfl) (by simp) ?_
            refine AllReadyH.cons (by simp only [List.getElem?_toArray, List.getElem?_cons_succ, List.getElem?_cons_zero]; rfl) (fun K hK => ?_) AllReadyH.nil
            go_simp
            go_at_call 14; with_reducible refine (goldHead_any kA kc k lA lc l A4 c4 M slot _ (by omega) khs (by omega) hml lhw hmw (HA.out.kept (KB8.out.trans hHeld.2.2.2.2.2.2.2.2.2.2.2.2.2)) (HL.out.kept (KB8.out.trans hHeld.2.2.2.2.2.2.2.2.2.2.2.2.2)) (HMc.out.kept hHeld.2.2.2.2.2.2.2.2.2.2.2.2.2)).mono ?_
            rintro e w' ⟨R2, hR2, rfl, kk⟩
            have eR := HMore.out (Or.inr hin) _ hR2
            subst eR
            clear hR2
            rw [← HEh.out]
            try go_wp2_with fail
            refine hK.out _ _ ?_ (fun hHeld2 => ?_)
            · exact keepP13 bz0 bz0 bz0 bz0 bz0 bz2 bz2 bz2 bz2 l15 l15 l13 l13 hHeld kk
            clear hK K hHeld
            have hHeld := hHeld2
            clear hHeld2
            try simp only [Act.put, List.setIfInBounds_toArray, List.set_cons_zero, List.set_cons_succ]
            refine wpAnyH_take (i := 17) (v := ?_) (by simp only [List.getElem?_toArray, List.getElem?_cons_succ, List.getElem?_cons_zero]; rfl) (by kernel_rfl) (by kernel_rfl) (by kernel_rfl) (fun _ _ _ h => h) (Or.inl ⟨by rfl, ?_⟩) (by assumption) ?_
            rotate_left
            · intro w hSw
              (try dsimp only at hSw)
              go_simp
              (try with_reducible rfl)
            simp only [Act.put, List.setIfInBounds_toArray, List.set_cons_zero, List.set_cons_succ]
            try simp only [hhh]
            refine wpAnyH_take (i := 18) (v := ?_) (by simp only [List.getElem?_toArray, List.getElem?_cons_succ, List.getElem?_cons_zero]; rfl) (by kernel_rfl) (by kernel_rfl) (by kernel_rfl) (fun _ _ _ h => h) (Or.inl ⟨by rfl, ?_⟩) (by assumption) ?_
            rotate_left
            · intro w hSw
              (try dsimp only at hSw)
              go_simp
              (try with_reducible rfl)
            simp only [Act.put, List.setIfInBounds_toArray, List.set_cons_zero, List.set_cons_succ]
            refine wpAnyH_take (i := 19) (v := ?_) (by simp only [List.getElem?_toArray, List.getElem?_cons_succ, List.getElem?_cons_zero]; rfl) (by kernel_rfl) (by kernel_rfl) (by kernel_rfl) (fun _ _ _ h => h) (Or.inl ⟨by rfl, ?_⟩) (by assumption) ?_
            rotate_left
            · intro w hSw
              (try dsimp only at hSw)
              go_simp
              (try with_reducible rfl)
            simp only [Act.put, List.setIfInBounds_toArray, List.set_cons_zero, List.set_cons_succ]
            refine wpAnyH_done (by kernel_rfl) ?_ _
            refine NoPanic.normal ?_
            have k := hHeld.2.2.2.2.2.2.2.2.2.2.2.2.2
            clear hHeld
            have KB9 := Lib.hid (KB8.out.trans k)
            clear k
            go_wp2_with fail
            go_ret
            exact ⟨by first | rfl | (simp; done), K0.out.trans KB9.out⟩
        · have hbs : (y.s == slot) = false := by rw [beq_eq_false_iff_ne]; exact hs
          refine wp_region_noPanic ?_
          refine wp_region_held_drew (S := (fun w' => w'.cell? ⟨z0, 0, none⟩ = some (.slice kA k.ws.length kc) ∧ w'.cell? ⟨z0, 1, none⟩ = some (.int .u64 k.seed) ∧ w'.cell? ⟨z0, 2, none⟩ = some (.int .i64 k.ep) ∧ w'.cell? ⟨z0, 3, none⟩ = some (.int .i64 k.nu) ∧ w'.cell? ⟨z0, 4, none⟩ = some (.int .i64 k.de) ∧ w'.cell? ⟨z2, 0, none⟩ = some (.int .i64 y.f) ∧ w'.cell? ⟨z2, 1, none⟩ = some (.int .i64 y.s) ∧ w'.cell? ⟨z2, 2, none⟩ = some (.int .u64 y.p.1) ∧ w'.cell? ⟨z2, 3, none⟩ = some (.int .u64 y.p.2) ∧ w'.cell? ⟨z15, 0, none⟩ = some (.slice lA l.length lc) ∧ w'.cell? ⟨z15, 1, none⟩ = some (.slice A4 M.length c4) ∧ w'.cell? ⟨z13, 0, none⟩ = some (.int .u64 hd.1) ∧ w'.cell? ⟨z13, 1, none⟩ = some (.int .u64 hd.2) ∧ Kept W8 w')) (by kernel_rfl) ?_ (fun hHeld => ?_)
          · exact ⟨b00, b01, b02, b03, b04, b20, b21, b22, b23, q0, q1, p0, p1, (Kept.refl _).drew⟩
          refine wpAnyH_take (i := 0) (v := ?_) (by simp only [List.getElem?_toArray, List.getElem?_cons_succ, List.getElem?_cons_zero]; rfl) (by kernel_rfl) (by kernel_rfl) (by kernel_rfl) (fun _ _ _ h => h) (Or.inl ⟨by rfl, ?_⟩) (by assumption) ?_
          rotate_left
          · intro w hSw
            (try dsimp only at hSw)
            go_simp
            (try with_reducible rfl)
          simp only [Act.put, List.setIfInBounds_toArray, List.set_cons_zero, List.set_cons_succ]
          refine wpAnyH_take (i := 1) (v := ?_) (by simp only [List.getElem?_toArray, List.getElem?_cons_succ, List.getElem?_cons_zero]; rfl) (by kernel_rfl) (by kernel_rfl) (by kernel_rfl) (fun _ _ _ h => h) (Or.inl ⟨by rfl, ?_⟩) (by assumption) ?_
          rotate_left
          · intro w hSw
            (try dsimp only at hSw)
            go_simp
            (try with_reducible rfl)
          simp only [Act.put, List.setIfInBounds_toArray, List.set_cons_zero, List.set_cons_succ]
          refine wpAnyH_take (i := 2) (v := ?_) (by simp only [List.getElem?_toArray, List.getElem?_cons_succ, List.getElem?_cons_zero]; rfl) (by kernel_rfl) (by kernel_rfl) (by kernel_rfl) (fun _ _ _ h => h) (Or.inl ⟨by rfl, ?_⟩) (by assumption) ?_
          rotate_left
          · intro w hSw
            (try dsimp only at hSw)
            go_simp
            (try with_reducible rfl)
          simp only [Act.put, List.setIfInBounds_toArray, List.set_cons_zero, List.set_cons_succ]
          refine wpAnyH_take (i := 3) (v := ?_) (by simp only [List.getElem?_toArray, List.getElem?_cons_succ, List.getElem?_cons_zero]; rfl) (by kernel_rfl) (by kernel_rfl) (by kernel_rfl) (fun _ _ _ h => h) (Or.inl ⟨by rfl, ?_⟩) (by assumption) ?_
          rotate_left
          · intro w hSw
            (try dsimp only at hSw)
            go_simp
            (try with_reducible rfl)
          simp only [Act.put, List.setIfInBounds_toArray, List.set_cons_zero, List.set_cons_succ]
          refine wpAnyH_take (i := 4) (v := ?_) (by simp only [List.getElem?_toArray, List.getElem?_cons_succ, List.getElem?_cons_zero]; rfl) (by kernel_rfl) (by kernel_rfl) (by kernel_rfl) (fun _ _ _ h => h) (Or.inl ⟨by rfl, ?_⟩) (by assumption) ?_
          rotate_left
          · intro w hSw
            (try dsimp only at hSw)
            go_simp
            (try with_reducible rfl)
          simp only [Act.put, List.setIfInBounds_toArray, List.set_cons_zero, List.set_cons_succ]
          refine wpAnyH_take (i := 5) (v := undef) (by simp only [List.getElem?_toArray, List.getElem?_cons_succ, List.getElem?_cons_zero]; rfl) (by kernel_rfl) (by kernel_rfl) (by kernel_rfl) (fun _ _ _ h => h) (Or.inr ⟨by rfl, rfl⟩) (by assumption) ?_
          simp only [Act.put, List.setIfInBounds_toArray, List.set_cons_zero, List.set_cons_succ]
          refine wpAnyH_take (i := 6) (v := undef) (by simp only [List.getElem?_toArray, List.getElem?_cons_succ, List.getElem?_cons_zero]; rfl) (by kernel_rfl) (by kernel_rfl) (by kernel_rfl) (fun _ _ _ h => h) (Or.inr ⟨by rfl, rfl⟩) (by assumption) ?_
          simp only [Act.put, List.setIfInBounds_toArray, List.set_cons_zero, List.set_cons_succ]
          refine wpAnyH_take (i := 7) (v := undef) (by simp only [List.getElem?_toArray, List.getElem?_cons_succ, List.getElem?_cons_zero]; rfl) (by kernel_rfl) (by kernel_rfl) (by kernel_rfl) (fun _ _ _ h => h) (Or.inr ⟨by rfl, rfl⟩) (by assumption) ?_
          simp only [Act.put, List.setIfInBounds_toArray, List.set_cons_zero, List.set_cons_succ]
          refine wpAnyH_take (i := 8) (v := undef) (by simp only [List.getElem?_toArray, List.getElem?_cons_succ, List.getElem?_cons_zero]; rfl) (by kernel_rfl) (by kernel_rfl) (by kernel_rfl) (fun _ _ _ h => h) (Or.inr ⟨by rfl, rfl⟩) (by assumption) ?_
          simp only [Act.put, List.setIfInBounds_toArray, List.set_cons_zero, List.set_cons_succ]
          refine wpAnyH_take (i := 9) (v := undef) (by simp only [List.getElem?_toArray, List.getElem?_cons_succ, List.getElem?_cons_zero]; rfl) (by kernel_rfl) (by kernel_rfl) (by kernel_rfl) (fun _ _ _ h => h) (Or.inr ⟨by rfl, rfl⟩) (by assumption) ?_
          simp only [Act.put, List.setIfInBounds_toArray, List.set_cons_zero, List.set_cons_succ]
          refine wpAnyH_take (i := 10) (v := ?_) (by simp only [List.getElem?_toArray, List.getElem?_cons_succ, List.getElem?_cons_zero]; rfl) (by kernel_rfl) (by kernel_rfl) (by kernel_rfl) (fun _ _ _ h => h) (Or.inl ⟨by rfl, ?_⟩) (by assumption) ?_
          rotate_left
          · intro w hSw
            (try dsimp only at hSw)
            go_simp
            (try with_reducible rfl)
          simp only [Act.put, List.setIfInBounds_toArray, List.set_cons_zero, List.set_cons_succ]
          refine wpAnyH_take (i := 11) (v := ?_) (by simp only [List.getElem?_toArray, List.getElem?_cons_succ, List.getElem?_cons_zero]; rfl) (by kernel_rfl) (by kernel_rfl) (by kernel_rfl) (fun _ _ _ h => h) (Or.inl ⟨by rfl, ?_⟩) (by assumption) ?_
          rotate_left
          · intro w hSw
            (try dsimp only at hSw)
            go_simp
            (try with_reducible rfl)
          simp only [Act.put, List.setIfInBounds_toArray, List.set_cons_zero, List.set_cons_succ]
          refine wpAnyH_take (i := 12) (v := ?_) (by simp only [List.getElem?_toArray, List.getElem?_cons_succ, List.getElem?_cons_zero]; rfl) (by kernel_rfl) (by kernel_rfl) (by kernel_rfl) (fun _ _ _ h => h) (Or.inl ⟨by rfl, ?_⟩) (by assumption) ?_
          rotate_left
          · intro w hSw
            (try dsimp only at hSw)
            go_simp
            (try with_reducible rfl)
          simp only [Act.put, List.setIfInBounds_toArray, List.set_cons_zero, List.set_cons_succ]
          refine wpAnyH_take (i := 13) (v := ?_) (by simp only [List.getElem?_toArray, List.getElem?_cons_succ, List.getElem?_cons_zero]; rfl) (by kernel_rfl) (by kernel_rfl) (by kernel_rfl) (fun _ _ _ h => h) (Or.inl ⟨by rfl, ?_⟩) (by assumption) ?_
          rotate_left
          · intro w hSw
            (try dsimp only at hSw)
            go_simp
            (try with_reducible rfl)
          simp only [Act.put, List.setIfInBounds_toArray, List.set_cons_zero, List.set_cons_succ]
          refine wpAnyH_take (i := 14) (v := ?_) (by simp only [List.getElem?_toArray, List.getElem?_cons_succ, List.getElem?_cons_zero]; rfl) (by kernel_rfl) (by kernel_rfl) (by kernel_rfl) (fun _ _ _ h => h) (Or.inl ⟨by rfl, ?_⟩) (by assumption) ?_
          rotate_left
          · intro w hSw
            (try dsimp only at hSw)
            go_simp
            (try with_reducible rfl)
          simp only [Act.put, List.setIfInBounds_toArray, List.set_cons_zero, List.set_cons_succ]
          refine wpAnyH_take (i := 16) (v := ?_) (by simp only [List.getElem?_toArray, List.getElem?_cons_succ, List.getElem?_cons_zero]; rfl) (by kernel_rfl) (by kernel_rfl) (by kernel_rfl) (fun _ _ _ h => h) (Or.inl ⟨by rfl, ?_⟩) (by assumption) ?_
          rotate_left
          · intro w hSw
            (try dsimp only at hSw)
            go_simp
            (try with_reducible rfl)
          simp only [Act.put, List.setIfInBounds_toArray, List.set_cons_zero, List.set_cons_succ]
          refine wpAnyH_ready (rs := [15]) (by kernel_rfl) (by simp) ?_
          refine AllReadyH.cons (by simp only [List.getElem?_toArray, List.getElem?_cons_succ, List.getElem?_cons_zero]; rfl) (fun K hK => ?_) AllReadyH.nil
          go_simp
          go_at_call 14; with_reducible refine (goldHead_any kA kc k lA lc l A4 c4 M slot _ (by omega) khs (by omega) hml lhw hmw (HA.out.kept (KB8.out.trans hHeld.2.2.2.2.2.2.2.2.2.2.2.2.2)) (HL.out.kept (KB8.out.trans hHeld.2.2.2.2.2.2.2.2.2.2.2.2.2)) (HMc.out.kept hHeld.2.2.2.2.2.2.2.2.2.2.2.2.2)).mono ?_
          rintro e w' ⟨R2, hR2, rfl, kk⟩
          have eR := HMore.out (Or.inl hs) _ hR2
          subst eR
          clear hR2
          rw [← HEh.out]
          try go_wp2_with fail
          refine hK.out _ _ ?_ (fun hHeld2 => ?_)
          · exact keepP13 bz0 bz0 bz0 bz0 bz0 bz2 bz2 bz2 bz2 l15 l15 l13 l13 hHeld kk
          clear hK K hHeld
          have hHeld := hHeld2
          clear hHeld2
          try simp only [Act.put, List.setIfInBounds_toArray, List.set_cons_zero, List.set_cons_succ]
          refine wpAnyH_take (i := 17) (v := ?_) (by simp only [List.getElem?_toArray, List.getElem?_cons_succ, List.getElem?_cons_zero]; rfl) (by kernel_rfl) (by kernel_rfl) (by kernel_rfl) (fun _ _ _ h => h) (Or.inl ⟨by rfl, ?_⟩) (by assumption) ?_
          rotate_left
          · intro w hSw
            (try dsimp only at hSw)
            go_simp
            (try with_reducible rfl)
          simp only [Act.put, List.setIfInBounds_toArray, List.set_cons_zero, List.set_cons_succ]
          try simp only [hhh]
          refine wpAnyH_take (i := 18) (v := ?_) (by simp only [List.getElem?_toArray, List.getElem?_cons_succ, List.getElem?_cons_zero]; rfl) (by kernel_rfl) (by kernel_rfl) (by kernel_rfl) (fun _ _ _ h => h) (Or.inl ⟨by rfl, ?_⟩) (by assumption) ?_
          rotate_left
          · intro w hSw
            (try dsimp only at hSw)
            go_simp
            (try with_reducible rfl)
          simp only [Act.put, List.setIfInBounds_toArray, List.set_cons_zero, List.set_cons_succ]
          refine wpAnyH_take (i := 19) (v := ?_) (by simp only [List.getElem?_toArray, List.getElem?_cons_succ, List.getElem?_cons_zero]; rfl) (by kernel_rfl) (by kernel_rfl) (by kernel_rfl) (fun _ _ _ h => h) (Or.inl ⟨by rfl, ?_⟩) (by assumption) ?_
          rotate_left
          · intro w hSw
            (try dsimp only at hSw)
            go_simp
            (try with_reducible rfl)
          simp only [Act.put, List.setIfInBounds_toArray, List.set_cons_zero, List.set_cons_succ]
          refine wpAnyH_done (by kernel_rfl) ?_ _
          refine NoPanic.normal ?_
          have k := hHeld.2.2.2.2.2.2.2.2.2.2.2.2.2
          clear hHeld
          have KB9 := Lib.hid (KB8.out.trans k)
          clear k
          go_wp2_with fail
          go_ret
          exact ⟨by first | rfl | (simp; done), K0.out.trans KB9.out⟩

/-! ### The row's step -/
set_option maxRecDepth 100000 in
theorem lifted (os : Os) (started : os.Started) (H : Type) (enc : TypeId × Value → H) :
    ReturnsInHanded {} Tryz.checked os 4 .any (Rows.goldSlotSpec.pre6 enc Tryz.prog Tryz.f4 Rows.goldSlotRow.domain false) (Rows.goldSlotSpec.post enc Tryz.prog Tryz.f4 false true false false) := by
  refine returnsInHanded_of_change (C := Tryz.checked) own started (by kernel_rfl) Tryz.func4
    (ChangeSpec.witness6 (enc := enc) (C := Tryz.checked) false ⟨#[], #[.agg #[.slice none 0 0, .int .u64 0, .int .i64 0, .int .i64 0, .int .i64 0], .agg #[.slice none 0 0, .slice none 0 0], .int .i64 0, .agg #[.int .i64 0, .int .i64 0, .int .u64 0, .int .u64 0], .int .i64 0], []⟩ 8 (by kernel_rfl) (by kernel_rfl) (by kernel_rfl) (by kernel_rfl)) ?_
  intro W base args ds gs before hval0 hW hcnd _
  have hval : ∀ (j : Nat) t v, Tryz.f4.params[j]? = some t → args[j]? = some v → Value.okWide Tryz.prog W .any base t v := hval0
  have hW' := hW
  obtain ⟨p, q, hA0, hV, rfl, hfz, hnd⟩ := hW
  have hA : DataW.TrodAll enc Tryz.prog W 0 (fun _ => true) true Tryz.f4.params.toList args.toList ds p := hA0
  rw [Tryz.params4] at hA hval
  obtain ⟨v0, vs0, d0, ds0, p0, q0, hargs, rfl, rfl, h0, r0⟩ := trodAll_cons hA
  obtain ⟨v1, vs1, d1, ds1, p1, q1, rfl, rfl, rfl, h1, r1⟩ := trodAll_cons r0
  obtain ⟨v2, vs2, d2, ds2, p2, q2, rfl, rfl, rfl, h2, r2⟩ := trodAll_cons r1
  obtain ⟨v3, vs3, d3, ds3, p3, q3, rfl, rfl, rfl, h3, r3⟩ := trodAll_cons r2
  obtain ⟨v4, vs4, d4, ds4, p4, q4, rfl, rfl, rfl, h4, r4⟩ := trodAll_cons r3
  obtain ⟨rfl, rfl, rfl⟩ := trodAll_nil r4
  obtain rfl : args = #[v0, v1, v2, v3, v4] := by cases args; simp_all
  obtain ⟨rfl, rfl⟩ := trodVars_none hV
  obtain ⟨kA, kc, k, rfl, khm, khs, khl⟩ := open_conf (hval 0 _ v0 rfl rfl) h0
  obtain ⟨lA, lc, l, vA, vc, v, rfl, lhm, lhc, lhw, lhl, vhm, vhc, vhw, vhl⟩ := open_view (hval 1 _ v1 rfl rfl) h1
  obtain ⟨slot, rfl, hslot1, hslot2⟩ := open_num (hval 2 _ v2 rfl rfl) h2
  obtain ⟨y, rfl, hy⟩ := open_vt (hval 3 _ v3 rfl rfl) h3
  obtain ⟨a, rfl, ha1, ha2⟩ := open_num (hval 4 _ v4 rfl rfl) h4
  clear hA0 hval0
  refine (walk W kA kc k khm khs khl lA lc l vA vc v lhm lhc lhw lhl vhm vhc vhw vhl slot hslot1 hslot2 y hy a ha1 ha2).mono fun e W' ⟨he, hb⟩ => ?_
  subst he
  exact ⟨_, rfl, law_post rfl (by kernel_rfl) rfl hW' rfl hb⟩

theorem over : Rows.goldSlotRow.holds Tryz.pinned (OpenSpec.ofChange Rows.goldSlotSpec) :=
  OpenClaim.holds_of_wide 4 Tryz.f4 rfl rfl rfl rfl rfl rfl rfl ⟨rfl, rfl, rfl, rfl, rfl⟩ rfl rfl rfl rfl rfl (by kernel_rfl) Tryz.func4 (by kernel_rfl)
    (of_decide_eq_true (by kernel_rfl)) (by unfold Func.isWrapper; first | (rw [if_pos (by decide +kernel)]; kernel_rfl) | (rw [if_neg (by decide +kernel)]; exact ⟨rfl, rfl⟩))
    (fun os started H enc _ => lifted os started H enc)

/-- The statement. -/
theorem proved : Rows.GoldSlotSaid :=
  over
#print axioms proved

end Go.Proofs.YtlapcnfhnfkbmaaGreat.goldSlot
