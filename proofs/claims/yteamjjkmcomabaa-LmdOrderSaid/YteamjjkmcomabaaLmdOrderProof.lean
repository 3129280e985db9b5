/-
  Law LmdOrder of layer 13: the order of votes does not matter, nor what is there twice, nor what is later, whatever conf, blocks, votes, slot, boost and cut.
-/
import Derived.Test.YteamjjkmcomabaaLmdAwake
import Derived.Test.YteamjjkmcomabaaGhostAwake
import Derived.Test.YteamjjkmcomabaaDutyG
import Derived.Test.YteamjjkmcomabaaTreeG
import Derived.Test.YteamjjkmcomabaaVoteG
import Derived.Test.YteamjjkmcomabaaMixG
import Derived.Test.YteamjjkmcomabaaGround
import Derived.Test.YteamjjkmcomabaaIdBox
import Derived.Test.YteamjjkmcomabaaVoteMoreFacts
namespace Go.Proofs.Yteamjjkmcomabaa.lmdOrder
set_option maxRecDepth 100000
set_option linter.unusedVariables false
set_option linter.unusedSimpArgs false
open Go.ChangeShapes Go.WideShapes Go.ChangeAt Go.RowKit
set_option linter.unusedVariables false

theorem order_same (v : List Vt) (m : Nat) (upto : Int) (bo : Id2) (x : Vt) (hx : upQ upto x.s = true) : x ∈ [] ++ v.drop m ++ v ++ [(⟨0, upto + 1, bo⟩ : Vt)] ↔ x ∈ v := by
  rw [upQ_iff] at hx
  simp only [List.nil_append, List.mem_append, List.mem_singleton]
  constructor
  · rintro ((h | h) | h)
    · exact List.mem_of_mem_drop h
    · exact h
    · subst h
      exact absurd hx (by show ¬ upto + 1 ≤ upto; omega)
  · exact fun h => Or.inl (Or.inr h)
theorem order_wf {v : List Vt} (h : WfVs v) (m : Nat) {s : Int} (hs : -9223372036854775808 ≤ s ∧ s ≤ 9223372036854775807) {bo : Id2} (hb : WfI bo) : WfVs ([] ++ v.drop m ++ v ++ [(⟨0, s, bo⟩ : Vt)]) := fun x hx => by
  simp only [List.nil_append, List.mem_append, List.mem_singleton] at hx
  rcases hx with (q | q) | q
  · exact h x (List.mem_of_mem_drop q)
  · exact h x q
  · subst q; exact ⟨⟨by show (-9223372036854775808 : Int) ≤ 0; decide, by show (0 : Int) ≤ 9223372036854775807; decide⟩, hs, hb⟩

/-! ### The walk: the call returns true, and of what was there nothing has changed. -/
attribute [local go_sem high] eqIdN eqIdZ in
set_option maxRecDepth 100000 in
set_option maxHeartbeats 6400000 in
theorem walk (w : World) (kA : Option Addr) (kc : Nat) (k : Cf) (khm : k.ws.length ≤ maxLen) (khs : k.seed < 18446744073709551616) (khl : CellsAt w w.heap.size kA (intCells k.ws)) (lA : Option Addr) (lc : Nat) (l : List Bk) (lhm : l.length ≤ maxLen) (lhc : l.length ≤ lc) (lhw : WfL l) (lhl : CellsAt w w.heap.size lA (blockCells l)) (vA : Option Addr) (vc : Nat) (v : List Vt) (vhm : v.length ≤ maxLen) (vhc : v.length ≤ vc) (vhw : WfVs v) (vhl : CellsAt w w.heap.size vA (votesCells v)) (upto : Int) (hupto1 : -9223372036854775808 ≤ upto) (hupto2 : upto ≤ 9223372036854775807) (bo : Nat × Nat) (hbo1 : bo.1 < 18446744073709551616) (hbo2 : bo.2 < 18446744073709551616) (pct : Int) (hpct1 : -9223372036854775808 ≤ pct) (hpct2 : pct ≤ 9223372036854775807) (at_ : Int) (hat_1 : -9223372036854775808 ≤ at_) (hat_2 : at_ ≤ 9223372036854775807) :
    Calls Try.prog 8 #[.agg #[.slice kA k.ws.length kc, .int .u64 k.seed, .int .i64 k.ep, .int .i64 k.nu, .int .i64 k.de], .slice lA l.length lc, .slice vA v.length vc, .int .i64 upto, .agg #[.int .u64 bo.1, .int .u64 bo.2], .int .i64 pct, .int .i64 at_] w fun e w' => e = .returned (.bool true) ∧ Kept w w' := by
  cases hf : few9C k l v with
  | false =>
    go_enter Try.func8, Try.ntmps8
    go_wp2_with fail
    have K0 := Lib.hid (((Kept.refl w).alloc (.cells #[.slice kA k.ws.length kc, .int .u64 k.seed, .int .i64 k.ep, .int .i64 k.nu, .int .i64 k.de] 25)).alloc (.cells #[.int .u64 bo.1, .int .u64 bo.2] 29))
    have HA := Lib.hid (khl.kept K0.out)
    clear khl
    have HL := Lib.hid (lhl.kept K0.out)
    clear lhl
    have HV := Lib.hid (vhl.kept K0.out)
    clear vhl
    have HB0 := Lib.hid ((HasCells.new w #[.slice kA k.ws.length kc, .int .u64 k.seed, .int .i64 k.ep, .int .i64 k.nu, .int .i64 k.de] 25 (w.heap.size) (by simp)).alloc (.cells #[.int .u64 bo.1, .int .u64 bo.2] 29))
    have HB1 := Lib.hid (HasCells.new (w.alloc (.cells #[.slice kA k.ws.length kc, .int .u64 k.seed, .int .i64 k.ep, .int .i64 k.nu, .int .i64 k.de] 25)) #[.int .u64 bo.1, .int .u64 bo.2] 29 (w.heap.size + 1) (by simp))
    generalize ((w.alloc (.cells #[.slice kA k.ws.length kc, .int .u64 k.seed, .int .i64 k.ep, .int .i64 k.nu, .int .i64 k.de] 25)).alloc (.cells #[.int .u64 bo.1, .int .u64 bo.2] 29)) = W0 at *
    generalize w.heap.size + 1 = z1 at *
    generalize w.heap.size = z0 at *
    have KB0 := Lib.hid (Kept.refl W0)
    refine (lmdAwake W0).mono ?_
    rintro e W1 ⟨rfl, k⟩
    have KB1 := Lib.hid (KB0.out.trans k)
    clear k
    obtain ⟨b00, b01, b02, b03, b04⟩ := (HB0.out.kept KB1.out).five
    have bz0 := (HB0.out.kept KB1.out).1
    obtain ⟨b10, b11⟩ := (HB1.out.kept KB1.out).two
    have bz1 := (HB1.out.kept KB1.out).1
    go_wp2_with fail
    clear b00 b01 b02 b03 b04 bz0 b10 b11 bz1
    refine (few9_any kA kc k lA lc l vA vc v W1).mono ?_
    rintro e W2 ⟨rfl, k⟩
    have KB2 := Lib.hid (KB1.out.trans k)
    clear k
    rw [hf]
    obtain ⟨b00, b01, b02, b03, b04⟩ := (HB0.out.kept KB2.out).five
    have bz0 := (HB0.out.kept KB2.out).1
    obtain ⟨b10, b11⟩ := (HB1.out.kept KB2.out).two
    have bz1 := (HB1.out.kept KB2.out).1
    go_wp2_with fail
    clear b00 b01 b02 b03 b04 bz0 b10 b11 bz1
    go_ret
    exact ⟨by first | rfl | (simp; done), K0.out.trans KB2.out⟩
  | true =>
    obtain ⟨hk40, hl20, hv30⟩ := few9C_yes hf
    have HF := Lib.hid hf
    clear hf
    have hwbo : WfI bo := ⟨hbo1, hbo2⟩
    go_enter Try.func8, Try.ntmps8
    go_wp2_with fail
    have K0 := Lib.hid (((Kept.refl w).alloc (.cells #[.slice kA k.ws.length kc, .int .u64 k.seed, .int .i64 k.ep, .int .i64 k.nu, .int .i64 k.de] 25)).alloc (.cells #[.int .u64 bo.1, .int .u64 bo.2] 29))
    have HA := Lib.hid (khl.kept K0.out)
    clear khl
    have HL := Lib.hid (lhl.kept K0.out)
    clear lhl
    have HV := Lib.hid (vhl.kept K0.out)
    clear vhl
    have HB0 := Lib.hid ((HasCells.new w #[.slice kA k.ws.length kc, .int .u64 k.seed, .int .i64 k.ep, .int .i64 k.nu, .int .i64 k.de] 25 (w.heap.size) (by simp)).alloc (.cells #[.int .u64 bo.1, .int .u64 bo.2] 29))
    have HB1 := Lib.hid (HasCells.new (w.alloc (.cells #[.slice kA k.ws.length kc, .int .u64 k.seed, .int .i64 k.ep, .int .i64 k.nu, .int .i64 k.de] 25)) #[.int .u64 bo.1, .int .u64 bo.2] 29 (w.heap.size + 1) (by simp))
    generalize ((w.alloc (.cells #[.slice kA k.ws.length kc, .int .u64 k.seed, .int .i64 k.ep, .int .i64 k.nu, .int .i64 k.de] 25)).alloc (.cells #[.int .u64 bo.1, .int .u64 bo.2] 29)) = W0 at *
    generalize w.heap.size + 1 = z1 at *
    generalize w.heap.size = z0 at *
    have KB0 := Lib.hid (Kept.refl W0)
    refine (lmdAwake W0).mono ?_
    rintro e W1 ⟨rfl, k⟩
    have KB1 := Lib.hid (KB0.out.trans k)
    clear k
    obtain ⟨b00, b01, b02, b03, b04⟩ := (HB0.out.kept KB1.out).five
    have bz0 := (HB0.out.kept KB1.out).1
    obtain ⟨b10, b11⟩ := (HB1.out.kept KB1.out).two
    have bz1 := (HB1.out.kept KB1.out).1
    go_wp2_with fail
    clear b00 b01 b02 b03 b04 bz0 b10 b11 bz1
    refine (few9_any kA kc k lA lc l vA vc v W1).mono ?_
    rintro e W2 ⟨rfl, k⟩
    have KB2 := Lib.hid (KB1.out.trans k)
    clear k
    rw [HF.out]
    by_cases h1 : (15 : Int) < (v.length : Int)
    · have g1 : decide ((15 : Int) < (v.length : Int)) = true := decide_eq_true h1
      obtain ⟨b00, b01, b02, b03, b04⟩ := (HB0.out.kept KB2.out).five
      have bz0 := (HB0.out.kept KB2.out).1
      obtain ⟨b10, b11⟩ := (HB1.out.kept KB2.out).two
      have bz1 := (HB1.out.kept KB2.out).1
      go_wp2_with fail
      clear b00 b01 b02 b03 b04 bz0 b10 b11 bz1
      go_ret
      exact ⟨by first | rfl | (simp; done), K0.out.trans KB2.out⟩
    · have g1 : decide ((15 : Int) < (v.length : Int)) = false := decide_eq_false h1
      by_cases h2 : at_ < 0
      · have g2 : decide (at_ < 0) = true := decide_eq_true h2
        obtain ⟨b00, b01, b02, b03, b04⟩ := (HB0.out.kept KB2.out).five
        have bz0 := (HB0.out.kept KB2.out).1
        obtain ⟨b10, b11⟩ := (HB1.out.kept KB2.out).two
        have bz1 := (HB1.out.kept KB2.out).1
        go_wp2_with fail
        clear b00 b01 b02 b03 b04 bz0 b10 b11 bz1
        go_ret
        exact ⟨by first | rfl | (simp; done), K0.out.trans KB2.out⟩
      · have g2 : decide (at_ < 0) = false := decide_eq_false h2
        by_cases h3 : (v.length : Int) < at_
        · have g3 : decide ((v.length : Int) < at_) = true := decide_eq_true h3
          obtain ⟨b00, b01, b02, b03, b04⟩ := (HB0.out.kept KB2.out).five
          have bz0 := (HB0.out.kept KB2.out).1
          obtain ⟨b10, b11⟩ := (HB1.out.kept KB2.out).two
          have bz1 := (HB1.out.kept KB2.out).1
          go_wp2_with fail
          clear b00 b01 b02 b03 b04 bz0 b10 b11 bz1
          go_ret
          exact ⟨by first | rfl | (simp; done), K0.out.trans KB2.out⟩
        · have g3 : decide ((v.length : Int) < at_) = false := decide_eq_false h3
          by_cases h4 : 1099511627776 < upto
          · have g4 : decide (1099511627776 < upto) = true := decide_eq_true h4
            obtain ⟨b00, b01, b02, b03, b04⟩ := (HB0.out.kept KB2.out).five
            have bz0 := (HB0.out.kept KB2.out).1
            obtain ⟨b10, b11⟩ := (HB1.out.kept KB2.out).two
            have bz1 := (HB1.out.kept KB2.out).1
            go_wp2_with fail
            clear b00 b01 b02 b03 b04 bz0 b10 b11 bz1
            go_ret
            exact ⟨by first | rfl | (simp; done), K0.out.trans KB2.out⟩
          · have g4 : decide (1099511627776 < upto) = false := decide_eq_false h4
            obtain ⟨m, rfl⟩ : ∃ m : Nat, at_ = (m : Int) := Int.eq_ofNat_of_zero_le (by omega)
            have hm : m ≤ v.length := by omega
            obtain ⟨A0, hfr, hA0⟩ := from_votes (HV.out.kept KB2.out) vc m hm vhc
            have HD := Lib.hid hA0
            clear hA0
            have HLd := Lib.hid (show (v.drop m).length = v.length - m from List.length_drop)
            have hb1 : ([] : List Vt).length + (v.length - m) ≤ 10000000 := by simp; omega
            have hb2 : ([] ++ v.drop m).length + v.length ≤ 10000000 := by simp; omega
            have hb3 : ([] ++ v.drop m ++ v).length + 1 ≤ 10000000 := by simp; omega
            have hw : IntKind.i64.wrap (upto + 1) = upto + 1 := by rw [IntKind.wrap_i64]; omega
            have HMs := Lib.hid (fun x (hx : upQ upto x.s = true) => order_same v m upto bo x hx)
            have HMw := Lib.hid (order_wf vhw m (show -9223372036854775808 ≤ upto + 1 ∧ upto + 1 ≤ 9223372036854775807 by omega) hwbo)
            have HMl := Lib.hid (show ([] ++ v.drop m ++ v ++ [(⟨0, upto + 1, bo⟩ : Vt)]).length ≤ 10000 by simp; omega)
            obtain ⟨b00, b01, b02, b03, b04⟩ := (HB0.out.kept KB2.out).five
            have bz0 := (HB0.out.kept KB2.out).1
            obtain ⟨b10, b11⟩ := (HB1.out.kept KB2.out).two
            have bz1 := (HB1.out.kept KB2.out).1
            go_wp2_with (first | (refine wpList_vts _ rfl _ _ rfl W2 [] _ rfl (Vts.nil W2) _ _ _ _ (v.drop m) rfl HLd.out HD.out hb1 ?_; intro v1 w1 HV1 _) | (refine wpList_vts _ rfl _ _ rfl W2 ([] ++ v.drop m) _ rfl HV1 _ _ _ _ v rfl rfl ((HV.out.kept KB2.out).kept HV1.2) hb2 ?_; intro v2 w2 HV2 _; have b10 := (HV2.2.cell (p := ⟨z1, 0, none⟩) bz1).trans b10; have b11 := (HV2.2.cell (p := ⟨z1, 1, none⟩) bz1).trans b11; have bz1 := Nat.lt_of_lt_of_le bz1 HV2.2.size_le) | (refine wpList_vts _ rfl _ _ rfl W2 ([] ++ v.drop m ++ v) _ rfl (HV2.alloc _) _ _ 1 1 [(⟨0, upto + 1, bo⟩ : Vt)] rfl rfl (votes_one_at (HasCells.new _ _ _ _ rfl)) hb3 ?_; intro v3 w3 HV3 _))
            clear b00 b01 b02 b03 b04 bz0 b10 b11 bz1
            have k := HV3.2
            obtain ⟨B, cb, rfl⟩ := HV3.slice
            have hC3 := CellsAt.of_own HV3.1
            clear HV1 HV2 HV3 HD hfr hb1 hb2 hb3 HLd
            have KB3 := Lib.hid (KB2.out.trans k)
            clear k
            replace HA := Lib.hid (HA.out.kept KB3.out)
            replace HL := Lib.hid (HL.out.kept KB3.out)
            replace HV := Lib.hid (HV.out.kept KB3.out)
            replace HB0 := Lib.hid (HB0.out.kept KB3.out)
            replace HB1 := Lib.hid (HB1.out.kept KB3.out)
            replace K0 := Lib.hid (K0.out.trans KB3.out)
            have KB4 := Lib.hid (Kept.refl w3)
            have HM := Lib.hid hC3
            clear hC3
            generalize [] ++ v.drop m ++ v ++ [(⟨0, upto + 1, bo⟩ : Vt)] = M at *
            have HMl2 := HMl.out
            obtain ⟨b00, b01, b02, b03, b04⟩ := (HB0.out.kept KB4.out).five
            have bz0 := (HB0.out.kept KB4.out).1
            obtain ⟨b10, b11⟩ := (HB1.out.kept KB4.out).two
            have bz1 := (HB1.out.kept KB4.out).1
            refine wp_region_noPanic ?_
            refine wp_region_held_drew (S := (fun w' => w'.cell? ⟨z0, 0, none⟩ = some (.slice kA k.ws.length kc) ∧ w'.cell? ⟨z0, 1, none⟩ = some (.int .u64 k.seed) ∧ w'.cell? ⟨z0, 2, none⟩ = some (.int .i64 k.ep) ∧ w'.cell? ⟨z0, 3, none⟩ = some (.int .i64 k.nu) ∧ w'.cell? ⟨z0, 4, none⟩ = some (.int .i64 k.de) ∧ w'.cell? ⟨z1, 0, none⟩ = some (.int .u64 bo.1) ∧ w'.cell? ⟨z1, 1, none⟩ = some (.int .u64 bo.2) ∧ Kept w3 w')) (by kernel_rfl) ?_ (fun hHeld => ?_)
            · exact ⟨b00, b01, b02, b03, b04, b10, b11, (Kept.refl _).drew⟩
            refine wpAnyH_take (i := 0) (v := ?_) (by simp only [List.getElem?_toArray, List.getElem?_cons_succ, List.getElem?_cons_zero]; rfl) (by kernel_rfl) (by kernel_rfl) (by kernel_rfl) (fun _ _ _ h => h) (Or.inl ⟨by rfl, ?_⟩) (by assumption) ?_
            rotate_left
            · intro w hSw
              (try dsimp only at hSw)
              go_simp
              (try with_reducible rfl)
            simp only [Act.put, List.setIfInBounds_toArray, List.set_cons_zero, List.set_cons_succ]
            refine wpAnyH_take (i := 1) (v := ?_) (by simp only [List.getElem?_toArray, List.getElem?_cons_succ, List.getElem?_cons_zero]; rfl) (by kernel_rfl) (by kernel_rfl) (by kernel_rfl) (fun _ _ _ h => h) (Or.inl ⟨by rfl, ?_⟩) (by assumption) ?_
            rotate_left
            · intro w hSw
              (try dsimp only at hSw)
              go_simp
              (try with_reducible rfl)
            simp only [Act.put, List.setIfInBounds_toArray, List.set_cons_zero, List.set_cons_succ]
            refine wpAnyH_take (i := 2) (v := ?_) (by simp only [List.getElem?_toArray, List.getElem?_cons_succ, List.getElem?_cons_zero]; rfl) (by kernel_rfl) (by kernel_rfl) (by kernel_rfl) (fun _ _ _ h => h) (Or.inl ⟨by rfl, ?_⟩) (by assumption) ?_
            rotate_left
            · intro w hSw
              (try dsimp only at hSw)
              go_simp
              (try with_reducible rfl)
            simp only [Act.put, List.setIfInBounds_toArray, List.set_cons_zero, List.set_cons_succ]
            refine wpAnyH_take (i := 3) (v := ?_) (by simp only [List.getElem?_toArray, List.getElem?_cons_succ, List.getElem?_cons_zero]; rfl) (by kernel_rfl) (by kernel_rfl) (by kernel_rfl) (fun _ _ _ h => h) (Or.inl ⟨by rfl, ?_⟩) (by assumption) ?_
            rotate_left
            · intro w hSw
              (try dsimp only at hSw)
              go_simp
              (try with_reducible rfl)
            simp only [Act.put, List.setIfInBounds_toArray, List.set_cons_zero, List.set_cons_succ]
            refine wpAnyH_take (i := 4) (v := ?_) (by simp only [List.getElem?_toArray, List.getElem?_cons_succ, List.getElem?_cons_zero]; rfl) (by kernel_rfl) (by kernel_rfl) (by kernel_rfl) (fun _ _ _ h => h) (Or.inl ⟨by rfl, ?_⟩) (by assumption) ?_
            rotate_left
            · intro w hSw
              (try dsimp only at hSw)
              go_simp
              (try with_reducible rfl)
            simp only [Act.put, List.setIfInBounds_toArray, List.set_cons_zero, List.set_cons_succ]
            refine wpAnyH_take (i := 5) (v := ?_) (by simp only [List.getElem?_toArray, List.getElem?_cons_succ, List.getElem?_cons_zero]; rfl) (by kernel_rfl) (by kernel_rfl) (by kernel_rfl) (fun _ _ _ h => h) (Or.inl ⟨by rfl, ?_⟩) (by assumption) ?_
            rotate_left
            · intro w hSw
              (try dsimp only at hSw)
              go_simp
              (try with_reducible rfl)
            simp only [Act.put, List.setIfInBounds_toArray, List.set_cons_zero, List.set_cons_succ]
            refine wpAnyH_take (i := 7) (v := ?_) (by simp only [List.getElem?_toArray, List.getElem?_cons_succ, List.getElem?_cons_zero]; rfl) (by kernel_rfl) (by kernel_rfl) (by kernel_rfl) (fun _ _ _ h => h) (Or.inl ⟨by rfl, ?_⟩) (by assumption) ?_
            rotate_left
            · intro w hSw
              (try dsimp only at hSw)
              go_simp
              (try with_reducible rfl)
            simp only [Act.put, List.setIfInBounds_toArray, List.set_cons_zero, List.set_cons_succ]
            refine wpAnyH_take (i := 8) (v := ?_) (by simp only [List.getElem?_toArray, List.getElem?_cons_succ, List.getElem?_cons_zero]; rfl) (by kernel_rfl) (by kernel_rfl) (by kernel_rfl) (fun _ _ _ h => h) (Or.inl ⟨by rfl, ?_⟩) (by assumption) ?_
            rotate_left
            · intro w hSw
              (try dsimp only at hSw)
              go_simp
              (try with_reducible rfl)
            simp only [Act.put, List.setIfInBounds_toArray, List.set_cons_zero, List.set_cons_succ]
            refine wpAnyH_take (i := 9) (v := ?_) (by simp only [List.getElem?_toArray, List.getElem?_cons_succ, List.getElem?_cons_zero]; rfl) (by kernel_rfl) (by kernel_rfl) (by kernel_rfl) (fun _ _ _ h => h) (Or.inl ⟨by rfl, ?_⟩) (by assumption) ?_
            rotate_left
            · intro w hSw
              (try dsimp only at hSw)
              go_simp
              (try with_reducible rfl)
            simp only [Act.put, List.setIfInBounds_toArray, List.set_cons_zero, List.set_cons_succ]
            refine wpAnyH_take (i := 10) (v := ?_) (by simp only [List.getElem?_toArray, List.getElem?_cons_succ, List.getElem?_cons_zero]; rfl) (by kernel_rfl) (by kernel_rfl) (by kernel_rfl) (fun _ _ _ h => h) (Or.inl ⟨by rfl, ?_⟩) (by assumption) ?_
            rotate_left
            · intro w hSw
              (try dsimp only at hSw)
              go_simp
              (try with_reducible rfl)
            simp only [Act.put, List.setIfInBounds_toArray, List.set_cons_zero, List.set_cons_succ]
            refine wpAnyH_take (i := 11) (v := ?_) (by simp only [List.getElem?_toArray, List.getElem?_cons_succ, List.getElem?_cons_zero]; rfl) (by kernel_rfl) (by kernel_rfl) (by kernel_rfl) (fun _ _ _ h => h) (Or.inl ⟨by rfl, ?_⟩) (by assumption) ?_
            rotate_left
            · intro w hSw
              (try dsimp only at hSw)
              go_simp
              (try with_reducible rfl)
            simp only [Act.put, List.setIfInBounds_toArray, List.set_cons_zero, List.set_cons_succ]
            refine wpAnyH_take (i := 12) (v := ?_) (by simp only [List.getElem?_toArray, List.getElem?_cons_succ, List.getElem?_cons_zero]; rfl) (by kernel_rfl) (by kernel_rfl) (by kernel_rfl) (fun _ _ _ h => h) (Or.inl ⟨by rfl, ?_⟩) (by assumption) ?_
            rotate_left
            · intro w hSw
              (try dsimp only at hSw)
              go_simp
              (try with_reducible rfl)
            simp only [Act.put, List.setIfInBounds_toArray, List.set_cons_zero, List.set_cons_succ]
            refine wpAnyH_ready (rs := [6]) (by kernel_rfl) (by simp) ?_
            refine AllReadyH.cons (by simp only [List.getElem?_toArray, List.getElem?_cons_succ, List.getElem?_cons_zero]; rfl) (fun K hK => ?_) AllReadyH.nil
            go_simp
            go_at_call 17; with_reducible refine (lmdHead_any kA kc k lA lc l B cb M upto bo pct _ (by omega) (by omega) HMl2 lhw HMw.out hwbo (HA.out.kept (KB4.out.trans (hHeld.2.2.2.2.2.2.2))) (HL.out.kept (KB4.out.trans (hHeld.2.2.2.2.2.2.2))) (HM.out.kept (KB4.out.trans (hHeld.2.2.2.2.2.2.2)))).mono ?_
            rintro e w' ⟨R, hR, rfl, kk⟩
            have HR := Lib.hid hR
            clear hR
            obtain ⟨h, hh⟩ : ∃ h, h = headG (onB k l R bo pct) l := ⟨_, rfl⟩
            rw [← hh]
            have HEh := Lib.hid hh
            clear hh
            have hhh : sameI h h = true := sameI_yes rfl
            try go_wp2_with fail
            refine hK.out _ _ ?_ (fun hHeld2 => ?_)
            · exact keepP7 bz0 bz0 bz0 bz0 bz0 bz1 bz1 hHeld kk
            clear hK K hHeld
            have hHeld := hHeld2
            clear hHeld2
            try simp only [Act.put, List.setIfInBounds_toArray, List.set_cons_zero, List.set_cons_succ]
            refine wpAnyH_ready (rs := [13]) (by kernel_rfl) (by simp) ?_
            refine AllReadyH.cons (by simp only [List.getElem?_toArray, List.getElem?_cons_succ, List.getElem?_cons_zero]; rfl) (fun K hK => ?_) AllReadyH.nil
            go_simp
            go_at_call 17; with_reducible refine (lmdHead_any kA kc k lA lc l vA vc v upto bo pct _ (by omega) (by omega) (by omega) lhw vhw hwbo (HA.out.kept (KB4.out.trans (hHeld.2.2.2.2.2.2.2))) (HL.out.kept (KB4.out.trans (hHeld.2.2.2.2.2.2.2))) (HV.out.kept (KB4.out.trans (hHeld.2.2.2.2.2.2.2)))).mono ?_
            rintro e w' ⟨R2, hR2, rfl, kk⟩
            have eR : R = R2 := cnts_same HMs.out HR.out hR2
            subst eR
            rw [← HEh.out]
            try go_wp2_with fail
            refine hK.out _ _ ?_ (fun hHeld2 => ?_)
            · exact keepP7 bz0 bz0 bz0 bz0 bz0 bz1 bz1 hHeld kk
            clear hK K hHeld
            have hHeld := hHeld2
            clear hHeld2
            try simp only [Act.put, List.setIfInBounds_toArray, List.set_cons_zero, List.set_cons_succ]
            refine wpAnyH_take (i := 14) (v := ?_) (by simp only [List.getElem?_toArray, List.getElem?_cons_succ, List.getElem?_cons_zero]; rfl) (by kernel_rfl) (by kernel_rfl) (by kernel_rfl) (fun _ _ _ h => h) (Or.inl ⟨by rfl, ?_⟩) (by assumption) ?_
            rotate_left
            · intro w hSw
              (try dsimp only at hSw)
              go_simp
              (try with_reducible rfl)
            simp only [Act.put, List.setIfInBounds_toArray, List.set_cons_zero, List.set_cons_succ]
            try simp only [hhh]
            refine wpAnyH_take (i := 15) (v := ?_) (by simp only [List.getElem?_toArray, List.getElem?_cons_succ, List.getElem?_cons_zero]; rfl) (by kernel_rfl) (by kernel_rfl) (by kernel_rfl) (fun _ _ _ h => h) (Or.inl ⟨by rfl, ?_⟩) (by assumption) ?_
            rotate_left
            · intro w hSw
              (try dsimp only at hSw)
              go_simp
              (try with_reducible rfl)
            simp only [Act.put, List.setIfInBounds_toArray, List.set_cons_zero, List.set_cons_succ]
            refine wpAnyH_done (by kernel_rfl) ?_ _
            refine NoPanic.normal ?_
            have k := hHeld.2.2.2.2.2.2.2
            clear hHeld
            clear b00 b01 b02 b03 b04 bz0 b10 b11 bz1
            have KB5 := Lib.hid (KB4.out.trans k)
            clear k
            generalize w' = W5 at *
            go_wp2_with fail
            go_ret
            exact ⟨by first | rfl | (simp; done), K0.out.trans KB5.out⟩

/-! ### The row's step -/
set_option maxRecDepth 100000 in
theorem lifted (os : Os) (started : os.Started) (H : Type) (enc : TypeId × Value → H) :
    ReturnsInHanded {} Try.checked os 8 .any (Rows.lmdOrderSpec.pre6 enc Try.prog Try.f8 Rows.lmdOrderRow.domain false) (Rows.lmdOrderSpec.post enc Try.prog Try.f8 false true false false) := by
  refine returnsInHanded_of_change (C := Try.checked) own started (by kernel_rfl) Try.func8
    (ChangeSpec.witness6 (enc := enc) (C := Try.checked) false ⟨#[], #[.agg #[.slice none 0 0, .int .u64 0, .int .i64 0, .int .i64 0, .int .i64 0], .slice none 0 0, .slice none 0 0, .int .i64 0, .agg #[.int .u64 0, .int .u64 0], .int .i64 0, .int .i64 0], []⟩ 8 (by kernel_rfl) (by kernel_rfl) (by kernel_rfl) (by kernel_rfl)) ?_
  intro W base args ds gs before hval0 hW hcnd _
  have hval : ∀ (j : Nat) t v, Try.f8.params[j]? = some t → args[j]? = some v → Value.okWide Try.prog W .any base t v := hval0
  have hW' := hW
  obtain ⟨p, q, hA0, hV, rfl, hfz, hnd⟩ := hW
  have hA : DataW.TrodAll enc Try.prog W 0 (fun _ => true) true Try.f8.params.toList args.toList ds p := hA0
  rw [Try.params8] at hA hval
  obtain ⟨v0, vs0, d0, ds0, p0, q0, hargs, rfl, rfl, h0, r0⟩ := trodAll_cons hA
  obtain ⟨v1, vs1, d1, ds1, p1, q1, rfl, rfl, rfl, h1, r1⟩ := trodAll_cons r0
  obtain ⟨v2, vs2, d2, ds2, p2, q2, rfl, rfl, rfl, h2, r2⟩ := trodAll_cons r1
  obtain ⟨v3, vs3, d3, ds3, p3, q3, rfl, rfl, rfl, h3, r3⟩ := trodAll_cons r2
  obtain ⟨v4, vs4, d4, ds4, p4, q4, rfl, rfl, rfl, h4, r4⟩ := trodAll_cons r3
  obtain ⟨v5, vs5, d5, ds5, p5, q5, rfl, rfl, rfl, h5, r5⟩ := trodAll_cons r4
  obtain ⟨v6, vs6, d6, ds6, p6, q6, rfl, rfl, rfl, h6, r6⟩ := trodAll_cons r5
  obtain ⟨rfl, rfl, rfl⟩ := trodAll_nil r6
  obtain rfl : args = #[v0, v1, v2, v3, v4, v5, v6] := by cases args; simp_all
  obtain ⟨rfl, rfl⟩ := trodVars_none hV
  obtain ⟨kA, kc, k, rfl, khm, khs, khl⟩ := open_conf (hval 0 _ v0 rfl rfl) h0
  obtain ⟨lA, lc, l, rfl, lhm, lhc, lhw, lhl⟩ := open_blocks (hval 1 _ v1 rfl rfl) h1
  obtain ⟨vA, vc, v, rfl, vhm, vhc, vhw, vhl⟩ := open_votes (hval 2 _ v2 rfl rfl) h2
  obtain ⟨upto, rfl, hupto1, hupto2⟩ := open_num (hval 3 _ v3 rfl rfl) h3
  obtain ⟨bo, rfl, hbo1, hbo2⟩ := open_id (hval 4 _ v4 rfl rfl) h4
  obtain ⟨pct, rfl, hpct1, hpct2⟩ := open_num (hval 5 _ v5 rfl rfl) h5
  obtain ⟨at_, rfl, hat_1, hat_2⟩ := open_num (hval 6 _ v6 rfl rfl) h6
  clear hA0 hval0
  refine (walk W kA kc k khm khs khl lA lc l lhm lhc lhw lhl vA vc v vhm vhc vhw vhl upto hupto1 hupto2 bo hbo1 hbo2 pct hpct1 hpct2 at_ hat_1 hat_2).mono fun e W' ⟨he, hb⟩ => ?_
  subst he
  exact ⟨_, rfl, law_post rfl (by kernel_rfl) rfl hW' rfl hb⟩

theorem over : Rows.lmdOrderRow.holds Try.pinned (OpenSpec.ofChange Rows.lmdOrderSpec) :=
  OpenClaim.holds_of_wide 8 Try.f8 rfl rfl rfl rfl rfl rfl rfl ⟨rfl, rfl, rfl, rfl, rfl⟩ rfl rfl rfl rfl rfl (by kernel_rfl) Try.func8 (by kernel_rfl)
    (of_decide_eq_true (by kernel_rfl)) (by unfold Func.isWrapper; first | (rw [if_pos (by decide +kernel)]; kernel_rfl) | (rw [if_neg (by decide +kernel)]; exact ⟨rfl, rfl⟩))
    (fun os started H enc _ => lifted os started H enc)

/-- The statement. -/
theorem proved : Rows.LmdOrderSaid :=
  over
#print axioms proved

end Go.Proofs.Yteamjjkmcomabaa.lmdOrder
