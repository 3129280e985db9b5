/-
  Law WeighSplits of layer 8: of votes that count of a slot those on the blocks that stand on one are together those on that, but for what is for the block itself, whatever conf, blocks, votes, slot and id.
-/
import Derived.Test.YtajdhcanajbgoaaWeighAwake
import Derived.Test.YtajdhcanajbgoaaWeighFacts
import Derived.Test.YtajdhcanajbgoaaWeighKeep
import Derived.Test.YtajdhcanajbgoaaKeep
import Derived.Test.YtajdhcanajbgoaaDutyG
import Derived.Test.YtajdhcanajbgoaaTreeG
import Derived.Test.YtajdhcanajbgoaaVoteG
import Derived.Test.YtajdhcanajbgoaaMixG
import Derived.Test.YtajdhcanajbgoaaGround
import Derived.Test.YtajdhcanajbgoaaWeighSplitFacts
import Derived.Test.YtajdhcanajbgoaaVoteOfG
namespace Go.Proofs.Ytajdhcanajbgoaa.weighSplits
set_option maxRecDepth 100000
open Go.ChangeShapes Go.WideShapes Go.ChangeAt Go.RowKit
set_option linter.unusedVariables false

/-! ### The walk: the call returns true, and of what was there nothing has changed. -/
attribute [local go_sem high] eqIdN eqIdZ in
set_option maxRecDepth 100000 in
set_option maxHeartbeats 3200000 in
theorem walk (w : World) (kA : Option Addr) (kc : Nat) (k : Cf) (khm : k.ws.length ≤ maxLen) (khs : k.seed < 18446744073709551616) (khl : CellsAt w w.heap.size kA (intCells k.ws)) (lA : Option Addr) (lc : Nat) (l : List Bk) (lhm : l.length ≤ maxLen) (lhc : l.length ≤ lc) (lhw : WfL l) (lhl : CellsAt w w.heap.size lA (blockCells l)) (vA : Option Addr) (vc : Nat) (v : List Vt) (vhm : v.length ≤ maxLen) (vhc : v.length ≤ vc) (vhw : WfVs v) (vhl : CellsAt w w.heap.size vA (votesCells v)) (slot : Int) (hslot1 : -9223372036854775808 ≤ slot) (hslot2 : slot ≤ 9223372036854775807) (x : Nat × Nat) (hx1 : x.1 < 18446744073709551616) (hx2 : x.2 < 18446744073709551616) :
    Calls Try.prog 4 #[.agg #[.slice kA k.ws.length kc, .int .u64 k.seed, .int .i64 k.ep, .int .i64 k.nu, .int .i64 k.de], .slice lA l.length lc, .slice vA v.length vc, .int .i64 slot, .agg #[.int .u64 x.1, .int .u64 x.2]] w fun e w' => e = .returned (.bool true) ∧ Kept w w' := by
  cases hf : fewC k l v with
  | false =>
    go_enter Try.func4, Try.ntmps4
    go_wp2_with fail
    have K0 := Lib.hid (((Kept.refl w).alloc (.cells #[.slice kA k.ws.length kc, .int .u64 k.seed, .int .i64 k.ep, .int .i64 k.nu, .int .i64 k.de] 25)).alloc (.cells #[.int .u64 x.1, .int .u64 x.2] 29))
    have HA := Lib.hid (khl.kept K0.out)
    clear khl
    have HL := Lib.hid (lhl.kept K0.out)
    clear lhl
    have HV := Lib.hid (vhl.kept K0.out)
    clear vhl
    have HB0 := Lib.hid ((HasCells.new w #[.slice kA k.ws.length kc, .int .u64 k.seed, .int .i64 k.ep, .int .i64 k.nu, .int .i64 k.de] 25 (w.heap.size) (by simp)).alloc (.cells #[.int .u64 x.1, .int .u64 x.2] 29))
    have HB1 := Lib.hid (HasCells.new (w.alloc (.cells #[.slice kA k.ws.length kc, .int .u64 k.seed, .int .i64 k.ep, .int .i64 k.nu, .int .i64 k.de] 25)) #[.int .u64 x.1, .int .u64 x.2] 29 (w.heap.size + 1) (by simp))
    generalize ((w.alloc (.cells #[.slice kA k.ws.length kc, .int .u64 k.seed, .int .i64 k.ep, .int .i64 k.nu, .int .i64 k.de] 25)).alloc (.cells #[.int .u64 x.1, .int .u64 x.2] 29)) = W0 at *
    generalize w.heap.size + 1 = z1 at *
    generalize w.heap.size = z0 at *
    have KB0 := Lib.hid (Kept.refl W0)
    refine (weighAwake W0).mono ?_
    rintro e W1 ⟨rfl, k⟩
    have KB1 := Lib.hid (KB0.out.trans k)
    clear k
    obtain ⟨b00, b01, b02, b03, b04⟩ := (HB0.out.kept KB1.out).five
    have bz0 := (HB0.out.kept KB1.out).1
    obtain ⟨b10, b11⟩ := (HB1.out.kept KB1.out).two
    have bz1 := (HB1.out.kept KB1.out).1
    go_wp2_with fail
    clear b00 b01 b02 b03 b04 bz0 b10 b11 bz1
    refine (few_any kA kc k lA lc l vA vc v W1).mono ?_
    rintro e W2 ⟨rfl, k⟩
    have KB2 := Lib.hid (KB1.out.trans k)
    clear k
    rw [hf]
    obtain ⟨b00, b01, b02, b03, b04⟩ := (HB0.out.kept KB2.out).five
    have bz0 := (HB0.out.kept KB2.out).1
    obtain ⟨b10, b11⟩ := (HB1.out.kept KB2.out).two
    have bz1 := (HB1.out.kept KB2.out).1
    go_wp2_with fail
    clear b00 b01 b02 b03 b04 bz0 b10 b11 bz1
    go_ret
    exact ⟨by first | rfl | (simp; done), K0.out.trans KB2.out⟩
  | true =>
    obtain ⟨hk40, hl30, hv30⟩ := fewC_yes hf
    have HF := Lib.hid hf
    clear hf
    cases hm : mayB l with
    | false =>
      go_enter Try.func4, Try.ntmps4
      go_wp2_with fail
      have K0 := Lib.hid (((Kept.refl w).alloc (.cells #[.slice kA k.ws.length kc, .int .u64 k.seed, .int .i64 k.ep, .int .i64 k.nu, .int .i64 k.de] 25)).alloc (.cells #[.int .u64 x.1, .int .u64 x.2] 29))
      have HA := Lib.hid (khl.kept K0.out)
      clear khl
      have HL := Lib.hid (lhl.kept K0.out)
      clear lhl
      have HV := Lib.hid (vhl.kept K0.out)
      clear vhl
      have HB0 := Lib.hid ((HasCells.new w #[.slice kA k.ws.length kc, .int .u64 k.seed, .int .i64 k.ep, .int .i64 k.nu, .int .i64 k.de] 25 (w.heap.size) (by simp)).alloc (.cells #[.int .u64 x.1, .int .u64 x.2] 29))
      have HB1 := Lib.hid (HasCells.new (w.alloc (.cells #[.slice kA k.ws.length kc, .int .u64 k.seed, .int .i64 k.ep, .int .i64 k.nu, .int .i64 k.de] 25)) #[.int .u64 x.1, .int .u64 x.2] 29 (w.heap.size + 1) (by simp))
      generalize ((w.alloc (.cells #[.slice kA k.ws.length kc, .int .u64 k.seed, .int .i64 k.ep, .int .i64 k.nu, .int .i64 k.de] 25)).alloc (.cells #[.int .u64 x.1, .int .u64 x.2] 29)) = W0 at *
      generalize w.heap.size + 1 = z1 at *
      generalize w.heap.size = z0 at *
      have KB0 := Lib.hid (Kept.refl W0)
      refine (weighAwake W0).mono ?_
      rintro e W1 ⟨rfl, k⟩
      have KB1 := Lib.hid (KB0.out.trans k)
      clear k
      obtain ⟨b00, b01, b02, b03, b04⟩ := (HB0.out.kept KB1.out).five
      have bz0 := (HB0.out.kept KB1.out).1
      obtain ⟨b10, b11⟩ := (HB1.out.kept KB1.out).two
      have bz1 := (HB1.out.kept KB1.out).1
      go_wp2_with fail
      clear b00 b01 b02 b03 b04 bz0 b10 b11 bz1
      refine (few_any kA kc k lA lc l vA vc v W1).mono ?_
      rintro e W2 ⟨rfl, k⟩
      have KB2 := Lib.hid (KB1.out.trans k)
      clear k
      rw [HF.out]
      obtain ⟨b00, b01, b02, b03, b04⟩ := (HB0.out.kept KB2.out).five
      have bz0 := (HB0.out.kept KB2.out).1
      obtain ⟨b10, b11⟩ := (HB1.out.kept KB2.out).two
      have bz1 := (HB1.out.kept KB2.out).1
      go_wp2_with fail
      clear b00 b01 b02 b03 b04 bz0 b10 b11 bz1
      refine (may_any lA lc l (by omega) lhw W2 (HL.out.kept KB2.out)).mono ?_
      rintro e W3 ⟨rfl, k⟩
      have KB3 := Lib.hid (KB2.out.trans k)
      clear k
      rw [hm]
      obtain ⟨b00, b01, b02, b03, b04⟩ := (HB0.out.kept KB3.out).five
      have bz0 := (HB0.out.kept KB3.out).1
      obtain ⟨b10, b11⟩ := (HB1.out.kept KB3.out).two
      have bz1 := (HB1.out.kept KB3.out).1
      go_wp2_with fail
      clear b00 b01 b02 b03 b04 bz0 b10 b11 bz1
      go_ret
      exact ⟨by first | rfl | (simp; done), K0.out.trans KB3.out⟩
    | true =>
      have HM := Lib.hid hm
      clear hm
      go_enter Try.func4, Try.ntmps4
      go_wp2_with fail
      have K0 := Lib.hid (((Kept.refl w).alloc (.cells #[.slice kA k.ws.length kc, .int .u64 k.seed, .int .i64 k.ep, .int .i64 k.nu, .int .i64 k.de] 25)).alloc (.cells #[.int .u64 x.1, .int .u64 x.2] 29))
      have HA := Lib.hid (khl.kept K0.out)
      clear khl
      have HL := Lib.hid (lhl.kept K0.out)
      clear lhl
      have HV := Lib.hid (vhl.kept K0.out)
      clear vhl
      have HB0 := Lib.hid ((HasCells.new w #[.slice kA k.ws.length kc, .int .u64 k.seed, .int .i64 k.ep, .int .i64 k.nu, .int .i64 k.de] 25 (w.heap.size) (by simp)).alloc (.cells #[.int .u64 x.1, .int .u64 x.2] 29))
      have HB1 := Lib.hid (HasCells.new (w.alloc (.cells #[.slice kA k.ws.length kc, .int .u64 k.seed, .int .i64 k.ep, .int .i64 k.nu, .int .i64 k.de] 25)) #[.int .u64 x.1, .int .u64 x.2] 29 (w.heap.size + 1) (by simp))
      generalize ((w.alloc (.cells #[.slice kA k.ws.length kc, .int .u64 k.seed, .int .i64 k.ep, .int .i64 k.nu, .int .i64 k.de] 25)).alloc (.cells #[.int .u64 x.1, .int .u64 x.2] 29)) = W0 at *
      generalize w.heap.size + 1 = z1 at *
      generalize w.heap.size = z0 at *
      have KB0 := Lib.hid (Kept.refl W0)
      refine (weighAwake W0).mono ?_
      rintro e W1 ⟨rfl, k⟩
      have KB1 := Lib.hid (KB0.out.trans k)
      clear k
      obtain ⟨b00, b01, b02, b03, b04⟩ := (HB0.out.kept KB1.out).five
      have bz0 := (HB0.out.kept KB1.out).1
      obtain ⟨b10, b11⟩ := (HB1.out.kept KB1.out).two
      have bz1 := (HB1.out.kept KB1.out).1
      go_wp2_with fail
      clear b00 b01 b02 b03 b04 bz0 b10 b11 bz1
      refine (few_any kA kc k lA lc l vA vc v W1).mono ?_
      rintro e W2 ⟨rfl, k⟩
      have KB2 := Lib.hid (KB1.out.trans k)
      clear k
      rw [HF.out]
      obtain ⟨b00, b01, b02, b03, b04⟩ := (HB0.out.kept KB2.out).five
      have bz0 := (HB0.out.kept KB2.out).1
      obtain ⟨b10, b11⟩ := (HB1.out.kept KB2.out).two
      have bz1 := (HB1.out.kept KB2.out).1
      go_wp2_with fail
      clear b00 b01 b02 b03 b04 bz0 b10 b11 bz1
      refine (may_any lA lc l (by omega) lhw W2 (HL.out.kept KB2.out)).mono ?_
      rintro e W3 ⟨rfl, k⟩
      have KB3 := Lib.hid (KB2.out.trans k)
      clear k
      rw [HM.out]
      obtain ⟨b00, b01, b02, b03, b04⟩ := (HB0.out.kept KB3.out).five
      have bz0 := (HB0.out.kept KB3.out).1
      obtain ⟨b10, b11⟩ := (HB1.out.kept KB3.out).two
      have bz1 := (HB1.out.kept KB3.out).1
      go_wp2_with fail
      clear b00 b01 b02 b03 b04 bz0 b10 b11 bz1
      refine (ofV_any vA vc v (by omega) vhw slot W3 (HV.out.kept KB3.out)).mono ?_
      rintro e W4 ⟨R, hR, hn, A1, c1x, rfl, hc, k⟩
      have KB4 := Lib.hid (KB3.out.trans k)
      clear k
      replace HA := Lib.hid (HA.out.kept KB4.out)
      replace HL := Lib.hid (HL.out.kept KB4.out)
      replace HV := Lib.hid (HV.out.kept KB4.out)
      replace HB0 := Lib.hid (HB0.out.kept KB4.out)
      replace HB1 := Lib.hid (HB1.out.kept KB4.out)
      replace K0 := Lib.hid (K0.out.trans KB4.out)
      have KB5 := Lib.hid (Kept.refl W4)
      have HR := Lib.hid hc
      clear hc
      have HCn := Lib.hid hR
      clear hR
      have HRW := Lib.hid (HCn.out.wf vhw)
      obtain ⟨b00, b01, b02, b03, b04⟩ := (HB0.out.kept KB5.out).five
      have bz0 := (HB0.out.kept KB5.out).1
      obtain ⟨b10, b11⟩ := (HB1.out.kept KB5.out).two
      have bz1 := (HB1.out.kept KB5.out).1
      go_wp2_with fail
      clear b00 b01 b02 b03 b04 bz0 b10 b11 bz1
      refine (kids_any lA lc l (by omega) lhw x W4 (HL.out.kept KB5.out)).mono ?_
      rintro e W6 ⟨A2, c2, rfl, hk, -, k⟩
      have KB6 := Lib.hid (KB5.out.trans k)
      clear k
      replace HA := Lib.hid (HA.out.kept KB6.out)
      replace HL := Lib.hid (HL.out.kept KB6.out)
      replace HV := Lib.hid (HV.out.kept KB6.out)
      replace HR := Lib.hid (HR.out.kept KB6.out)
      replace HB0 := Lib.hid (HB0.out.kept KB6.out)
      replace HB1 := Lib.hid (HB1.out.kept KB6.out)
      replace K0 := Lib.hid (K0.out.trans KB6.out)
      have KB7 := Lib.hid (Kept.refl W6)
      have HKd := Lib.hid hk
      clear hk
      have HKW := Lib.hid (kids_wf l x)
      have HKL := Lib.hid (kids_le l x)
      have hfull := Lib.hid (fun e => chain_full (k := k) HM.out e HCn.out (x := x))
      have hempty := Lib.hid (fun e => chain_empty (x := x) HM.out e k R)
      have hks : (kidsC l x).length ≤ 30 := by have := HKL.out; omega
      obtain ⟨ks, hks0⟩ : ∃ ks, ks = kidsC l x := ⟨_, rfl⟩
      rw [← hks0] at HKd HKW hfull hks ⊢
      clear hks0 HKL
      obtain ⟨b00, b01, b02, b03, b04⟩ := (HB0.out.kept KB7.out).five
      have bz0 := (HB0.out.kept KB7.out).1
      obtain ⟨b10, b11⟩ := (HB1.out.kept KB7.out).two
      have bz1 := (HB1.out.kept KB7.out).1
      go_wp2_with fail
      clear b00 b01 b02 b03 b04 bz0 b10 b11 bz1
      go_loopw [14, 16] (fun s i w' => ∃ j : Nat, j ≤ ks.length ∧ i = .int .i64 (j : Nat) ∧ s = .int .i64 (sumC k l R (ks.take j)) ∧ Kept W6 w') (fun _ i _ => ks.length - (intOf i).toNat)
      case atStart => exact ⟨0, by omega, rfl, by simp [sumC], Kept.refl _⟩
      case round =>
        obtain ⟨j, hj, rfl, rfl, k1⟩ := hrel
        have HKr := Lib.hid k1
        have KB8 := Lib.hid (KB7.out.trans k1)
        clear k1
        by_cases hlt : j < ks.length
        · obtain ⟨z, o, rfl, hbC, c0, c1⟩ := id_at HKd.out hlt
          have hbw := Nat.lt_of_lt_of_le hbC KB8.out.size_le
          replace c0 := (KB8.out.cell (p := ⟨z, o + j * 2, none⟩) hbC).trans c0
          replace c1 := (KB8.out.cell (p := ⟨z, o + j * 2 + 1, none⟩) hbC).trans c1
          have HSt := Lib.hid (sum_take (k := k) (l := l) (m := R) hlt)
          have hb1 := sumC_bounds k l R ks j hj
          have hb2 := on_bounds k l R ks[j]
          have hj30 : j ≤ 30 := by omega
          have HO := Lib.hid (fun w' (kk : Kept wr w') => on_any kA kc k lA lc l A1 c1x R ks[j] w' (by omega) (by omega) lhw HRW.out (HKW.out _ (List.getElem_mem hlt)) ((HA.out.kept KB8.out).kept kk) ((HL.out.kept KB8.out).kept kk) ((HR.out.kept KB8.out).kept kk))
          generalize onC k l R ks[j] = p at *
          generalize ks[j] = y at *
          generalize sumC k l R (ks.take j) = s at *
          have hsw : IntKind.i64.wrap (s + p) = s + p := by rw [IntKind.wrap_i64]; omega
          obtain ⟨b00, b01, b02, b03, b04⟩ := (HB0.out.kept KB8.out).five
          have bz0 := (HB0.out.kept KB8.out).1
          obtain ⟨b10, b11⟩ := (HB1.out.kept KB8.out).two
          have bz1 := (HB1.out.kept KB8.out).1
          go_wp2_with fail
          go_region_held3 (fun w' => w'.cell? ⟨z0, 0, none⟩ = some (.slice kA k.ws.length kc) ∧ w'.cell? ⟨z0, 1, none⟩ = some (.int .u64 k.seed) ∧ w'.cell? ⟨z0, 2, none⟩ = some (.int .i64 k.ep) ∧ w'.cell? ⟨z0, 3, none⟩ = some (.int .i64 k.nu) ∧ w'.cell? ⟨z0, 4, none⟩ = some (.int .i64 k.de) ∧ w'.cell? ⟨z, o + j * 2, none⟩ = some (.int .u64 y.1) ∧ w'.cell? ⟨z, o + j * 2 + 1, none⟩ = some (.int .u64 y.2) ∧ Kept wr w')
            (first | exact ⟨b00, b01, b02, b03, b04, c0, c1, Kept.refl _⟩ | exact ⟨b00, b01, b02, b03, b04, c0, c1, (Kept.refl _).drew⟩ | assumption | exact keepP7 bz0 bz0 bz0 bz0 bz0 hbw hbw (by assumption) (by assumption))
            (first
              | (go_at_call 11; ((first | (with_reducible refine (HO.out _ (by assumption : _ ∧ _ ∧ _ ∧ _ ∧ _ ∧ _ ∧ _ ∧ Kept wr _).2.2.2.2.2.2.2).mono ?_)); rintro e w' ⟨rfl, kk⟩)))
          all_goals
            rename_i hh
            have k := hh.2.2.2.2.2.2.2
            clear hh
            replace HKr := Lib.hid (HKr.out.trans k)
            have KB9 := Lib.hid (KB8.out.trans k)
            clear k
            generalize w' = W9 at *
            clear HO c0 c1 hbw
            clear b00 b01 b02 b03 b04 bz0 b10 b11 bz1
            go_wp2_with fail
            go_roundw
            case rel => exact ⟨j + 1, by omega, by go_num, by rw [HSt.out], HKr.out⟩
            case measure => simp [intOf]; omega
        · have hjl : j = ks.length := by omega
          subst hjl
          rw [List.take_length]
          have hb1 := sumC_bounds k l R ks ks.length (Nat.le_refl _)
          rw [List.take_length] at hb1
          generalize hS : sumC k l R ks = S at *
          have HSS := Lib.hid hS
          clear hS
          replace HA := Lib.hid (HA.out.kept KB8.out)
          replace HL := Lib.hid (HL.out.kept KB8.out)
          replace HV := Lib.hid (HV.out.kept KB8.out)
          replace HR := Lib.hid (HR.out.kept KB8.out)
          replace HKd := Lib.hid (HKd.out.kept KB8.out)
          replace HB0 := Lib.hid (HB0.out.kept KB8.out)
          replace HB1 := Lib.hid (HB1.out.kept KB8.out)
          replace K0 := Lib.hid (K0.out.trans KB8.out)
          have KB9 := Lib.hid (Kept.refl wr)
          obtain ⟨b00, b01, b02, b03, b04⟩ := (HB0.out.kept KB9.out).five
          have bz0 := (HB0.out.kept KB9.out).1
          obtain ⟨b10, b11⟩ := (HB1.out.kept KB9.out).two
          have bz1 := (HB1.out.kept KB9.out).1
          go_wp2_with fail
          clear b00 b01 b02 b03 b04 bz0 b10 b11 bz1
          generalize wr = V0 at *
          go_loopw [17, 18] (fun a i w' => ∃ j : Nat, j ≤ R.length ∧ i = .int .i64 (j : Nat) ∧ Ints V0 (ownV (R.take j) x) a w') (fun _ i _ => R.length - (intOf i).toNat)
          case atStart => exact ⟨0, by omega, rfl, Ints.nil _⟩
          case round =>
            clear hj hlt
            obtain ⟨j, hj, rfl, hI⟩ := hrel
            have HI := Lib.hid hI
            have k1 := hI.2
            clear hI
            have KB10 := Lib.hid (KB9.out.trans k1)
            clear k1
            by_cases hlt : j < R.length
            · obtain ⟨z, o, rfl, hbC, c0, c1, c2, c3⟩ := vote_at HR.out hlt
              have C := Lib.hid (⟨c0, c1, c2, c3⟩ : _ ∧ _ ∧ _ ∧ _)
              clear c0 c1 c2 c3
              have hbw := Nat.lt_of_lt_of_le hbC KB10.out.size_le
              have HOl := Lib.hid (own_le R x j)
              have HRl := Lib.hid hn
              cases hs : sameI R[j].p x with
              | false =>
                have HOw := Lib.hid (own_miss hlt hs)
                have hsame := hs
                clear hs
                generalize R[j] = y at *
                generalize ownV (R.take j) x = qo at *
                obtain ⟨b10, b11⟩ := (HB1.out.kept KB10.out).two
                have bz1 := (HB1.out.kept KB10.out).1
                have c0 := (KB10.out.cell (p := ⟨z, o + j * 4, none⟩) hbC).trans C.out.1
                have c1 := (KB10.out.cell (p := ⟨z, o + j * 4 + 1, none⟩) hbC).trans C.out.2.1
                have c2 := (KB10.out.cell (p := ⟨z, o + j * 4 + 2, none⟩) hbC).trans C.out.2.2.1
                have c3 := (KB10.out.cell (p := ⟨z, o + j * 4 + 3, none⟩) hbC).trans C.out.2.2.2
                go_wp2_with fail
                go_region_held3 (fun w' => w'.cell? ⟨z1, 0, none⟩ = some (.int .u64 x.1) ∧ w'.cell? ⟨z1, 1, none⟩ = some (.int .u64 x.2) ∧ w'.cell? ⟨z, o + j * 4 + 2, none⟩ = some (.int .u64 y.p.1) ∧ w'.cell? ⟨z, o + j * 4 + 3, none⟩ = some (.int .u64 y.p.2) ∧ Kept wr w')
                  (first | exact ⟨b10, b11, c2, c3, Kept.refl _⟩ | exact ⟨b10, b11, c2, c3, (Kept.refl _).drew⟩ | assumption | exact keepP4 bz1 bz1 hbw hbw (by assumption) (by assumption))
                  (first
                    | fail)
                all_goals
                  rename_i hh
                  have k := hh.2.2.2.2
                  clear hh
                  replace HI := Lib.hid (HI.out.kept k)
                  have KB11 := Lib.hid (KB10.out.trans k)
                  clear k
                  generalize wr.drew = W11 at *
                  clear c0 c1 c2 c3 b10 b11 bz1 hbw
                  try rw [hsame]
                  clear hsame
                  go_wp2_with fail
                  go_roundw
                  case rel => exact ⟨j + 1, by omega, by go_num, by rw [HOw.out]; exact HI.out⟩
                  case measure => simp [intOf]; omega
              | true =>
                have HOw := Lib.hid (own_hit hlt hs)
                have hsame := hs
                clear hs
                generalize R[j] = y at *
                generalize ownV (R.take j) x = qo at *
                obtain ⟨b10, b11⟩ := (HB1.out.kept KB10.out).two
                have bz1 := (HB1.out.kept KB10.out).1
                have c0 := (KB10.out.cell (p := ⟨z, o + j * 4, none⟩) hbC).trans C.out.1
                have c1 := (KB10.out.cell (p := ⟨z, o + j * 4 + 1, none⟩) hbC).trans C.out.2.1
                have c2 := (KB10.out.cell (p := ⟨z, o + j * 4 + 2, none⟩) hbC).trans C.out.2.2.1
                have c3 := (KB10.out.cell (p := ⟨z, o + j * 4 + 3, none⟩) hbC).trans C.out.2.2.2
                go_wp2_with fail
                go_region_held3 (fun w' => w'.cell? ⟨z1, 0, none⟩ = some (.int .u64 x.1) ∧ w'.cell? ⟨z1, 1, none⟩ = some (.int .u64 x.2) ∧ w'.cell? ⟨z, o + j * 4 + 2, none⟩ = some (.int .u64 y.p.1) ∧ w'.cell? ⟨z, o + j * 4 + 3, none⟩ = some (.int .u64 y.p.2) ∧ Kept wr w')
                  (first | exact ⟨b10, b11, c2, c3, Kept.refl _⟩ | exact ⟨b10, b11, c2, c3, (Kept.refl _).drew⟩ | assumption | exact keepP4 bz1 bz1 hbw hbw (by assumption) (by assumption))
                  (first
                    | fail)
                all_goals
                  rename_i hh
                  have k := hh.2.2.2.2
                  clear hh
                  replace HI := Lib.hid (HI.out.kept k)
                  have KB11 := Lib.hid (KB10.out.trans k)
                  clear k
                  generalize wr.drew = W11 at *
                  clear c0 c1 c2 c3 b10 b11 bz1 hbw
                  try rw [hsame]
                  clear hsame
                  have c0 := (KB11.out.cell (p := ⟨z, o + j * 4, none⟩) hbC).trans C.out.1
                  have hll : qo.length + 1 ≤ 1000000 := by have := HOl.out; have := HRl.out; omega
                  go_wp2_with (refine wpList_ints _ rfl _ _ rfl V0 qo _ rfl (HI.out.alloc _) _ _ 1 1 [y.f] rfl rfl (CellsAt.new _ _ _ _ rfl) hll ?_; intro v' w' HI'; rw [← HOw.out] at HI')
                  go_roundw
                  case rel => exact ⟨j + 1, by omega, by go_num, HI'⟩
                  case measure => simp [intOf]; omega
            · have hjl : j = R.length := by omega
              subst hjl
              rw [List.take_length] at HI
              obtain ⟨A3, c3, rfl⟩ := HI.out.slice
              have hIc := HI.out.cells rfl
              have HOl := Lib.hid (ownV_length R x)
              have HCl := Lib.hid (chainC_length l x)
              clear HI
              replace HA := Lib.hid (HA.out.kept KB10.out)
              replace HL := Lib.hid (HL.out.kept KB10.out)
              replace HV := Lib.hid (HV.out.kept KB10.out)
              replace HR := Lib.hid (HR.out.kept KB10.out)
              replace HKd := Lib.hid (HKd.out.kept KB10.out)
              replace HB0 := Lib.hid (HB0.out.kept KB10.out)
              replace HB1 := Lib.hid (HB1.out.kept KB10.out)
              replace K0 := Lib.hid (K0.out.trans KB10.out)
              have KB11 := Lib.hid (Kept.refl wr)
              have HI := Lib.hid hIc
              clear hIc
              obtain ⟨b00, b01, b02, b03, b04⟩ := (HB0.out.kept KB11.out).five
              have bz0 := (HB0.out.kept KB11.out).1
              obtain ⟨b10, b11⟩ := (HB1.out.kept KB11.out).two
              have bz1 := (HB1.out.kept KB11.out).1
              go_wp2_with fail
              clear b00 b01 b02 b03 b04 bz0 b10 b11 bz1
              refine (chain_any lA lc l (by omega) lhw x ⟨hx1, hx2⟩ wr (HL.out.kept KB11.out)).mono ?_
              rintro e W12 ⟨A4, c4, rfl, -, -, k⟩
              have KB12 := Lib.hid (KB11.out.trans k)
              clear k
              have hcl := HCl.out
              by_cases he : (chainC l x).length = 0
              · rw [he]
                have HO := Lib.hid (hempty.out he)
                clear hfull hempty he hcl HCl
                obtain ⟨b00, b01, b02, b03, b04⟩ := (HB0.out.kept KB12.out).five
                have bz0 := (HB0.out.kept KB12.out).1
                obtain ⟨b10, b11⟩ := (HB1.out.kept KB12.out).two
                have bz1 := (HB1.out.kept KB12.out).1
                go_wp2_with fail
                clear b00 b01 b02 b03 b04 bz0 b10 b11 bz1
                refine (on_same HO.out (on_any kA kc k lA lc l A1 c1x R x W12 (by omega) (by omega) lhw HRW.out ⟨hx1, hx2⟩ (HA.out.kept KB12.out) (HL.out.kept KB12.out) (HR.out.kept KB12.out))).mono ?_
                rintro e W13 ⟨rfl, k⟩
                have KB13 := Lib.hid (KB12.out.trans k)
                clear k
                obtain ⟨b00, b01, b02, b03, b04⟩ := (HB0.out.kept KB13.out).five
                have bz0 := (HB0.out.kept KB13.out).1
                obtain ⟨b10, b11⟩ := (HB1.out.kept KB13.out).two
                have bz1 := (HB1.out.kept KB13.out).1
                go_wp2_with fail
                clear b00 b01 b02 b03 b04 bz0 b10 b11 bz1
                go_ret
                exact ⟨by first | rfl | (simp; done), K0.out.trans KB13.out⟩
              · have HO := Lib.hid (hfull.out he)
                generalize (chainC l x).length = n at *
                clear hempty hfull HCl
                have HO1 := Lib.hid (fun w' (kk0 : Kept W12 w') => on_any kA kc k lA lc l A1 c1x R x w' (by omega) (by omega) lhw HRW.out ⟨hx1, hx2⟩ ((HA.out.kept KB12.out).kept kk0) ((HL.out.kept KB12.out).kept kk0) ((HR.out.kept KB12.out).kept kk0))
                have hol : (ownV R x).length ≤ 1000000 := by have := HOl.out; omega
                have HO2 := Lib.hid (fun w' (kk0 : Kept W12 w') => weight_any kA kc k A3 (ownV R x) c3 w' ((HA.out.kept KB12.out).kept kk0) hol ((HI.out.kept KB12.out).kept kk0))
                have hb2 := weight_bounds k (ownV R x)
                have hO := HO.out
                clear HO HSS
                generalize onC k l R x = p at *
                generalize weightC k (ownV R x) = q at *
                generalize (ownV R x).length = no at *
                have hsq : IntKind.i64.wrap (S + q) = S + q := by rw [IntKind.wrap_i64]; omega
                subst hO
                obtain ⟨b00, b01, b02, b03, b04⟩ := (HB0.out.kept KB12.out).five
                have bz0 := (HB0.out.kept KB12.out).1
                obtain ⟨b10, b11⟩ := (HB1.out.kept KB12.out).two
                have bz1 := (HB1.out.kept KB12.out).1
                go_wp2_with fail
                clear b00 b01 b02 b03 b04 bz0 b10 b11 bz1
                obtain ⟨b00, b01, b02, b03, b04⟩ := (HB0.out.kept KB12.out).five
                have bz0 := (HB0.out.kept KB12.out).1
                obtain ⟨b10, b11⟩ := (HB1.out.kept KB12.out).two
                have bz1 := (HB1.out.kept KB12.out).1
                go_region_held3 (fun w' => w'.cell? ⟨z0, 0, none⟩ = some (.slice kA k.ws.length kc) ∧ w'.cell? ⟨z0, 1, none⟩ = some (.int .u64 k.seed) ∧ w'.cell? ⟨z0, 2, none⟩ = some (.int .i64 k.ep) ∧ w'.cell? ⟨z0, 3, none⟩ = some (.int .i64 k.nu) ∧ w'.cell? ⟨z0, 4, none⟩ = some (.int .i64 k.de) ∧ w'.cell? ⟨z1, 0, none⟩ = some (.int .u64 x.1) ∧ w'.cell? ⟨z1, 1, none⟩ = some (.int .u64 x.2) ∧ Kept W12 w')
                  (first | exact ⟨b00, b01, b02, b03, b04, b10, b11, Kept.refl _⟩ | exact ⟨b00, b01, b02, b03, b04, b10, b11, (Kept.refl _).drew⟩ | assumption | exact keepP7 bz0 bz0 bz0 bz0 bz0 bz1 bz1 (by assumption) (by assumption))
                  (first
                    | (go_at_call 11; ((first | (with_reducible refine (HO1.out _ (by assumption : _ ∧ _ ∧ _ ∧ _ ∧ _ ∧ _ ∧ _ ∧ Kept W12 _).2.2.2.2.2.2.2).mono ?_)); rintro e w' ⟨rfl, kk⟩))
                    | (go_at_call 19; ((first | (with_reducible refine (HO2.out _ (by assumption : _ ∧ _ ∧ _ ∧ _ ∧ _ ∧ _ ∧ _ ∧ Kept W12 _).2.2.2.2.2.2.2).mono ?_)); rintro e w' ⟨rfl, kk⟩)))
                all_goals
                  rename_i hh
                  have k := hh.2.2.2.2.2.2.2
                  clear hh
                  have KB13 := Lib.hid (KB12.out.trans k)
                  clear k
                  generalize w' = W13 at *
                  go_wp2_with fail
                  go_ret
                  exact ⟨by first | rfl | (simp; done), K0.out.trans KB13.out⟩

/-! ### The row's step -/
set_option maxRecDepth 100000 in
theorem lifted (os : Os) (started : os.Started) (H : Type) (enc : TypeId × Value → H) :
    ReturnsInHanded {} Try.checked os 4 .any (Rows.weighSplitsSpec.pre6 enc Try.prog Try.f4 Rows.weighSplitsRow.domain false) (Rows.weighSplitsSpec.post enc Try.prog Try.f4 false true false false) := by
  refine returnsInHanded_of_change (C := Try.checked) own started (by kernel_rfl) Try.func4
    (ChangeSpec.witness6 (enc := enc) (C := Try.checked) false ⟨#[], #[.agg #[.slice none 0 0, .int .u64 0, .int .i64 0, .int .i64 0, .int .i64 0], .slice none 0 0, .slice none 0 0, .int .i64 0, .agg #[.int .u64 0, .int .u64 0]], []⟩ 8 (by kernel_rfl) (by kernel_rfl) (by kernel_rfl) (by kernel_rfl)) ?_
  intro W base args ds gs before hval0 hW hcnd _
  have hval : ∀ (j : Nat) t v, Try.f4.params[j]? = some t → args[j]? = some v → Value.okWide Try.prog W .any base t v := hval0
  have hW' := hW
  obtain ⟨p, q, hA0, hV, rfl, hfz, hnd⟩ := hW
  have hA : DataW.TrodAll enc Try.prog W 0 (fun _ => true) true Try.f4.params.toList args.toList ds p := hA0
  rw [Try.params4] at hA hval
  obtain ⟨v0, vs0, d0, ds0, p0, q0, hargs, rfl, rfl, h0, r0⟩ := trodAll_cons hA
  obtain ⟨v1, vs1, d1, ds1, p1, q1, rfl, rfl, rfl, h1, r1⟩ := trodAll_cons r0
  obtain ⟨v2, vs2, d2, ds2, p2, q2, rfl, rfl, rfl, h2, r2⟩ := trodAll_cons r1
  obtain ⟨v3, vs3, d3, ds3, p3, q3, rfl, rfl, rfl, h3, r3⟩ := trodAll_cons r2
  obtain ⟨v4, vs4, d4, ds4, p4, q4, rfl, rfl, rfl, h4, r4⟩ := trodAll_cons r3
  obtain ⟨rfl, rfl, rfl⟩ := trodAll_nil r4
  obtain rfl : args = #[v0, v1, v2, v3, v4] := by cases args; simp_all
  obtain ⟨rfl, rfl⟩ := trodVars_none hV
  obtain ⟨kA, kc, k, rfl, khm, khs, khl⟩ := open_conf (hval 0 _ v0 rfl rfl) h0
  obtain ⟨lA, lc, l, rfl, lhm, lhc, lhw, lhl⟩ := open_blocks (hval 1 _ v1 rfl rfl) h1
  obtain ⟨vA, vc, v, rfl, vhm, vhc, vhw, vhl⟩ := open_votes (hval 2 _ v2 rfl rfl) h2
  obtain ⟨slot, rfl, hslot1, hslot2⟩ := open_num (hval 3 _ v3 rfl rfl) h3
  obtain ⟨x, rfl, hx1, hx2⟩ := open_id (hval 4 _ v4 rfl rfl) h4
  clear hA0 hval0
  refine (walk W kA kc k khm khs khl lA lc l lhm lhc lhw lhl vA vc v vhm vhc vhw vhl slot hslot1 hslot2 x hx1 hx2).mono fun e W' ⟨he, hb⟩ => ?_
  subst he
  exact ⟨_, rfl, law_post rfl (by kernel_rfl) rfl hW' rfl hb⟩

theorem over : Rows.weighSplitsRow.holds Try.pinned (OpenSpec.ofChange Rows.weighSplitsSpec) :=
  OpenClaim.holds_of_wide 4 Try.f4 rfl rfl rfl rfl rfl rfl rfl ⟨rfl, rfl, rfl, rfl, rfl⟩ rfl rfl rfl rfl rfl (by kernel_rfl) Try.func4 (by kernel_rfl)
    (of_decide_eq_true (by kernel_rfl)) (by unfold Func.isWrapper; first | (rw [if_pos (by decide +kernel)]; kernel_rfl) | (rw [if_neg (by decide +kernel)]; exact ⟨rfl, rfl⟩))
    (fun os started H enc _ => lifted os started H enc)

/-- The statement. -/
theorem proved : Rows.WeighSplitsSaid :=
  over
#print axioms proved

end Go.Proofs.Ytajdhcanajbgoaa.weighSplits
