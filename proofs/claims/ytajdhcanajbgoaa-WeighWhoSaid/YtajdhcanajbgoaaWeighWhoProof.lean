/-
  Law WeighWho of layer 8: what is on a block is what those weigh who have a vote for it, or for what stands on it, and votes for what is not known weigh nothing, whatever conf, blocks, votes and id.
-/
import Derived.Test.YtajdhcanajbgoaaWeighAwake
import Derived.Test.YtajdhcanajbgoaaWeighFacts
import Derived.Test.YtajdhcanajbgoaaWeighKeep
import Derived.Test.YtajdhcanajbgoaaKeep
import Derived.Test.YtajdhcanajbgoaaDutyG
import Derived.Test.YtajdhcanajbgoaaTreeG
import Derived.Test.YtajdhcanajbgoaaVoteG
import Derived.Test.YtajdhcanajbgoaaMixG
import Derived.Test.YtajdhcanajbgoaaGround
import Derived.Test.YtajdhcanajbgoaaWeighRows
import Derived.Test.YtajdhcanajbgoaaVoteStep
namespace Go.Proofs.Ytajdhcanajbgoaa.weighWho
set_option maxRecDepth 100000
open Go.ChangeShapes Go.WideShapes Go.ChangeAt Go.RowKit
set_option linter.unusedVariables false

/-! ### The walk: the call returns true, and of what was there nothing has changed. -/
attribute [local go_sem high] eqIdN eqIdZ in
set_option maxRecDepth 100000 in
set_option maxHeartbeats 3200000 in
theorem walk (w : World) (kA : Option Addr) (kc : Nat) (k : Cf) (khm : k.ws.length ≤ maxLen) (khs : k.seed < 18446744073709551616) (khl : CellsAt w w.heap.size kA (intCells k.ws)) (lA : Option Addr) (lc : Nat) (l : List Bk) (lhm : l.length ≤ maxLen) (lhc : l.length ≤ lc) (lhw : WfL l) (lhl : CellsAt w w.heap.size lA (blockCells l)) (vA : Option Addr) (vc : Nat) (v : List Vt) (vhm : v.length ≤ maxLen) (vhc : v.length ≤ vc) (vhw : WfVs v) (vhl : CellsAt w w.heap.size vA (votesCells v)) (x : Nat × Nat) (hx1 : x.1 < 18446744073709551616) (hx2 : x.2 < 18446744073709551616) :
    Calls Try.prog 7 #[.agg #[.slice kA k.ws.length kc, .int .u64 k.seed, .int .i64 k.ep, .int .i64 k.nu, .int .i64 k.de], .slice lA l.length lc, .slice vA v.length vc, .agg #[.int .u64 x.1, .int .u64 x.2]] w fun e w' => e = .returned (.bool true) ∧ Kept w w' := by
  cases hf : fewC k l v with
  | false =>
    go_enter Try.func7, Try.ntmps7
    go_wp2_with fail
    have K0 := Lib.hid (((Kept.refl w).alloc (.cells #[.slice kA k.ws.length kc, .int .u64 k.seed, .int .i64 k.ep, .int .i64 k.nu, .int .i64 k.de] 25)).alloc (.cells #[.int .u64 x.1, .int .u64 x.2] 29))
    have HA := Lib.hid (khl.kept K0.out)
    clear khl
    have HL := Lib.hid (lhl.kept K0.out)
    clear lhl
    have HV := Lib.hid (vhl.kept K0.out)
    clear vhl
    have HB0 := Lib.hid ((HasCells.new w #[.slice kA k.ws.length kc, .int .u64 k.seed, .int .i64 k.ep, .int .i64 k.nu, .int .i64 k.de] 25 (w.heap.size) (by simp)).alloc (.cells #[.int .u64 x.1, .int .u64 x.2] 29))
    have HB1 := Lib.hid (HasCells.new (w.alloc (.cells #[.slice kA k.ws.length kc, .int .u64 k.seed, .int .i64 k.ep, .int .i64 k.nu, .int .i64 k.de] 25)) #[.int .u64 x.1, .int .u64 x.2] 29 (w.heap.size + 1) (by simp))
    generalize ((w.alloc (.cells #[.slice kA k.ws.length kc, .int .u64 k.seed, .int .i64 k.ep, .int .i64 k.nu, .int .i64 k.de] 25)).alloc (.cells #[.int .u64 x.1, .int .u64 x.2] 29)) = W0 at *
    generalize w.heap.size + 1 = z1 at *
    generalize w.heap.size = z0 at *
    have KB0 := Lib.hid (Kept.refl W0)
    refine (weighAwake W0).mono ?_
    rintro e W1 ⟨rfl, k⟩
    have KB1 := Lib.hid (KB0.out.trans k)
    clear k
    obtain ⟨b00, b01, b02, b03, b04⟩ := (HB0.out.kept KB1.out).five
    have bz0 := (HB0.out.kept KB1.out).1
    obtain ⟨b10, b11⟩ := (HB1.out.kept KB1.out).two
    have bz1 := (HB1.out.kept KB1.out).1
    go_wp2_with fail
    clear b00 b01 b02 b03 b04 bz0 b10 b11 bz1
    refine (few_any kA kc k lA lc l vA vc v W1).mono ?_
    rintro e W2 ⟨rfl, k⟩
    have KB2 := Lib.hid (KB1.out.trans k)
    clear k
    rw [hf]
    obtain ⟨b00, b01, b02, b03, b04⟩ := (HB0.out.kept KB2.out).five
    have bz0 := (HB0.out.kept KB2.out).1
    obtain ⟨b10, b11⟩ := (HB1.out.kept KB2.out).two
    have bz1 := (HB1.out.kept KB2.out).1
    go_wp2_with fail
    clear b00 b01 b02 b03 b04 bz0 b10 b11 bz1
    go_ret
    exact ⟨by first | rfl | (simp; done), K0.out.trans KB2.out⟩
  | true =>
    obtain ⟨hk40, hl30, hv30⟩ := fewC_yes hf
    have HF := Lib.hid hf
    clear hf
    go_enter Try.func7, Try.ntmps7
    go_wp2_with fail
    have K0 := Lib.hid (((Kept.refl w).alloc (.cells #[.slice kA k.ws.length kc, .int .u64 k.seed, .int .i64 k.ep, .int .i64 k.nu, .int .i64 k.de] 25)).alloc (.cells #[.int .u64 x.1, .int .u64 x.2] 29))
    have HA := Lib.hid (khl.kept K0.out)
    clear khl
    have HL := Lib.hid (lhl.kept K0.out)
    clear lhl
    have HV := Lib.hid (vhl.kept K0.out)
    clear vhl
    have HB0 := Lib.hid ((HasCells.new w #[.slice kA k.ws.length kc, .int .u64 k.seed, .int .i64 k.ep, .int .i64 k.nu, .int .i64 k.de] 25 (w.heap.size) (by simp)).alloc (.cells #[.int .u64 x.1, .int .u64 x.2] 29))
    have HB1 := Lib.hid (HasCells.new (w.alloc (.cells #[.slice kA k.ws.length kc, .int .u64 k.seed, .int .i64 k.ep, .int .i64 k.nu, .int .i64 k.de] 25)) #[.int .u64 x.1, .int .u64 x.2] 29 (w.heap.size + 1) (by simp))
    generalize ((w.alloc (.cells #[.slice kA k.ws.length kc, .int .u64 k.seed, .int .i64 k.ep, .int .i64 k.nu, .int .i64 k.de] 25)).alloc (.cells #[.int .u64 x.1, .int .u64 x.2] 29)) = W0 at *
    generalize w.heap.size + 1 = z1 at *
    generalize w.heap.size = z0 at *
    have KB0 := Lib.hid (Kept.refl W0)
    refine (weighAwake W0).mono ?_
    rintro e W1 ⟨rfl, k⟩
    have KB1 := Lib.hid (KB0.out.trans k)
    clear k
    obtain ⟨b00, b01, b02, b03, b04⟩ := (HB0.out.kept KB1.out).five
    have bz0 := (HB0.out.kept KB1.out).1
    obtain ⟨b10, b11⟩ := (HB1.out.kept KB1.out).two
    have bz1 := (HB1.out.kept KB1.out).1
    go_wp2_with fail
    clear b00 b01 b02 b03 b04 bz0 b10 b11 bz1
    refine (few_any kA kc k lA lc l vA vc v W1).mono ?_
    rintro e W2 ⟨rfl, k⟩
    have KB2 := Lib.hid (KB1.out.trans k)
    clear k
    rw [HF.out]
    obtain ⟨b00, b01, b02, b03, b04⟩ := (HB0.out.kept KB2.out).five
    have bz0 := (HB0.out.kept KB2.out).1
    obtain ⟨b10, b11⟩ := (HB1.out.kept KB2.out).two
    have bz1 := (HB1.out.kept KB2.out).1
    go_wp2_with fail
    clear b00 b01 b02 b03 b04 bz0 b10 b11 bz1
    go_loopw [11, 12, 13] (fun a b i w' => ∃ j : Nat, j ≤ v.length ∧ i = .int .i64 (j : Nat) ∧ IV W2 (whoC l (v.take j) x) a (knownV l (v.take j)) b w') (fun _ _ i _ => v.length - (intOf i).toNat)
    case atStart => exact ⟨0, by omega, rfl, IV.nil _⟩
    case round =>
      obtain ⟨j, hj, rfl, hI⟩ := hrel
      have HI := Lib.hid hI
      have k := hI.1.2
      clear hI
      have KB3 := Lib.hid (KB2.out.trans k)
      clear k
      by_cases hlt : j < v.length
      · obtain ⟨z, o, rfl, hbC, c0, c1, c2, c3⟩ := vote_at HV.out hlt
        have C := Lib.hid (⟨c0, c1, c2, c3⟩ : _ ∧ _ ∧ _ ∧ _)
        clear c0 c1 c2 c3
        have HY := Lib.hid (vhw _ (List.getElem_mem hlt))
        have HWl := Lib.hid (who_le l v x j)
        have HKl := Lib.hid (known_le l v j)
        have HCl := Lib.hid (chainC_length l v[j].p)
        cases hu : underC l x v[j].p with
        | false =>
          have HU := Lib.hid (fun w' (kk : Kept wr w') => under_is lA lc l (by omega) lhw x v[j].p HY.out.2.2 w' ((HL.out.kept KB3.out).kept kk) hu)
          have HWn := Lib.hid (who_miss hlt hu)
          clear hu
          have HCh := Lib.hid (fun w' (kk : Kept W0 w') => chain_any lA lc l (by omega) lhw v[j].p HY.out.2.2 w' (HL.out.kept kk))
          have hhit := Lib.hid (fun q => known_hit (l := l) hlt q)
          have hmiss := Lib.hid (fun q => known_miss (l := l) hlt q)
          generalize (chainC l v[j].p) = ch at *
          generalize v[j] = y at *
          generalize whoC l (v.take j) x = qw at *
          generalize knownV l (v.take j) = qk at *
          obtain ⟨b10, b11⟩ := (HB1.out.kept KB3.out).two
          have bz1 := (HB1.out.kept KB3.out).1
          have c0 := (KB3.out.cell (p := ⟨z, o + j * 4, none⟩) hbC).trans C.out.1
          have c1 := (KB3.out.cell (p := ⟨z, o + j * 4 + 1, none⟩) hbC).trans C.out.2.1
          have c2 := (KB3.out.cell (p := ⟨z, o + j * 4 + 2, none⟩) hbC).trans C.out.2.2.1
          have c3 := (KB3.out.cell (p := ⟨z, o + j * 4 + 3, none⟩) hbC).trans C.out.2.2.2
          have hbw := Nat.lt_of_lt_of_le hbC KB3.out.size_le
          go_wp2_with fail
          go_region_held3 (fun w' => w'.cell? ⟨z1, 0, none⟩ = some (.int .u64 x.1) ∧ w'.cell? ⟨z1, 1, none⟩ = some (.int .u64 x.2) ∧ w'.cell? ⟨z, o + j * 4 + 2, none⟩ = some (.int .u64 y.p.1) ∧ w'.cell? ⟨z, o + j * 4 + 3, none⟩ = some (.int .u64 y.p.2) ∧ Kept wr w')
            (first | exact ⟨b10, b11, c2, c3, Kept.refl _⟩ | exact ⟨b10, b11, c2, c3, (Kept.refl _).drew⟩ | assumption | exact keepP4 bz1 bz1 hbw hbw (by assumption) (by assumption))
            (first
              | (go_at_call 21; ((first | (with_reducible refine (HU.out _ (by assumption : _ ∧ _ ∧ _ ∧ _ ∧ Kept wr _).2.2.2.2).mono ?_)); rintro e w' ⟨rfl, kk⟩)))
          rename_i hh
          have k := hh.2.2.2.2
          clear hh
          replace HI := Lib.hid (HI.out.kept k)
          have KB4 := Lib.hid (KB3.out.trans k)
          clear k
          generalize w' = W4 at *
          clear HU c0 c1 c2 c3 b10 b11 bz1 hbw kk
          have c0 := (KB4.out.cell (p := ⟨z, o + j * 4, none⟩) hbC).trans C.out.1
          have c1 := (KB4.out.cell (p := ⟨z, o + j * 4 + 1, none⟩) hbC).trans C.out.2.1
          have c2 := (KB4.out.cell (p := ⟨z, o + j * 4 + 2, none⟩) hbC).trans C.out.2.2.1
          have c3 := (KB4.out.cell (p := ⟨z, o + j * 4 + 3, none⟩) hbC).trans C.out.2.2.2
          go_wp2_with fail
          clear c0 c1 c2 c3
          refine (HCh.out _ KB4.out).mono ?_
          rintro e W5 ⟨A1, ca1, rfl, -, -, k⟩
          replace HI := Lib.hid (HI.out.kept k)
          have KB5 := Lib.hid (KB4.out.trans k)
          clear k
          have hcl := HCl.out
          generalize hch : ch.length = n at *
          by_cases hp : 0 < n
          · have HKn := Lib.hid (hhit.out hp)
            have hll : qk.length + 1 ≤ 10000000 := by have := HKl.out; omega
            have c0 := (KB5.out.cell (p := ⟨z, o + j * 4, none⟩) hbC).trans C.out.1
            have c1 := (KB5.out.cell (p := ⟨z, o + j * 4 + 1, none⟩) hbC).trans C.out.2.1
            have c2 := (KB5.out.cell (p := ⟨z, o + j * 4 + 2, none⟩) hbC).trans C.out.2.2.1
            have c3 := (KB5.out.cell (p := ⟨z, o + j * 4 + 3, none⟩) hbC).trans C.out.2.2.2
            go_wp2_with (refine wpList_iv2 _ rfl _ _ rfl W2 qw qk _ _ rfl (HI.out.alloc _) _ _ 1 1 [y] rfl rfl (votes_one _ _ _ _ rfl) hll ?_; intro v2 w2 HI2)
            rw [← HKn.out] at HI2
            rw [← HWn.out] at HI2
            go_roundw
            case rel => exact ⟨j + 1, by omega, by go_num, HI2⟩
            case measure => simp [intOf]; omega
          · have HKn := Lib.hid (hmiss.out hp)
            go_wp2_with fail
            have HI2 := HI.out
            rw [← HKn.out, ← HWn.out] at HI2
            go_roundw
            case rel => exact ⟨j + 1, by omega, by go_num, HI2⟩
            case measure => simp [intOf]; omega
        | true =>
          have HU := Lib.hid (fun w' (kk : Kept wr w') => under_is lA lc l (by omega) lhw x v[j].p HY.out.2.2 w' ((HL.out.kept KB3.out).kept kk) hu)
          have HWn := Lib.hid (who_hit hlt hu)
          clear hu
          have HCh := Lib.hid (fun w' (kk : Kept W0 w') => chain_any lA lc l (by omega) lhw v[j].p HY.out.2.2 w' (HL.out.kept kk))
          have hhit := Lib.hid (fun q => known_hit (l := l) hlt q)
          have hmiss := Lib.hid (fun q => known_miss (l := l) hlt q)
          generalize (chainC l v[j].p) = ch at *
          generalize v[j] = y at *
          generalize whoC l (v.take j) x = qw at *
          generalize knownV l (v.take j) = qk at *
          obtain ⟨b10, b11⟩ := (HB1.out.kept KB3.out).two
          have bz1 := (HB1.out.kept KB3.out).1
          have c0 := (KB3.out.cell (p := ⟨z, o + j * 4, none⟩) hbC).trans C.out.1
          have c1 := (KB3.out.cell (p := ⟨z, o + j * 4 + 1, none⟩) hbC).trans C.out.2.1
          have c2 := (KB3.out.cell (p := ⟨z, o + j * 4 + 2, none⟩) hbC).trans C.out.2.2.1
          have c3 := (KB3.out.cell (p := ⟨z, o + j * 4 + 3, none⟩) hbC).trans C.out.2.2.2
          have hbw := Nat.lt_of_lt_of_le hbC KB3.out.size_le
          go_wp2_with fail
          go_region_held3 (fun w' => w'.cell? ⟨z1, 0, none⟩ = some (.int .u64 x.1) ∧ w'.cell? ⟨z1, 1, none⟩ = some (.int .u64 x.2) ∧ w'.cell? ⟨z, o + j * 4 + 2, none⟩ = some (.int .u64 y.p.1) ∧ w'.cell? ⟨z, o + j * 4 + 3, none⟩ = some (.int .u64 y.p.2) ∧ Kept wr w')
            (first | exact ⟨b10, b11, c2, c3, Kept.refl _⟩ | exact ⟨b10, b11, c2, c3, (Kept.refl _).drew⟩ | assumption | exact keepP4 bz1 bz1 hbw hbw (by assumption) (by assumption))
            (first
              | (go_at_call 21; ((first | (with_reducible refine (HU.out _ (by assumption : _ ∧ _ ∧ _ ∧ _ ∧ Kept wr _).2.2.2.2).mono ?_)); rintro e w' ⟨rfl, kk⟩)))
          rename_i hh
          have k := hh.2.2.2.2
          clear hh
          replace HI := Lib.hid (HI.out.kept k)
          have KB4 := Lib.hid (KB3.out.trans k)
          clear k
          generalize w' = W4 at *
          clear HU c0 c1 c2 c3 b10 b11 bz1 hbw kk
          have c0 := (KB4.out.cell (p := ⟨z, o + j * 4, none⟩) hbC).trans C.out.1
          have c1 := (KB4.out.cell (p := ⟨z, o + j * 4 + 1, none⟩) hbC).trans C.out.2.1
          have c2 := (KB4.out.cell (p := ⟨z, o + j * 4 + 2, none⟩) hbC).trans C.out.2.2.1
          have c3 := (KB4.out.cell (p := ⟨z, o + j * 4 + 3, none⟩) hbC).trans C.out.2.2.2
          have hll : qw.length + 1 ≤ 1000000 := by have := HWl.out; omega
          go_wp2_with (refine wpList_iv1 _ rfl _ _ rfl W2 qw qk _ _ rfl (HI.out.alloc _) _ _ 1 1 [y.f] rfl rfl (CellsAt.new _ _ _ _ rfl) hll ?_; intro v' w' HI'; replace HI := Lib.hid HI'; clear HI'; have KV := Lib.hid (KB2.out.trans HI.out.1.2); have d0 := (KV.out.cell (p := ⟨z, o + j * 4, none⟩) hbC).trans C.out.1; have d1 := (KV.out.cell (p := ⟨z, o + j * 4 + 1, none⟩) hbC).trans C.out.2.1; have d2 := (KV.out.cell (p := ⟨z, o + j * 4 + 2, none⟩) hbC).trans C.out.2.2.1; have d3 := (KV.out.cell (p := ⟨z, o + j * 4 + 3, none⟩) hbC).trans C.out.2.2.2)
          clear c0 c1 c2 c3 d0 d1 d2 d3 hll
          generalize w' = V at *
          refine (HCh.out _ KV.out).mono ?_
          rintro e W5 ⟨A1, ca1, rfl, -, -, k⟩
          replace HI := Lib.hid (HI.out.kept k)
          have KB5 := Lib.hid (KV.out.trans k)
          clear k
          have hcl := HCl.out
          generalize hch : ch.length = n at *
          by_cases hp : 0 < n
          · have HKn := Lib.hid (hhit.out hp)
            have hll : qk.length + 1 ≤ 10000000 := by have := HKl.out; omega
            have c0 := (KB5.out.cell (p := ⟨z, o + j * 4, none⟩) hbC).trans C.out.1
            have c1 := (KB5.out.cell (p := ⟨z, o + j * 4 + 1, none⟩) hbC).trans C.out.2.1
            have c2 := (KB5.out.cell (p := ⟨z, o + j * 4 + 2, none⟩) hbC).trans C.out.2.2.1
            have c3 := (KB5.out.cell (p := ⟨z, o + j * 4 + 3, none⟩) hbC).trans C.out.2.2.2
            go_wp2_with (refine wpList_iv2 _ rfl _ _ rfl W2 (qw ++ [y.f]) qk _ _ rfl (HI.out.alloc _) _ _ 1 1 [y] rfl rfl (votes_one _ _ _ _ rfl) hll ?_; intro v2 w2 HI2)
            rw [← HKn.out] at HI2
            rw [← HWn.out] at HI2
            go_roundw
            case rel => exact ⟨j + 1, by omega, by go_num, HI2⟩
            case measure => simp [intOf]; omega
          · have HKn := Lib.hid (hmiss.out hp)
            go_wp2_with fail
            have HI2 := HI.out
            rw [← HKn.out, ← HWn.out] at HI2
            go_roundw
            case rel => exact ⟨j + 1, by omega, by go_num, HI2⟩
            case measure => simp [intOf]; omega
      · have hjl : j = v.length := by omega
        subst hjl
        have HT := Lib.hid (show v.take v.length = v from List.take_length)
        rw [HT.out] at HI
        clear HT
        obtain ⟨A1, ca1, rfl⟩ := HI.out.1.slice
        obtain ⟨A2, ca2, rfl⟩ := HI.out.2.1.slice
        have HC1 := Lib.hid (HI.out.1.cells rfl)
        have HC2 := Lib.hid (HI.out.2.1.cells rfl)
        clear HI
        have HO1 := Lib.hid (fun w' (kk0 : Kept wr w') => (fun (kk : Kept W0 w') => on_any kA kc k lA lc l vA vc v x w' (by omega) (by omega) lhw vhw ⟨hx1, hx2⟩ (HA.out.kept kk) (HL.out.kept kk) (HV.out.kept kk)) (KB3.out.trans kk0))
        have HKW := Lib.hid (known_wf (l := l) WfV vhw)
        have HKL := Lib.hid (knownV_length l v)
        have hkl : (knownV l v).length ≤ 100000 := by have := HKL.out; omega
        have HWL := Lib.hid (whoC_length l v x)
        have hwl : (whoC l v x).length ≤ 1000000 := by have := HWL.out; omega
        have HO2 := Lib.hid (fun w' (kk0 : Kept wr w') => on_same (known_on k l v x) (on_any kA kc k lA lc l A2 ca2 (knownV l v) x w' (by omega) hkl lhw HKW.out ⟨hx1, hx2⟩ ((HA.out.kept KB3.out).kept kk0) ((HL.out.kept KB3.out).kept kk0) (HC2.out.kept kk0)))
        have HO3 := Lib.hid (fun w' (kk0 : Kept wr w') => on_same (show weightC k (whoC l v x) = onC k l v x from rfl) (weight_any kA kc k A1 (whoC l v x) ca1 w' ((HA.out.kept KB3.out).kept kk0) hwl (HC1.out.kept kk0)))
        generalize onC k l v x = p at *
        generalize (whoC l v x).length = nw at *
        generalize (knownV l v).length = nk at *
        obtain ⟨b00, b01, b02, b03, b04⟩ := (HB0.out.kept KB3.out).five
        have bz0 := (HB0.out.kept KB3.out).1
        obtain ⟨b10, b11⟩ := (HB1.out.kept KB3.out).two
        have bz1 := (HB1.out.kept KB3.out).1
        go_wp2_with fail
        go_region_held3 (fun w' => w'.cell? ⟨z0, 0, none⟩ = some (.slice kA k.ws.length kc) ∧ w'.cell? ⟨z0, 1, none⟩ = some (.int .u64 k.seed) ∧ w'.cell? ⟨z0, 2, none⟩ = some (.int .i64 k.ep) ∧ w'.cell? ⟨z0, 3, none⟩ = some (.int .i64 k.nu) ∧ w'.cell? ⟨z0, 4, none⟩ = some (.int .i64 k.de) ∧ w'.cell? ⟨z1, 0, none⟩ = some (.int .u64 x.1) ∧ w'.cell? ⟨z1, 1, none⟩ = some (.int .u64 x.2) ∧ Kept wr w')
          (first | exact ⟨b00, b01, b02, b03, b04, b10, b11, Kept.refl _⟩ | exact ⟨b00, b01, b02, b03, b04, b10, b11, (Kept.refl _).drew⟩ | assumption | exact keepP7 bz0 bz0 bz0 bz0 bz0 bz1 bz1 (by assumption) (by assumption))
          (first
            | (go_at_call 11; ((first | (with_reducible refine (HO1.out _ (by assumption : _ ∧ _ ∧ _ ∧ _ ∧ _ ∧ _ ∧ _ ∧ Kept wr _).2.2.2.2.2.2.2).mono ?_) | (with_reducible refine (HO2.out _ (by assumption : _ ∧ _ ∧ _ ∧ _ ∧ _ ∧ _ ∧ _ ∧ Kept wr _).2.2.2.2.2.2.2).mono ?_)); rintro e w' ⟨rfl, kk⟩))
            | (go_at_call 19; ((first | (with_reducible refine (HO3.out _ (by assumption : _ ∧ _ ∧ _ ∧ _ ∧ _ ∧ _ ∧ _ ∧ Kept wr _).2.2.2.2.2.2.2).mono ?_)); rintro e w' ⟨rfl, kk⟩)))
        all_goals
          rename_i hh
          have k := hh.2.2.2.2.2.2.2
          clear hh
          have KB4 := Lib.hid (KB3.out.trans k)
          clear k
          generalize w' = W4 at *
          go_wp2_with fail
          go_ret
          exact ⟨by first | rfl | (simp; done), K0.out.trans KB4.out⟩

/-! ### The row's step -/
set_option maxRecDepth 100000 in
theorem lifted (os : Os) (started : os.Started) (H : Type) (enc : TypeId × Value → H) :
    ReturnsInHanded {} Try.checked os 7 .any (Rows.weighWhoSpec.pre6 enc Try.prog Try.f7 Rows.weighWhoRow.domain false) (Rows.weighWhoSpec.post enc Try.prog Try.f7 false true false false) := by
  refine returnsInHanded_of_change (C := Try.checked) own started (by kernel_rfl) Try.func7
    (ChangeSpec.witness6 (enc := enc) (C := Try.checked) false ⟨#[], #[.agg #[.slice none 0 0, .int .u64 0, .int .i64 0, .int .i64 0, .int .i64 0], .slice none 0 0, .slice none 0 0, .agg #[.int .u64 0, .int .u64 0]], []⟩ 8 (by kernel_rfl) (by kernel_rfl) (by kernel_rfl) (by kernel_rfl)) ?_
  intro W base args ds gs before hval0 hW hcnd _
  have hval : ∀ (j : Nat) t v, Try.f7.params[j]? = some t → args[j]? = some v → Value.okWide Try.prog W .any base t v := hval0
  have hW' := hW
  obtain ⟨p, q, hA0, hV, rfl, hfz, hnd⟩ := hW
  have hA : DataW.TrodAll enc Try.prog W 0 (fun _ => true) true Try.f7.params.toList args.toList ds p := hA0
  rw [Try.params7] at hA hval
  obtain ⟨v0, vs0, d0, ds0, p0, q0, hargs, rfl, rfl, h0, r0⟩ := trodAll_cons hA
  obtain ⟨v1, vs1, d1, ds1, p1, q1, rfl, rfl, rfl, h1, r1⟩ := trodAll_cons r0
  obtain ⟨v2, vs2, d2, ds2, p2, q2, rfl, rfl, rfl, h2, r2⟩ := trodAll_cons r1
  obtain ⟨v3, vs3, d3, ds3, p3, q3, rfl, rfl, rfl, h3, r3⟩ := trodAll_cons r2
  obtain ⟨rfl, rfl, rfl⟩ := trodAll_nil r3
  obtain rfl : args = #[v0, v1, v2, v3] := by cases args; simp_all
  obtain ⟨rfl, rfl⟩ := trodVars_none hV
  obtain ⟨kA, kc, k, rfl, khm, khs, khl⟩ := open_conf (hval 0 _ v0 rfl rfl) h0
  obtain ⟨lA, lc, l, rfl, lhm, lhc, lhw, lhl⟩ := open_blocks (hval 1 _ v1 rfl rfl) h1
  obtain ⟨vA, vc, v, rfl, vhm, vhc, vhw, vhl⟩ := open_votes (hval 2 _ v2 rfl rfl) h2
  obtain ⟨x, rfl, hx1, hx2⟩ := open_id (hval 3 _ v3 rfl rfl) h3
  clear hA0 hval0
  refine (walk W kA kc k khm khs khl lA lc l lhm lhc lhw lhl vA vc v vhm vhc vhw vhl x hx1 hx2).mono fun e W' ⟨he, hb⟩ => ?_
  subst he
  exact ⟨_, rfl, law_post rfl (by kernel_rfl) rfl hW' rfl hb⟩

theorem over : Rows.weighWhoRow.holds Try.pinned (OpenSpec.ofChange Rows.weighWhoSpec) :=
  OpenClaim.holds_of_wide 7 Try.f7 rfl rfl rfl rfl rfl rfl rfl ⟨rfl, rfl, rfl, rfl, rfl⟩ rfl rfl rfl rfl rfl (by kernel_rfl) Try.func7 (by kernel_rfl)
    (of_decide_eq_true (by kernel_rfl)) (by unfold Func.isWrapper; first | (rw [if_pos (by decide +kernel)]; kernel_rfl) | (rw [if_neg (by decide +kernel)]; exact ⟨rfl, rfl⟩))
    (fun os started H enc _ => lifted os started H enc)

/-- The statement. -/
theorem proved : Rows.WeighWhoSaid :=
  over
#print axioms proved

end Go.Proofs.Ytajdhcanajbgoaa.weighWho
