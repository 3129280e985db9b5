/-
  Law GoldOutvotes of layer 14: where the votes of some for a block, or what stands on it, weigh more than all others in the committee, it is under the head, whatever the others vote, and how often, and whatever conf, view, slot, block and others.
-/
import Derived.Test.YtlapcnfhnfkbmaaGreatGoldAwake
import Derived.Test.YtlapcnfhnfkbmaaGreatGhostAwake
import Derived.Test.YtlapcnfhnfkbmaaGreatDutyG
import Derived.Test.YtlapcnfhnfkbmaaGreatViewOpen
import Derived.Test.YtlapcnfhnfkbmaaGreatMixG
import Derived.Test.YtlapcnfhnfkbmaaGreatGround
import Derived.Test.YtlapcnfhnfkbmaaGreatTreeG
import Derived.Test.YtlapcnfhnfkbmaaGreatIdBox
import Derived.Test.YtlapcnfhnfkbmaaGreatGoldHas
import Derived.Test.YtlapcnfhnfkbmaaGreatWeighOn
import Derived.Test.YtlapcnfhnfkbmaaGreatDutyRefG
namespace Go.Proofs.YtlapcnfhnfkbmaaGreat.goldOutvotes
set_option maxRecDepth 100000
set_option linter.unusedVariables false
set_option linter.unusedSimpArgs false
open Go.ChangeShapes Go.WideShapes Go.ChangeAt Go.RowKit
set_option linter.unusedVariables false

theorem gold_wf {k : Cf} {slot : Int} {v : List Vt} (h : WfVs v) {R : List Vt} (hR : Golds k slot v R) : WfVs R := fun x hx => h x (golds_mem hR x hx)

def goodL (oth : List Int) (R : List Vt) : List Vt := R.filter fun y => !decide (y.f ∈ oth)
theorem goodL_hit {oth : List Int} {R : List Vt} {j : Nat} (hj : j < R.length) (h : decide (R[j].f ∈ oth) = false) : goodL oth (R.take (j + 1)) = goodL oth (R.take j) ++ [R[j]] := by
  unfold goodL
  rw [List.take_succ_eq_append_getElem hj, List.filter_append]
  congr 1
  simp only [List.filter_cons, List.filter_nil, h, Bool.not_false, if_true]
theorem goodL_miss {oth : List Int} {R : List Vt} {j : Nat} (hj : j < R.length) (h : decide (R[j].f ∈ oth) = true) : goodL oth (R.take (j + 1)) = goodL oth (R.take j) := by
  unfold goodL
  rw [List.take_succ_eq_append_getElem hj, List.filter_append]
  simp only [List.filter_cons, List.filter_nil, h, Bool.not_true, Bool.false_eq_true, if_false, List.append_nil]
theorem goodL_le (oth : List Int) (R : List Vt) : (goodL oth R).length ≤ R.length := List.length_filter_le _ _
theorem goodL_mem {oth : List Int} {R : List Vt} {y : Vt} (h : y ∈ goodL oth R) : y ∈ R := (List.mem_filter.1 h).1
/-- Of the first m of some votes: is one of f, and for what stands on x? -/
def inG (l : List Bk) (x : Id2) (gd : List Vt) (f : Int) (m : Nat) : Bool := (gd.take m).any fun y => (y.f == f) && underC l x y.p
theorem inG_zero (l : List Bk) (x : Id2) (gd : List Vt) (f : Int) : inG l x gd f 0 = false := by simp [inG]
theorem inG_step {l : List Bk} {x : Id2} {gd : List Vt} {f : Int} {m : Nat} (hm : m < gd.length) : inG l x gd f (m + 1) = (inG l x gd f m || ((gd[m].f == f) && underC l x gd[m].p)) := by
  unfold inG
  rw [List.take_succ_eq_append_getElem hm, List.any_append]
  simp
def badL (l : List Bk) (x : Id2) (gd : List Vt) (q : List Int) : List Int := q.filter fun f => !inG l x gd f gd.length
theorem badL_hit {l : List Bk} {x : Id2} {gd : List Vt} {cm : List Int} {j : Nat} (hj : j < cm.length) (h : inG l x gd cm[j] gd.length = false) : badL l x gd (cm.take (j + 1)) = badL l x gd (cm.take j) ++ [cm[j]] := by
  unfold badL
  rw [List.take_succ_eq_append_getElem hj, List.filter_append]
  congr 1
  simp only [List.filter_cons, List.filter_nil, h, Bool.not_false, if_true]
theorem badL_miss {l : List Bk} {x : Id2} {gd : List Vt} {cm : List Int} {j : Nat} (hj : j < cm.length) (h : inG l x gd cm[j] gd.length = true) : badL l x gd (cm.take (j + 1)) = badL l x gd (cm.take j) := by
  unfold badL
  rw [List.take_succ_eq_append_getElem hj, List.filter_append]
  simp only [List.filter_cons, List.filter_nil, h, Bool.not_true, Bool.false_eq_true, if_false, List.append_nil]
theorem badL_le (l : List Bk) (x : Id2) (gd : List Vt) (q : List Int) : (badL l x gd q).length ≤ q.length := List.length_filter_le _ _
theorem out_head {k : Cf} {l : List Bk} {v R : List Vt} {oth : List Int} {slot : Int} {x : Id2} (hR : Golds k slot v R) (h : weightC k (badL l x (goodL oth R) (commC k slot)) < onC k l (goodL oth R) x) : underC l x (headC k l R) = true := by
  refine gold_outvotes (slot := slot) (golds_one hR) (fun y hy => goodL_mem hy) (fun y hy => ((hR.2 y).1 hy).2) (fun f hf hn => ?_) h
  have hc : f ∈ commC k slot := by
    have := inC_has k slot f
    rw [hf] at this
    exact of_decide_eq_true this
  refine List.mem_filter.2 ⟨hc, ?_⟩
  cases q : inG l x (goodL oth R) f (goodL oth R).length with
  | false => rfl
  | true =>
    unfold inG at q
    rw [List.take_length, List.any_eq_true] at q
    obtain ⟨y, hy, e⟩ := q
    rw [Bool.and_eq_true, beq_iff_eq] at e
    exact absurd ⟨y, hy, e.1, e.2⟩ hn

/-! ### The walk: the call returns true, and of what was there nothing has changed. -/
attribute [local go_sem high] eqIdN eqIdZ in
set_option maxRecDepth 100000 in
set_option maxHeartbeats 6400000 in
theorem walk (w : World) (kA : Option Addr) (kc : Nat) (k : Cf) (khm : k.ws.length ≤ maxLen) (khs : k.seed < 18446744073709551616) (khl : CellsAt w w.heap.size kA (intCells k.ws)) (lA : Option Addr) (lc : Nat) (l : List Bk) (vA : Option Addr) (vc : Nat) (v : List Vt) (lhm : l.length ≤ maxLen) (lhc : l.length ≤ lc) (lhw : WfL l) (lhl : CellsAt w w.heap.size lA (blockCells l)) (vhm : v.length ≤ maxLen) (vhc : v.length ≤ vc) (vhw : WfVs v) (vhl : CellsAt w w.heap.size vA (votesCells v)) (slot : Int) (hslot1 : -9223372036854775808 ≤ slot) (hslot2 : slot ≤ 9223372036854775807) (x : Nat × Nat) (hx1 : x.1 < 18446744073709551616) (hx2 : x.2 < 18446744073709551616) (othA : Option Addr) (othc : Nat) (oth : List Int) (othhm : oth.length ≤ maxLen) (othhb : ∀ x ∈ oth, -9223372036854775808 ≤ x ∧ x ≤ 9223372036854775807) (othhl : CellsAt w w.heap.size othA (intCells oth)) :
    Calls Tryz.prog 6 #[.agg #[.slice kA k.ws.length kc, .int .u64 k.seed, .int .i64 k.ep, .int .i64 k.nu, .int .i64 k.de], .agg #[.slice lA l.length lc, .slice vA v.length vc], .int .i64 slot, .agg #[.int .u64 x.1, .int .u64 x.2], .slice othA oth.length othc] w fun e w' => e = .returned (.bool true) ∧ Kept w w' := by
  cases hf : few9C k l v with
  | false =>
    go_enter Tryz.func6, Tryz.ntmps6
    go_wp2_with fail
    have K0 := Lib.hid ((((Kept.refl w).alloc (.cells #[.slice kA k.ws.length kc, .int .u64 k.seed, .int .i64 k.ep, .int .i64 k.nu, .int .i64 k.de] 25)).alloc (.cells #[.slice lA l.length lc, .slice vA v.length vc] 29)).alloc (.cells #[.int .u64 x.1, .int .u64 x.2] 35))
    have HA := Lib.hid (khl.kept K0.out)
    clear khl
    have HL := Lib.hid (lhl.kept K0.out)
    clear lhl
    have HV := Lib.hid (vhl.kept K0.out)
    clear vhl
    have HO := Lib.hid (othhl.kept K0.out)
    clear othhl
    have HB0 := Lib.hid (((HasCells.new w #[.slice kA k.ws.length kc, .int .u64 k.seed, .int .i64 k.ep, .int .i64 k.nu, .int .i64 k.de] 25 (w.heap.size) (by simp)).alloc (.cells #[.slice lA l.length lc, .slice vA v.length vc] 29)).alloc (.cells #[.int .u64 x.1, .int .u64 x.2] 35))
    have HB1 := Lib.hid ((HasCells.new (w.alloc (.cells #[.slice kA k.ws.length kc, .int .u64 k.seed, .int .i64 k.ep, .int .i64 k.nu, .int .i64 k.de] 25)) #[.slice lA l.length lc, .slice vA v.length vc] 29 (w.heap.size + 1) (by simp)).alloc (.cells #[.int .u64 x.1, .int .u64 x.2] 35))
    have HB2 := Lib.hid (HasCells.new ((w.alloc (.cells #[.slice kA k.ws.length kc, .int .u64 k.seed, .int .i64 k.ep, .int .i64 k.nu, .int .i64 k.de] 25)).alloc (.cells #[.slice lA l.length lc, .slice vA v.length vc] 29)) #[.int .u64 x.1, .int .u64 x.2] 35 (w.heap.size + 1 + 1) (by simp))
    generalize (((w.alloc (.cells #[.slice kA k.ws.length kc, .int .u64 k.seed, .int .i64 k.ep, .int .i64 k.nu, .int .i64 k.de] 25)).alloc (.cells #[.slice lA l.length lc, .slice vA v.length vc] 29)).alloc (.cells #[.int .u64 x.1, .int .u64 x.2] 35)) = W0 at *
    generalize w.heap.size + 1 + 1 = z2 at *
    generalize w.heap.size + 1 = z1 at *
    generalize w.heap.size = z0 at *
    have KB0 := Lib.hid (Kept.refl W0)
    refine (goldAwake W0).mono ?_
    rintro e W1 ⟨rfl, k⟩
    have KB1 := Lib.hid (KB0.out.trans k)
    clear k
    obtain ⟨b00, b01, b02, b03, b04⟩ := (HB0.out.kept KB1.out).five
    have bz0 := (HB0.out.kept KB1.out).1
    obtain ⟨b10, b11⟩ := (HB1.out.kept KB1.out).two
    have bz1 := (HB1.out.kept KB1.out).1
    obtain ⟨b20, b21⟩ := (HB2.out.kept KB1.out).two
    have bz2 := (HB2.out.kept KB1.out).1
    go_wp2_with fail
    clear b00 b01 b02 b03 b04 bz0 b10 b11 bz1 b20 b21 bz2
    refine (few9_any kA kc k lA lc l vA vc v W1).mono ?_
    rintro e W2 ⟨rfl, k⟩
    have KB2 := Lib.hid (KB1.out.trans k)
    clear k
    rw [hf]
    obtain ⟨b00, b01, b02, b03, b04⟩ := (HB0.out.kept KB2.out).five
    have bz0 := (HB0.out.kept KB2.out).1
    obtain ⟨b10, b11⟩ := (HB1.out.kept KB2.out).two
    have bz1 := (HB1.out.kept KB2.out).1
    obtain ⟨b20, b21⟩ := (HB2.out.kept KB2.out).two
    have bz2 := (HB2.out.kept KB2.out).1
    go_wp2_with fail
    clear b00 b01 b02 b03 b04 bz0 b10 b11 bz1 b20 b21 bz2
    go_ret
    exact ⟨by first | rfl | (simp; done), K0.out.trans KB2.out⟩
  | true =>
    obtain ⟨hk40, hl20, hv30⟩ := few9C_yes hf
    have HF := Lib.hid hf
    clear hf
    have hwx : WfI x := ⟨hx1, hx2⟩
    go_enter Tryz.func6, Tryz.ntmps6
    go_wp2_with fail
    have K0 := Lib.hid ((((Kept.refl w).alloc (.cells #[.slice kA k.ws.length kc, .int .u64 k.seed, .int .i64 k.ep, .int .i64 k.nu, .int .i64 k.de] 25)).alloc (.cells #[.slice lA l.length lc, .slice vA v.length vc] 29)).alloc (.cells #[.int .u64 x.1, .int .u64 x.2] 35))
    have HA := Lib.hid (khl.kept K0.out)
    clear khl
    have HL := Lib.hid (lhl.kept K0.out)
    clear lhl
    have HV := Lib.hid (vhl.kept K0.out)
    clear vhl
    have HO := Lib.hid (othhl.kept K0.out)
    clear othhl
    have HB0 := Lib.hid (((HasCells.new w #[.slice kA k.ws.length kc, .int .u64 k.seed, .int .i64 k.ep, .int .i64 k.nu, .int .i64 k.de] 25 (w.heap.size) (by simp)).alloc (.cells #[.slice lA l.length lc, .slice vA v.length vc] 29)).alloc (.cells #[.int .u64 x.1, .int .u64 x.2] 35))
    have HB1 := Lib.hid ((HasCells.new (w.alloc (.cells #[.slice kA k.ws.length kc, .int .u64 k.seed, .int .i64 k.ep, .int .i64 k.nu, .int .i64 k.de] 25)) #[.slice lA l.length lc, .slice vA v.length vc] 29 (w.heap.size + 1) (by simp)).alloc (.cells #[.int .u64 x.1, .int .u64 x.2] 35))
    have HB2 := Lib.hid (HasCells.new ((w.alloc (.cells #[.slice kA k.ws.length kc, .int .u64 k.seed, .int .i64 k.ep, .int .i64 k.nu, .int .i64 k.de] 25)).alloc (.cells #[.slice lA l.length lc, .slice vA v.length vc] 29)) #[.int .u64 x.1, .int .u64 x.2] 35 (w.heap.size + 1 + 1) (by simp))
    generalize (((w.alloc (.cells #[.slice kA k.ws.length kc, .int .u64 k.seed, .int .i64 k.ep, .int .i64 k.nu, .int .i64 k.de] 25)).alloc (.cells #[.slice lA l.length lc, .slice vA v.length vc] 29)).alloc (.cells #[.int .u64 x.1, .int .u64 x.2] 35)) = W0 at *
    generalize w.heap.size + 1 + 1 = z2 at *
    generalize w.heap.size + 1 = z1 at *
    generalize w.heap.size = z0 at *
    have KB0 := Lib.hid (Kept.refl W0)
    refine (goldAwake W0).mono ?_
    rintro e W1 ⟨rfl, k⟩
    have KB1 := Lib.hid (KB0.out.trans k)
    clear k
    obtain ⟨b00, b01, b02, b03, b04⟩ := (HB0.out.kept KB1.out).five
    have bz0 := (HB0.out.kept KB1.out).1
    obtain ⟨b10, b11⟩ := (HB1.out.kept KB1.out).two
    have bz1 := (HB1.out.kept KB1.out).1
    obtain ⟨b20, b21⟩ := (HB2.out.kept KB1.out).two
    have bz2 := (HB2.out.kept KB1.out).1
    go_wp2_with fail
    clear b00 b01 b02 b03 b04 bz0 b10 b11 bz1 b20 b21 bz2
    refine (few9_any kA kc k lA lc l vA vc v W1).mono ?_
    rintro e W2 ⟨rfl, k⟩
    have KB2 := Lib.hid (KB1.out.trans k)
    clear k
    rw [HF.out]
    by_cases h40 : 40 < oth.length
    · have g1 : decide ((40 : Int) < (oth.length : Int)) = true := decide_eq_true (by omega)
      obtain ⟨b00, b01, b02, b03, b04⟩ := (HB0.out.kept KB2.out).five
      have bz0 := (HB0.out.kept KB2.out).1
      obtain ⟨b10, b11⟩ := (HB1.out.kept KB2.out).two
      have bz1 := (HB1.out.kept KB2.out).1
      obtain ⟨b20, b21⟩ := (HB2.out.kept KB2.out).two
      have bz2 := (HB2.out.kept KB2.out).1
      go_wp2_with fail
      clear b00 b01 b02 b03 b04 bz0 b10 b11 bz1 b20 b21 bz2
      go_ret
      exact ⟨by first | rfl | (simp; done), K0.out.trans KB2.out⟩
    · have g1 : decide ((40 : Int) < (oth.length : Int)) = false := decide_eq_false (by omega)
      obtain ⟨b00, b01, b02, b03, b04⟩ := (HB0.out.kept KB2.out).five
      have bz0 := (HB0.out.kept KB2.out).1
      obtain ⟨b10, b11⟩ := (HB1.out.kept KB2.out).two
      have bz1 := (HB1.out.kept KB2.out).1
      obtain ⟨b20, b21⟩ := (HB2.out.kept KB2.out).two
      have bz2 := (HB2.out.kept KB2.out).1
      go_wp2_with fail
      clear b00 b01 b02 b03 b04 bz0 b10 b11 bz1 b20 b21 bz2
      refine (goldOf_any kA kc k vA vc v slot W2 (by omega) khs (by omega) vhw (HA.out.kept KB2.out) (HV.out.kept KB2.out)).mono ?_
      rintro e W3 ⟨R, A1, c1, hR, hRl, rfl, hC1, k⟩
      have KB3 := Lib.hid (KB2.out.trans k)
      clear k
      replace HA := Lib.hid (HA.out.kept KB3.out)
      replace HL := Lib.hid (HL.out.kept KB3.out)
      replace HV := Lib.hid (HV.out.kept KB3.out)
      replace HO := Lib.hid (HO.out.kept KB3.out)
      replace HB0 := Lib.hid (HB0.out.kept KB3.out)
      replace HB1 := Lib.hid (HB1.out.kept KB3.out)
      replace HB2 := Lib.hid (HB2.out.kept KB3.out)
      replace K0 := Lib.hid (K0.out.trans KB3.out)
      have KB4 := Lib.hid (Kept.refl W3)
      have HRw := Lib.hid hC1
      clear hC1
      have HR := Lib.hid hR
      have hwR := gold_wf vhw hR
      clear hR
      go_wp2_with fail
      go_loopw [14, 16] (fun u i w' => ∃ (j : Nat) (B : Option Addr) (d : Nat), j ≤ R.length ∧ i = .int .i64 j ∧ u = .slice B (goodL oth (R.take j)).length d ∧ Vts W3 (goodL oth (R.take j)) (.slice B (goodL oth (R.take j)).length d) w') (fun _ i _ => R.length - (intOf i).toNat)
      case atStart => exact ⟨0, none, 0, by omega, rfl, rfl, Vts.nil _⟩
      case round =>
        obtain ⟨j, B, d, hj, rfl, rfl, hI⟩ := hrel
        have HI := Lib.hid hI
        clear hI
        have KB5 := Lib.hid (KB4.out.trans HI.out.2)
        by_cases hlt : j < R.length
        · obtain ⟨z, o, hz, hb, x0, x1, x2, x3⟩ := vote_at (HRw.out.kept KB5.out) hlt
          subst hz
          have HHit := Lib.hid (fun h => goodL_hit (oth := oth) hlt h)
          have HMis := Lib.hid (fun h => goodL_miss (oth := oth) hlt h)
          have HLe := Lib.hid (Nat.le_trans (goodL_le oth (R.take j)) (List.length_take_le j R))
          generalize goodL oth (R.take j) = O at *
          generalize R[j] = y at *
          go_wp2_with fail
          refine (has14_any othA othc oth y.f wr (by omega) (HO.out.kept KB5.out)).mono ?_
          rintro e V1 ⟨rfl, rfl⟩
          cases hin : decide (y.f ∈ oth) with
          | false =>
            have HN := Lib.hid (HHit.out hin)
            have hol : O.length + 1 ≤ 10000000 := by have := HLe.out; omega
            clear HHit HMis
            go_wp2_with (refine wpList_vts _ rfl _ _ rfl W3 O _ (by rfl) (HI.out.alloc _) _ _ 1 1 [y] (by rfl) (by rfl) (votes_one_at (HasCells.new _ _ _ _ rfl)) hol ?_; intro v3 w3 HR3 _)
            obtain ⟨A3, c3, rfl⟩ := HR3.slice
            have HI3 := Lib.hid HR3
            clear HR3
            go_roundw
            case rel => exact ⟨j + 1, A3, c3, by omega, by go_num, by first | (rw [HN.out]; done) | (rw [HN.out]; simp; done), by rw [HN.out]; exact HI3.out⟩
            case measure => simp [intOf]; omega
          | true =>
            have HN := Lib.hid (HMis.out hin)
            clear HHit HMis
            go_wp2_with fail
            go_roundw
            case rel => exact ⟨j + 1, B, d, by omega, by go_num, by rw [HN.out], by rw [HN.out]; exact HI.out⟩
            case measure => simp [intOf]; omega
        · have hjl : j = R.length := by omega
          subst hjl
          rw [List.take_length] at HI ⊢
          have HGl := Lib.hid (goodL_le oth R)
          have HGm := Lib.hid (fun y (hy : y ∈ goodL oth R) => hwR y (goodL_mem hy))
          have HOut := Lib.hid (fun (h : weightC k (badL l x (goodL oth R) (commC k slot)) < onC k l (goodL oth R) x) => out_head HR.out h)
          obtain ⟨Bg, hBg⟩ : ∃ Bg, Bg = B := ⟨_, rfl⟩
          obtain ⟨dg, hdg⟩ : ∃ dg, dg = d := ⟨_, rfl⟩
          rw [← hBg, ← hdg] at HI ⊢
          clear hBg hdg
          have hO := CellsAt.of_own HI.out.1
          clear HI hlt
          generalize goodL oth R = gd at *
          have hgl : gd.length ≤ 30 := by have := HGl.out; omega
          replace HA := Lib.hid (HA.out.kept KB5.out)
          replace HL := Lib.hid (HL.out.kept KB5.out)
          replace HV := Lib.hid (HV.out.kept KB5.out)
          replace HO := Lib.hid (HO.out.kept KB5.out)
          replace HRw := Lib.hid (HRw.out.kept KB5.out)
          replace HB0 := Lib.hid (HB0.out.kept KB5.out)
          replace HB1 := Lib.hid (HB1.out.kept KB5.out)
          replace HB2 := Lib.hid (HB2.out.kept KB5.out)
          replace K0 := Lib.hid (K0.out.trans KB5.out)
          have KB6 := Lib.hid (Kept.refl wr)
          have HGd := Lib.hid hO
          clear hO
          obtain ⟨b00, b01, b02, b03, b04⟩ := (HB0.out.kept KB6.out).five
          have bz0 := (HB0.out.kept KB6.out).1
          go_wp2_with fail
          clear b00 b01 b02 b03 b04 bz0
          refine (comm_any kA kc k slot wr (HA.out.kept KB6.out) khs).mono ?_
          rintro e W7 ⟨A3, c3, rfl, hC3, k⟩
          have KB7 := Lib.hid (KB6.out.trans k)
          clear k
          replace HA := Lib.hid (HA.out.kept KB7.out)
          replace HL := Lib.hid (HL.out.kept KB7.out)
          replace HV := Lib.hid (HV.out.kept KB7.out)
          replace HO := Lib.hid (HO.out.kept KB7.out)
          replace HRw := Lib.hid (HRw.out.kept KB7.out)
          replace HGd := Lib.hid (HGd.out.kept KB7.out)
          replace HB0 := Lib.hid (HB0.out.kept KB7.out)
          replace HB1 := Lib.hid (HB1.out.kept KB7.out)
          replace HB2 := Lib.hid (HB2.out.kept KB7.out)
          replace K0 := Lib.hid (K0.out.trans KB7.out)
          have KB8 := Lib.hid (Kept.refl W7)
          have HCm := Lib.hid hC3
          clear hC3
          have HCl := Lib.hid (comm_len k slot)
          generalize commC k slot = cm at *
          have hcl : cm.length ≤ 1000000 := HCl.out
          have HUn := Lib.hid (fun (p : Id2) (hp : WfI p) w' (kk : Kept W7 w') => under_any lA lc l (by omega) lhw x p hp w' (HL.out.kept kk))
          go_wp2_with fail
          go_loopw [15, 19] (fun u i w' => ∃ (j : Nat) (B : Option Addr) (d : Nat), j ≤ cm.length ∧ i = .int .i64 j ∧ u = .slice B (badL l x gd (cm.take j)).length d ∧ Ints W7 (badL l x gd (cm.take j)) (.slice B (badL l x gd (cm.take j)).length d) w') (fun _ i _ => cm.length - (intOf i).toNat)
          case atStart => exact ⟨0, none, 0, by omega, rfl, rfl, Ints.nil _⟩
          case round =>
            obtain ⟨j, B, d, hj, rfl, rfl, hI⟩ := hrel
            have HI := Lib.hid hI
            clear hI
            have KB9 := Lib.hid (KB8.out.trans HI.out.2)
            by_cases hlt : j < cm.length
            · have HHit := Lib.hid (fun h => badL_hit (l := l) (x := x) (gd := gd) hlt h)
              have HMis := Lib.hid (fun h => badL_miss (l := l) (x := x) (gd := gd) hlt h)
              have HLe := Lib.hid (Nat.le_trans (badL_le l x gd (cm.take j)) (List.length_take_le j cm))
              generalize badL l x gd (cm.take j) = O at *
              obtain ⟨zc, oc, hzc, hbc, y0⟩ := int_atG (HCm.out.kept KB9.out) hlt
              subst hzc
              obtain ⟨fc, hfc⟩ : ∃ fc, cm[j] = fc := ⟨_, rfl⟩
              rw [hfc] at y0 HHit HMis
              clear hfc
              have HY := Lib.hid y0
              clear y0
              go_wp2_with fail
              obtain ⟨W9, hW9⟩ : ∃ W9, W9 = wr := ⟨_, rfl⟩
              have HI0 := Lib.hid (show Ints W7 O (.slice B O.length d) W9 by rw [hW9]; exact HI.out)
              have HY0 := Lib.hid (show W9.cell? ⟨zc, oc + j, none⟩ = some (.int .i64 fc) by rw [hW9]; exact HY.out)
              have hbc9 : zc < W9.heap.size := by rw [hW9]; exact hbc
              have HK9 := Lib.hid (show Kept W9 wr by rw [hW9]; exact Kept.refl _)
              go_loopw [20, 21] (fun u i w' => ∃ m : Nat, m ≤ gd.length ∧ i = .int .i64 m ∧ u = .bool (inG l x gd fc m) ∧ Kept W9 w') (fun _ i _ => gd.length - (intOf i).toNat)
              case atStart => exact ⟨0, by omega, rfl, by rw [inG_zero], HK9.out⟩
              case round =>
                clear HK9 HI HY hW9
                obtain ⟨m, hm, rfl, rfl, k2⟩ := hrel
                have HK2 := Lib.hid k2
                clear k2
                have KB40 := Lib.hid (KB8.out.trans (HI0.out.2.trans HK2.out))
                by_cases hltm : m < gd.length
                · obtain ⟨zg, og, hzg, hbg, v0, v1, v2, v3⟩ := vote_at (HGd.out.kept KB40.out) hltm
                  subst hzg
                  have f0 := (HK2.out.cell (p := ⟨zc, oc + j, none⟩) hbc9).trans HY0.out
                  have hbf := Nat.lt_of_lt_of_le hbc9 HK2.out.size_le
                  have hwp := (HGm.out gd[m] (List.getElem_mem hltm)).2.2
                  have HSt := Lib.hid (inG_step (l := l) (x := x) (f := fc) hltm)
                  generalize gd[m] = u at *
                  have hwu : WfI u.p := hwp
                  generalize inG l x gd fc m = an at *
                  cases an with
                  | true =>

                    have HN := Lib.hid (show inG l x gd fc (m + 1) = true by rw [HSt.out]; simp)
                    clear HSt
                    obtain ⟨b10, b11⟩ := (HB1.out.kept KB40.out).two
                    have bz1 := (HB1.out.kept KB40.out).1
                    obtain ⟨b20, b21⟩ := (HB2.out.kept KB40.out).two
                    have bz2 := (HB2.out.kept KB40.out).1
                    go_wp2_with fail
                    refine wp_region_noPanic ?_
                    refine wp_region_held_drew (S := (fun w' => w'.cell? ⟨z1, 0, none⟩ = some (.slice lA l.length lc) ∧ w'.cell? ⟨z1, 1, none⟩ = some (.slice vA v.length vc) ∧ w'.cell? ⟨z2, 0, none⟩ = some (.int .u64 x.1) ∧ w'.cell? ⟨z2, 1, none⟩ = some (.int .u64 x.2) ∧ w'.cell? ⟨zg, og + m * 4, none⟩ = some (.int .i64 u.f) ∧ w'.cell? ⟨zg, og + m * 4 + 2, none⟩ = some (.int .u64 u.p.1) ∧ w'.cell? ⟨zg, og + m * 4 + 3, none⟩ = some (.int .u64 u.p.2) ∧ w'.cell? ⟨zc, oc + j, none⟩ = some (.int .i64 fc) ∧ Kept wr w')) (by kernel_rfl) ?_ (fun hHeld => ?_)
                    · exact ⟨b10, b11, b20, b21, v0, v2, v3, f0, (Kept.refl _).drew⟩
                    refine wpAnyH_take (i := 0) (v := ?_) (by simp only [List.getElem?_toArray, List.getElem?_cons_succ, List.getElem?_cons_zero]; rfl) (by kernel_rfl) (by kernel_rfl) (by kernel_rfl) (fun _ _ _ h => h) (Or.inl ⟨by rfl, ?_⟩) (by assumption) ?_
                    rotate_left
                    · intro w hSw
                      (try dsimp only at hSw)
                      go_simp
                      (try with_reducible rfl)
                    simp only [Act.put, List.setIfInBounds_toArray, List.set_cons_zero, List.set_cons_succ]
                    refine wpAnyH_take (i := 1) (v := ?_) (by simp only [List.getElem?_toArray, List.getElem?_cons_succ, List.getElem?_cons_zero]; rfl) (by kernel_rfl) (by kernel_rfl) (by kernel_rfl) (fun _ _ _ h => h) (Or.inl ⟨by rfl, ?_⟩) (by assumption) ?_
                    rotate_left
                    · intro w hSw
                      (try dsimp only at hSw)
                      go_simp
                      (try with_reducible rfl)
                    simp only [Act.put, List.setIfInBounds_toArray, List.set_cons_zero, List.set_cons_succ]
                    refine wpAnyH_take (i := 2) (v := undef) (by simp only [List.getElem?_toArray, List.getElem?_cons_succ, List.getElem?_cons_zero]; rfl) (by kernel_rfl) (by kernel_rfl) (by kernel_rfl) (fun _ _ _ h => h) (Or.inr ⟨by rfl, rfl⟩) (by assumption) ?_
                    simp only [Act.put, List.setIfInBounds_toArray, List.set_cons_zero, List.set_cons_succ]
                    refine wpAnyH_take (i := 3) (v := undef) (by simp only [List.getElem?_toArray, List.getElem?_cons_succ, List.getElem?_cons_zero]; rfl) (by kernel_rfl) (by kernel_rfl) (by kernel_rfl) (fun _ _ _ h => h) (Or.inr ⟨by rfl, rfl⟩) (by assumption) ?_
                    simp only [Act.put, List.setIfInBounds_toArray, List.set_cons_zero, List.set_cons_succ]
                    refine wpAnyH_take (i := 4) (v := undef) (by simp only [List.getElem?_toArray, List.getElem?_cons_succ, List.getElem?_cons_zero]; rfl) (by kernel_rfl) (by kernel_rfl) (by kernel_rfl) (fun _ _ _ h => h) (Or.inr ⟨by rfl, rfl⟩) (by assumption) ?_
                    simp only [Act.put, List.setIfInBounds_toArray, List.set_cons_zero, List.set_cons_succ]
                    refine wpAnyH_take (i := 5) (v := undef) (by simp only [List.getElem?_toArray, List.getElem?_cons_succ, List.getElem?_cons_zero]; rfl) (by kernel_rfl) (by kernel_rfl) (by kernel_rfl) (fun _ _ _ h => h) (Or.inr ⟨by rfl, rfl⟩) (by assumption) ?_
                    simp only [Act.put, List.setIfInBounds_toArray, List.set_cons_zero, List.set_cons_succ]
                    refine wpAnyH_take (i := 6) (v := undef) (by simp only [List.getElem?_toArray, List.getElem?_cons_succ, List.getElem?_cons_zero]; rfl) (by kernel_rfl) (by kernel_rfl) (by kernel_rfl) (fun _ _ _ h => h) (Or.inr ⟨by rfl, rfl⟩) (by assumption) ?_
                    simp only [Act.put, List.setIfInBounds_toArray, List.set_cons_zero, List.set_cons_succ]
                    refine wpAnyH_take (i := 7) (v := undef) (by simp only [List.getElem?_toArray, List.getElem?_cons_succ, List.getElem?_cons_zero]; rfl) (by kernel_rfl) (by kernel_rfl) (by kernel_rfl) (fun _ _ _ h => h) (Or.inr ⟨by rfl, rfl⟩) (by assumption) ?_
                    simp only [Act.put, List.setIfInBounds_toArray, List.set_cons_zero, List.set_cons_succ]
                    refine wpAnyH_take (i := 8) (v := undef) (by simp only [List.getElem?_toArray, List.getElem?_cons_succ, List.getElem?_cons_zero]; rfl) (by kernel_rfl) (by kernel_rfl) (by kernel_rfl) (fun _ _ _ h => h) (Or.inr ⟨by rfl, rfl⟩) (by assumption) ?_
                    simp only [Act.put, List.setIfInBounds_toArray, List.set_cons_zero, List.set_cons_succ]
                    refine wpAnyH_take (i := 9) (v := undef) (by simp only [List.getElem?_toArray, List.getElem?_cons_succ, List.getElem?_cons_zero]; rfl) (by kernel_rfl) (by kernel_rfl) (by kernel_rfl) (fun _ _ _ h => h) (Or.inr ⟨by rfl, rfl⟩) (by assumption) ?_
                    simp only [Act.put, List.setIfInBounds_toArray, List.set_cons_zero, List.set_cons_succ]
                    refine wpAnyH_take (i := 10) (v := undef) (by simp only [List.getElem?_toArray, List.getElem?_cons_succ, List.getElem?_cons_zero]; rfl) (by kernel_rfl) (by kernel_rfl) (by kernel_rfl) (fun _ _ _ h => h) (Or.inr ⟨by rfl, rfl⟩) (by assumption) ?_
                    simp only [Act.put, List.setIfInBounds_toArray, List.set_cons_zero, List.set_cons_succ]
                    refine wpAnyH_take (i := 11) (v := undef) (by simp only [List.getElem?_toArray, List.getElem?_cons_succ, List.getElem?_cons_zero]; rfl) (by kernel_rfl) (by kernel_rfl) (by kernel_rfl) (fun _ _ _ h => h) (Or.inr ⟨by rfl, rfl⟩) (by assumption) ?_
                    simp only [Act.put, List.setIfInBounds_toArray, List.set_cons_zero, List.set_cons_succ]
                    refine wpAnyH_take (i := 12) (v := undef) (by simp only [List.getElem?_toArray, List.getElem?_cons_succ, List.getElem?_cons_zero]; rfl) (by kernel_rfl) (by kernel_rfl) (by kernel_rfl) (fun _ _ _ h => h) (Or.inr ⟨by rfl, rfl⟩) (by assumption) ?_
                    simp only [Act.put, List.setIfInBounds_toArray, List.set_cons_zero, List.set_cons_succ]
                    refine wpAnyH_take (i := 13) (v := undef) (by simp only [List.getElem?_toArray, List.getElem?_cons_succ, List.getElem?_cons_zero]; rfl) (by kernel_rfl) (by kernel_rfl) (by kernel_rfl) (fun _ _ _ h => h) (Or.inr ⟨by rfl, rfl⟩) (by assumption) ?_
                    simp only [Act.put, List.setIfInBounds_toArray, List.set_cons_zero, List.set_cons_succ]
                    refine wpAnyH_take (i := 14) (v := undef) (by simp only [List.getElem?_toArray, List.getElem?_cons_succ, List.getElem?_cons_zero]; rfl) (by kernel_rfl) (by kernel_rfl) (by kernel_rfl) (fun _ _ _ h => h) (Or.inr ⟨by rfl, rfl⟩) (by assumption) ?_
                    simp only [Act.put, List.setIfInBounds_toArray, List.set_cons_zero, List.set_cons_succ]
                    refine wpAnyH_take (i := 15) (v := undef) (by simp only [List.getElem?_toArray, List.getElem?_cons_succ, List.getElem?_cons_zero]; rfl) (by kernel_rfl) (by kernel_rfl) (by kernel_rfl) (fun _ _ _ h => h) (Or.inr ⟨by rfl, rfl⟩) (by assumption) ?_
                    simp only [Act.put, List.setIfInBounds_toArray, List.set_cons_zero, List.set_cons_succ]
                    refine wpAnyH_take (i := 16) (v := undef) (by simp only [List.getElem?_toArray, List.getElem?_cons_succ, List.getElem?_cons_zero]; rfl) (by kernel_rfl) (by kernel_rfl) (by kernel_rfl) (fun _ _ _ h => h) (Or.inr ⟨by rfl, rfl⟩) (by assumption) ?_
                    simp only [Act.put, List.setIfInBounds_toArray, List.set_cons_zero, List.set_cons_succ]
                    refine wpAnyH_take (i := 17) (v := undef) (by simp only [List.getElem?_toArray, List.getElem?_cons_succ, List.getElem?_cons_zero]; rfl) (by kernel_rfl) (by kernel_rfl) (by kernel_rfl) (fun _ _ _ h => h) (Or.inr ⟨by rfl, rfl⟩) (by assumption) ?_
                    simp only [Act.put, List.setIfInBounds_toArray, List.set_cons_zero, List.set_cons_succ]
                    refine wpAnyH_take (i := 18) (v := undef) (by simp only [List.getElem?_toArray, List.getElem?_cons_succ, List.getElem?_cons_zero]; rfl) (by kernel_rfl) (by kernel_rfl) (by kernel_rfl) (fun _ _ _ h => h) (Or.inr ⟨by rfl, rfl⟩) (by assumption) ?_
                    simp only [Act.put, List.setIfInBounds_toArray, List.set_cons_zero, List.set_cons_succ]
                    refine wpAnyH_take (i := 19) (v := undef) (by simp only [List.getElem?_toArray, List.getElem?_cons_succ, List.getElem?_cons_zero]; rfl) (by kernel_rfl) (by kernel_rfl) (by kernel_rfl) (fun _ _ _ h => h) (Or.inr ⟨by rfl, rfl⟩) (by assumption) ?_
                    simp only [Act.put, List.setIfInBounds_toArray, List.set_cons_zero, List.set_cons_succ]
                    refine wpAnyH_take (i := 20) (v := undef) (by simp only [List.getElem?_toArray, List.getElem?_cons_succ, List.getElem?_cons_zero]; rfl) (by kernel_rfl) (by kernel_rfl) (by kernel_rfl) (fun _ _ _ h => h) (Or.inr ⟨by rfl, rfl⟩) (by assumption) ?_
                    simp only [Act.put, List.setIfInBounds_toArray, List.set_cons_zero, List.set_cons_succ]
                    refine wpAnyH_take (i := 21) (v := undef) (by simp only [List.getElem?_toArray, List.getElem?_cons_succ, List.getElem?_cons_zero]; rfl) (by kernel_rfl) (by kernel_rfl) (by kernel_rfl) (fun _ _ _ h => h) (Or.inr ⟨by rfl, rfl⟩) (by assumption) ?_
                    simp only [Act.put, List.setIfInBounds_toArray, List.set_cons_zero, List.set_cons_succ]
                    refine wpAnyH_take (i := 22) (v := undef) (by simp only [List.getElem?_toArray, List.getElem?_cons_succ, List.getElem?_cons_zero]; rfl) (by kernel_rfl) (by kernel_rfl) (by kernel_rfl) (fun _ _ _ h => h) (Or.inr ⟨by rfl, rfl⟩) (by assumption) ?_
                    simp only [Act.put, List.setIfInBounds_toArray, List.set_cons_zero, List.set_cons_succ]
                    refine wpAnyH_take (i := 23) (v := ?_) (by simp only [List.getElem?_toArray, List.getElem?_cons_succ, List.getElem?_cons_zero]; rfl) (by kernel_rfl) (by kernel_rfl) (by kernel_rfl) (fun _ _ _ h => h) (Or.inl ⟨by rfl, ?_⟩) (by assumption) ?_
                    rotate_left
                    · intro w hSw
                      (try dsimp only at hSw)
                      go_simp
                      (try with_reducible rfl)
                    simp only [Act.put, List.setIfInBounds_toArray, List.set_cons_zero, List.set_cons_succ]
                    refine wpAnyH_take (i := 24) (v := ?_) (by simp only [List.getElem?_toArray, List.getElem?_cons_succ, List.getElem?_cons_zero]; rfl) (by kernel_rfl) (by kernel_rfl) (by kernel_rfl) (fun _ _ _ h => h) (Or.inl ⟨by rfl, ?_⟩) (by assumption) ?_
                    rotate_left
                    · intro w hSw
                      (try dsimp only at hSw)
                      go_simp
                      (try with_reducible rfl)
                    simp only [Act.put, List.setIfInBounds_toArray, List.set_cons_zero, List.set_cons_succ]
                    refine wpAnyH_done (by kernel_rfl) ?_ _
                    refine NoPanic.normal ?_
                    have k := hHeld.2.2.2.2.2.2.2.2
                    have k9 := k
                    clear hHeld
                    clear b10 b11 bz1 b20 b21 bz2
                    have KB41 := Lib.hid (KB40.out.trans k)
                    clear k
                    generalize wr.drew = W41 at *
                    have HK3 := Lib.hid (HK2.out.trans k9)
                    go_wp2_with fail
                    go_roundw
                    case rel => exact ⟨m + 1, by omega, by go_num, by rw [HN.out], HK3.out⟩
                    case measure => simp [intOf]; omega
                  | false =>
                    by_cases hf : u.f = fc
                    · have hfe : (u.f == fc) = true := by rw [beq_iff_eq]; exact hf
                      clear hf
                      have HN := Lib.hid (show inG l x gd fc (m + 1) = underC l x u.p by rw [HSt.out]; simp [hfe])
                      clear HSt
                      obtain ⟨b10, b11⟩ := (HB1.out.kept KB40.out).two
                      have bz1 := (HB1.out.kept KB40.out).1
                      obtain ⟨b20, b21⟩ := (HB2.out.kept KB40.out).two
                      have bz2 := (HB2.out.kept KB40.out).1
                      go_wp2_with fail
                      refine wp_region_noPanic ?_
                      refine wp_region_held_drew (S := (fun w' => w'.cell? ⟨z1, 0, none⟩ = some (.slice lA l.length lc) ∧ w'.cell? ⟨z1, 1, none⟩ = some (.slice vA v.length vc) ∧ w'.cell? ⟨z2, 0, none⟩ = some (.int .u64 x.1) ∧ w'.cell? ⟨z2, 1, none⟩ = some (.int .u64 x.2) ∧ w'.cell? ⟨zg, og + m * 4, none⟩ = some (.int .i64 u.f) ∧ w'.cell? ⟨zg, og + m * 4 + 2, none⟩ = some (.int .u64 u.p.1) ∧ w'.cell? ⟨zg, og + m * 4 + 3, none⟩ = some (.int .u64 u.p.2) ∧ w'.cell? ⟨zc, oc + j, none⟩ = some (.int .i64 fc) ∧ Kept wr w')) (by kernel_rfl) ?_ (fun hHeld => ?_)
                      · exact ⟨b10, b11, b20, b21, v0, v2, v3, f0, (Kept.refl _).drew⟩
                      refine wpAnyH_take (i := 0) (v := ?_) (by simp only [List.getElem?_toArray, List.getElem?_cons_succ, List.getElem?_cons_zero]; rfl) (by kernel_rfl) (by kernel_rfl) (by kernel_rfl) (fun _ _ _ h => h) (Or.inl ⟨by rfl, ?_⟩) (by assumption) ?_
                      rotate_left
                      · intro w hSw
                        (try dsimp only at hSw)
                        go_simp
                        (try with_reducible rfl)
                      simp only [Act.put, List.setIfInBounds_toArray, List.set_cons_zero, List.set_cons_succ]
                      refine wpAnyH_take (i := 1) (v := ?_) (by simp only [List.getElem?_toArray, List.getElem?_cons_succ, List.getElem?_cons_zero]; rfl) (by kernel_rfl) (by kernel_rfl) (by kernel_rfl) (fun _ _ _ h => h) (Or.inl ⟨by rfl, ?_⟩) (by assumption) ?_
                      rotate_left
                      · intro w hSw
                        (try dsimp only at hSw)
                        go_simp
                        (try with_reducible rfl)
                      simp only [Act.put, List.setIfInBounds_toArray, List.set_cons_zero, List.set_cons_succ]
                      refine wpAnyH_take (i := 2) (v := ?_) (by simp only [List.getElem?_toArray, List.getElem?_cons_succ, List.getElem?_cons_zero]; rfl) (by kernel_rfl) (by kernel_rfl) (by kernel_rfl) (fun _ _ _ h => h) (Or.inl ⟨by rfl, ?_⟩) (by assumption) ?_
                      rotate_left
                      · intro w hSw
                        (try dsimp only at hSw)
                        go_simp
                        (try with_reducible rfl)
                      simp only [Act.put, List.setIfInBounds_toArray, List.set_cons_zero, List.set_cons_succ]
                      refine wpAnyH_take (i := 3) (v := ?_) (by simp only [List.getElem?_toArray, List.getElem?_cons_succ, List.getElem?_cons_zero]; rfl) (by kernel_rfl) (by kernel_rfl) (by kernel_rfl) (fun _ _ _ h => h) (Or.inl ⟨by rfl, ?_⟩) (by assumption) ?_
                      rotate_left
                      · intro w hSw
                        (try dsimp only at hSw)
                        go_simp
                        (try with_reducible rfl)
                      simp only [Act.put, List.setIfInBounds_toArray, List.set_cons_zero, List.set_cons_succ]
                      refine wpAnyH_take (i := 4) (v := ?_) (by simp only [List.getElem?_toArray, List.getElem?_cons_succ, List.getElem?_cons_zero]; rfl) (by kernel_rfl) (by kernel_rfl) (by kernel_rfl) (fun _ _ _ h => h) (Or.inl ⟨by rfl, ?_⟩) (by assumption) ?_
                      rotate_left
                      · intro w hSw
                        (try dsimp only at hSw)
                        go_simp
                        (try with_reducible rfl)
                      simp only [Act.put, List.setIfInBounds_toArray, List.set_cons_zero, List.set_cons_succ]
                      refine wpAnyH_take (i := 5) (v := ?_) (by simp only [List.getElem?_toArray, List.getElem?_cons_succ, List.getElem?_cons_zero]; rfl) (by kernel_rfl) (by kernel_rfl) (by kernel_rfl) (fun _ _ _ h => h) (Or.inl ⟨by rfl, ?_⟩) (by assumption) ?_
                      rotate_left
                      · intro w hSw
                        (try dsimp only at hSw)
                        go_simp
                        (try with_reducible rfl)
                      simp only [Act.put, List.setIfInBounds_toArray, List.set_cons_zero, List.set_cons_succ]
                      refine wpAnyH_take (i := 6) (v := ?_) (by simp only [List.getElem?_toArray, List.getElem?_cons_succ, List.getElem?_cons_zero]; rfl) (by kernel_rfl) (by kernel_rfl) (by kernel_rfl) (fun _ _ _ h => h) (Or.inl ⟨by rfl, ?_⟩) (by assumption) ?_
                      rotate_left
                      · intro w hSw
                        (try dsimp only at hSw)
                        go_simp
                        (try with_reducible rfl)
                      simp only [Act.put, List.setIfInBounds_toArray, List.set_cons_zero, List.set_cons_succ]
                      refine wpAnyH_take (i := 7) (v := ?_) (by simp only [List.getElem?_toArray, List.getElem?_cons_succ, List.getElem?_cons_zero]; rfl) (by kernel_rfl) (by kernel_rfl) (by kernel_rfl) (fun _ _ _ h => h) (Or.inl ⟨by rfl, ?_⟩) (by assumption) ?_
                      rotate_left
                      · intro w hSw
                        (try dsimp only at hSw)
                        go_simp
                        (try with_reducible rfl)
                      simp only [Act.put, List.setIfInBounds_toArray, List.set_cons_zero, List.set_cons_succ]
                      refine wpAnyH_take (i := 8) (v := ?_) (by simp only [List.getElem?_toArray, List.getElem?_cons_succ, List.getElem?_cons_zero]; rfl) (by kernel_rfl) (by kernel_rfl) (by kernel_rfl) (fun _ _ _ h => h) (Or.inl ⟨by rfl, ?_⟩) (by assumption) ?_
                      rotate_left
                      · intro w hSw
                        (try dsimp only at hSw)
                        go_simp
                        (try with_reducible rfl)
                      simp only [Act.put, List.setIfInBounds_toArray, List.set_cons_zero, List.set_cons_succ]
                      refine wpAnyH_take (i := 9) (v := ?_) (by simp only [List.getElem?_toArray, List.getElem?_cons_succ, List.getElem?_cons_zero]; rfl) (by kernel_rfl) (by kernel_rfl) (by kernel_rfl) (fun _ _ _ h => h) (Or.inl ⟨by rfl, ?_⟩) (by assumption) ?_
                      rotate_left
                      · intro w hSw
                        (try dsimp only at hSw)
                        go_simp
                        (try with_reducible rfl)
                      simp only [Act.put, List.setIfInBounds_toArray, List.set_cons_zero, List.set_cons_succ]
                      refine wpAnyH_take (i := 10) (v := ?_) (by simp only [List.getElem?_toArray, List.getElem?_cons_succ, List.getElem?_cons_zero]; rfl) (by kernel_rfl) (by kernel_rfl) (by kernel_rfl) (fun _ _ _ h => h) (Or.inl ⟨by rfl, ?_⟩) (by assumption) ?_
                      rotate_left
                      · intro w hSw
                        (try dsimp only at hSw)
                        go_simp
                        (try with_reducible rfl)
                      simp only [Act.put, List.setIfInBounds_toArray, List.set_cons_zero, List.set_cons_succ]
                      refine wpAnyH_take (i := 11) (v := ?_) (by simp only [List.getElem?_toArray, List.getElem?_cons_succ, List.getElem?_cons_zero]; rfl) (by kernel_rfl) (by kernel_rfl) (by kernel_rfl) (fun _ _ _ h => h) (Or.inl ⟨by rfl, ?_⟩) (by assumption) ?_
                      rotate_left
                      · intro w hSw
                        (try dsimp only at hSw)
                        go_simp
                        (try with_reducible rfl)
                      simp only [Act.put, List.setIfInBounds_toArray, List.set_cons_zero, List.set_cons_succ]
                      try simp only [hfe]
                      refine wpAnyH_take (i := 12) (v := ?_) (by simp only [List.getElem?_toArray, List.getElem?_cons_succ, List.getElem?_cons_zero]; rfl) (by kernel_rfl) (by kernel_rfl) (by kernel_rfl) (fun _ _ _ h => h) (Or.inl ⟨by rfl, ?_⟩) (by assumption) ?_
                      rotate_left
                      · intro w hSw
                        (try dsimp only at hSw)
                        go_simp
                        (try with_reducible rfl)
                      simp only [Act.put, List.setIfInBounds_toArray, List.set_cons_zero, List.set_cons_succ]
                      refine wpAnyH_take (i := 13) (v := ?_) (by simp only [List.getElem?_toArray, List.getElem?_cons_succ, List.getElem?_cons_zero]; rfl) (by kernel_rfl) (by kernel_rfl) (by kernel_rfl) (fun _ _ _ h => h) (Or.inl ⟨by rfl, ?_⟩) (by assumption) ?_
                      rotate_left
                      · intro w hSw
                        (try dsimp only at hSw)
                        go_simp
                        (try with_reducible rfl)
                      simp only [Act.put, List.setIfInBounds_toArray, List.set_cons_zero, List.set_cons_succ]
                      refine wpAnyH_take (i := 14) (v := ?_) (by simp only [List.getElem?_toArray, List.getElem?_cons_succ, List.getElem?_cons_zero]; rfl) (by kernel_rfl) (by kernel_rfl) (by kernel_rfl) (fun _ _ _ h => h) (Or.inl ⟨by rfl, ?_⟩) (by assumption) ?_
                      rotate_left
                      · intro w hSw
                        (try dsimp only at hSw)
                        go_simp
                        (try with_reducible rfl)
                      simp only [Act.put, List.setIfInBounds_toArray, List.set_cons_zero, List.set_cons_succ]
                      refine wpAnyH_take (i := 15) (v := ?_) (by simp only [List.getElem?_toArray, List.getElem?_cons_succ, List.getElem?_cons_zero]; rfl) (by kernel_rfl) (by kernel_rfl) (by kernel_rfl) (fun _ _ _ h => h) (Or.inl ⟨by rfl, ?_⟩) (by assumption) ?_
                      rotate_left
                      · intro w hSw
                        (try dsimp only at hSw)
                        go_simp
                        (try with_reducible rfl)
                      simp only [Act.put, List.setIfInBounds_toArray, List.set_cons_zero, List.set_cons_succ]
                      refine wpAnyH_take (i := 16) (v := ?_) (by simp only [List.getElem?_toArray, List.getElem?_cons_succ, List.getElem?_cons_zero]; rfl) (by kernel_rfl) (by kernel_rfl) (by kernel_rfl) (fun _ _ _ h => h) (Or.inl ⟨by rfl, ?_⟩) (by assumption) ?_
                      rotate_left
                      · intro w hSw
                        (try dsimp only at hSw)
                        go_simp
                        (try with_reducible rfl)
                      simp only [Act.put, List.setIfInBounds_toArray, List.set_cons_zero, List.set_cons_succ]
                      refine wpAnyH_take (i := 17) (v := ?_) (by simp only [List.getElem?_toArray, List.getElem?_cons_succ, List.getElem?_cons_zero]; rfl) (by kernel_rfl) (by kernel_rfl) (by kernel_rfl) (fun _ _ _ h => h) (Or.inl ⟨by rfl, ?_⟩) (by assumption) ?_
                      rotate_left
                      · intro w hSw
                        (try dsimp only at hSw)
                        go_simp
                        (try with_reducible rfl)
                      simp only [Act.put, List.setIfInBounds_toArray, List.set_cons_zero, List.set_cons_succ]
                      refine wpAnyH_take (i := 18) (v := ?_) (by simp only [List.getElem?_toArray, List.getElem?_cons_succ, List.getElem?_cons_zero]; rfl) (by kernel_rfl) (by kernel_rfl) (by kernel_rfl) (fun _ _ _ h => h) (Or.inl ⟨by rfl, ?_⟩) (by assumption) ?_
                      rotate_left
                      · intro w hSw
                        (try dsimp only at hSw)
                        go_simp
                        (try with_reducible rfl)
                      simp only [Act.put, List.setIfInBounds_toArray, List.set_cons_zero, List.set_cons_succ]
                      refine wpAnyH_take (i := 19) (v := ?_) (by simp only [List.getElem?_toArray, List.getElem?_cons_succ, List.getElem?_cons_zero]; rfl) (by kernel_rfl) (by kernel_rfl) (by kernel_rfl) (fun _ _ _ h => h) (Or.inl ⟨by rfl, ?_⟩) (by assumption) ?_
                      rotate_left
                      · intro w hSw
                        (try dsimp only at hSw)
                        go_simp
                        (try with_reducible rfl)
                      simp only [Act.put, List.setIfInBounds_toArray, List.set_cons_zero, List.set_cons_succ]
                      refine wpAnyH_take (i := 20) (v := ?_) (by simp only [List.getElem?_toArray, List.getElem?_cons_succ, List.getElem?_cons_zero]; rfl) (by kernel_rfl) (by kernel_rfl) (by kernel_rfl) (fun _ _ _ h => h) (Or.inl ⟨by rfl, ?_⟩) (by assumption) ?_
                      rotate_left
                      · intro w hSw
                        (try dsimp only at hSw)
                        go_simp
                        (try with_reducible rfl)
                      simp only [Act.put, List.setIfInBounds_toArray, List.set_cons_zero, List.set_cons_succ]
                      refine wpAnyH_ready (rs := [21]) (by kernel_rfl) (by simp) ?_
                      refine AllReadyH.cons (by simp only [List.getElem?_toArray, List.getElem?_cons_succ, List.getElem?_cons_zero]; rfl) (fun K hK => ?_) AllReadyH.nil
                      go_simp
                      go_at_call 19; with_reducible refine (HUn.out u.p hwu _ (KB40.out.trans hHeld.2.2.2.2.2.2.2.2)).mono ?_
                      rintro e w' ⟨rfl, kk⟩
                      try go_wp2_with fail
                      refine hK.out _ _ ?_ (fun hHeld2 => ?_)
                      · exact keepP8 bz1 bz1 bz2 bz2 hbg hbg hbg hbf hHeld kk
                      clear hK K hHeld
                      have hHeld := hHeld2
                      clear hHeld2
                      try simp only [Act.put, List.setIfInBounds_toArray, List.set_cons_zero, List.set_cons_succ]
                      refine wpAnyH_take (i := 22) (v := ?_) (by simp only [List.getElem?_toArray, List.getElem?_cons_succ, List.getElem?_cons_zero]; rfl) (by kernel_rfl) (by kernel_rfl) (by kernel_rfl) (fun _ _ _ h => h) (Or.inl ⟨by rfl, ?_⟩) (by assumption) ?_
                      rotate_left
                      · intro w hSw
                        (try dsimp only at hSw)
                        go_simp
                        (try with_reducible rfl)
                      simp only [Act.put, List.setIfInBounds_toArray, List.set_cons_zero, List.set_cons_succ]
                      refine wpAnyH_take (i := 23) (v := ?_) (by simp only [List.getElem?_toArray, List.getElem?_cons_succ, List.getElem?_cons_zero]; rfl) (by kernel_rfl) (by kernel_rfl) (by kernel_rfl) (fun _ _ _ h => h) (Or.inl ⟨by rfl, ?_⟩) (by assumption) ?_
                      rotate_left
                      · intro w hSw
                        (try dsimp only at hSw)
                        go_simp
                        (try with_reducible rfl)
                      simp only [Act.put, List.setIfInBounds_toArray, List.set_cons_zero, List.set_cons_succ]
                      refine wpAnyH_take (i := 24) (v := ?_) (by simp only [List.getElem?_toArray, List.getElem?_cons_succ, List.getElem?_cons_zero]; rfl) (by kernel_rfl) (by kernel_rfl) (by kernel_rfl) (fun _ _ _ h => h) (Or.inl ⟨by rfl, ?_⟩) (by assumption) ?_
                      rotate_left
                      · intro w hSw
                        (try dsimp only at hSw)
                        go_simp
                        (try with_reducible rfl)
                      simp only [Act.put, List.setIfInBounds_toArray, List.set_cons_zero, List.set_cons_succ]
                      refine wpAnyH_done (by kernel_rfl) ?_ _
                      refine NoPanic.normal ?_
                      have k := hHeld.2.2.2.2.2.2.2.2
                      have k9 := k
                      clear hHeld
                      clear b10 b11 bz1 b20 b21 bz2
                      have KB41 := Lib.hid (KB40.out.trans k)
                      clear k
                      generalize w' = W41 at *
                      have HK3 := Lib.hid (HK2.out.trans k9)
                      go_wp2_with fail
                      go_roundw
                      case rel => exact ⟨m + 1, by omega, by go_num, by rw [HN.out], HK3.out⟩
                      case measure => simp [intOf]; omega
                    · have hfe : (u.f == fc) = false := by rw [beq_eq_false_iff_ne]; exact hf
                      clear hf
                      have HN := Lib.hid (show inG l x gd fc (m + 1) = false by rw [HSt.out]; simp [hfe])
                      clear HSt
                      obtain ⟨b10, b11⟩ := (HB1.out.kept KB40.out).two
                      have bz1 := (HB1.out.kept KB40.out).1
                      obtain ⟨b20, b21⟩ := (HB2.out.kept KB40.out).two
                      have bz2 := (HB2.out.kept KB40.out).1
                      go_wp2_with fail
                      refine wp_region_noPanic ?_
                      refine wp_region_held_drew (S := (fun w' => w'.cell? ⟨z1, 0, none⟩ = some (.slice lA l.length lc) ∧ w'.cell? ⟨z1, 1, none⟩ = some (.slice vA v.length vc) ∧ w'.cell? ⟨z2, 0, none⟩ = some (.int .u64 x.1) ∧ w'.cell? ⟨z2, 1, none⟩ = some (.int .u64 x.2) ∧ w'.cell? ⟨zg, og + m * 4, none⟩ = some (.int .i64 u.f) ∧ w'.cell? ⟨zg, og + m * 4 + 2, none⟩ = some (.int .u64 u.p.1) ∧ w'.cell? ⟨zg, og + m * 4 + 3, none⟩ = some (.int .u64 u.p.2) ∧ w'.cell? ⟨zc, oc + j, none⟩ = some (.int .i64 fc) ∧ Kept wr w')) (by kernel_rfl) ?_ (fun hHeld => ?_)
                      · exact ⟨b10, b11, b20, b21, v0, v2, v3, f0, (Kept.refl _).drew⟩
                      refine wpAnyH_take (i := 0) (v := ?_) (by simp only [List.getElem?_toArray, List.getElem?_cons_succ, List.getElem?_cons_zero]; rfl) (by kernel_rfl) (by kernel_rfl) (by kernel_rfl) (fun _ _ _ h => h) (Or.inl ⟨by rfl, ?_⟩) (by assumption) ?_
                      rotate_left
                      · intro w hSw
                        (try dsimp only at hSw)
                        go_simp
                        (try with_reducible rfl)
                      simp only [Act.put, List.setIfInBounds_toArray, List.set_cons_zero, List.set_cons_succ]
                      refine wpAnyH_take (i := 1) (v := ?_) (by simp only [List.getElem?_toArray, List.getElem?_cons_succ, List.getElem?_cons_zero]; rfl) (by kernel_rfl) (by kernel_rfl) (by kernel_rfl) (fun _ _ _ h => h) (Or.inl ⟨by rfl, ?_⟩) (by assumption) ?_
                      rotate_left
                      · intro w hSw
                        (try dsimp only at hSw)
                        go_simp
                        (try with_reducible rfl)
                      simp only [Act.put, List.setIfInBounds_toArray, List.set_cons_zero, List.set_cons_succ]
                      refine wpAnyH_take (i := 2) (v := ?_) (by simp only [List.getElem?_toArray, List.getElem?_cons_succ, List.getElem?_cons_zero]; rfl) (by kernel_rfl) (by kernel_rfl) (by kernel_rfl) (fun _ _ _ h => h) (Or.inl ⟨by rfl, ?_⟩) (by assumption) ?_
                      rotate_left
                      · intro w hSw
                        (try dsimp only at hSw)
                        go_simp
                        (try with_reducible rfl)
                      simp only [Act.put, List.setIfInBounds_toArray, List.set_cons_zero, List.set_cons_succ]
                      refine wpAnyH_take (i := 3) (v := ?_) (by simp only [List.getElem?_toArray, List.getElem?_cons_succ, List.getElem?_cons_zero]; rfl) (by kernel_rfl) (by kernel_rfl) (by kernel_rfl) (fun _ _ _ h => h) (Or.inl ⟨by rfl, ?_⟩) (by assumption) ?_
                      rotate_left
                      · intro w hSw
                        (try dsimp only at hSw)
                        go_simp
                        (try with_reducible rfl)
                      simp only [Act.put, List.setIfInBounds_toArray, List.set_cons_zero, List.set_cons_succ]
                      refine wpAnyH_take (i := 4) (v := ?_) (by simp only [List.getElem?_toArray, List.getElem?_cons_succ, List.getElem?_cons_zero]; rfl) (by kernel_rfl) (by kernel_rfl) (by kernel_rfl) (fun _ _ _ h => h) (Or.inl ⟨by rfl, ?_⟩) (by assumption) ?_
                      rotate_left
                      · intro w hSw
                        (try dsimp only at hSw)
                        go_simp
                        (try with_reducible rfl)
                      simp only [Act.put, List.setIfInBounds_toArray, List.set_cons_zero, List.set_cons_succ]
                      refine wpAnyH_take (i := 5) (v := ?_) (by simp only [List.getElem?_toArray, List.getElem?_cons_succ, List.getElem?_cons_zero]; rfl) (by kernel_rfl) (by kernel_rfl) (by kernel_rfl) (fun _ _ _ h => h) (Or.inl ⟨by rfl, ?_⟩) (by assumption) ?_
                      rotate_left
                      · intro w hSw
                        (try dsimp only at hSw)
                        go_simp
                        (try with_reducible rfl)
                      simp only [Act.put, List.setIfInBounds_toArray, List.set_cons_zero, List.set_cons_succ]
                      refine wpAnyH_take (i := 6) (v := ?_) (by simp only [List.getElem?_toArray, List.getElem?_cons_succ, List.getElem?_cons_zero]; rfl) (by kernel_rfl) (by kernel_rfl) (by kernel_rfl) (fun _ _ _ h => h) (Or.inl ⟨by rfl, ?_⟩) (by assumption) ?_
                      rotate_left
                      · intro w hSw
                        (try dsimp only at hSw)
                        go_simp
                        (try with_reducible rfl)
                      simp only [Act.put, List.setIfInBounds_toArray, List.set_cons_zero, List.set_cons_succ]
                      refine wpAnyH_take (i := 7) (v := ?_) (by simp only [List.getElem?_toArray, List.getElem?_cons_succ, List.getElem?_cons_zero]; rfl) (by kernel_rfl) (by kernel_rfl) (by kernel_rfl) (fun _ _ _ h => h) (Or.inl ⟨by rfl, ?_⟩) (by assumption) ?_
                      rotate_left
                      · intro w hSw
                        (try dsimp only at hSw)
                        go_simp
                        (try with_reducible rfl)
                      simp only [Act.put, List.setIfInBounds_toArray, List.set_cons_zero, List.set_cons_succ]
                      refine wpAnyH_take (i := 8) (v := ?_) (by simp only [List.getElem?_toArray, List.getElem?_cons_succ, List.getElem?_cons_zero]; rfl) (by kernel_rfl) (by kernel_rfl) (by kernel_rfl) (fun _ _ _ h => h) (Or.inl ⟨by rfl, ?_⟩) (by assumption) ?_
                      rotate_left
                      · intro w hSw
                        (try dsimp only at hSw)
                        go_simp
                        (try with_reducible rfl)
                      simp only [Act.put, List.setIfInBounds_toArray, List.set_cons_zero, List.set_cons_succ]
                      refine wpAnyH_take (i := 9) (v := ?_) (by simp only [List.getElem?_toArray, List.getElem?_cons_succ, List.getElem?_cons_zero]; rfl) (by kernel_rfl) (by kernel_rfl) (by kernel_rfl) (fun _ _ _ h => h) (Or.inl ⟨by rfl, ?_⟩) (by assumption) ?_
                      rotate_left
                      · intro w hSw
                        (try dsimp only at hSw)
                        go_simp
                        (try with_reducible rfl)
                      simp only [Act.put, List.setIfInBounds_toArray, List.set_cons_zero, List.set_cons_succ]
                      refine wpAnyH_take (i := 10) (v := ?_) (by simp only [List.getElem?_toArray, List.getElem?_cons_succ, List.getElem?_cons_zero]; rfl) (by kernel_rfl) (by kernel_rfl) (by kernel_rfl) (fun _ _ _ h => h) (Or.inl ⟨by rfl, ?_⟩) (by assumption) ?_
                      rotate_left
                      · intro w hSw
                        (try dsimp only at hSw)
                        go_simp
                        (try with_reducible rfl)
                      simp only [Act.put, List.setIfInBounds_toArray, List.set_cons_zero, List.set_cons_succ]
                      refine wpAnyH_take (i := 11) (v := ?_) (by simp only [List.getElem?_toArray, List.getElem?_cons_succ, List.getElem?_cons_zero]; rfl) (by kernel_rfl) (by kernel_rfl) (by kernel_rfl) (fun _ _ _ h => h) (Or.inl ⟨by rfl, ?_⟩) (by assumption) ?_
                      rotate_left
                      · intro w hSw
                        (try dsimp only at hSw)
                        go_simp
                        (try with_reducible rfl)
                      simp only [Act.put, List.setIfInBounds_toArray, List.set_cons_zero, List.set_cons_succ]
                      try simp only [hfe]
                      refine wpAnyH_take (i := 12) (v := ?_) (by simp only [List.getElem?_toArray, List.getElem?_cons_succ, List.getElem?_cons_zero]; rfl) (by kernel_rfl) (by kernel_rfl) (by kernel_rfl) (fun _ _ _ h => h) (Or.inl ⟨by rfl, ?_⟩) (by assumption) ?_
                      rotate_left
                      · intro w hSw
                        (try dsimp only at hSw)
                        go_simp
                        (try with_reducible rfl)
                      simp only [Act.put, List.setIfInBounds_toArray, List.set_cons_zero, List.set_cons_succ]
                      refine wpAnyH_take (i := 13) (v := undef) (by simp only [List.getElem?_toArray, List.getElem?_cons_succ, List.getElem?_cons_zero]; rfl) (by kernel_rfl) (by kernel_rfl) (by kernel_rfl) (fun _ _ _ h => h) (Or.inr ⟨by rfl, rfl⟩) (by assumption) ?_
                      simp only [Act.put, List.setIfInBounds_toArray, List.set_cons_zero, List.set_cons_succ]
                      refine wpAnyH_take (i := 14) (v := undef) (by simp only [List.getElem?_toArray, List.getElem?_cons_succ, List.getElem?_cons_zero]; rfl) (by kernel_rfl) (by kernel_rfl) (by kernel_rfl) (fun _ _ _ h => h) (Or.inr ⟨by rfl, rfl⟩) (by assumption) ?_
                      simp only [Act.put, List.setIfInBounds_toArray, List.set_cons_zero, List.set_cons_succ]
                      refine wpAnyH_take (i := 15) (v := undef) (by simp only [List.getElem?_toArray, List.getElem?_cons_succ, List.getElem?_cons_zero]; rfl) (by kernel_rfl) (by kernel_rfl) (by kernel_rfl) (fun _ _ _ h => h) (Or.inr ⟨by rfl, rfl⟩) (by assumption) ?_
                      simp only [Act.put, List.setIfInBounds_toArray, List.set_cons_zero, List.set_cons_succ]
                      refine wpAnyH_take (i := 16) (v := undef) (by simp only [List.getElem?_toArray, List.getElem?_cons_succ, List.getElem?_cons_zero]; rfl) (by kernel_rfl) (by kernel_rfl) (by kernel_rfl) (fun _ _ _ h => h) (Or.inr ⟨by rfl, rfl⟩) (by assumption) ?_
                      simp only [Act.put, List.setIfInBounds_toArray, List.set_cons_zero, List.set_cons_succ]
                      refine wpAnyH_take (i := 17) (v := undef) (by simp only [List.getElem?_toArray, List.getElem?_cons_succ, List.getElem?_cons_zero]; rfl) (by kernel_rfl) (by kernel_rfl) (by kernel_rfl) (fun _ _ _ h => h) (Or.inr ⟨by rfl, rfl⟩) (by assumption) ?_
                      simp only [Act.put, List.setIfInBounds_toArray, List.set_cons_zero, List.set_cons_succ]
                      refine wpAnyH_take (i := 18) (v := undef) (by simp only [List.getElem?_toArray, List.getElem?_cons_succ, List.getElem?_cons_zero]; rfl) (by kernel_rfl) (by kernel_rfl) (by kernel_rfl) (fun _ _ _ h => h) (Or.inr ⟨by rfl, rfl⟩) (by assumption) ?_
                      simp only [Act.put, List.setIfInBounds_toArray, List.set_cons_zero, List.set_cons_succ]
                      refine wpAnyH_take (i := 19) (v := undef) (by simp only [List.getElem?_toArray, List.getElem?_cons_succ, List.getElem?_cons_zero]; rfl) (by kernel_rfl) (by kernel_rfl) (by kernel_rfl) (fun _ _ _ h => h) (Or.inr ⟨by rfl, rfl⟩) (by assumption) ?_
                      simp only [Act.put, List.setIfInBounds_toArray, List.set_cons_zero, List.set_cons_succ]
                      refine wpAnyH_take (i := 20) (v := undef) (by simp only [List.getElem?_toArray, List.getElem?_cons_succ, List.getElem?_cons_zero]; rfl) (by kernel_rfl) (by kernel_rfl) (by kernel_rfl) (fun _ _ _ h => h) (Or.inr ⟨by rfl, rfl⟩) (by assumption) ?_
                      simp only [Act.put, List.setIfInBounds_toArray, List.set_cons_zero, List.set_cons_succ]
                      refine wpAnyH_take (i := 21) (v := undef) (by simp only [List.getElem?_toArray, List.getElem?_cons_succ, List.getElem?_cons_zero]; rfl) (by kernel_rfl) (by kernel_rfl) (by kernel_rfl) (fun _ _ _ h => h) (Or.inr ⟨by rfl, rfl⟩) (by assumption) ?_
                      simp only [Act.put, List.setIfInBounds_toArray, List.set_cons_zero, List.set_cons_succ]
                      refine wpAnyH_take (i := 22) (v := ?_) (by simp only [List.getElem?_toArray, List.getElem?_cons_succ, List.getElem?_cons_zero]; rfl) (by kernel_rfl) (by kernel_rfl) (by kernel_rfl) (fun _ _ _ h => h) (Or.inl ⟨by rfl, ?_⟩) (by assumption) ?_
                      rotate_left
                      · intro w hSw
                        (try dsimp only at hSw)
                        go_simp
                        (try with_reducible rfl)
                      simp only [Act.put, List.setIfInBounds_toArray, List.set_cons_zero, List.set_cons_succ]
                      refine wpAnyH_take (i := 23) (v := ?_) (by simp only [List.getElem?_toArray, List.getElem?_cons_succ, List.getElem?_cons_zero]; rfl) (by kernel_rfl) (by kernel_rfl) (by kernel_rfl) (fun _ _ _ h => h) (Or.inl ⟨by rfl, ?_⟩) (by assumption) ?_
                      rotate_left
                      · intro w hSw
                        (try dsimp only at hSw)
                        go_simp
                        (try with_reducible rfl)
                      simp only [Act.put, List.setIfInBounds_toArray, List.set_cons_zero, List.set_cons_succ]
                      refine wpAnyH_take (i := 24) (v := ?_) (by simp only [List.getElem?_toArray, List.getElem?_cons_succ, List.getElem?_cons_zero]; rfl) (by kernel_rfl) (by kernel_rfl) (by kernel_rfl) (fun _ _ _ h => h) (Or.inl ⟨by rfl, ?_⟩) (by assumption) ?_
                      rotate_left
                      · intro w hSw
                        (try dsimp only at hSw)
                        go_simp
                        (try with_reducible rfl)
                      simp only [Act.put, List.setIfInBounds_toArray, List.set_cons_zero, List.set_cons_succ]
                      refine wpAnyH_done (by kernel_rfl) ?_ _
                      refine NoPanic.normal ?_
                      have k := hHeld.2.2.2.2.2.2.2.2
                      have k9 := k
                      clear hHeld
                      clear b10 b11 bz1 b20 b21 bz2
                      have KB41 := Lib.hid (KB40.out.trans k)
                      clear k
                      generalize wr.drew = W41 at *
                      have HK3 := Lib.hid (HK2.out.trans k9)
                      go_wp2_with fail
                      go_roundw
                      case rel => exact ⟨m + 1, by omega, by go_num, by rw [HN.out], HK3.out⟩
                      case measure => simp [intOf]; omega
                · have hml : m = gd.length := by omega
                  subst hml
                  have HI1 := Lib.hid (HI0.out.kept HK2.out)
                  have f0 := (HK2.out.cell (p := ⟨zc, oc + j, none⟩) hbc9).trans HY0.out
                  have hbf := Nat.lt_of_lt_of_le hbc9 HK2.out.size_le
                  cases hin : inG l x gd fc gd.length with
                  | false =>
                    have HN := Lib.hid (HHit.out hin)
                    have hol : O.length + 1 ≤ 1000000 := by have := HLe.out; have := HCl.out; omega
                    clear HHit HMis
                    go_wp2_with (refine wpList_ints _ rfl _ _ rfl W7 O _ (by rfl) (HI1.out.alloc _) _ _ 1 1 [fc] (by rfl) (by rfl) (ints_newG _ _ _ (Kept.refl _)) hol ?_; intro v3_ w3 HR3)
                    obtain ⟨A4, c4, rfl⟩ := row_slice HR3.1
                    have HI3 := Lib.hid HR3
                    clear HR3
                    go_roundw
                    case rel => exact ⟨j + 1, A4, c4, by omega, by go_num, by first | (rw [HN.out]; done) | (rw [HN.out]; simp; done), by rw [HN.out]; exact HI3.out⟩
                    case measure => simp [intOf]; omega
                  | true =>
                    have HN := Lib.hid (HMis.out hin)
                    clear HHit HMis
                    go_wp2_with fail
                    go_roundw
                    case rel => exact ⟨j + 1, B, d, by omega, by go_num, by rw [HN.out], by rw [HN.out]; exact HI1.out⟩
                    case measure => simp [intOf]; omega
            · have hjl : j = cm.length := by omega
              subst hjl
              rw [List.take_length] at HI ⊢
              have HBl := Lib.hid (badL_le l x gd cm)
              have hB := HI.out.cells rfl
              generalize badL l x gd cm = bd at *
              clear HI hlt
              replace HA := Lib.hid (HA.out.kept KB9.out)
              replace HL := Lib.hid (HL.out.kept KB9.out)
              replace HV := Lib.hid (HV.out.kept KB9.out)
              replace HO := Lib.hid (HO.out.kept KB9.out)
              replace HRw := Lib.hid (HRw.out.kept KB9.out)
              replace HGd := Lib.hid (HGd.out.kept KB9.out)
              replace HCm := Lib.hid (HCm.out.kept KB9.out)
              replace HB0 := Lib.hid (HB0.out.kept KB9.out)
              replace HB1 := Lib.hid (HB1.out.kept KB9.out)
              replace HB2 := Lib.hid (HB2.out.kept KB9.out)
              replace K0 := Lib.hid (K0.out.trans KB9.out)
              have KB10 := Lib.hid (Kept.refl wr)
              have HBd := Lib.hid hB
              clear hB
              have HOn := Lib.hid (fun w' (kk : Kept wr w') => on_any kA kc k lA lc l Bg dg gd x w' (by omega) (by have := HGl.out; omega) lhw HGm.out hwx (HA.out.kept kk) (HL.out.kept kk) (HGd.out.kept kk))
              have HWt := Lib.hid (fun w' (kk : Kept wr w') => weight_any kA kc k B bd d w' (HA.out.kept kk) (by have := HBl.out; have := HCl.out; omega) (HBd.out.kept kk))
              generalize onC k l gd x = nn at *
              generalize weightC k bd = mm at *
              obtain ⟨b00, b01, b02, b03, b04⟩ := (HB0.out.kept KB10.out).five
              have bz0 := (HB0.out.kept KB10.out).1
              obtain ⟨b10, b11⟩ := (HB1.out.kept KB10.out).two
              have bz1 := (HB1.out.kept KB10.out).1
              obtain ⟨b20, b21⟩ := (HB2.out.kept KB10.out).two
              have bz2 := (HB2.out.kept KB10.out).1
              go_wp2_with fail
              refine wp_region_noPanic ?_
              refine wp_region_held_drew (S := (fun w' => w'.cell? ⟨z0, 0, none⟩ = some (.slice kA k.ws.length kc) ∧ w'.cell? ⟨z0, 1, none⟩ = some (.int .u64 k.seed) ∧ w'.cell? ⟨z0, 2, none⟩ = some (.int .i64 k.ep) ∧ w'.cell? ⟨z0, 3, none⟩ = some (.int .i64 k.nu) ∧ w'.cell? ⟨z0, 4, none⟩ = some (.int .i64 k.de) ∧ w'.cell? ⟨z1, 0, none⟩ = some (.slice lA l.length lc) ∧ w'.cell? ⟨z1, 1, none⟩ = some (.slice vA v.length vc) ∧ w'.cell? ⟨z2, 0, none⟩ = some (.int .u64 x.1) ∧ w'.cell? ⟨z2, 1, none⟩ = some (.int .u64 x.2) ∧ Kept wr w')) (by kernel_rfl) ?_ (fun hHeld => ?_)
              · exact ⟨b00, b01, b02, b03, b04, b10, b11, b20, b21, (Kept.refl _).drew⟩
              refine wpAnyH_take (i := 0) (v := ?_) (by simp only [List.getElem?_toArray, List.getElem?_cons_succ, List.getElem?_cons_zero]; rfl) (by kernel_rfl) (by kernel_rfl) (by kernel_rfl) (fun _ _ _ h => h) (Or.inl ⟨by rfl, ?_⟩) (by assumption) ?_
              rotate_left
              · intro w hSw
                (try dsimp only at hSw)
                go_simp
                (try with_reducible rfl)
              simp only [Act.put, List.setIfInBounds_toArray, List.set_cons_zero, List.set_cons_succ]
              refine wpAnyH_take (i := 1) (v := ?_) (by simp only [List.getElem?_toArray, List.getElem?_cons_succ, List.getElem?_cons_zero]; rfl) (by kernel_rfl) (by kernel_rfl) (by kernel_rfl) (fun _ _ _ h => h) (Or.inl ⟨by rfl, ?_⟩) (by assumption) ?_
              rotate_left
              · intro w hSw
                (try dsimp only at hSw)
                go_simp
                (try with_reducible rfl)
              simp only [Act.put, List.setIfInBounds_toArray, List.set_cons_zero, List.set_cons_succ]
              refine wpAnyH_take (i := 2) (v := ?_) (by simp only [List.getElem?_toArray, List.getElem?_cons_succ, List.getElem?_cons_zero]; rfl) (by kernel_rfl) (by kernel_rfl) (by kernel_rfl) (fun _ _ _ h => h) (Or.inl ⟨by rfl, ?_⟩) (by assumption) ?_
              rotate_left
              · intro w hSw
                (try dsimp only at hSw)
                go_simp
                (try with_reducible rfl)
              simp only [Act.put, List.setIfInBounds_toArray, List.set_cons_zero, List.set_cons_succ]
              refine wpAnyH_take (i := 3) (v := ?_) (by simp only [List.getElem?_toArray, List.getElem?_cons_succ, List.getElem?_cons_zero]; rfl) (by kernel_rfl) (by kernel_rfl) (by kernel_rfl) (fun _ _ _ h => h) (Or.inl ⟨by rfl, ?_⟩) (by assumption) ?_
              rotate_left
              · intro w hSw
                (try dsimp only at hSw)
                go_simp
                (try with_reducible rfl)
              simp only [Act.put, List.setIfInBounds_toArray, List.set_cons_zero, List.set_cons_succ]
              refine wpAnyH_take (i := 4) (v := ?_) (by simp only [List.getElem?_toArray, List.getElem?_cons_succ, List.getElem?_cons_zero]; rfl) (by kernel_rfl) (by kernel_rfl) (by kernel_rfl) (fun _ _ _ h => h) (Or.inl ⟨by rfl, ?_⟩) (by assumption) ?_
              rotate_left
              · intro w hSw
                (try dsimp only at hSw)
                go_simp
                (try with_reducible rfl)
              simp only [Act.put, List.setIfInBounds_toArray, List.set_cons_zero, List.set_cons_succ]
              refine wpAnyH_take (i := 6) (v := ?_) (by simp only [List.getElem?_toArray, List.getElem?_cons_succ, List.getElem?_cons_zero]; rfl) (by kernel_rfl) (by kernel_rfl) (by kernel_rfl) (fun _ _ _ h => h) (Or.inl ⟨by rfl, ?_⟩) (by assumption) ?_
              rotate_left
              · intro w hSw
                (try dsimp only at hSw)
                go_simp
                (try with_reducible rfl)
              simp only [Act.put, List.setIfInBounds_toArray, List.set_cons_zero, List.set_cons_succ]
              refine wpAnyH_take (i := 7) (v := ?_) (by simp only [List.getElem?_toArray, List.getElem?_cons_succ, List.getElem?_cons_zero]; rfl) (by kernel_rfl) (by kernel_rfl) (by kernel_rfl) (fun _ _ _ h => h) (Or.inl ⟨by rfl, ?_⟩) (by assumption) ?_
              rotate_left
              · intro w hSw
                (try dsimp only at hSw)
                go_simp
                (try with_reducible rfl)
              simp only [Act.put, List.setIfInBounds_toArray, List.set_cons_zero, List.set_cons_succ]
              refine wpAnyH_ready (rs := [5]) (by kernel_rfl) (by simp) ?_
              refine AllReadyH.cons (by simp only [List.getElem?_toArray, List.getElem?_cons_succ, List.getElem?_cons_zero]; rfl) (fun K hK => ?_) AllReadyH.nil
              go_simp
              go_at_call 17; with_reducible refine (HOn.out _ (KB10.out.trans (hHeld.2.2.2.2.2.2.2.2.2))).mono ?_
              rintro e w' ⟨rfl, kk⟩
              try go_wp2_with fail
              refine hK.out _ _ ?_ (fun hHeld2 => ?_)
              · exact keepP9 bz0 bz0 bz0 bz0 bz0 bz1 bz1 bz2 bz2 hHeld kk
              clear hK K hHeld
              have hHeld := hHeld2
              clear hHeld2
              try simp only [Act.put, List.setIfInBounds_toArray, List.set_cons_zero, List.set_cons_succ]
              refine wpAnyH_ready (rs := [8]) (by kernel_rfl) (by simp) ?_
              refine AllReadyH.cons (by simp only [List.getElem?_toArray, List.getElem?_cons_succ, List.getElem?_cons_zero]; rfl) (fun K hK => ?_) AllReadyH.nil
              go_simp
              go_at_call 22; with_reducible refine (HWt.out _ (KB10.out.trans (hHeld.2.2.2.2.2.2.2.2.2))).mono ?_
              rintro e w' ⟨rfl, kk⟩
              try go_wp2_with fail
              refine hK.out _ _ ?_ (fun hHeld2 => ?_)
              · exact keepP9 bz0 bz0 bz0 bz0 bz0 bz1 bz1 bz2 bz2 hHeld kk
              clear hK K hHeld
              have hHeld := hHeld2
              clear hHeld2
              try simp only [Act.put, List.setIfInBounds_toArray, List.set_cons_zero, List.set_cons_succ]
              refine wpAnyH_take (i := 9) (v := ?_) (by simp only [List.getElem?_toArray, List.getElem?_cons_succ, List.getElem?_cons_zero]; rfl) (by kernel_rfl) (by kernel_rfl) (by kernel_rfl) (fun _ _ _ h => h) (Or.inl ⟨by rfl, ?_⟩) (by assumption) ?_
              rotate_left
              · intro w hSw
                (try dsimp only at hSw)
                go_simp
                (try with_reducible rfl)
              simp only [Act.put, List.setIfInBounds_toArray, List.set_cons_zero, List.set_cons_succ]
              refine wpAnyH_done (by kernel_rfl) ?_ _
              refine NoPanic.normal ?_
              have k := hHeld.2.2.2.2.2.2.2.2.2
              clear hHeld
              clear b00 b01 b02 b03 b04 bz0 b10 b11 bz1 b20 b21 bz2
              have KB11 := Lib.hid (KB10.out.trans k)
              clear k
              generalize w' = W11 at *
              by_cases hc : nn ≤ mm
              · have hcb : decide (nn ≤ mm) = true := decide_eq_true hc
                go_wp2_with fail
                go_ret
                exact ⟨by first | rfl | (simp; done), K0.out.trans KB11.out⟩
              · have hcb : decide (nn ≤ mm) = false := decide_eq_false hc
                have HU := Lib.hid (HOut.out (by omega))
                obtain ⟨b00, b01, b02, b03, b04⟩ := (HB0.out.kept KB11.out).five
                have bz0 := (HB0.out.kept KB11.out).1
                obtain ⟨b10, b11⟩ := (HB1.out.kept KB11.out).two
                have bz1 := (HB1.out.kept KB11.out).1
                obtain ⟨b20, b21⟩ := (HB2.out.kept KB11.out).two
                have bz2 := (HB2.out.kept KB11.out).1
                go_wp2_with fail
                refine wp_region_noPanic ?_
                refine wp_region_held_drew (S := (fun w' => w'.cell? ⟨z0, 0, none⟩ = some (.slice kA k.ws.length kc) ∧ w'.cell? ⟨z0, 1, none⟩ = some (.int .u64 k.seed) ∧ w'.cell? ⟨z0, 2, none⟩ = some (.int .i64 k.ep) ∧ w'.cell? ⟨z0, 3, none⟩ = some (.int .i64 k.nu) ∧ w'.cell? ⟨z0, 4, none⟩ = some (.int .i64 k.de) ∧ w'.cell? ⟨z1, 0, none⟩ = some (.slice lA l.length lc) ∧ w'.cell? ⟨z1, 1, none⟩ = some (.slice vA v.length vc) ∧ w'.cell? ⟨z2, 0, none⟩ = some (.int .u64 x.1) ∧ w'.cell? ⟨z2, 1, none⟩ = some (.int .u64 x.2) ∧ Kept W11 w')) (by kernel_rfl) ?_ (fun hHeld => ?_)
                · exact ⟨b00, b01, b02, b03, b04, b10, b11, b20, b21, (Kept.refl _).drew⟩
                refine wpAnyH_take (i := 0) (v := ?_) (by simp only [List.getElem?_toArray, List.getElem?_cons_succ, List.getElem?_cons_zero]; rfl) (by kernel_rfl) (by kernel_rfl) (by kernel_rfl) (fun _ _ _ h => h) (Or.inl ⟨by rfl, ?_⟩) (by assumption) ?_
                rotate_left
                · intro w hSw
                  (try dsimp only at hSw)
                  go_simp
                  (try with_reducible rfl)
                simp only [Act.put, List.setIfInBounds_toArray, List.set_cons_zero, List.set_cons_succ]
                refine wpAnyH_take (i := 1) (v := ?_) (by simp only [List.getElem?_toArray, List.getElem?_cons_succ, List.getElem?_cons_zero]; rfl) (by kernel_rfl) (by kernel_rfl) (by kernel_rfl) (fun _ _ _ h => h) (Or.inl ⟨by rfl, ?_⟩) (by assumption) ?_
                rotate_left
                · intro w hSw
                  (try dsimp only at hSw)
                  go_simp
                  (try with_reducible rfl)
                simp only [Act.put, List.setIfInBounds_toArray, List.set_cons_zero, List.set_cons_succ]
                refine wpAnyH_take (i := 2) (v := ?_) (by simp only [List.getElem?_toArray, List.getElem?_cons_succ, List.getElem?_cons_zero]; rfl) (by kernel_rfl) (by kernel_rfl) (by kernel_rfl) (fun _ _ _ h => h) (Or.inl ⟨by rfl, ?_⟩) (by assumption) ?_
                rotate_left
                · intro w hSw
                  (try dsimp only at hSw)
                  go_simp
                  (try with_reducible rfl)
                simp only [Act.put, List.setIfInBounds_toArray, List.set_cons_zero, List.set_cons_succ]
                refine wpAnyH_take (i := 3) (v := ?_) (by simp only [List.getElem?_toArray, List.getElem?_cons_succ, List.getElem?_cons_zero]; rfl) (by kernel_rfl) (by kernel_rfl) (by kernel_rfl) (fun _ _ _ h => h) (Or.inl ⟨by rfl, ?_⟩) (by assumption) ?_
                rotate_left
                · intro w hSw
                  (try dsimp only at hSw)
                  go_simp
                  (try with_reducible rfl)
                simp only [Act.put, List.setIfInBounds_toArray, List.set_cons_zero, List.set_cons_succ]
                refine wpAnyH_take (i := 4) (v := ?_) (by simp only [List.getElem?_toArray, List.getElem?_cons_succ, List.getElem?_cons_zero]; rfl) (by kernel_rfl) (by kernel_rfl) (by kernel_rfl) (fun _ _ _ h => h) (Or.inl ⟨by rfl, ?_⟩) (by assumption) ?_
                rotate_left
                · intro w hSw
                  (try dsimp only at hSw)
                  go_simp
                  (try with_reducible rfl)
                simp only [Act.put, List.setIfInBounds_toArray, List.set_cons_zero, List.set_cons_succ]
                refine wpAnyH_take (i := 5) (v := ?_) (by simp only [List.getElem?_toArray, List.getElem?_cons_succ, List.getElem?_cons_zero]; rfl) (by kernel_rfl) (by kernel_rfl) (by kernel_rfl) (fun _ _ _ h => h) (Or.inl ⟨by rfl, ?_⟩) (by assumption) ?_
                rotate_left
                · intro w hSw
                  (try dsimp only at hSw)
                  go_simp
                  (try with_reducible rfl)
                simp only [Act.put, List.setIfInBounds_toArray, List.set_cons_zero, List.set_cons_succ]
                refine wpAnyH_ready (rs := [6]) (by kernel_rfl) (by simp) ?_
                refine AllReadyH.cons (by simp only [List.getElem?_toArray, List.getElem?_cons_succ, List.getElem?_cons_zero]; rfl) (fun K hK => ?_) AllReadyH.nil
                go_simp
                go_at_call 14; with_reducible refine (goldHead_any kA kc k lA lc l vA vc v slot _ (by omega) khs (by omega) (by omega) lhw vhw (HA.out.kept (KB11.out.trans (hHeld.2.2.2.2.2.2.2.2.2))) (HL.out.kept (KB11.out.trans (hHeld.2.2.2.2.2.2.2.2.2))) (HV.out.kept (KB11.out.trans (hHeld.2.2.2.2.2.2.2.2.2)))).mono ?_
                rintro e w' ⟨R2, hR2, rfl, kk⟩
                have eR := HR.out.unique hR2
                subst eR
                try go_wp2_with fail
                refine hK.out _ _ ?_ (fun hHeld2 => ?_)
                · exact keepP9 bz0 bz0 bz0 bz0 bz0 bz1 bz1 bz2 bz2 hHeld kk
                clear hK K hHeld
                have hHeld := hHeld2
                clear hHeld2
                try simp only [Act.put, List.setIfInBounds_toArray, List.set_cons_zero, List.set_cons_succ]
                refine wpAnyH_ready (rs := [7]) (by kernel_rfl) (by simp) ?_
                refine AllReadyH.cons (by simp only [List.getElem?_toArray, List.getElem?_cons_succ, List.getElem?_cons_zero]; rfl) (fun K hK => ?_) AllReadyH.nil
                go_simp
                go_at_call 19; with_reducible refine (under_any lA lc l (by omega) lhw x (headC k l R) (headC_wf k l R) _ (HL.out.kept (KB11.out.trans (hHeld.2.2.2.2.2.2.2.2.2)))).mono ?_
                rintro e w' ⟨rfl, kk⟩
                rw [HU.out]
                try go_wp2_with fail
                refine hK.out _ _ ?_ (fun hHeld2 => ?_)
                · exact keepP9 bz0 bz0 bz0 bz0 bz0 bz1 bz1 bz2 bz2 hHeld kk
                clear hK K hHeld
                have hHeld := hHeld2
                clear hHeld2
                try simp only [Act.put, List.setIfInBounds_toArray, List.set_cons_zero, List.set_cons_succ]
                refine wpAnyH_take (i := 8) (v := ?_) (by simp only [List.getElem?_toArray, List.getElem?_cons_succ, List.getElem?_cons_zero]; rfl) (by kernel_rfl) (by kernel_rfl) (by kernel_rfl) (fun _ _ _ h => h) (Or.inl ⟨by rfl, ?_⟩) (by assumption) ?_
                rotate_left
                · intro w hSw
                  (try dsimp only at hSw)
                  go_simp
                  (try with_reducible rfl)
                simp only [Act.put, List.setIfInBounds_toArray, List.set_cons_zero, List.set_cons_succ]
                refine wpAnyH_done (by kernel_rfl) ?_ _
                refine NoPanic.normal ?_
                have k := hHeld.2.2.2.2.2.2.2.2.2
                clear hHeld
                clear b00 b01 b02 b03 b04 bz0 b10 b11 bz1 b20 b21 bz2
                have KB12 := Lib.hid (KB11.out.trans k)
                clear k
                generalize w' = W12 at *
                go_wp2_with fail
                go_ret
                exact ⟨by first | rfl | (simp; done), K0.out.trans KB12.out⟩

/-! ### The row's step -/
set_option maxRecDepth 100000 in
theorem lifted (os : Os) (started : os.Started) (H : Type) (enc : TypeId × Value → H) :
    ReturnsInHanded {} Tryz.checked os 6 .any (Rows.goldOutvotesSpec.pre6 enc Tryz.prog Tryz.f6 Rows.goldOutvotesRow.domain false) (Rows.goldOutvotesSpec.post enc Tryz.prog Tryz.f6 false true false false) := by
  refine returnsInHanded_of_change (C := Tryz.checked) own started (by kernel_rfl) Tryz.func6
    (ChangeSpec.witness6 (enc := enc) (C := Tryz.checked) false ⟨#[], #[.agg #[.slice none 0 0, .int .u64 0, .int .i64 0, .int .i64 0, .int .i64 0], .agg #[.slice none 0 0, .slice none 0 0], .int .i64 0, .agg #[.int .u64 0, .int .u64 0], .slice none 0 0], []⟩ 8 (by kernel_rfl) (by kernel_rfl) (by kernel_rfl) (by kernel_rfl)) ?_
  intro W base args ds gs before hval0 hW hcnd _
  have hval : ∀ (j : Nat) t v, Tryz.f6.params[j]? = some t → args[j]? = some v → Value.okWide Tryz.prog W .any base t v := hval0
  have hW' := hW
  obtain ⟨p, q, hA0, hV, rfl, hfz, hnd⟩ := hW
  have hA : DataW.TrodAll enc Tryz.prog W 0 (fun _ => true) true Tryz.f6.params.toList args.toList ds p := hA0
  rw [Tryz.params6] at hA hval
  obtain ⟨v0, vs0, d0, ds0, p0, q0, hargs, rfl, rfl, h0, r0⟩ := trodAll_cons hA
  obtain ⟨v1, vs1, d1, ds1, p1, q1, rfl, rfl, rfl, h1, r1⟩ := trodAll_cons r0
  obtain ⟨v2, vs2, d2, ds2, p2, q2, rfl, rfl, rfl, h2, r2⟩ := trodAll_cons r1
  obtain ⟨v3, vs3, d3, ds3, p3, q3, rfl, rfl, rfl, h3, r3⟩ := trodAll_cons r2
  obtain ⟨v4, vs4, d4, ds4, p4, q4, rfl, rfl, rfl, h4, r4⟩ := trodAll_cons r3
  obtain ⟨rfl, rfl, rfl⟩ := trodAll_nil r4
  obtain rfl : args = #[v0, v1, v2, v3, v4] := by cases args; simp_all
  obtain ⟨rfl, rfl⟩ := trodVars_none hV
  obtain ⟨kA, kc, k, rfl, khm, khs, khl⟩ := open_conf (hval 0 _ v0 rfl rfl) h0
  obtain ⟨lA, lc, l, vA, vc, v, rfl, lhm, lhc, lhw, lhl, vhm, vhc, vhw, vhl⟩ := open_view (hval 1 _ v1 rfl rfl) h1
  obtain ⟨slot, rfl, hslot1, hslot2⟩ := open_num (hval 2 _ v2 rfl rfl) h2
  obtain ⟨x, rfl, hx1, hx2⟩ := open_id (hval 3 _ v3 rfl rfl) h3
  obtain ⟨othA, othc, oth, rfl, othhm, othhb, othhl⟩ := open_list (hval 4 _ v4 rfl rfl) h4
  clear hA0 hval0
  refine (walk W kA kc k khm khs khl lA lc l vA vc v lhm lhc lhw lhl vhm vhc vhw vhl slot hslot1 hslot2 x hx1 hx2 othA othc oth othhm othhb othhl).mono fun e W' ⟨he, hb⟩ => ?_
  subst he
  exact ⟨_, rfl, law_post rfl (by kernel_rfl) rfl hW' rfl hb⟩

theorem over : Rows.goldOutvotesRow.holds Tryz.pinned (OpenSpec.ofChange Rows.goldOutvotesSpec) :=
  OpenClaim.holds_of_wide 6 Tryz.f6 rfl rfl rfl rfl rfl rfl rfl ⟨rfl, rfl, rfl, rfl, rfl⟩ rfl rfl rfl rfl rfl (by kernel_rfl) Tryz.func6 (by kernel_rfl)
    (of_decide_eq_true (by kernel_rfl)) (by unfold Func.isWrapper; first | (rw [if_pos (by decide +kernel)]; kernel_rfl) | (rw [if_neg (by decide +kernel)]; exact ⟨rfl, rfl⟩))
    (fun os started H enc _ => lifted os started H enc)

/-- The statement. -/
theorem proved : Rows.GoldOutvotesSaid :=
  over
#print axioms proved

end Go.Proofs.YtlapcnfhnfkbmaaGreat.goldOutvotes
