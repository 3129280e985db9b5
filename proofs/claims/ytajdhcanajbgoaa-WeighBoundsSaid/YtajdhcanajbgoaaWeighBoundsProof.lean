/-
  Law WeighBounds of layer 8: no more is on a block than on what it stands on, nor than all weigh, and with one more vote it is no less, whatever conf, blocks, votes and ids.
-/
import Derived.Test.YtajdhcanajbgoaaWeighAwake
import Derived.Test.YtajdhcanajbgoaaWeighKeep
import Derived.Test.YtajdhcanajbgoaaWeighFacts
import Derived.Test.YtajdhcanajbgoaaDutyG
import Derived.Test.YtajdhcanajbgoaaTreeG
import Derived.Test.YtajdhcanajbgoaaVoteG
import Derived.Test.YtajdhcanajbgoaaMixG
import Derived.Test.YtajdhcanajbgoaaVoteStep
namespace Go.Proofs.Ytajdhcanajbgoaa.weighBounds
set_option maxRecDepth 100000
open Go.ChangeShapes Go.WideShapes Go.ChangeAt Go.RowKit
set_option linter.unusedVariables false

theorem keepB {W w w' : World} {a b c : Nat} {p0 p1 p2 p3 p4 q0 q1 q2 q3 r0 r1 : Value} (ha : a < W.heap.size) (hb : b < W.heap.size) (hc : c < W.heap.size) (h : (w.cell? ⟨a, 0, none⟩ = some p0 ∧ w.cell? ⟨a, 1, none⟩ = some p1 ∧ w.cell? ⟨a, 2, none⟩ = some p2 ∧ w.cell? ⟨a, 3, none⟩ = some p3 ∧ w.cell? ⟨a, 4, none⟩ = some p4) ∧ (w.cell? ⟨b, 0, none⟩ = some q0 ∧ w.cell? ⟨b, 1, none⟩ = some q1 ∧ w.cell? ⟨b, 2, none⟩ = some q2 ∧ w.cell? ⟨b, 3, none⟩ = some q3) ∧ (w.cell? ⟨c, 0, none⟩ = some r0 ∧ w.cell? ⟨c, 1, none⟩ = some r1) ∧ Kept W w) (k : Kept w w') : (w'.cell? ⟨a, 0, none⟩ = some p0 ∧ w'.cell? ⟨a, 1, none⟩ = some p1 ∧ w'.cell? ⟨a, 2, none⟩ = some p2 ∧ w'.cell? ⟨a, 3, none⟩ = some p3 ∧ w'.cell? ⟨a, 4, none⟩ = some p4) ∧ (w'.cell? ⟨b, 0, none⟩ = some q0 ∧ w'.cell? ⟨b, 1, none⟩ = some q1 ∧ w'.cell? ⟨b, 2, none⟩ = some q2 ∧ w'.cell? ⟨b, 3, none⟩ = some q3) ∧ (w'.cell? ⟨c, 0, none⟩ = some r0 ∧ w'.cell? ⟨c, 1, none⟩ = some r1) ∧ Kept W w' := by
  obtain ⟨⟨ga0, ga1, ga2, ga3, ga4⟩, ⟨gb0, gb1, gb2, gb3⟩, ⟨gc0, gc1⟩, hk⟩ := h
  have ha2 : a < w.heap.size := Nat.lt_of_lt_of_le ha hk.size_le
  have hb2 : b < w.heap.size := Nat.lt_of_lt_of_le hb hk.size_le
  have hc2 : c < w.heap.size := Nat.lt_of_lt_of_le hc hk.size_le
  exact ⟨⟨(k.cell (p := ⟨a, 0, none⟩) ha2).trans ga0, (k.cell (p := ⟨a, 1, none⟩) ha2).trans ga1, (k.cell (p := ⟨a, 2, none⟩) ha2).trans ga2, (k.cell (p := ⟨a, 3, none⟩) ha2).trans ga3, (k.cell (p := ⟨a, 4, none⟩) ha2).trans ga4⟩, ⟨(k.cell (p := ⟨b, 0, none⟩) hb2).trans gb0, (k.cell (p := ⟨b, 1, none⟩) hb2).trans gb1, (k.cell (p := ⟨b, 2, none⟩) hb2).trans gb2, (k.cell (p := ⟨b, 3, none⟩) hb2).trans gb3⟩, ⟨(k.cell (p := ⟨c, 0, none⟩) hc2).trans gc0, (k.cell (p := ⟨c, 1, none⟩) hc2).trans gc1⟩, hk.trans k⟩

/-! ### The walk: the call returns true, and of what was there nothing has changed. -/
attribute [local go_sem high] eqIdN eqIdZ in
set_option maxRecDepth 100000 in
set_option maxHeartbeats 3200000 in
theorem walk (w : World) (kA : Option Addr) (kc : Nat) (k : Cf) (khm : k.ws.length ≤ maxLen) (khs : k.seed < 18446744073709551616) (khl : CellsAt w w.heap.size kA (intCells k.ws)) (lA : Option Addr) (lc : Nat) (l : List Bk) (lhm : l.length ≤ maxLen) (lhc : l.length ≤ lc) (lhw : WfL l) (lhl : CellsAt w w.heap.size lA (blockCells l)) (vA : Option Addr) (vc : Nat) (v : List Vt) (vhm : v.length ≤ maxLen) (vhc : v.length ≤ vc) (vhw : WfVs v) (vhl : CellsAt w w.heap.size vA (votesCells v)) (y : Vt) (hy : WfV y) (low : Nat × Nat) (hlow1 : low.1 < 18446744073709551616) (hlow2 : low.2 < 18446744073709551616) (x : Nat × Nat) (hx1 : x.1 < 18446744073709551616) (hx2 : x.2 < 18446744073709551616) :
    Calls Try.prog 5 #[.agg #[.slice kA k.ws.length kc, .int .u64 k.seed, .int .i64 k.ep, .int .i64 k.nu, .int .i64 k.de], .slice lA l.length lc, .slice vA v.length vc, .agg #[.int .i64 y.f, .int .i64 y.s, .int .u64 y.p.1, .int .u64 y.p.2], .agg #[.int .u64 low.1, .int .u64 low.2], .agg #[.int .u64 x.1, .int .u64 x.2]] w fun e w' => e = .returned (.bool true) ∧ Kept w w' := by
  cases hf : fewC k l v with
  | false =>
    go_enter Try.func5, Try.ntmps5
    go_wp2_with fail
    have HK_0 := Lib.hid (((((Kept.refl w).alloc (.cells #[.slice kA k.ws.length kc, .int .u64 k.seed, .int .i64 k.ep, .int .i64 k.nu, .int .i64 k.de] 25)).alloc (.cells #[.int .i64 y.f, .int .i64 y.s, .int .u64 y.p.1, .int .u64 y.p.2] 40)).alloc (.cells #[.int .u64 low.1, .int .u64 low.2] 29)).alloc (.cells #[.int .u64 x.1, .int .u64 x.2] 29))
    have HA_0 := Lib.hid (khl.kept HK_0.out)
    clear khl
    have HL_0 := Lib.hid (lhl.kept HK_0.out)
    clear lhl
    have HV_0 := Lib.hid (vhl.kept HK_0.out)
    clear vhl
    have HB0_0 := Lib.hid ((((HasCells.new w #[.slice kA k.ws.length kc, .int .u64 k.seed, .int .i64 k.ep, .int .i64 k.nu, .int .i64 k.de] 25 (w.heap.size) (by simp)).alloc (.cells #[.int .i64 y.f, .int .i64 y.s, .int .u64 y.p.1, .int .u64 y.p.2] 40)).alloc (.cells #[.int .u64 low.1, .int .u64 low.2] 29)).alloc (.cells #[.int .u64 x.1, .int .u64 x.2] 29))
    have HB1_0 := Lib.hid (((HasCells.new (w.alloc (.cells #[.slice kA k.ws.length kc, .int .u64 k.seed, .int .i64 k.ep, .int .i64 k.nu, .int .i64 k.de] 25)) #[.int .i64 y.f, .int .i64 y.s, .int .u64 y.p.1, .int .u64 y.p.2] 40 (w.heap.size + 1) (by simp)).alloc (.cells #[.int .u64 low.1, .int .u64 low.2] 29)).alloc (.cells #[.int .u64 x.1, .int .u64 x.2] 29))
    have HB2_0 := Lib.hid ((HasCells.new ((w.alloc (.cells #[.slice kA k.ws.length kc, .int .u64 k.seed, .int .i64 k.ep, .int .i64 k.nu, .int .i64 k.de] 25)).alloc (.cells #[.int .i64 y.f, .int .i64 y.s, .int .u64 y.p.1, .int .u64 y.p.2] 40)) #[.int .u64 low.1, .int .u64 low.2] 29 (w.heap.size + 1 + 1) (by simp)).alloc (.cells #[.int .u64 x.1, .int .u64 x.2] 29))
    have HB3_0 := Lib.hid (HasCells.new (((w.alloc (.cells #[.slice kA k.ws.length kc, .int .u64 k.seed, .int .i64 k.ep, .int .i64 k.nu, .int .i64 k.de] 25)).alloc (.cells #[.int .i64 y.f, .int .i64 y.s, .int .u64 y.p.1, .int .u64 y.p.2] 40)).alloc (.cells #[.int .u64 low.1, .int .u64 low.2] 29)) #[.int .u64 x.1, .int .u64 x.2] 29 (w.heap.size + 1 + 1 + 1) (by simp))
    generalize ((((w.alloc (.cells #[.slice kA k.ws.length kc, .int .u64 k.seed, .int .i64 k.ep, .int .i64 k.nu, .int .i64 k.de] 25)).alloc (.cells #[.int .i64 y.f, .int .i64 y.s, .int .u64 y.p.1, .int .u64 y.p.2] 40)).alloc (.cells #[.int .u64 low.1, .int .u64 low.2] 29)).alloc (.cells #[.int .u64 x.1, .int .u64 x.2] 29)) = W0 at *
    generalize w.heap.size + 1 + 1 + 1 = z3 at *
    generalize w.heap.size + 1 + 1 = z2 at *
    generalize w.heap.size + 1 = z1 at *
    generalize w.heap.size = z0 at *
    refine (weighAwake W0).mono ?_
    rintro e W1 ⟨rfl, k⟩
    have HK_1 := Lib.hid (HK_0.out.trans k)
    have HA_1 := Lib.hid (HA_0.out.kept k)
    have HL_1 := Lib.hid (HL_0.out.kept k)
    have HV_1 := Lib.hid (HV_0.out.kept k)
    have HB0_1 := Lib.hid (HB0_0.out.kept k)
    have HB1_1 := Lib.hid (HB1_0.out.kept k)
    have HB2_1 := Lib.hid (HB2_0.out.kept k)
    have HB3_1 := Lib.hid (HB3_0.out.kept k)
    clear k HK_0 HA_0 HL_0 HV_0 HB0_0 HB1_0 HB2_0 HB3_0
    obtain ⟨b00, b01, b02, b03, b04⟩ := HB0_1.out.five
    have bz0 := HB0_1.out.1
    obtain ⟨b10, b11, b12, b13⟩ := HB1_1.out.four
    have bz1 := HB1_1.out.1
    obtain ⟨b20, b21⟩ := HB2_1.out.two
    have bz2 := HB2_1.out.1
    obtain ⟨b30, b31⟩ := HB3_1.out.two
    have bz3 := HB3_1.out.1
    go_wp2_with fail
    clear b00 b01 b02 b03 b04 bz0 b10 b11 b12 b13 bz1 b20 b21 bz2 b30 b31 bz3
    refine (few_any kA kc k lA lc l vA vc v W1).mono ?_
    rintro e W2 ⟨rfl, k⟩
    have HK_2 := Lib.hid (HK_1.out.trans k)
    have HA_2 := Lib.hid (HA_1.out.kept k)
    have HL_2 := Lib.hid (HL_1.out.kept k)
    have HV_2 := Lib.hid (HV_1.out.kept k)
    have HB0_2 := Lib.hid (HB0_1.out.kept k)
    have HB1_2 := Lib.hid (HB1_1.out.kept k)
    have HB2_2 := Lib.hid (HB2_1.out.kept k)
    have HB3_2 := Lib.hid (HB3_1.out.kept k)
    clear k HK_1 HA_1 HL_1 HV_1 HB0_1 HB1_1 HB2_1 HB3_1
    rw [hf]
    obtain ⟨b00, b01, b02, b03, b04⟩ := HB0_2.out.five
    have bz0 := HB0_2.out.1
    obtain ⟨b10, b11, b12, b13⟩ := HB1_2.out.four
    have bz1 := HB1_2.out.1
    obtain ⟨b20, b21⟩ := HB2_2.out.two
    have bz2 := HB2_2.out.1
    obtain ⟨b30, b31⟩ := HB3_2.out.two
    have bz3 := HB3_2.out.1
    go_wp2_with fail
    clear b00 b01 b02 b03 b04 bz0 b10 b11 b12 b13 bz1 b20 b21 bz2 b30 b31 bz3
    go_ret
    exact ⟨by first | rfl | (simp; done), HK_2.out⟩
  | true =>
    obtain ⟨hk40, hl30, hv30⟩ := fewC_yes hf
    have HF := Lib.hid hf
    clear hf
    have HO1 := Lib.hid (fun w' (h1 : CellsAt w' w'.heap.size kA (intCells k.ws)) (h2 : CellsAt w' w'.heap.size lA (blockCells l)) (h3 : CellsAt w' w'.heap.size vA (votesCells v)) => on_any kA kc k lA lc l vA vc v x w' (by omega) (by omega) lhw vhw ⟨hx1, hx2⟩ h1 h2 h3)
    have HO4 := Lib.hid (fun w' (h1 : CellsAt w' w'.heap.size kA (intCells k.ws)) (h2 : CellsAt w' w'.heap.size lA (blockCells l)) (h3 : CellsAt w' w'.heap.size vA (votesCells v)) => on_any kA kc k lA lc l vA vc v low w' (by omega) (by omega) lhw vhw ⟨hlow1, hlow2⟩ h1 h2 h3)
    have HO2 := Lib.hid (fun V cv nv (hn : nv = (v ++ [y]).length) w' (h1 : CellsAt w' w'.heap.size kA (intCells k.ws)) (h2 : CellsAt w' w'.heap.size lA (blockCells l)) (h3 : CellsAt w' w'.heap.size V (votesCells (v ++ [y]))) => on_len kA kc k lA lc l l.length V cv (v ++ [y]) nv x w' rfl hn (by omega) (by simp; omega) lhw (wf_more vhw hy) ⟨hx1, hx2⟩ h1 h2 h3)
    have HO3 := Lib.hid (fun w' (h1 : CellsAt w' w'.heap.size kA (intCells k.ws)) (h2 : CellsAt w' w'.heap.size lA (blockCells l)) (h3 : CellsAt w' w'.heap.size vA (votesCells v)) => all_any kA kc k lA lc l vA vc v w' (by omega) (by omega) lhw vhw h1 h2 h3)
    have HT := Lib.hid (fun w' (h1 : CellsAt w' w'.heap.size kA (intCells k.ws)) => total_any kA kc k w' h1)
    have HU := Lib.hid (fun w' (h2 : CellsAt w' w'.heap.size lA (blockCells l)) => under_any lA lc l (by omega) lhw low x ⟨hx1, hx2⟩ w' h2)
    have hp0 := (on_bounds k l v x).1
    have hpq := on_more k l v y x
    have hpT := on_total k l v x
    have hpR := on_all k l v x
    have hps := Lib.hid (fun h => on_below (k := k) (l := l) v (low := low) (x := x) h)
    generalize onC k l v x = p at *
    generalize onC k l (v ++ [y]) x = q at *
    generalize totalC k = T at *
    generalize onC k l v zid = R at *
    generalize onC k l v low = s at *
    have e0 : ¬ p < 0 := by omega
    have e1 : ¬ p > T := by omega
    have e2 : ¬ q < p := by omega
    have e3 : ¬ p > R := by omega
    clear hp0 hpq hpT hpR
    go_enter Try.func5, Try.ntmps5
    go_wp2_with fail
    have HK_0 := Lib.hid (((((Kept.refl w).alloc (.cells #[.slice kA k.ws.length kc, .int .u64 k.seed, .int .i64 k.ep, .int .i64 k.nu, .int .i64 k.de] 25)).alloc (.cells #[.int .i64 y.f, .int .i64 y.s, .int .u64 y.p.1, .int .u64 y.p.2] 40)).alloc (.cells #[.int .u64 low.1, .int .u64 low.2] 29)).alloc (.cells #[.int .u64 x.1, .int .u64 x.2] 29))
    have HA_0 := Lib.hid (khl.kept HK_0.out)
    clear khl
    have HL_0 := Lib.hid (lhl.kept HK_0.out)
    clear lhl
    have HV_0 := Lib.hid (vhl.kept HK_0.out)
    clear vhl
    have HB0_0 := Lib.hid ((((HasCells.new w #[.slice kA k.ws.length kc, .int .u64 k.seed, .int .i64 k.ep, .int .i64 k.nu, .int .i64 k.de] 25 (w.heap.size) (by simp)).alloc (.cells #[.int .i64 y.f, .int .i64 y.s, .int .u64 y.p.1, .int .u64 y.p.2] 40)).alloc (.cells #[.int .u64 low.1, .int .u64 low.2] 29)).alloc (.cells #[.int .u64 x.1, .int .u64 x.2] 29))
    have HB1_0 := Lib.hid (((HasCells.new (w.alloc (.cells #[.slice kA k.ws.length kc, .int .u64 k.seed, .int .i64 k.ep, .int .i64 k.nu, .int .i64 k.de] 25)) #[.int .i64 y.f, .int .i64 y.s, .int .u64 y.p.1, .int .u64 y.p.2] 40 (w.heap.size + 1) (by simp)).alloc (.cells #[.int .u64 low.1, .int .u64 low.2] 29)).alloc (.cells #[.int .u64 x.1, .int .u64 x.2] 29))
    have HB2_0 := Lib.hid ((HasCells.new ((w.alloc (.cells #[.slice kA k.ws.length kc, .int .u64 k.seed, .int .i64 k.ep, .int .i64 k.nu, .int .i64 k.de] 25)).alloc (.cells #[.int .i64 y.f, .int .i64 y.s, .int .u64 y.p.1, .int .u64 y.p.2] 40)) #[.int .u64 low.1, .int .u64 low.2] 29 (w.heap.size + 1 + 1) (by simp)).alloc (.cells #[.int .u64 x.1, .int .u64 x.2] 29))
    have HB3_0 := Lib.hid (HasCells.new (((w.alloc (.cells #[.slice kA k.ws.length kc, .int .u64 k.seed, .int .i64 k.ep, .int .i64 k.nu, .int .i64 k.de] 25)).alloc (.cells #[.int .i64 y.f, .int .i64 y.s, .int .u64 y.p.1, .int .u64 y.p.2] 40)).alloc (.cells #[.int .u64 low.1, .int .u64 low.2] 29)) #[.int .u64 x.1, .int .u64 x.2] 29 (w.heap.size + 1 + 1 + 1) (by simp))
    generalize ((((w.alloc (.cells #[.slice kA k.ws.length kc, .int .u64 k.seed, .int .i64 k.ep, .int .i64 k.nu, .int .i64 k.de] 25)).alloc (.cells #[.int .i64 y.f, .int .i64 y.s, .int .u64 y.p.1, .int .u64 y.p.2] 40)).alloc (.cells #[.int .u64 low.1, .int .u64 low.2] 29)).alloc (.cells #[.int .u64 x.1, .int .u64 x.2] 29)) = W0 at *
    generalize w.heap.size + 1 + 1 + 1 = z3 at *
    generalize w.heap.size + 1 + 1 = z2 at *
    generalize w.heap.size + 1 = z1 at *
    generalize w.heap.size = z0 at *
    refine (weighAwake W0).mono ?_
    rintro e W1 ⟨rfl, k⟩
    have HK_1 := Lib.hid (HK_0.out.trans k)
    have HA_1 := Lib.hid (HA_0.out.kept k)
    have HL_1 := Lib.hid (HL_0.out.kept k)
    have HV_1 := Lib.hid (HV_0.out.kept k)
    have HB0_1 := Lib.hid (HB0_0.out.kept k)
    have HB1_1 := Lib.hid (HB1_0.out.kept k)
    have HB2_1 := Lib.hid (HB2_0.out.kept k)
    have HB3_1 := Lib.hid (HB3_0.out.kept k)
    clear k HK_0 HA_0 HL_0 HV_0 HB0_0 HB1_0 HB2_0 HB3_0
    obtain ⟨b00, b01, b02, b03, b04⟩ := HB0_1.out.five
    have bz0 := HB0_1.out.1
    obtain ⟨b10, b11, b12, b13⟩ := HB1_1.out.four
    have bz1 := HB1_1.out.1
    obtain ⟨b20, b21⟩ := HB2_1.out.two
    have bz2 := HB2_1.out.1
    obtain ⟨b30, b31⟩ := HB3_1.out.two
    have bz3 := HB3_1.out.1
    go_wp2_with fail
    clear b00 b01 b02 b03 b04 bz0 b10 b11 b12 b13 bz1 b20 b21 bz2 b30 b31 bz3
    refine (few_any kA kc k lA lc l vA vc v W1).mono ?_
    rintro e W2 ⟨rfl, k⟩
    have HK_2 := Lib.hid (HK_1.out.trans k)
    have HA_2 := Lib.hid (HA_1.out.kept k)
    have HL_2 := Lib.hid (HL_1.out.kept k)
    have HV_2 := Lib.hid (HV_1.out.kept k)
    have HB0_2 := Lib.hid (HB0_1.out.kept k)
    have HB1_2 := Lib.hid (HB1_1.out.kept k)
    have HB2_2 := Lib.hid (HB2_1.out.kept k)
    have HB3_2 := Lib.hid (HB3_1.out.kept k)
    clear k HK_1 HA_1 HL_1 HV_1 HB0_1 HB1_1 HB2_1 HB3_1
    rw [HF.out]
    obtain ⟨b00, b01, b02, b03, b04⟩ := HB0_2.out.five
    have bz0 := HB0_2.out.1
    obtain ⟨b10, b11, b12, b13⟩ := HB1_2.out.four
    have bz1 := HB1_2.out.1
    obtain ⟨b20, b21⟩ := HB2_2.out.two
    have bz2 := HB2_2.out.1
    obtain ⟨b30, b31⟩ := HB3_2.out.two
    have bz3 := HB3_2.out.1
    go_wp2_with fail
    clear b00 b01 b02 b03 b04 bz0 b10 b11 b12 b13 bz1 b20 b21 bz2 b30 b31 bz3
    refine (HO1.out W2 HA_2.out HL_2.out HV_2.out).mono ?_
    rintro e W3 ⟨rfl, k⟩
    have HK_3 := Lib.hid (HK_2.out.trans k)
    have HA_3 := Lib.hid (HA_2.out.kept k)
    have HL_3 := Lib.hid (HL_2.out.kept k)
    have HV_3 := Lib.hid (HV_2.out.kept k)
    have HB0_3 := Lib.hid (HB0_2.out.kept k)
    have HB1_3 := Lib.hid (HB1_2.out.kept k)
    have HB2_3 := Lib.hid (HB2_2.out.kept k)
    have HB3_3 := Lib.hid (HB3_2.out.kept k)
    clear k HK_2 HA_2 HL_2 HV_2 HB0_2 HB1_2 HB2_2 HB3_2
    obtain ⟨b00, b01, b02, b03, b04⟩ := HB0_3.out.five
    have bz0 := HB0_3.out.1
    obtain ⟨b10, b11, b12, b13⟩ := HB1_3.out.four
    have bz1 := HB1_3.out.1
    obtain ⟨b20, b21⟩ := HB2_3.out.two
    have bz2 := HB2_3.out.1
    obtain ⟨b30, b31⟩ := HB3_3.out.two
    have bz3 := HB3_3.out.1
    go_wp2_with fail
    clear b00 b01 b02 b03 b04 bz0 b10 b11 b12 b13 bz1 b20 b21 bz2 b30 b31 bz3
    obtain ⟨b00, b01, b02, b03, b04⟩ := HB0_3.out.five
    have bz0 := HB0_3.out.1
    obtain ⟨b10, b11, b12, b13⟩ := HB1_3.out.four
    have bz1 := HB1_3.out.1
    obtain ⟨b20, b21⟩ := HB2_3.out.two
    have bz2 := HB2_3.out.1
    obtain ⟨b30, b31⟩ := HB3_3.out.two
    have bz3 := HB3_3.out.1
    have hlen : v.length + 1 ≤ 1000000 := by omega
    have hq := (⟨⟨b00, b01, b02, b03, b04⟩, ⟨b10, b11, b12, b13⟩, ⟨b30, b31⟩, Kept.refl W3⟩ : (_ ∧ _ ∧ _ ∧ _ ∧ _) ∧ (_ ∧ _ ∧ _ ∧ _) ∧ (_ ∧ _) ∧ _)
    go_region_held3 (fun w' => (w'.cell? ⟨z0, 0, none⟩ = some (.slice kA k.ws.length kc) ∧ w'.cell? ⟨z0, 1, none⟩ = some (.int .u64 k.seed) ∧ w'.cell? ⟨z0, 2, none⟩ = some (.int .i64 k.ep) ∧ w'.cell? ⟨z0, 3, none⟩ = some (.int .i64 k.nu) ∧ w'.cell? ⟨z0, 4, none⟩ = some (.int .i64 k.de)) ∧ (w'.cell? ⟨z1, 0, none⟩ = some (.int .i64 y.f) ∧ w'.cell? ⟨z1, 1, none⟩ = some (.int .i64 y.s) ∧ w'.cell? ⟨z1, 2, none⟩ = some (.int .u64 y.p.1) ∧ w'.cell? ⟨z1, 3, none⟩ = some (.int .u64 y.p.2)) ∧ (w'.cell? ⟨z3, 0, none⟩ = some (.int .u64 x.1) ∧ w'.cell? ⟨z3, 1, none⟩ = some (.int .u64 x.2)) ∧ Kept W3 w')
      (first | exact hq | exact ⟨⟨b00, b01, b02, b03, b04⟩, ⟨b10, b11, b12, b13⟩, ⟨b30, b31⟩, (Kept.refl _).drew⟩ | assumption | exact keepB bz0 bz1 bz3 hq (Kept.trans (Kept.drew (Kept.refl _)) b2.2) | exact keepB bz0 bz1 bz3 hq (Kept.trans (Kept.drew (Kept.alloc (Kept.refl _) _)) b2.2) | exact keepB bz0 bz1 bz3 hq (Kept.trans (Kept.drew (Kept.refl _)) b1.2) | exact keepB bz0 bz1 bz3 hq (Kept.trans (Kept.drew (Kept.alloc (Kept.refl _) _)) b1.2) | exact keepB bz0 bz1 bz3 hq (Kept.drew (Kept.alloc (Kept.refl _) _)) | exact keepB bz0 bz1 bz3 (by assumption) ((Kept.refl _).alloc _) | exact keepB bz0 bz1 bz3 (by assumption) (by assumption))
      (first
        | (refine step_vnil _ (by rfl) (.tmp 36) (by rfl) _ vA v.length vc v (by rfl) rfl (HV_3.out.kept (Kept.refl _).drew) (by omega) ?_; intro A1 d1 w1 b1)
        | (refine step_vnil _ (by rfl) (.tmp 36) (by rfl) _ vA v.length vc v (by rfl) rfl (HV_3.out.kept (Kept.drew (Kept.alloc (Kept.refl _) _))) (by omega) ?_; intro A1 d1 w1 b1)
        | (refine step_vts _ (by rfl) (.tmp 37) (.tmp 39) (by rfl) _ v _ (by rfl) (b1.alloc _) _ _ 1 1 [y] (by rfl) rfl (votes_one _ _ _ _ rfl) hlen ?_; intro AM dM w2 b2)
        | (refine step_vts _ (by rfl) (.tmp 37) (.tmp 39) (by rfl) _ v _ (by rfl) b1 _ _ 1 1 [y] (by rfl) rfl (((votes_one W3 _ _ _ rfl).kept (Kept.drew (Kept.refl _))).kept b1.2) hlen ?_; intro AM dM w2 b2)
        | (go_at_call 11; ((with_reducible refine (HO2.out AM dM _ (by simp) _ (HA_3.out.kept (And.right (And.right (And.right (by assumption))))) (HL_3.out.kept (And.right (And.right (And.right (by assumption))))) (b2.cells rfl)).mono ?_); rintro e w' ⟨rfl, kk⟩)))
    all_goals
      rename_i hh
      have k := hh.2.2.2
      clear hh hq b1 b2 kk
      clear b00 b01 b02 b03 b04 bz0 b10 b11 b12 b13 bz1 b20 b21 bz2 b30 b31 bz3
      have HK_4 := Lib.hid (HK_3.out.trans k)
      have HA_4 := Lib.hid (HA_3.out.kept k)
      have HL_4 := Lib.hid (HL_3.out.kept k)
      have HV_4 := Lib.hid (HV_3.out.kept k)
      have HB0_4 := Lib.hid (HB0_3.out.kept k)
      have HB1_4 := Lib.hid (HB1_3.out.kept k)
      have HB2_4 := Lib.hid (HB2_3.out.kept k)
      have HB3_4 := Lib.hid (HB3_3.out.kept k)
      clear k HK_3 HA_3 HL_3 HV_3 HB0_3 HB1_3 HB2_3 HB3_3
      generalize w' = W4 at *
      obtain ⟨b00, b01, b02, b03, b04⟩ := HB0_4.out.five
      have bz0 := HB0_4.out.1
      obtain ⟨b10, b11, b12, b13⟩ := HB1_4.out.four
      have bz1 := HB1_4.out.1
      obtain ⟨b20, b21⟩ := HB2_4.out.two
      have bz2 := HB2_4.out.1
      obtain ⟨b30, b31⟩ := HB3_4.out.two
      have bz3 := HB3_4.out.1
      go_wp2_with fail
      clear b00 b01 b02 b03 b04 bz0 b10 b11 b12 b13 bz1 b20 b21 bz2 b30 b31 bz3
      refine (HT.out W4 HA_4.out).mono ?_
      rintro e W5 ⟨rfl, k⟩
      have HK_5 := Lib.hid (HK_4.out.trans k)
      have HA_5 := Lib.hid (HA_4.out.kept k)
      have HL_5 := Lib.hid (HL_4.out.kept k)
      have HV_5 := Lib.hid (HV_4.out.kept k)
      have HB0_5 := Lib.hid (HB0_4.out.kept k)
      have HB1_5 := Lib.hid (HB1_4.out.kept k)
      have HB2_5 := Lib.hid (HB2_4.out.kept k)
      have HB3_5 := Lib.hid (HB3_4.out.kept k)
      clear k HK_4 HA_4 HL_4 HV_4 HB0_4 HB1_4 HB2_4 HB3_4
      obtain ⟨b00, b01, b02, b03, b04⟩ := HB0_5.out.five
      have bz0 := HB0_5.out.1
      obtain ⟨b10, b11, b12, b13⟩ := HB1_5.out.four
      have bz1 := HB1_5.out.1
      obtain ⟨b20, b21⟩ := HB2_5.out.two
      have bz2 := HB2_5.out.1
      obtain ⟨b30, b31⟩ := HB3_5.out.two
      have bz3 := HB3_5.out.1
      go_wp2_with fail
      clear b00 b01 b02 b03 b04 bz0 b10 b11 b12 b13 bz1 b20 b21 bz2 b30 b31 bz3
      refine (HO3.out W5 HA_5.out HL_5.out HV_5.out).mono ?_
      rintro e W6 ⟨rfl, k⟩
      have HK_6 := Lib.hid (HK_5.out.trans k)
      have HA_6 := Lib.hid (HA_5.out.kept k)
      have HL_6 := Lib.hid (HL_5.out.kept k)
      have HV_6 := Lib.hid (HV_5.out.kept k)
      have HB0_6 := Lib.hid (HB0_5.out.kept k)
      have HB1_6 := Lib.hid (HB1_5.out.kept k)
      have HB2_6 := Lib.hid (HB2_5.out.kept k)
      have HB3_6 := Lib.hid (HB3_5.out.kept k)
      clear k HK_5 HA_5 HL_5 HV_5 HB0_5 HB1_5 HB2_5 HB3_5
      obtain ⟨b00, b01, b02, b03, b04⟩ := HB0_6.out.five
      have bz0 := HB0_6.out.1
      obtain ⟨b10, b11, b12, b13⟩ := HB1_6.out.four
      have bz1 := HB1_6.out.1
      obtain ⟨b20, b21⟩ := HB2_6.out.two
      have bz2 := HB2_6.out.1
      obtain ⟨b30, b31⟩ := HB3_6.out.two
      have bz3 := HB3_6.out.1
      go_wp2_with fail
      clear b00 b01 b02 b03 b04 bz0 b10 b11 b12 b13 bz1 b20 b21 bz2 b30 b31 bz3
      refine (HU.out W6 HL_6.out).mono ?_
      rintro e W7 ⟨rfl, k⟩
      have HK_7 := Lib.hid (HK_6.out.trans k)
      have HA_7 := Lib.hid (HA_6.out.kept k)
      have HL_7 := Lib.hid (HL_6.out.kept k)
      have HV_7 := Lib.hid (HV_6.out.kept k)
      have HB0_7 := Lib.hid (HB0_6.out.kept k)
      have HB1_7 := Lib.hid (HB1_6.out.kept k)
      have HB2_7 := Lib.hid (HB2_6.out.kept k)
      have HB3_7 := Lib.hid (HB3_6.out.kept k)
      clear k HK_6 HA_6 HL_6 HV_6 HB0_6 HB1_6 HB2_6 HB3_6
      cases hu : underC l low x with
      | false =>
        clear hu hps
        obtain ⟨b00, b01, b02, b03, b04⟩ := HB0_7.out.five
        have bz0 := HB0_7.out.1
        obtain ⟨b10, b11, b12, b13⟩ := HB1_7.out.four
        have bz1 := HB1_7.out.1
        obtain ⟨b20, b21⟩ := HB2_7.out.two
        have bz2 := HB2_7.out.1
        obtain ⟨b30, b31⟩ := HB3_7.out.two
        have bz3 := HB3_7.out.1
        go_wp2_with fail
        clear b00 b01 b02 b03 b04 bz0 b10 b11 b12 b13 bz1 b20 b21 bz2 b30 b31 bz3
        go_ret
        exact ⟨by first | rfl | (simp; done), HK_7.out⟩
      | true =>
        have e4 : p ≤ s := hps.out hu
        clear hu hps
        obtain ⟨b00, b01, b02, b03, b04⟩ := HB0_7.out.five
        have bz0 := HB0_7.out.1
        obtain ⟨b10, b11, b12, b13⟩ := HB1_7.out.four
        have bz1 := HB1_7.out.1
        obtain ⟨b20, b21⟩ := HB2_7.out.two
        have bz2 := HB2_7.out.1
        obtain ⟨b30, b31⟩ := HB3_7.out.two
        have bz3 := HB3_7.out.1
        go_wp2_with fail
        clear b00 b01 b02 b03 b04 bz0 b10 b11 b12 b13 bz1 b20 b21 bz2 b30 b31 bz3
        refine (HO4.out W7 HA_7.out HL_7.out HV_7.out).mono ?_
        rintro e W8 ⟨rfl, k⟩
        have HK_8 := Lib.hid (HK_7.out.trans k)
        have HA_8 := Lib.hid (HA_7.out.kept k)
        have HL_8 := Lib.hid (HL_7.out.kept k)
        have HV_8 := Lib.hid (HV_7.out.kept k)
        have HB0_8 := Lib.hid (HB0_7.out.kept k)
        have HB1_8 := Lib.hid (HB1_7.out.kept k)
        have HB2_8 := Lib.hid (HB2_7.out.kept k)
        have HB3_8 := Lib.hid (HB3_7.out.kept k)
        clear k HK_7 HA_7 HL_7 HV_7 HB0_7 HB1_7 HB2_7 HB3_7
        obtain ⟨b00, b01, b02, b03, b04⟩ := HB0_8.out.five
        have bz0 := HB0_8.out.1
        obtain ⟨b10, b11, b12, b13⟩ := HB1_8.out.four
        have bz1 := HB1_8.out.1
        obtain ⟨b20, b21⟩ := HB2_8.out.two
        have bz2 := HB2_8.out.1
        obtain ⟨b30, b31⟩ := HB3_8.out.two
        have bz3 := HB3_8.out.1
        go_wp2_with fail
        clear b00 b01 b02 b03 b04 bz0 b10 b11 b12 b13 bz1 b20 b21 bz2 b30 b31 bz3
        go_ret
        exact ⟨by first | rfl | (simp; done), HK_8.out⟩

/-! ### The row's step -/
set_option maxRecDepth 100000 in
theorem lifted (os : Os) (started : os.Started) (H : Type) (enc : TypeId × Value → H) :
    ReturnsInHanded {} Try.checked os 5 .any (Rows.weighBoundsSpec.pre6 enc Try.prog Try.f5 Rows.weighBoundsRow.domain false) (Rows.weighBoundsSpec.post enc Try.prog Try.f5 false true false false) := by
  refine returnsInHanded_of_change (C := Try.checked) own started (by kernel_rfl) Try.func5
    (ChangeSpec.witness6 (enc := enc) (C := Try.checked) false ⟨#[], #[.agg #[.slice none 0 0, .int .u64 0, .int .i64 0, .int .i64 0, .int .i64 0], .slice none 0 0, .slice none 0 0, .agg #[.int .i64 0, .int .i64 0, .int .u64 0, .int .u64 0], .agg #[.int .u64 0, .int .u64 0], .agg #[.int .u64 0, .int .u64 0]], []⟩ 8 (by kernel_rfl) (by kernel_rfl) (by kernel_rfl) (by kernel_rfl)) ?_
  intro W base args ds gs before hval0 hW hcnd _
  have hval : ∀ (j : Nat) t v, Try.f5.params[j]? = some t → args[j]? = some v → Value.okWide Try.prog W .any base t v := hval0
  have hW' := hW
  obtain ⟨p, q, hA0, hV, rfl, hfz, hnd⟩ := hW
  have hA : DataW.TrodAll enc Try.prog W 0 (fun _ => true) true Try.f5.params.toList args.toList ds p := hA0
  rw [Try.params5] at hA hval
  obtain ⟨v0, vs0, d0, ds0, p0, q0, hargs, rfl, rfl, h0, r0⟩ := trodAll_cons hA
  obtain ⟨v1, vs1, d1, ds1, p1, q1, rfl, rfl, rfl, h1, r1⟩ := trodAll_cons r0
  obtain ⟨v2, vs2, d2, ds2, p2, q2, rfl, rfl, rfl, h2, r2⟩ := trodAll_cons r1
  obtain ⟨v3, vs3, d3, ds3, p3, q3, rfl, rfl, rfl, h3, r3⟩ := trodAll_cons r2
  obtain ⟨v4, vs4, d4, ds4, p4, q4, rfl, rfl, rfl, h4, r4⟩ := trodAll_cons r3
  obtain ⟨v5, vs5, d5, ds5, p5, q5, rfl, rfl, rfl, h5, r5⟩ := trodAll_cons r4
  obtain ⟨rfl, rfl, rfl⟩ := trodAll_nil r5
  obtain rfl : args = #[v0, v1, v2, v3, v4, v5] := by cases args; simp_all
  obtain ⟨rfl, rfl⟩ := trodVars_none hV
  obtain ⟨kA, kc, k, rfl, khm, khs, khl⟩ := open_conf (hval 0 _ v0 rfl rfl) h0
  obtain ⟨lA, lc, l, rfl, lhm, lhc, lhw, lhl⟩ := open_blocks (hval 1 _ v1 rfl rfl) h1
  obtain ⟨vA, vc, v, rfl, vhm, vhc, vhw, vhl⟩ := open_votes (hval 2 _ v2 rfl rfl) h2
  obtain ⟨y, rfl, hy⟩ := open_vt (hval 3 _ v3 rfl rfl) h3
  obtain ⟨low, rfl, hlow1, hlow2⟩ := open_id (hval 4 _ v4 rfl rfl) h4
  obtain ⟨x, rfl, hx1, hx2⟩ := open_id (hval 5 _ v5 rfl rfl) h5
  clear hA0 hval0
  refine (walk W kA kc k khm khs khl lA lc l lhm lhc lhw lhl vA vc v vhm vhc vhw vhl y hy low hlow1 hlow2 x hx1 hx2).mono fun e W' ⟨he, hb⟩ => ?_
  subst he
  exact ⟨_, rfl, law_post rfl (by kernel_rfl) rfl hW' rfl hb⟩

theorem over : Rows.weighBoundsRow.holds Try.pinned (OpenSpec.ofChange Rows.weighBoundsSpec) :=
  OpenClaim.holds_of_wide 5 Try.f5 rfl rfl rfl rfl rfl rfl rfl ⟨rfl, rfl, rfl, rfl, rfl⟩ rfl rfl rfl rfl rfl (by kernel_rfl) Try.func5 (by kernel_rfl)
    (of_decide_eq_true (by kernel_rfl)) (by unfold Func.isWrapper; first | (rw [if_pos (by decide +kernel)]; kernel_rfl) | (rw [if_neg (by decide +kernel)]; exact ⟨rfl, rfl⟩))
    (fun os started H enc _ => lifted os started H enc)

/-- The statement. -/
theorem proved : Rows.WeighBoundsSaid :=
  over
#print axioms proved

end Go.Proofs.Ytajdhcanajbgoaa.weighBounds
