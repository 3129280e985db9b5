/-
  Law SlashTells of layer 12: which two votes nobody may have both, and who has, is what the document says, whatever votes.
-/
import Derived.Test.YthaofomhlmajbaaSlashAwake
import Derived.Test.YthaofomhlmajbaaFfgOpen
import Derived.Test.YthaofomhlmajbaaGround
namespace Go.Proofs.Ythaofomhlmajbaa.slashTells
set_option maxRecDepth 100000
set_option linter.unusedVariables false
set_option linter.unusedSimpArgs false
open Go.ChangeShapes Go.WideShapes Go.ChangeAt Go.RowKit
set_option linter.unusedVariables false

/-! ### The walk: the call returns true, and of what was there nothing has changed. -/
set_option maxRecDepth 100000 in
set_option maxHeartbeats 3200000 in
theorem walk (w : World) (a : Lk) (ha : WfLk a) (b : Lk) (hb : WfLk b) (vA : Option Addr) (vc : Nat) (v : List Lk) (vhm : v.length ≤ maxLen) (vhc : v.length ≤ vc) (vhw : WfLks v) (vhl : CellsAt w w.heap.size vA (lksCells v)) :
    Calls Try.prog 3 #[.agg #[.int .i64 a.f, .int .i64 a.s.e, .int .u64 a.s.r.1, .int .u64 a.s.r.2, .int .i64 a.t.e, .int .u64 a.t.r.1, .int .u64 a.t.r.2], .agg #[.int .i64 b.f, .int .i64 b.s.e, .int .u64 b.s.r.1, .int .u64 b.s.r.2, .int .i64 b.t.e, .int .u64 b.t.r.1, .int .u64 b.t.r.2], .slice vA v.length vc] w fun e w' => e = .returned (.bool true) ∧ Kept w w' := by
  go_enter Try.func3, Try.ntmps3
  go_wp2_with fail
  have K0 := Lib.hid (((Kept.refl w).alloc (.cells #[.int .i64 a.f, .int .i64 a.s.e, .int .u64 a.s.r.1, .int .u64 a.s.r.2, .int .i64 a.t.e, .int .u64 a.t.r.1, .int .u64 a.t.r.2] 28)).alloc (.cells #[.int .i64 b.f, .int .i64 b.s.e, .int .u64 b.s.r.1, .int .u64 b.s.r.2, .int .i64 b.t.e, .int .u64 b.t.r.1, .int .u64 b.t.r.2] 28))
  have HV := Lib.hid (vhl.kept K0.out)
  clear vhl
  have HB0 := Lib.hid ((HasCells.new w #[.int .i64 a.f, .int .i64 a.s.e, .int .u64 a.s.r.1, .int .u64 a.s.r.2, .int .i64 a.t.e, .int .u64 a.t.r.1, .int .u64 a.t.r.2] 28 (w.heap.size) (by simp)).alloc (.cells #[.int .i64 b.f, .int .i64 b.s.e, .int .u64 b.s.r.1, .int .u64 b.s.r.2, .int .i64 b.t.e, .int .u64 b.t.r.1, .int .u64 b.t.r.2] 28))
  have HB1 := Lib.hid (HasCells.new (w.alloc (.cells #[.int .i64 a.f, .int .i64 a.s.e, .int .u64 a.s.r.1, .int .u64 a.s.r.2, .int .i64 a.t.e, .int .u64 a.t.r.1, .int .u64 a.t.r.2] 28)) #[.int .i64 b.f, .int .i64 b.s.e, .int .u64 b.s.r.1, .int .u64 b.s.r.2, .int .i64 b.t.e, .int .u64 b.t.r.1, .int .u64 b.t.r.2] 28 (w.heap.size + 1) (by simp))
  generalize ((w.alloc (.cells #[.int .i64 a.f, .int .i64 a.s.e, .int .u64 a.s.r.1, .int .u64 a.s.r.2, .int .i64 a.t.e, .int .u64 a.t.r.1, .int .u64 a.t.r.2] 28)).alloc (.cells #[.int .i64 b.f, .int .i64 b.s.e, .int .u64 b.s.r.1, .int .u64 b.s.r.2, .int .i64 b.t.e, .int .u64 b.t.r.1, .int .u64 b.t.r.2] 28)) = W0 at *
  generalize w.heap.size + 1 = z1 at *
  generalize w.heap.size = z0 at *
  have KB0 := Lib.hid (Kept.refl W0)
  refine (slashAwake W0).mono ?_
  rintro e W1 ⟨rfl, k⟩
  have KB1 := Lib.hid (KB0.out.trans k)
  clear k
  by_cases hv40 : v.length ≤ 40
  · have hvb : decide ((40 : Int) < (v.length : Int)) = false := decide_eq_false (by omega)
    have HP1 := Lib.hid (fun w' => refPair12_any a b w')
    have HP2 := Lib.hid (fun w' => slashPair_any a b w' ha hb)
    generalize pairL a b = pb at *
    obtain ⟨b00, b01, b02, b03, b04, b05, b06⟩ := (HB0.out.kept KB1.out).seven
    have bz0 := (HB0.out.kept KB1.out).1
    obtain ⟨b10, b11, b12, b13, b14, b15, b16⟩ := (HB1.out.kept KB1.out).seven
    have bz1 := (HB1.out.kept KB1.out).1
    go_wp2_with fail
    clear b00 b01 b02 b03 b04 b05 b06 bz0 b10 b11 b12 b13 b14 b15 b16 bz1
    refine (HP1.out W1).mono ?_
    rintro e W2 ⟨rfl, k⟩
    have KB2 := Lib.hid (KB1.out.trans k)
    clear k
    obtain ⟨b00, b01, b02, b03, b04, b05, b06⟩ := (HB0.out.kept KB2.out).seven
    have bz0 := (HB0.out.kept KB2.out).1
    obtain ⟨b10, b11, b12, b13, b14, b15, b16⟩ := (HB1.out.kept KB2.out).seven
    have bz1 := (HB1.out.kept KB2.out).1
    go_wp2_with fail
    clear b00 b01 b02 b03 b04 b05 b06 bz0 b10 b11 b12 b13 b14 b15 b16 bz1
    refine (slashGuilty_any vA vc v W2 (by omega) vhw (HV.out.kept KB2.out)).mono ?_
    rintro e W3 ⟨G, A1, c1, hG, hl1, rfl, hC1, hc1, k⟩
    have KB3 := Lib.hid (KB2.out.trans k)
    clear k
    replace HV := Lib.hid (HV.out.kept KB3.out)
    replace HB0 := Lib.hid (HB0.out.kept KB3.out)
    replace HB1 := Lib.hid (HB1.out.kept KB3.out)
    replace K0 := Lib.hid (K0.out.trans KB3.out)
    have KB4 := Lib.hid (Kept.refl W3)
    have HG := Lib.hid hC1
    clear hC1
    obtain ⟨b00, b01, b02, b03, b04, b05, b06⟩ := (HB0.out.kept KB4.out).seven
    have bz0 := (HB0.out.kept KB4.out).1
    obtain ⟨b10, b11, b12, b13, b14, b15, b16⟩ := (HB1.out.kept KB4.out).seven
    have bz1 := (HB1.out.kept KB4.out).1
    go_wp2_with fail
    clear b00 b01 b02 b03 b04 b05 b06 bz0 b10 b11 b12 b13 b14 b15 b16 bz1
    refine (refGuilty_any vA vc v W3 (by omega) (HV.out.kept KB4.out)).mono ?_
    rintro e W5 ⟨H, A2, c2, hH, hl2, rfl, hC2, hc2, k⟩
    have KB5 := Lib.hid (KB4.out.trans k)
    clear k
    have e : G = H := hG.one hH
    subst e
    clear hG hH
    replace HV := Lib.hid (HV.out.kept KB5.out)
    replace HG := Lib.hid (HG.out.kept KB5.out)
    replace HB0 := Lib.hid (HB0.out.kept KB5.out)
    replace HB1 := Lib.hid (HB1.out.kept KB5.out)
    replace K0 := Lib.hid (K0.out.trans KB5.out)
    have KB6 := Lib.hid (Kept.refl W5)
    have HH := Lib.hid hC2
    clear hC2
    have hne : ((G.length : Int) != (G.length : Int)) = false := by simp
    obtain ⟨b00, b01, b02, b03, b04, b05, b06⟩ := (HB0.out.kept KB6.out).seven
    have bz0 := (HB0.out.kept KB6.out).1
    obtain ⟨b10, b11, b12, b13, b14, b15, b16⟩ := (HB1.out.kept KB6.out).seven
    have bz1 := (HB1.out.kept KB6.out).1
    go_wp2_with fail
    clear b00 b01 b02 b03 b04 b05 b06 bz0 b10 b11 b12 b13 b14 b15 b16 bz1
    refine (HP2.out W5).mono ?_
    rintro e W7 ⟨rfl, k⟩
    have KB7 := Lib.hid (KB6.out.trans k)
    clear k
    have hpp : (pb != pb) = false := by simp
    go_wp2_with fail
    go_loopw [11] (fun i w' => ∃ j : Nat, j ≤ G.length ∧ i = .int .i64 j ∧ Kept W7 w') (fun i _ => G.length - (intOf i).toNat)
    case atStart => exact ⟨0, by omega, rfl, Kept.refl _⟩
    case round =>
      obtain ⟨j, hj, rfl, k1⟩ := hrel
      have HKr := Lib.hid k1
      have KB8 := Lib.hid (KB7.out.trans k1)
      clear k1
      by_cases hlt : j < G.length
      · obtain ⟨z1_, o1_, rfl, hb1, x1⟩ := int_atS (HG.out.kept KB8.out) hlt
        obtain ⟨z2_, o2_, rfl, hb2, x2⟩ := int_atS (HH.out.kept KB8.out) hlt
        generalize G[j] = g at *
        have hgg : (g != g) = false := by simp
        go_wp2_with fail
        go_quiet (fail)
        go_wp2_with fail
        go_roundw
        case rel => exact ⟨j + 1, by omega, by go_num, HKr.out.drewN _⟩
        case measure => simp [intOf]; omega
      · have hjl : j = G.length := by omega
        subst hjl
        go_wp2_with fail
        go_ret
        exact ⟨by first | rfl | (simp; done), K0.out.trans KB8.out⟩
  · have hvb : decide ((40 : Int) < (v.length : Int)) = true := decide_eq_true (by omega)
    go_wp2_with fail
    go_ret
    exact ⟨by first | rfl | (simp; done), K0.out.trans KB1.out⟩

/-! ### The row's step -/
set_option maxRecDepth 100000 in
theorem lifted (os : Os) (started : os.Started) (H : Type) (enc : TypeId × Value → H) :
    ReturnsInHanded {} Try.checked os 3 .any (Rows.slashTellsSpec.pre6 enc Try.prog Try.f3 Rows.slashTellsRow.domain false) (Rows.slashTellsSpec.post enc Try.prog Try.f3 false true false false) := by
  refine returnsInHanded_of_change (C := Try.checked) own started (by kernel_rfl) Try.func3
    (ChangeSpec.witness6 (enc := enc) (C := Try.checked) false ⟨#[], #[.agg #[.int .i64 0, .int .i64 0, .int .u64 0, .int .u64 0, .int .i64 0, .int .u64 0, .int .u64 0], .agg #[.int .i64 0, .int .i64 0, .int .u64 0, .int .u64 0, .int .i64 0, .int .u64 0, .int .u64 0], .slice none 0 0], []⟩ 8 (by kernel_rfl) (by kernel_rfl) (by kernel_rfl) (by kernel_rfl)) ?_
  intro W base args ds gs before hval0 hW hcnd _
  have hval : ∀ (j : Nat) t v, Try.f3.params[j]? = some t → args[j]? = some v → Value.okWide Try.prog W .any base t v := hval0
  have hW' := hW
  obtain ⟨p, q, hA0, hV, rfl, hfz, hnd⟩ := hW
  have hA : DataW.TrodAll enc Try.prog W 0 (fun _ => true) true Try.f3.params.toList args.toList ds p := hA0
  rw [Try.params3] at hA hval
  obtain ⟨v0, vs0, d0, ds0, p0, q0, hargs, rfl, rfl, h0, r0⟩ := trodAll_cons hA
  obtain ⟨v1, vs1, d1, ds1, p1, q1, rfl, rfl, rfl, h1, r1⟩ := trodAll_cons r0
  obtain ⟨v2, vs2, d2, ds2, p2, q2, rfl, rfl, rfl, h2, r2⟩ := trodAll_cons r1
  obtain ⟨rfl, rfl, rfl⟩ := trodAll_nil r2
  obtain rfl : args = #[v0, v1, v2] := by cases args; simp_all
  obtain ⟨rfl, rfl⟩ := trodVars_none hV
  obtain ⟨a, rfl, ha⟩ := open_link (hval 0 _ v0 rfl rfl) h0
  obtain ⟨b, rfl, hb⟩ := open_link (hval 1 _ v1 rfl rfl) h1
  obtain ⟨vA, vc, v, rfl, vhm, vhc, vhw, vhl⟩ := open_links (hval 2 _ v2 rfl rfl) h2
  clear hA0 hval0
  refine (walk W a ha b hb vA vc v vhm vhc vhw vhl).mono fun e W' ⟨he, hb⟩ => ?_
  subst he
  exact ⟨_, rfl, law_post rfl (by kernel_rfl) rfl hW' rfl hb⟩

theorem over : Rows.slashTellsRow.holds Try.pinned (OpenSpec.ofChange Rows.slashTellsSpec) :=
  OpenClaim.holds_of_wide 3 Try.f3 rfl rfl rfl rfl rfl rfl rfl ⟨rfl, rfl, rfl, rfl, rfl⟩ rfl rfl rfl rfl rfl (by kernel_rfl) Try.func3 (by kernel_rfl)
    (of_decide_eq_true (by kernel_rfl)) (by unfold Func.isWrapper; first | (rw [if_pos (by decide +kernel)]; kernel_rfl) | (rw [if_neg (by decide +kernel)]; exact ⟨rfl, rfl⟩))
    (fun os started H enc _ => lifted os started H enc)

/-- The statement. -/
theorem proved : Rows.SlashTellsSaid :=
  over
#print axioms proved

end Go.Proofs.Ythaofomhlmajbaa.slashTells
