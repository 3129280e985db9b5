/-
  Law ArrayTells of layer 10: any array may be, or not, and with one block more, with weight moved, and its top, it is what the document says, or has the error, whatever items, ids and number.
-/
import Derived.Test.YtabmdilhfiembaaArrayAwake
import Derived.Test.YtabmdilhfiembaaArrayOpen
import Derived.Test.YtabmdilhfiembaaArrayRefOps
import Derived.Test.YtabmdilhfiembaaGround
import Derived.Test.YtabmdilhfiembaaMixG
namespace Go.Proofs.Ytabmdilhfiembaa.arrayTells
set_option maxRecDepth 100000
set_option linter.unusedVariables false
set_option linter.unusedSimpArgs false
open Go.ChangeShapes Go.WideShapes Go.ChangeAt Go.RowKit
set_option linter.unusedVariables false

theorem insC_length (a : List It) (id par : Id2) : (insC a id par).1.length ≤ a.length + 1 := by
  unfold insC
  split
  · simp
  · split
    · simp
    · split
      · simp
      · split
        · simp
        · rw [anewC_length, putI_length]; omega
theorem movC_length (a : List It) (id : Id2) (y : Int) : (movC a id y).1.length ≤ a.length := by
  unfold movC
  split
  · simp
  · split
    · simp
    · split
      · rw [anewC_length, ownI_length]; omega
      · simp
theorem same_any (A : Option Addr) (c : Nat) (a : List It) (B : Option Addr) (d : Nat) (hl : a.length ≤ 100000) (w : World) (hA : CellsAt w w.heap.size A (itemCells a)) (hB : CellsAt w w.heap.size B (itemCells a)) :
    Calls Try.prog 23 #[.slice A a.length c, .slice B a.length d] w fun e w' => e = .returned (.bool true) ∧ Kept w w' := by
  have h := refSame_any A c a B d a hl hl w hA hB
  rw [sameL_iff.2 rfl] at h
  exact h

/-! ### The walk: the call returns true, and of what was there nothing has changed. -/
attribute [local go_sem high] eqIdN eqIdZ in
set_option maxRecDepth 100000 in
set_option maxHeartbeats 3200000 in
theorem walk (w : World) (aA : Option Addr) (ac : Nat) (a : List It) (ahm : a.length ≤ maxLen) (ahc : a.length ≤ ac) (ahl : CellsAt w w.heap.size aA (itemCells a)) (id : Nat × Nat) (hid1 : id.1 < 18446744073709551616) (hid2 : id.2 < 18446744073709551616) (par : Nat × Nat) (hpar1 : par.1 < 18446744073709551616) (hpar2 : par.2 < 18446744073709551616) (y : Int) (hy1 : -9223372036854775808 ≤ y) (hy2 : y ≤ 9223372036854775807) :
    Calls Try.prog 4 #[.slice aA a.length ac, .agg #[.int .u64 id.1, .int .u64 id.2], .agg #[.int .u64 par.1, .int .u64 par.2], .int .i64 y] w fun e w' => e = .returned (.bool true) ∧ Kept w w' := by
  by_cases h70 : a.length ≤ 70
  · go_enter Try.func4, Try.ntmps4
    go_wp2_with fail
    have K0 := Lib.hid (((Kept.refl w).alloc (.cells #[.int .u64 id.1, .int .u64 id.2] 29)).alloc (.cells #[.int .u64 par.1, .int .u64 par.2] 29))
    have HA := Lib.hid (ahl.kept K0.out)
    clear ahl
    have HB0 := Lib.hid ((HasCells.new w #[.int .u64 id.1, .int .u64 id.2] 29 (w.heap.size) (by simp)).alloc (.cells #[.int .u64 par.1, .int .u64 par.2] 29))
    have HB1 := Lib.hid (HasCells.new (w.alloc (.cells #[.int .u64 id.1, .int .u64 id.2] 29)) #[.int .u64 par.1, .int .u64 par.2] 29 (w.heap.size + 1) (by simp))
    generalize ((w.alloc (.cells #[.int .u64 id.1, .int .u64 id.2] 29)).alloc (.cells #[.int .u64 par.1, .int .u64 par.2] 29)) = W0 at *
    generalize w.heap.size + 1 = z1 at *
    generalize w.heap.size = z0 at *
    have KB0 := Lib.hid (Kept.refl W0)
    have hlen : ([] : List It).length + a.length ≤ 1000000 := by simp; omega
    have HMay := Lib.hid (fun w' (kk : Kept W0 w') => mayI_any aA ac a h70 ahc w' (HA.out.kept kk))
    have HTop := Lib.hid (fun w' (kk : Kept W0 w') => topI_any aA ac a h70 ahc w' (HA.out.kept kk))
    have HRMay := Lib.hid (fun w' (kk : Kept W0 w') => refMayA_any aA ac a h70 w' (HA.out.kept kk))
    have HRTop := Lib.hid (fun w' (kk : Kept W0 w') => refTopA_any aA ac a h70 w' (HA.out.kept kk))
    have HIns := Lib.hid (fun w' (kk : Kept W0 w') => insI_any aA ac a h70 ahc id par w' (HA.out.kept kk))
    have HRIns := Lib.hid (fun w' (kk : Kept W0 w') => refInsA_any aA ac a h70 id par w' (HA.out.kept kk))
    have HMov := Lib.hid (fun w' (kk : Kept W0 w') => movI_any aA ac a h70 ahc id y hy1 hy2 w' (HA.out.kept kk))
    have HRMov := Lib.hid (fun w' (kk : Kept W0 w') => refMovA_any aA ac a h70 id y hy1 hy2 w' (HA.out.kept kk))
    have HL1 := Lib.hid (insC_length a id par)
    have HL2 := Lib.hid (movC_length a id y)
    have HSa := Lib.hid (fun B cb w' (kk : Kept W0 w') (hB : CellsAt w' w'.heap.size B (itemCells a)) => same_any aA ac a B cb (by omega) w' (HA.out.kept kk) hB)
    generalize insC a id par = r at *
    generalize movC a id y = q at *
    generalize mayI a = m at *
    generalize topC a = tp at *
    have hr1 : r.1.length ≤ 100000 := by have := HL1.out; omega
    have hq1 : q.1.length ≤ 100000 := by have := HL2.out; omega
    refine (arrayAwake W0).mono ?_
    rintro e W1 ⟨rfl, k⟩
    have KB1 := Lib.hid (KB0.out.trans k)
    clear k
    have HA1 := Lib.hid (HA.out.kept KB1.out)
    obtain ⟨b00, b01⟩ := (HB0.out.kept KB1.out).two
    have bz0 := (HB0.out.kept KB1.out).1
    obtain ⟨b10, b11⟩ := (HB1.out.kept KB1.out).two
    have bz1 := (HB1.out.kept KB1.out).1
    go_wp2_with (refine wpList_its _ rfl 36 Try.underlying36 _ _ rfl W1 [] _ rfl (Its.nil W1) _ aA a.length ac a rfl rfl HA1.out hlen ?_; intro WA wc w' HI' _; rw [List.nil_append] at HI'; have HIw := Lib.hid HI'; clear HI')
    clear b00 b01 bz0 b10 b11 bz1
    have hW := HIw.out.cells rfl
    have kw := HIw.out.2
    clear HIw HA1
    generalize w' = V0 at *
    have KB2 := Lib.hid (KB1.out.trans kw)
    clear kw
    have HX0 := Lib.hid hW
    clear hW
    refine (HRMay.out V0 KB2.out).mono ?_
    rintro e W3 ⟨rfl, k⟩
    replace HX0 := Lib.hid (HX0.out.kept k)
    have KB3 := Lib.hid (KB2.out.trans k)
    clear k
    obtain ⟨b00, b01⟩ := (HB0.out.kept KB3.out).two
    have bz0 := (HB0.out.kept KB3.out).1
    obtain ⟨b10, b11⟩ := (HB1.out.kept KB3.out).two
    have bz1 := (HB1.out.kept KB3.out).1
    go_wp2_with fail
    clear b00 b01 bz0 b10 b11 bz1
    refine (HIns.out W3 KB3.out).mono ?_
    rintro e W4 ⟨A1, n1, rfl, hHX1, _, k⟩
    replace HX0 := Lib.hid (HX0.out.kept k)
    have KB4 := Lib.hid (KB3.out.trans k)
    clear k
    have HX1 := Lib.hid hHX1
    clear hHX1
    obtain ⟨b00, b01⟩ := (HB0.out.kept KB4.out).two
    have bz0 := (HB0.out.kept KB4.out).1
    obtain ⟨b10, b11⟩ := (HB1.out.kept KB4.out).two
    have bz1 := (HB1.out.kept KB4.out).1
    go_wp2_with fail
    clear b00 b01 bz0 b10 b11 bz1
    refine (HRIns.out W4 KB4.out).mono ?_
    rintro e W5 ⟨A2, n2, rfl, hHX2, _, k⟩
    replace HX0 := Lib.hid (HX0.out.kept k)
    replace HX1 := Lib.hid (HX1.out.kept k)
    have KB5 := Lib.hid (KB4.out.trans k)
    clear k
    have HX2 := Lib.hid hHX2
    clear hHX2
    obtain ⟨b00, b01⟩ := (HB0.out.kept KB5.out).two
    have bz0 := (HB0.out.kept KB5.out).1
    obtain ⟨b10, b11⟩ := (HB1.out.kept KB5.out).two
    have bz1 := (HB1.out.kept KB5.out).1
    go_wp2_with fail
    clear b00 b01 bz0 b10 b11 bz1
    refine (HMov.out W5 KB5.out).mono ?_
    rintro e W6 ⟨A3, n3, rfl, hHX3, _, k⟩
    replace HX0 := Lib.hid (HX0.out.kept k)
    replace HX1 := Lib.hid (HX1.out.kept k)
    replace HX2 := Lib.hid (HX2.out.kept k)
    have KB6 := Lib.hid (KB5.out.trans k)
    clear k
    have HX3 := Lib.hid hHX3
    clear hHX3
    obtain ⟨b00, b01⟩ := (HB0.out.kept KB6.out).two
    have bz0 := (HB0.out.kept KB6.out).1
    obtain ⟨b10, b11⟩ := (HB1.out.kept KB6.out).two
    have bz1 := (HB1.out.kept KB6.out).1
    go_wp2_with fail
    clear b00 b01 bz0 b10 b11 bz1
    refine (HRMov.out W6 KB6.out).mono ?_
    rintro e W7 ⟨A4, n4, rfl, hHX4, _, k⟩
    replace HX0 := Lib.hid (HX0.out.kept k)
    replace HX1 := Lib.hid (HX1.out.kept k)
    replace HX2 := Lib.hid (HX2.out.kept k)
    replace HX3 := Lib.hid (HX3.out.kept k)
    have KB7 := Lib.hid (KB6.out.trans k)
    clear k
    have HX4 := Lib.hid hHX4
    clear hHX4
    obtain ⟨b00, b01⟩ := (HB0.out.kept KB7.out).two
    have bz0 := (HB0.out.kept KB7.out).1
    obtain ⟨b10, b11⟩ := (HB1.out.kept KB7.out).two
    have bz1 := (HB1.out.kept KB7.out).1
    go_wp2_with fail
    clear b00 b01 bz0 b10 b11 bz1
    refine (same_any A1 n1 r.1 A2 n2 hr1 W7 HX1.out HX2.out).mono ?_
    rintro e W8 ⟨rfl, k⟩
    replace HX0 := Lib.hid (HX0.out.kept k)
    replace HX1 := Lib.hid (HX1.out.kept k)
    replace HX2 := Lib.hid (HX2.out.kept k)
    replace HX3 := Lib.hid (HX3.out.kept k)
    replace HX4 := Lib.hid (HX4.out.kept k)
    have KB8 := Lib.hid (KB7.out.trans k)
    clear k
    obtain ⟨b00, b01⟩ := (HB0.out.kept KB8.out).two
    have bz0 := (HB0.out.kept KB8.out).1
    obtain ⟨b10, b11⟩ := (HB1.out.kept KB8.out).two
    have bz1 := (HB1.out.kept KB8.out).1
    go_wp2_with fail
    clear b00 b01 bz0 b10 b11 bz1
    refine (same_any A3 n3 q.1 A4 n4 hq1 W8 HX3.out HX4.out).mono ?_
    rintro e W9 ⟨rfl, k⟩
    replace HX0 := Lib.hid (HX0.out.kept k)
    replace HX1 := Lib.hid (HX1.out.kept k)
    replace HX2 := Lib.hid (HX2.out.kept k)
    replace HX3 := Lib.hid (HX3.out.kept k)
    replace HX4 := Lib.hid (HX4.out.kept k)
    have KB9 := Lib.hid (KB8.out.trans k)
    clear k
    obtain ⟨b00, b01⟩ := (HB0.out.kept KB9.out).two
    have bz0 := (HB0.out.kept KB9.out).1
    obtain ⟨b10, b11⟩ := (HB1.out.kept KB9.out).two
    have bz1 := (HB1.out.kept KB9.out).1
    go_wp2_with fail
    clear b00 b01 bz0 b10 b11 bz1
    refine (HSa.out WA wc W9 KB9.out HX0.out).mono ?_
    rintro e W10 ⟨rfl, k⟩
    replace HX0 := Lib.hid (HX0.out.kept k)
    replace HX1 := Lib.hid (HX1.out.kept k)
    replace HX2 := Lib.hid (HX2.out.kept k)
    replace HX3 := Lib.hid (HX3.out.kept k)
    replace HX4 := Lib.hid (HX4.out.kept k)
    have KB10 := Lib.hid (KB9.out.trans k)
    clear k
    obtain ⟨b00, b01⟩ := (HB0.out.kept KB10.out).two
    have bz0 := (HB0.out.kept KB10.out).1
    obtain ⟨b10, b11⟩ := (HB1.out.kept KB10.out).two
    have bz1 := (HB1.out.kept KB10.out).1
    go_wp2_with fail
    clear b00 b01 bz0 b10 b11 bz1
    refine (HMay.out W10 KB10.out).mono ?_
    rintro e W11 ⟨rfl, k⟩
    replace HX0 := Lib.hid (HX0.out.kept k)
    replace HX1 := Lib.hid (HX1.out.kept k)
    replace HX2 := Lib.hid (HX2.out.kept k)
    replace HX3 := Lib.hid (HX3.out.kept k)
    replace HX4 := Lib.hid (HX4.out.kept k)
    have KB11 := Lib.hid (KB10.out.trans k)
    clear k
    obtain ⟨b00, b01⟩ := (HB0.out.kept KB11.out).two
    have bz0 := (HB0.out.kept KB11.out).1
    obtain ⟨b10, b11⟩ := (HB1.out.kept KB11.out).two
    have bz1 := (HB1.out.kept KB11.out).1
    go_wp2_with fail
    clear b00 b01 bz0 b10 b11 bz1
    refine (HTop.out W11 KB11.out).mono ?_
    rintro e W12 ⟨rfl, k⟩
    replace HX0 := Lib.hid (HX0.out.kept k)
    replace HX1 := Lib.hid (HX1.out.kept k)
    replace HX2 := Lib.hid (HX2.out.kept k)
    replace HX3 := Lib.hid (HX3.out.kept k)
    replace HX4 := Lib.hid (HX4.out.kept k)
    have KB12 := Lib.hid (KB11.out.trans k)
    clear k
    obtain ⟨b00, b01⟩ := (HB0.out.kept KB12.out).two
    have bz0 := (HB0.out.kept KB12.out).1
    obtain ⟨b10, b11⟩ := (HB1.out.kept KB12.out).two
    have bz1 := (HB1.out.kept KB12.out).1
    go_wp2_with fail
    clear b00 b01 bz0 b10 b11 bz1
    have hs1 : sameI tp tp = true := sameI_yes rfl
    refine (HRTop.out W12 KB12.out).mono ?_
    rintro e W13 ⟨rfl, k⟩
    replace HX0 := Lib.hid (HX0.out.kept k)
    replace HX1 := Lib.hid (HX1.out.kept k)
    replace HX2 := Lib.hid (HX2.out.kept k)
    replace HX3 := Lib.hid (HX3.out.kept k)
    replace HX4 := Lib.hid (HX4.out.kept k)
    have KB13 := Lib.hid (KB12.out.trans k)
    clear k
    obtain ⟨b00, b01⟩ := (HB0.out.kept KB13.out).two
    have bz0 := (HB0.out.kept KB13.out).1
    obtain ⟨b10, b11⟩ := (HB1.out.kept KB13.out).two
    have bz1 := (HB1.out.kept KB13.out).1
    go_wp2_with fail
    clear b00 b01 bz0 b10 b11 bz1
    go_ret
    exact ⟨by first | rfl | (simp; done), K0.out.trans KB13.out⟩
  · go_enter Try.func4, Try.ntmps4
    go_wp2_with fail
    have K0 := Lib.hid (((Kept.refl w).alloc (.cells #[.int .u64 id.1, .int .u64 id.2] 29)).alloc (.cells #[.int .u64 par.1, .int .u64 par.2] 29))
    have HA := Lib.hid (ahl.kept K0.out)
    clear ahl
    have HB0 := Lib.hid ((HasCells.new w #[.int .u64 id.1, .int .u64 id.2] 29 (w.heap.size) (by simp)).alloc (.cells #[.int .u64 par.1, .int .u64 par.2] 29))
    have HB1 := Lib.hid (HasCells.new (w.alloc (.cells #[.int .u64 id.1, .int .u64 id.2] 29)) #[.int .u64 par.1, .int .u64 par.2] 29 (w.heap.size + 1) (by simp))
    generalize ((w.alloc (.cells #[.int .u64 id.1, .int .u64 id.2] 29)).alloc (.cells #[.int .u64 par.1, .int .u64 par.2] 29)) = W0 at *
    generalize w.heap.size + 1 = z1 at *
    generalize w.heap.size = z0 at *
    have KB0 := Lib.hid (Kept.refl W0)
    refine (arrayAwake W0).mono ?_
    rintro e W1 ⟨rfl, k⟩
    have KB1 := Lib.hid (KB0.out.trans k)
    clear k
    obtain ⟨b00, b01⟩ := (HB0.out.kept KB1.out).two
    have bz0 := (HB0.out.kept KB1.out).1
    obtain ⟨b10, b11⟩ := (HB1.out.kept KB1.out).two
    have bz1 := (HB1.out.kept KB1.out).1
    go_wp2_with fail
    clear b00 b01 bz0 b10 b11 bz1
    go_ret
    exact ⟨by first | rfl | (simp; done), K0.out.trans KB1.out⟩

/-! ### The row's step -/
set_option maxRecDepth 100000 in
theorem lifted (os : Os) (started : os.Started) (H : Type) (enc : TypeId × Value → H) :
    ReturnsInHanded {} Try.checked os 4 .any (Rows.arrayTellsSpec.pre6 enc Try.prog Try.f4 Rows.arrayTellsRow.domain false) (Rows.arrayTellsSpec.post enc Try.prog Try.f4 false true false false) := by
  refine returnsInHanded_of_change (C := Try.checked) own started (by kernel_rfl) Try.func4
    (ChangeSpec.witness6 (enc := enc) (C := Try.checked) false ⟨#[], #[.slice none 0 0, .agg #[.int .u64 0, .int .u64 0], .agg #[.int .u64 0, .int .u64 0], .int .i64 0], []⟩ 8 (by kernel_rfl) (by kernel_rfl) (by kernel_rfl) (by kernel_rfl)) ?_
  intro W base args ds gs before hval0 hW hcnd _
  have hval : ∀ (j : Nat) t v, Try.f4.params[j]? = some t → args[j]? = some v → Value.okWide Try.prog W .any base t v := hval0
  have hW' := hW
  obtain ⟨p, q, hA0, hV, rfl, hfz, hnd⟩ := hW
  have hA : DataW.TrodAll enc Try.prog W 0 (fun _ => true) true Try.f4.params.toList args.toList ds p := hA0
  rw [Try.params4] at hA hval
  obtain ⟨v0, vs0, d0, ds0, p0, q0, hargs, rfl, rfl, h0, r0⟩ := trodAll_cons hA
  obtain ⟨v1, vs1, d1, ds1, p1, q1, rfl, rfl, rfl, h1, r1⟩ := trodAll_cons r0
  obtain ⟨v2, vs2, d2, ds2, p2, q2, rfl, rfl, rfl, h2, r2⟩ := trodAll_cons r1
  obtain ⟨v3, vs3, d3, ds3, p3, q3, rfl, rfl, rfl, h3, r3⟩ := trodAll_cons r2
  obtain ⟨rfl, rfl, rfl⟩ := trodAll_nil r3
  obtain rfl : args = #[v0, v1, v2, v3] := by cases args; simp_all
  obtain ⟨rfl, rfl⟩ := trodVars_none hV
  obtain ⟨aA, ac, a, rfl, ahm, ahc, ahl⟩ := open_items (hval 0 _ v0 rfl rfl) h0
  obtain ⟨id, rfl, hid1, hid2⟩ := open_id (hval 1 _ v1 rfl rfl) h1
  obtain ⟨par, rfl, hpar1, hpar2⟩ := open_id (hval 2 _ v2 rfl rfl) h2
  obtain ⟨y, rfl, hy1, hy2⟩ := open_num (hval 3 _ v3 rfl rfl) h3
  clear hA0 hval0
  refine (walk W aA ac a ahm ahc ahl id hid1 hid2 par hpar1 hpar2 y hy1 hy2).mono fun e W' ⟨he, hb⟩ => ?_
  subst he
  exact ⟨_, rfl, law_post rfl (by kernel_rfl) rfl hW' rfl hb⟩

theorem over : Rows.arrayTellsRow.holds Try.pinned (OpenSpec.ofChange Rows.arrayTellsSpec) :=
  OpenClaim.holds_of_wide 4 Try.f4 rfl rfl rfl rfl rfl rfl rfl ⟨rfl, rfl, rfl, rfl, rfl⟩ rfl rfl rfl rfl rfl (by kernel_rfl) Try.func4 (by kernel_rfl)
    (of_decide_eq_true (by kernel_rfl)) (by unfold Func.isWrapper; first | (rw [if_pos (by decide +kernel)]; kernel_rfl) | (rw [if_neg (by decide +kernel)]; exact ⟨rfl, rfl⟩))
    (fun os started H enc _ => lifted os started H enc)

/-- The statement. -/
theorem proved : Rows.ArrayTellsSaid :=
  over
#print axioms proved

end Go.Proofs.Ytabmdilhfiembaa.arrayTells
