/-
  For all blocks b, words salt and numbers slot marigoldlaw06.TreeNames returns true and leaves its arguments as they were: no further condition.
-/
import Derived.Test.YtepgbnojbomicaaTreeAwake
import Derived.Test.YtepgbnojbomicaaTreeOpen
import Derived.Test.YtepgbnojbomicaaTreeFacts
namespace Go.Proofs.Ytepgbnojbomicaa.treeNames
open Go.ChangeShapes Go.WideShapes Go.ChangeAt Go.RowKit
set_option linter.unusedVariables false

theorem name_flds (s f : Int) (p : Id2) (t : Nat) (hp : WfI p) (ht : t < 18446744073709551616) (w : World) : Calls Try.prog 20 #[.agg #[.int .i64 s, .int .i64 f, .int .u64 p.1, .int .u64 p.2, .int .u64 t]] w fun e w' => e = .returned (.agg #[.int .u64 (nameB ⟨s, f, p, t⟩).1, .int .u64 (nameB ⟨s, f, p, t⟩).2]) ∧ Kept w w' := name_any ⟨s, f, p, t⟩ ⟨hp, ht⟩ w
attribute [local go_sem high] eqIdN eqIdZ in
set_option maxRecDepth 100000 in
set_option maxHeartbeats 3200000 in
theorem way_same_eq (w : World) (b : Bk) (salt : Nat) (slot : Int) (n1 n2 : Id2) (hN1 : (∀ w : World, Calls Try.prog 20 #[.agg #[.int .i64 b.s, .int .i64 b.f, .int .u64 b.p.1, .int .u64 b.p.2, .int .u64 b.t]] w fun e w' => e = .returned (.agg #[.int .u64 n1.1, .int .u64 n1.2]) ∧ Kept w w')) (hN2 : (∀ w : World, Calls Try.prog 20 #[.agg #[.int .i64 b.s, .int .i64 b.f, .int .u64 b.p.1, .int .u64 b.p.2, .int .u64 salt]] w fun e w' => e = .returned (.agg #[.int .u64 n2.1, .int .u64 n2.2]) ∧ Kept w w')) (hs0 : sameI n1 n2 = true) (ht0 : ((b.t : Int) == (salt : Int)) = true) (hs1 : sameI n1 n1 = true) (hsl : (b.s != b.s) = false) :
    Calls Try.prog 8 #[.agg #[.int .i64 b.s, .int .i64 b.f, .int .u64 b.p.1, .int .u64 b.p.2, .int .u64 b.t], .int .u64 salt, .int .i64 b.s] w fun e w' => e = .returned (.bool true) ∧ Kept w w' := by
  have HN1 := Lib.hid hN1
  have HN2 := Lib.hid hN2
  clear hN1 hN2
  go_enter Try.func8, Try.ntmps8
  go_wp2_with fail
  have HK0 := Lib.hid ((Kept.refl w).alloc (.cells #[.int .i64 b.s, .int .i64 b.f, .int .u64 b.p.1, .int .u64 b.p.2, .int .u64 b.t] 36))
  have HB0_0 := Lib.hid (HasCells.new w #[.int .i64 b.s, .int .i64 b.f, .int .u64 b.p.1, .int .u64 b.p.2, .int .u64 b.t] 36 (w.heap.size) (by simp))
  generalize (w.alloc (.cells #[.int .i64 b.s, .int .i64 b.f, .int .u64 b.p.1, .int .u64 b.p.2, .int .u64 b.t] 36)) = W0 at *
  generalize w.heap.size = z0 at *
  refine (treeAwake W0).mono ?_
  rintro e W1 ⟨rfl, k⟩
  have HK1 := Lib.hid (HK0.out.trans k)
  have HB0_1 := Lib.hid (HB0_0.out.kept k)
  clear k HK0 HB0_0
  obtain ⟨b00, b01, b02, b03, b04⟩ := HB0_1.out.five
  have bz0 := HB0_1.out.1
  go_wp2_with fail
  clear b00 b01 b02 b03 b04 bz0
  have k := ((Kept.refl W1).alloc (.cells #[.int .i64 b.s, .int .i64 b.f, .int .u64 b.p.1, .int .u64 b.p.2, .int .u64 salt] 36)).alloc (.cells #[.int .i64 b.s, .int .i64 b.f, .int .u64 b.p.1, .int .u64 b.p.2, .int .u64 b.t] 36)
  have HD_2 := Lib.hid (HasCells.new (W1.alloc (.cells #[.int .i64 b.s, .int .i64 b.f, .int .u64 b.p.1, .int .u64 b.p.2, .int .u64 salt] 36)) #[.int .i64 b.s, .int .i64 b.f, .int .u64 b.p.1, .int .u64 b.p.2, .int .u64 b.t] 36 (W1.heap.size + 1) (by simp))
  have HC_2 := Lib.hid ((HasCells.new W1 #[.int .i64 b.s, .int .i64 b.f, .int .u64 b.p.1, .int .u64 b.p.2, .int .u64 salt] 36 W1.heap.size rfl).alloc (.cells #[.int .i64 b.s, .int .i64 b.f, .int .u64 b.p.1, .int .u64 b.p.2, .int .u64 b.t] 36))
  have HK2 := Lib.hid (HK1.out.trans k)
  have HB0_2 := Lib.hid (HB0_1.out.kept k)
  clear k HK1 HB0_1
  generalize ((W1.alloc (.cells #[.int .i64 b.s, .int .i64 b.f, .int .u64 b.p.1, .int .u64 b.p.2, .int .u64 salt] 36)).alloc (.cells #[.int .i64 b.s, .int .i64 b.f, .int .u64 b.p.1, .int .u64 b.p.2, .int .u64 b.t] 36)) = W2 at *
  generalize W1.heap.size + 1 = zd at *
  generalize W1.heap.size = zc at *
  refine (HN1.out W2).mono ?_
  rintro e W3 ⟨rfl, k⟩
  have HK3 := Lib.hid (HK2.out.trans k)
  have HB0_3 := Lib.hid (HB0_2.out.kept k)
  have HD_3 := Lib.hid (HD_2.out.kept k)
  have HC_3 := Lib.hid (HC_2.out.kept k)
  clear k HK2 HB0_2 HD_2 HC_2
  obtain ⟨b00, b01, b02, b03, b04⟩ := HB0_3.out.five
  have bz0 := HB0_3.out.1
  obtain ⟨d0, d1, d2, d3, d4⟩ := HD_3.out.five
  have dz := HD_3.out.1
  obtain ⟨c0, c1, c2, c3, c4⟩ := HC_3.out.five
  have cz := HC_3.out.1
  go_wp2_with fail
  clear b00 b01 b02 b03 b04 bz0
  clear d0 d1 d2 d3 d4 dz
  clear c0 c1 c2 c3 c4 cz
  have k := (Kept.refl W3).alloc (.cells #[.int .u64 n1.1, .int .u64 n1.2] 25)
  have HX_4 := Lib.hid (HasCells.new W3 #[.int .u64 n1.1, .int .u64 n1.2] 25 W3.heap.size rfl)
  have HK4 := Lib.hid (HK3.out.trans k)
  have HB0_4 := Lib.hid (HB0_3.out.kept k)
  have HD_4 := Lib.hid (HD_3.out.kept k)
  have HC_4 := Lib.hid (HC_3.out.kept k)
  clear k HK3 HB0_3 HD_3 HC_3
  generalize W3.alloc (.cells #[.int .u64 n1.1, .int .u64 n1.2] 25) = W4 at *
  generalize W3.heap.size = zx at *
  refine (HN2.out W4).mono ?_
  rintro e W5 ⟨rfl, k⟩
  have HK5 := Lib.hid (HK4.out.trans k)
  have HB0_5 := Lib.hid (HB0_4.out.kept k)
  have HD_5 := Lib.hid (HD_4.out.kept k)
  have HC_5 := Lib.hid (HC_4.out.kept k)
  have HX_5 := Lib.hid (HX_4.out.kept k)
  clear k HK4 HB0_4 HD_4 HC_4 HX_4
  obtain ⟨b00, b01, b02, b03, b04⟩ := HB0_5.out.five
  have bz0 := HB0_5.out.1
  obtain ⟨d0, d1, d2, d3, d4⟩ := HD_5.out.five
  have dz := HD_5.out.1
  obtain ⟨c0, c1, c2, c3, c4⟩ := HC_5.out.five
  have cz := HC_5.out.1
  go_wp2_with fail
  clear b00 b01 b02 b03 b04 bz0
  clear d0 d1 d2 d3 d4 dz
  clear c0 c1 c2 c3 c4 cz
  have k := (Kept.refl W5).alloc (.cells #[.int .u64 n2.1, .int .u64 n2.2] 25)
  have HY_6 := Lib.hid (HasCells.new W5 #[.int .u64 n2.1, .int .u64 n2.2] 25 W5.heap.size rfl)
  have HK6 := Lib.hid (HK5.out.trans k)
  have HB0_6 := Lib.hid (HB0_5.out.kept k)
  have HD_6 := Lib.hid (HD_5.out.kept k)
  have HC_6 := Lib.hid (HC_5.out.kept k)
  have HX_6 := Lib.hid (HX_5.out.kept k)
  clear k HK5 HB0_5 HD_5 HC_5 HX_5
  generalize W5.alloc (.cells #[.int .u64 n2.1, .int .u64 n2.2] 25) = W6 at *
  generalize W5.heap.size = zy at *
  obtain ⟨b0, _, _, _, b4⟩ := HB0_6.out.five
  obtain ⟨d0, d1, d2, d3, d4⟩ := HD_6.out.five
  obtain ⟨x0, x1⟩ := HX_6.out.two
  obtain ⟨y0, y1⟩ := HY_6.out.two
  have HKP := Lib.hid (show ∀ w1 w2, ((fun w' => w'.cell? ⟨zx, 0, none⟩ = some (.int .u64 n1.1) ∧ w'.cell? ⟨zx, 1, none⟩ = some (.int .u64 n1.2) ∧ w'.cell? ⟨zy, 0, none⟩ = some (.int .u64 n2.1) ∧ w'.cell? ⟨zy, 1, none⟩ = some (.int .u64 n2.2) ∧ w'.cell? ⟨z0, 0, none⟩ = some (.int .i64 b.s) ∧ w'.cell? ⟨z0, 4, none⟩ = some (.int .u64 b.t) ∧ w'.cell? ⟨zd, 0, none⟩ = some (.int .i64 b.s) ∧ w'.cell? ⟨zd, 1, none⟩ = some (.int .i64 b.f) ∧ w'.cell? ⟨zd, 2, none⟩ = some (.int .u64 b.p.1) ∧ w'.cell? ⟨zd, 3, none⟩ = some (.int .u64 b.p.2) ∧ w'.cell? ⟨zd, 4, none⟩ = some (.int .u64 b.t) ∧ Kept W6 w') w1) → Kept w1 w2 → ((fun w' => w'.cell? ⟨zx, 0, none⟩ = some (.int .u64 n1.1) ∧ w'.cell? ⟨zx, 1, none⟩ = some (.int .u64 n1.2) ∧ w'.cell? ⟨zy, 0, none⟩ = some (.int .u64 n2.1) ∧ w'.cell? ⟨zy, 1, none⟩ = some (.int .u64 n2.2) ∧ w'.cell? ⟨z0, 0, none⟩ = some (.int .i64 b.s) ∧ w'.cell? ⟨z0, 4, none⟩ = some (.int .u64 b.t) ∧ w'.cell? ⟨zd, 0, none⟩ = some (.int .i64 b.s) ∧ w'.cell? ⟨zd, 1, none⟩ = some (.int .i64 b.f) ∧ w'.cell? ⟨zd, 2, none⟩ = some (.int .u64 b.p.1) ∧ w'.cell? ⟨zd, 3, none⟩ = some (.int .u64 b.p.2) ∧ w'.cell? ⟨zd, 4, none⟩ = some (.int .u64 b.t) ∧ Kept W6 w') w2) from fun w1 w2 hHeld kk => by
    have kp := hHeld.2.2.2.2.2.2.2.2.2.2.2.trans kk
    obtain ⟨b0, _, _, _, b4⟩ := (HB0_6.out.kept kp).five
    obtain ⟨d0, d1, d2, d3, d4⟩ := (HD_6.out.kept kp).five
    obtain ⟨x0, x1⟩ := (HX_6.out.kept kp).two
    obtain ⟨y0, y1⟩ := (HY_6.out.kept kp).two
    exact ⟨x0, x1, y0, y1, b0, b4, d0, d1, d2, d3, d4, kp⟩)
  go_region_held3 (fun w' => w'.cell? ⟨zx, 0, none⟩ = some (.int .u64 n1.1) ∧ w'.cell? ⟨zx, 1, none⟩ = some (.int .u64 n1.2) ∧ w'.cell? ⟨zy, 0, none⟩ = some (.int .u64 n2.1) ∧ w'.cell? ⟨zy, 1, none⟩ = some (.int .u64 n2.2) ∧ w'.cell? ⟨z0, 0, none⟩ = some (.int .i64 b.s) ∧ w'.cell? ⟨z0, 4, none⟩ = some (.int .u64 b.t) ∧ w'.cell? ⟨zd, 0, none⟩ = some (.int .i64 b.s) ∧ w'.cell? ⟨zd, 1, none⟩ = some (.int .i64 b.f) ∧ w'.cell? ⟨zd, 2, none⟩ = some (.int .u64 b.p.1) ∧ w'.cell? ⟨zd, 3, none⟩ = some (.int .u64 b.p.2) ∧ w'.cell? ⟨zd, 4, none⟩ = some (.int .u64 b.t) ∧ Kept W6 w')
    (first | exact ⟨x0, x1, y0, y1, b0, b4, d0, d1, d2, d3, d4, (Kept.refl _).drew⟩ | assumption | exact HKP.out _ _ (by assumption) (by assumption))
    (first | (go_at_call 20; ((with_reducible refine (HN1.out _).mono ?_); rintro e w' ⟨rfl, kk⟩)))
  rename_i hh
  have hk := Lib.hid (HK6.out.trans hh.2.2.2.2.2.2.2.2.2.2.2)
  clear hh
  go_wp2_with fail
  go_ret
  exact ⟨by first | rfl | (simp; done), hk.out⟩
attribute [local go_sem high] eqIdN eqIdZ in
set_option maxRecDepth 100000 in
set_option maxHeartbeats 3200000 in
theorem way_same_ne (w : World) (b : Bk) (salt : Nat) (slot : Int) (n1 n2 : Id2) (hN1 : (∀ w : World, Calls Try.prog 20 #[.agg #[.int .i64 b.s, .int .i64 b.f, .int .u64 b.p.1, .int .u64 b.p.2, .int .u64 b.t]] w fun e w' => e = .returned (.agg #[.int .u64 n1.1, .int .u64 n1.2]) ∧ Kept w w')) (hN2 : (∀ w : World, Calls Try.prog 20 #[.agg #[.int .i64 b.s, .int .i64 b.f, .int .u64 b.p.1, .int .u64 b.p.2, .int .u64 salt]] w fun e w' => e = .returned (.agg #[.int .u64 n2.1, .int .u64 n2.2]) ∧ Kept w w')) (hs0 : sameI n1 n2 = true) (ht0 : ((b.t : Int) == (salt : Int)) = true) (hs1 : sameI n1 n1 = true) (hsl : (b.s != slot) = true) :
    Calls Try.prog 8 #[.agg #[.int .i64 b.s, .int .i64 b.f, .int .u64 b.p.1, .int .u64 b.p.2, .int .u64 b.t], .int .u64 salt, .int .i64 slot] w fun e w' => e = .returned (.bool true) ∧ Kept w w' := by
  have HN1 := Lib.hid hN1
  have HN2 := Lib.hid hN2
  clear hN1 hN2
  go_enter Try.func8, Try.ntmps8
  go_wp2_with fail
  have HK0 := Lib.hid ((Kept.refl w).alloc (.cells #[.int .i64 b.s, .int .i64 b.f, .int .u64 b.p.1, .int .u64 b.p.2, .int .u64 b.t] 36))
  have HB0_0 := Lib.hid (HasCells.new w #[.int .i64 b.s, .int .i64 b.f, .int .u64 b.p.1, .int .u64 b.p.2, .int .u64 b.t] 36 (w.heap.size) (by simp))
  generalize (w.alloc (.cells #[.int .i64 b.s, .int .i64 b.f, .int .u64 b.p.1, .int .u64 b.p.2, .int .u64 b.t] 36)) = W0 at *
  generalize w.heap.size = z0 at *
  refine (treeAwake W0).mono ?_
  rintro e W1 ⟨rfl, k⟩
  have HK1 := Lib.hid (HK0.out.trans k)
  have HB0_1 := Lib.hid (HB0_0.out.kept k)
  clear k HK0 HB0_0
  obtain ⟨b00, b01, b02, b03, b04⟩ := HB0_1.out.five
  have bz0 := HB0_1.out.1
  go_wp2_with fail
  clear b00 b01 b02 b03 b04 bz0
  have k := ((Kept.refl W1).alloc (.cells #[.int .i64 b.s, .int .i64 b.f, .int .u64 b.p.1, .int .u64 b.p.2, .int .u64 salt] 36)).alloc (.cells #[.int .i64 slot, .int .i64 b.f, .int .u64 b.p.1, .int .u64 b.p.2, .int .u64 b.t] 36)
  have HD_2 := Lib.hid (HasCells.new (W1.alloc (.cells #[.int .i64 b.s, .int .i64 b.f, .int .u64 b.p.1, .int .u64 b.p.2, .int .u64 salt] 36)) #[.int .i64 slot, .int .i64 b.f, .int .u64 b.p.1, .int .u64 b.p.2, .int .u64 b.t] 36 (W1.heap.size + 1) (by simp))
  have HC_2 := Lib.hid ((HasCells.new W1 #[.int .i64 b.s, .int .i64 b.f, .int .u64 b.p.1, .int .u64 b.p.2, .int .u64 salt] 36 W1.heap.size rfl).alloc (.cells #[.int .i64 slot, .int .i64 b.f, .int .u64 b.p.1, .int .u64 b.p.2, .int .u64 b.t] 36))
  have HK2 := Lib.hid (HK1.out.trans k)
  have HB0_2 := Lib.hid (HB0_1.out.kept k)
  clear k HK1 HB0_1
  generalize ((W1.alloc (.cells #[.int .i64 b.s, .int .i64 b.f, .int .u64 b.p.1, .int .u64 b.p.2, .int .u64 salt] 36)).alloc (.cells #[.int .i64 slot, .int .i64 b.f, .int .u64 b.p.1, .int .u64 b.p.2, .int .u64 b.t] 36)) = W2 at *
  generalize W1.heap.size + 1 = zd at *
  generalize W1.heap.size = zc at *
  refine (HN1.out W2).mono ?_
  rintro e W3 ⟨rfl, k⟩
  have HK3 := Lib.hid (HK2.out.trans k)
  have HB0_3 := Lib.hid (HB0_2.out.kept k)
  have HD_3 := Lib.hid (HD_2.out.kept k)
  have HC_3 := Lib.hid (HC_2.out.kept k)
  clear k HK2 HB0_2 HD_2 HC_2
  obtain ⟨b00, b01, b02, b03, b04⟩ := HB0_3.out.five
  have bz0 := HB0_3.out.1
  obtain ⟨d0, d1, d2, d3, d4⟩ := HD_3.out.five
  have dz := HD_3.out.1
  obtain ⟨c0, c1, c2, c3, c4⟩ := HC_3.out.five
  have cz := HC_3.out.1
  go_wp2_with fail
  clear b00 b01 b02 b03 b04 bz0
  clear d0 d1 d2 d3 d4 dz
  clear c0 c1 c2 c3 c4 cz
  have k := (Kept.refl W3).alloc (.cells #[.int .u64 n1.1, .int .u64 n1.2] 25)
  have HX_4 := Lib.hid (HasCells.new W3 #[.int .u64 n1.1, .int .u64 n1.2] 25 W3.heap.size rfl)
  have HK4 := Lib.hid (HK3.out.trans k)
  have HB0_4 := Lib.hid (HB0_3.out.kept k)
  have HD_4 := Lib.hid (HD_3.out.kept k)
  have HC_4 := Lib.hid (HC_3.out.kept k)
  clear k HK3 HB0_3 HD_3 HC_3
  generalize W3.alloc (.cells #[.int .u64 n1.1, .int .u64 n1.2] 25) = W4 at *
  generalize W3.heap.size = zx at *
  refine (HN2.out W4).mono ?_
  rintro e W5 ⟨rfl, k⟩
  have HK5 := Lib.hid (HK4.out.trans k)
  have HB0_5 := Lib.hid (HB0_4.out.kept k)
  have HD_5 := Lib.hid (HD_4.out.kept k)
  have HC_5 := Lib.hid (HC_4.out.kept k)
  have HX_5 := Lib.hid (HX_4.out.kept k)
  clear k HK4 HB0_4 HD_4 HC_4 HX_4
  obtain ⟨b00, b01, b02, b03, b04⟩ := HB0_5.out.five
  have bz0 := HB0_5.out.1
  obtain ⟨d0, d1, d2, d3, d4⟩ := HD_5.out.five
  have dz := HD_5.out.1
  obtain ⟨c0, c1, c2, c3, c4⟩ := HC_5.out.five
  have cz := HC_5.out.1
  go_wp2_with fail
  clear b00 b01 b02 b03 b04 bz0
  clear d0 d1 d2 d3 d4 dz
  clear c0 c1 c2 c3 c4 cz
  have k := (Kept.refl W5).alloc (.cells #[.int .u64 n2.1, .int .u64 n2.2] 25)
  have HY_6 := Lib.hid (HasCells.new W5 #[.int .u64 n2.1, .int .u64 n2.2] 25 W5.heap.size rfl)
  have HK6 := Lib.hid (HK5.out.trans k)
  have HB0_6 := Lib.hid (HB0_5.out.kept k)
  have HD_6 := Lib.hid (HD_5.out.kept k)
  have HC_6 := Lib.hid (HC_5.out.kept k)
  have HX_6 := Lib.hid (HX_5.out.kept k)
  clear k HK5 HB0_5 HD_5 HC_5 HX_5
  generalize W5.alloc (.cells #[.int .u64 n2.1, .int .u64 n2.2] 25) = W6 at *
  generalize W5.heap.size = zy at *
  obtain ⟨b0, _, _, _, b4⟩ := HB0_6.out.five
  obtain ⟨d0, d1, d2, d3, d4⟩ := HD_6.out.five
  obtain ⟨x0, x1⟩ := HX_6.out.two
  obtain ⟨y0, y1⟩ := HY_6.out.two
  go_quiet (fail)
  go_wp2_with fail
  go_ret
  exact ⟨by first | rfl | (simp; done), HK6.out.drewN _⟩
attribute [local go_sem high] eqIdN eqIdZ in
set_option maxRecDepth 100000 in
set_option maxHeartbeats 3200000 in
theorem way_other_eq (w : World) (b : Bk) (salt : Nat) (slot : Int) (n1 n2 : Id2) (hN1 : (∀ w : World, Calls Try.prog 20 #[.agg #[.int .i64 b.s, .int .i64 b.f, .int .u64 b.p.1, .int .u64 b.p.2, .int .u64 b.t]] w fun e w' => e = .returned (.agg #[.int .u64 n1.1, .int .u64 n1.2]) ∧ Kept w w')) (hN2 : (∀ w : World, Calls Try.prog 20 #[.agg #[.int .i64 b.s, .int .i64 b.f, .int .u64 b.p.1, .int .u64 b.p.2, .int .u64 salt]] w fun e w' => e = .returned (.agg #[.int .u64 n2.1, .int .u64 n2.2]) ∧ Kept w w')) (hs0 : sameI n1 n2 = false) (ht0 : ((b.t : Int) == (salt : Int)) = false) (hs1 : sameI n1 n1 = true) (hsl : (b.s != b.s) = false) :
    Calls Try.prog 8 #[.agg #[.int .i64 b.s, .int .i64 b.f, .int .u64 b.p.1, .int .u64 b.p.2, .int .u64 b.t], .int .u64 salt, .int .i64 b.s] w fun e w' => e = .returned (.bool true) ∧ Kept w w' := by
  have HN1 := Lib.hid hN1
  have HN2 := Lib.hid hN2
  clear hN1 hN2
  go_enter Try.func8, Try.ntmps8
  go_wp2_with fail
  have HK0 := Lib.hid ((Kept.refl w).alloc (.cells #[.int .i64 b.s, .int .i64 b.f, .int .u64 b.p.1, .int .u64 b.p.2, .int .u64 b.t] 36))
  have HB0_0 := Lib.hid (HasCells.new w #[.int .i64 b.s, .int .i64 b.f, .int .u64 b.p.1, .int .u64 b.p.2, .int .u64 b.t] 36 (w.heap.size) (by simp))
  generalize (w.alloc (.cells #[.int .i64 b.s, .int .i64 b.f, .int .u64 b.p.1, .int .u64 b.p.2, .int .u64 b.t] 36)) = W0 at *
  generalize w.heap.size = z0 at *
  refine (treeAwake W0).mono ?_
  rintro e W1 ⟨rfl, k⟩
  have HK1 := Lib.hid (HK0.out.trans k)
  have HB0_1 := Lib.hid (HB0_0.out.kept k)
  clear k HK0 HB0_0
  obtain ⟨b00, b01, b02, b03, b04⟩ := HB0_1.out.five
  have bz0 := HB0_1.out.1
  go_wp2_with fail
  clear b00 b01 b02 b03 b04 bz0
  have k := ((Kept.refl W1).alloc (.cells #[.int .i64 b.s, .int .i64 b.f, .int .u64 b.p.1, .int .u64 b.p.2, .int .u64 salt] 36)).alloc (.cells #[.int .i64 b.s, .int .i64 b.f, .int .u64 b.p.1, .int .u64 b.p.2, .int .u64 b.t] 36)
  have HD_2 := Lib.hid (HasCells.new (W1.alloc (.cells #[.int .i64 b.s, .int .i64 b.f, .int .u64 b.p.1, .int .u64 b.p.2, .int .u64 salt] 36)) #[.int .i64 b.s, .int .i64 b.f, .int .u64 b.p.1, .int .u64 b.p.2, .int .u64 b.t] 36 (W1.heap.size + 1) (by simp))
  have HC_2 := Lib.hid ((HasCells.new W1 #[.int .i64 b.s, .int .i64 b.f, .int .u64 b.p.1, .int .u64 b.p.2, .int .u64 salt] 36 W1.heap.size rfl).alloc (.cells #[.int .i64 b.s, .int .i64 b.f, .int .u64 b.p.1, .int .u64 b.p.2, .int .u64 b.t] 36))
  have HK2 := Lib.hid (HK1.out.trans k)
  have HB0_2 := Lib.hid (HB0_1.out.kept k)
  clear k HK1 HB0_1
  generalize ((W1.alloc (.cells #[.int .i64 b.s, .int .i64 b.f, .int .u64 b.p.1, .int .u64 b.p.2, .int .u64 salt] 36)).alloc (.cells #[.int .i64 b.s, .int .i64 b.f, .int .u64 b.p.1, .int .u64 b.p.2, .int .u64 b.t] 36)) = W2 at *
  generalize W1.heap.size + 1 = zd at *
  generalize W1.heap.size = zc at *
  refine (HN1.out W2).mono ?_
  rintro e W3 ⟨rfl, k⟩
  have HK3 := Lib.hid (HK2.out.trans k)
  have HB0_3 := Lib.hid (HB0_2.out.kept k)
  have HD_3 := Lib.hid (HD_2.out.kept k)
  have HC_3 := Lib.hid (HC_2.out.kept k)
  clear k HK2 HB0_2 HD_2 HC_2
  obtain ⟨b00, b01, b02, b03, b04⟩ := HB0_3.out.five
  have bz0 := HB0_3.out.1
  obtain ⟨d0, d1, d2, d3, d4⟩ := HD_3.out.five
  have dz := HD_3.out.1
  obtain ⟨c0, c1, c2, c3, c4⟩ := HC_3.out.five
  have cz := HC_3.out.1
  go_wp2_with fail
  clear b00 b01 b02 b03 b04 bz0
  clear d0 d1 d2 d3 d4 dz
  clear c0 c1 c2 c3 c4 cz
  have k := (Kept.refl W3).alloc (.cells #[.int .u64 n1.1, .int .u64 n1.2] 25)
  have HX_4 := Lib.hid (HasCells.new W3 #[.int .u64 n1.1, .int .u64 n1.2] 25 W3.heap.size rfl)
  have HK4 := Lib.hid (HK3.out.trans k)
  have HB0_4 := Lib.hid (HB0_3.out.kept k)
  have HD_4 := Lib.hid (HD_3.out.kept k)
  have HC_4 := Lib.hid (HC_3.out.kept k)
  clear k HK3 HB0_3 HD_3 HC_3
  generalize W3.alloc (.cells #[.int .u64 n1.1, .int .u64 n1.2] 25) = W4 at *
  generalize W3.heap.size = zx at *
  refine (HN2.out W4).mono ?_
  rintro e W5 ⟨rfl, k⟩
  have HK5 := Lib.hid (HK4.out.trans k)
  have HB0_5 := Lib.hid (HB0_4.out.kept k)
  have HD_5 := Lib.hid (HD_4.out.kept k)
  have HC_5 := Lib.hid (HC_4.out.kept k)
  have HX_5 := Lib.hid (HX_4.out.kept k)
  clear k HK4 HB0_4 HD_4 HC_4 HX_4
  obtain ⟨b00, b01, b02, b03, b04⟩ := HB0_5.out.five
  have bz0 := HB0_5.out.1
  obtain ⟨d0, d1, d2, d3, d4⟩ := HD_5.out.five
  have dz := HD_5.out.1
  obtain ⟨c0, c1, c2, c3, c4⟩ := HC_5.out.five
  have cz := HC_5.out.1
  go_wp2_with fail
  clear b00 b01 b02 b03 b04 bz0
  clear d0 d1 d2 d3 d4 dz
  clear c0 c1 c2 c3 c4 cz
  have k := (Kept.refl W5).alloc (.cells #[.int .u64 n2.1, .int .u64 n2.2] 25)
  have HY_6 := Lib.hid (HasCells.new W5 #[.int .u64 n2.1, .int .u64 n2.2] 25 W5.heap.size rfl)
  have HK6 := Lib.hid (HK5.out.trans k)
  have HB0_6 := Lib.hid (HB0_5.out.kept k)
  have HD_6 := Lib.hid (HD_5.out.kept k)
  have HC_6 := Lib.hid (HC_5.out.kept k)
  have HX_6 := Lib.hid (HX_5.out.kept k)
  clear k HK5 HB0_5 HD_5 HC_5 HX_5
  generalize W5.alloc (.cells #[.int .u64 n2.1, .int .u64 n2.2] 25) = W6 at *
  generalize W5.heap.size = zy at *
  obtain ⟨b0, _, _, _, b4⟩ := HB0_6.out.five
  obtain ⟨d0, d1, d2, d3, d4⟩ := HD_6.out.five
  obtain ⟨x0, x1⟩ := HX_6.out.two
  obtain ⟨y0, y1⟩ := HY_6.out.two
  have HKP := Lib.hid (show ∀ w1 w2, ((fun w' => w'.cell? ⟨zx, 0, none⟩ = some (.int .u64 n1.1) ∧ w'.cell? ⟨zx, 1, none⟩ = some (.int .u64 n1.2) ∧ w'.cell? ⟨zy, 0, none⟩ = some (.int .u64 n2.1) ∧ w'.cell? ⟨zy, 1, none⟩ = some (.int .u64 n2.2) ∧ w'.cell? ⟨z0, 0, none⟩ = some (.int .i64 b.s) ∧ w'.cell? ⟨z0, 4, none⟩ = some (.int .u64 b.t) ∧ w'.cell? ⟨zd, 0, none⟩ = some (.int .i64 b.s) ∧ w'.cell? ⟨zd, 1, none⟩ = some (.int .i64 b.f) ∧ w'.cell? ⟨zd, 2, none⟩ = some (.int .u64 b.p.1) ∧ w'.cell? ⟨zd, 3, none⟩ = some (.int .u64 b.p.2) ∧ w'.cell? ⟨zd, 4, none⟩ = some (.int .u64 b.t) ∧ Kept W6 w') w1) → Kept w1 w2 → ((fun w' => w'.cell? ⟨zx, 0, none⟩ = some (.int .u64 n1.1) ∧ w'.cell? ⟨zx, 1, none⟩ = some (.int .u64 n1.2) ∧ w'.cell? ⟨zy, 0, none⟩ = some (.int .u64 n2.1) ∧ w'.cell? ⟨zy, 1, none⟩ = some (.int .u64 n2.2) ∧ w'.cell? ⟨z0, 0, none⟩ = some (.int .i64 b.s) ∧ w'.cell? ⟨z0, 4, none⟩ = some (.int .u64 b.t) ∧ w'.cell? ⟨zd, 0, none⟩ = some (.int .i64 b.s) ∧ w'.cell? ⟨zd, 1, none⟩ = some (.int .i64 b.f) ∧ w'.cell? ⟨zd, 2, none⟩ = some (.int .u64 b.p.1) ∧ w'.cell? ⟨zd, 3, none⟩ = some (.int .u64 b.p.2) ∧ w'.cell? ⟨zd, 4, none⟩ = some (.int .u64 b.t) ∧ Kept W6 w') w2) from fun w1 w2 hHeld kk => by
    have kp := hHeld.2.2.2.2.2.2.2.2.2.2.2.trans kk
    obtain ⟨b0, _, _, _, b4⟩ := (HB0_6.out.kept kp).five
    obtain ⟨d0, d1, d2, d3, d4⟩ := (HD_6.out.kept kp).five
    obtain ⟨x0, x1⟩ := (HX_6.out.kept kp).two
    obtain ⟨y0, y1⟩ := (HY_6.out.kept kp).two
    exact ⟨x0, x1, y0, y1, b0, b4, d0, d1, d2, d3, d4, kp⟩)
  go_region_held3 (fun w' => w'.cell? ⟨zx, 0, none⟩ = some (.int .u64 n1.1) ∧ w'.cell? ⟨zx, 1, none⟩ = some (.int .u64 n1.2) ∧ w'.cell? ⟨zy, 0, none⟩ = some (.int .u64 n2.1) ∧ w'.cell? ⟨zy, 1, none⟩ = some (.int .u64 n2.2) ∧ w'.cell? ⟨z0, 0, none⟩ = some (.int .i64 b.s) ∧ w'.cell? ⟨z0, 4, none⟩ = some (.int .u64 b.t) ∧ w'.cell? ⟨zd, 0, none⟩ = some (.int .i64 b.s) ∧ w'.cell? ⟨zd, 1, none⟩ = some (.int .i64 b.f) ∧ w'.cell? ⟨zd, 2, none⟩ = some (.int .u64 b.p.1) ∧ w'.cell? ⟨zd, 3, none⟩ = some (.int .u64 b.p.2) ∧ w'.cell? ⟨zd, 4, none⟩ = some (.int .u64 b.t) ∧ Kept W6 w')
    (first | exact ⟨x0, x1, y0, y1, b0, b4, d0, d1, d2, d3, d4, (Kept.refl _).drew⟩ | assumption | exact HKP.out _ _ (by assumption) (by assumption))
    (first | (go_at_call 20; ((with_reducible refine (HN1.out _).mono ?_); rintro e w' ⟨rfl, kk⟩)))
  rename_i hh
  have hk := Lib.hid (HK6.out.trans hh.2.2.2.2.2.2.2.2.2.2.2)
  clear hh
  go_wp2_with fail
  go_ret
  exact ⟨by first | rfl | (simp; done), hk.out⟩
attribute [local go_sem high] eqIdN eqIdZ in
set_option maxRecDepth 100000 in
set_option maxHeartbeats 3200000 in
theorem way_other_ne (w : World) (b : Bk) (salt : Nat) (slot : Int) (n1 n2 : Id2) (hN1 : (∀ w : World, Calls Try.prog 20 #[.agg #[.int .i64 b.s, .int .i64 b.f, .int .u64 b.p.1, .int .u64 b.p.2, .int .u64 b.t]] w fun e w' => e = .returned (.agg #[.int .u64 n1.1, .int .u64 n1.2]) ∧ Kept w w')) (hN2 : (∀ w : World, Calls Try.prog 20 #[.agg #[.int .i64 b.s, .int .i64 b.f, .int .u64 b.p.1, .int .u64 b.p.2, .int .u64 salt]] w fun e w' => e = .returned (.agg #[.int .u64 n2.1, .int .u64 n2.2]) ∧ Kept w w')) (hs0 : sameI n1 n2 = false) (ht0 : ((b.t : Int) == (salt : Int)) = false) (hs1 : sameI n1 n1 = true) (hsl : (b.s != slot) = true) :
    Calls Try.prog 8 #[.agg #[.int .i64 b.s, .int .i64 b.f, .int .u64 b.p.1, .int .u64 b.p.2, .int .u64 b.t], .int .u64 salt, .int .i64 slot] w fun e w' => e = .returned (.bool true) ∧ Kept w w' := by
  have HN1 := Lib.hid hN1
  have HN2 := Lib.hid hN2
  clear hN1 hN2
  go_enter Try.func8, Try.ntmps8
  go_wp2_with fail
  have HK0 := Lib.hid ((Kept.refl w).alloc (.cells #[.int .i64 b.s, .int .i64 b.f, .int .u64 b.p.1, .int .u64 b.p.2, .int .u64 b.t] 36))
  have HB0_0 := Lib.hid (HasCells.new w #[.int .i64 b.s, .int .i64 b.f, .int .u64 b.p.1, .int .u64 b.p.2, .int .u64 b.t] 36 (w.heap.size) (by simp))
  generalize (w.alloc (.cells #[.int .i64 b.s, .int .i64 b.f, .int .u64 b.p.1, .int .u64 b.p.2, .int .u64 b.t] 36)) = W0 at *
  generalize w.heap.size = z0 at *
  refine (treeAwake W0).mono ?_
  rintro e W1 ⟨rfl, k⟩
  have HK1 := Lib.hid (HK0.out.trans k)
  have HB0_1 := Lib.hid (HB0_0.out.kept k)
  clear k HK0 HB0_0
  obtain ⟨b00, b01, b02, b03, b04⟩ := HB0_1.out.five
  have bz0 := HB0_1.out.1
  go_wp2_with fail
  clear b00 b01 b02 b03 b04 bz0
  have k := ((Kept.refl W1).alloc (.cells #[.int .i64 b.s, .int .i64 b.f, .int .u64 b.p.1, .int .u64 b.p.2, .int .u64 salt] 36)).alloc (.cells #[.int .i64 slot, .int .i64 b.f, .int .u64 b.p.1, .int .u64 b.p.2, .int .u64 b.t] 36)
  have HD_2 := Lib.hid (HasCells.new (W1.alloc (.cells #[.int .i64 b.s, .int .i64 b.f, .int .u64 b.p.1, .int .u64 b.p.2, .int .u64 salt] 36)) #[.int .i64 slot, .int .i64 b.f, .int .u64 b.p.1, .int .u64 b.p.2, .int .u64 b.t] 36 (W1.heap.size + 1) (by simp))
  have HC_2 := Lib.hid ((HasCells.new W1 #[.int .i64 b.s, .int .i64 b.f, .int .u64 b.p.1, .int .u64 b.p.2, .int .u64 salt] 36 W1.heap.size rfl).alloc (.cells #[.int .i64 slot, .int .i64 b.f, .int .u64 b.p.1, .int .u64 b.p.2, .int .u64 b.t] 36))
  have HK2 := Lib.hid (HK1.out.trans k)
  have HB0_2 := Lib.hid (HB0_1.out.kept k)
  clear k HK1 HB0_1
  generalize ((W1.alloc (.cells #[.int .i64 b.s, .int .i64 b.f, .int .u64 b.p.1, .int .u64 b.p.2, .int .u64 salt] 36)).alloc (.cells #[.int .i64 slot, .int .i64 b.f, .int .u64 b.p.1, .int .u64 b.p.2, .int .u64 b.t] 36)) = W2 at *
  generalize W1.heap.size + 1 = zd at *
  generalize W1.heap.size = zc at *
  refine (HN1.out W2).mono ?_
  rintro e W3 ⟨rfl, k⟩
  have HK3 := Lib.hid (HK2.out.trans k)
  have HB0_3 := Lib.hid (HB0_2.out.kept k)
  have HD_3 := Lib.hid (HD_2.out.kept k)
  have HC_3 := Lib.hid (HC_2.out.kept k)
  clear k HK2 HB0_2 HD_2 HC_2
  obtain ⟨b00, b01, b02, b03, b04⟩ := HB0_3.out.five
  have bz0 := HB0_3.out.1
  obtain ⟨d0, d1, d2, d3, d4⟩ := HD_3.out.five
  have dz := HD_3.out.1
  obtain ⟨c0, c1, c2, c3, c4⟩ := HC_3.out.five
  have cz := HC_3.out.1
  go_wp2_with fail
  clear b00 b01 b02 b03 b04 bz0
  clear d0 d1 d2 d3 d4 dz
  clear c0 c1 c2 c3 c4 cz
  have k := (Kept.refl W3).alloc (.cells #[.int .u64 n1.1, .int .u64 n1.2] 25)
  have HX_4 := Lib.hid (HasCells.new W3 #[.int .u64 n1.1, .int .u64 n1.2] 25 W3.heap.size rfl)
  have HK4 := Lib.hid (HK3.out.trans k)
  have HB0_4 := Lib.hid (HB0_3.out.kept k)
  have HD_4 := Lib.hid (HD_3.out.kept k)
  have HC_4 := Lib.hid (HC_3.out.kept k)
  clear k HK3 HB0_3 HD_3 HC_3
  generalize W3.alloc (.cells #[.int .u64 n1.1, .int .u64 n1.2] 25) = W4 at *
  generalize W3.heap.size = zx at *
  refine (HN2.out W4).mono ?_
  rintro e W5 ⟨rfl, k⟩
  have HK5 := Lib.hid (HK4.out.trans k)
  have HB0_5 := Lib.hid (HB0_4.out.kept k)
  have HD_5 := Lib.hid (HD_4.out.kept k)
  have HC_5 := Lib.hid (HC_4.out.kept k)
  have HX_5 := Lib.hid (HX_4.out.kept k)
  clear k HK4 HB0_4 HD_4 HC_4 HX_4
  obtain ⟨b00, b01, b02, b03, b04⟩ := HB0_5.out.five
  have bz0 := HB0_5.out.1
  obtain ⟨d0, d1, d2, d3, d4⟩ := HD_5.out.five
  have dz := HD_5.out.1
  obtain ⟨c0, c1, c2, c3, c4⟩ := HC_5.out.five
  have cz := HC_5.out.1
  go_wp2_with fail
  clear b00 b01 b02 b03 b04 bz0
  clear d0 d1 d2 d3 d4 dz
  clear c0 c1 c2 c3 c4 cz
  have k := (Kept.refl W5).alloc (.cells #[.int .u64 n2.1, .int .u64 n2.2] 25)
  have HY_6 := Lib.hid (HasCells.new W5 #[.int .u64 n2.1, .int .u64 n2.2] 25 W5.heap.size rfl)
  have HK6 := Lib.hid (HK5.out.trans k)
  have HB0_6 := Lib.hid (HB0_5.out.kept k)
  have HD_6 := Lib.hid (HD_5.out.kept k)
  have HC_6 := Lib.hid (HC_5.out.kept k)
  have HX_6 := Lib.hid (HX_5.out.kept k)
  clear k HK5 HB0_5 HD_5 HC_5 HX_5
  generalize W5.alloc (.cells #[.int .u64 n2.1, .int .u64 n2.2] 25) = W6 at *
  generalize W5.heap.size = zy at *
  obtain ⟨b0, _, _, _, b4⟩ := HB0_6.out.five
  obtain ⟨d0, d1, d2, d3, d4⟩ := HD_6.out.five
  obtain ⟨x0, x1⟩ := HX_6.out.two
  obtain ⟨y0, y1⟩ := HY_6.out.two
  go_quiet (fail)
  go_wp2_with fail
  go_ret
  exact ⟨by first | rfl | (simp; done), HK6.out.drewN _⟩
/-! ### The walk: the call returns true, and of what was there nothing has changed. -/
theorem walk (w : World) (b : Bk) (hb : WfB b) (salt : Nat) (hsalt : salt < 18446744073709551616) (slot : Int) (hslot1 : -9223372036854775808 ≤ slot) (hslot2 : slot ≤ 9223372036854775807) :
    Calls Try.prog 8 #[.agg #[.int .i64 b.s, .int .i64 b.f, .int .u64 b.p.1, .int .u64 b.p.2, .int .u64 b.t], .int .u64 salt, .int .i64 slot] w fun e w' => e = .returned (.bool true) ∧ Kept w w' := by
  by_cases ht : b.t = salt
  · by_cases hsne : b.s = slot
    · subst hsne
      exact way_same_eq w b salt b.s (nameB b) (nameB ⟨b.s, b.f, b.p, salt⟩) (fun w => name_any b hb w) (fun w => name_flds b.s b.f b.p salt hb.1 hsalt w) (sameI_yes (by rw [← ht])) (by simp [ht]) (sameI_yes rfl) (by simp)
    · exact way_same_ne w b salt slot (nameB b) (nameB ⟨b.s, b.f, b.p, salt⟩) (fun w => name_any b hb w) (fun w => name_flds b.s b.f b.p salt hb.1 hsalt w) (sameI_yes (by rw [← ht])) (by simp [ht]) (sameI_yes rfl) (by rw [bne_iff_ne]; exact hsne)
  · by_cases hsne : b.s = slot
    · subst hsne
      exact way_other_eq w b salt b.s (nameB b) (nameB ⟨b.s, b.f, b.p, salt⟩) (fun w => name_any b hb w) (fun w => name_flds b.s b.f b.p salt hb.1 hsalt w) (sameI_no (fun e => ht (nameB_salt (b := b) hb.2 hsalt e))) (by simp; omega) (sameI_yes rfl) (by simp)
    · exact way_other_ne w b salt slot (nameB b) (nameB ⟨b.s, b.f, b.p, salt⟩) (fun w => name_any b hb w) (fun w => name_flds b.s b.f b.p salt hb.1 hsalt w) (sameI_no (fun e => ht (nameB_salt (b := b) hb.2 hsalt e))) (by simp; omega) (sameI_yes rfl) (by rw [bne_iff_ne]; exact hsne)

/-! ### The row's step -/
set_option maxRecDepth 100000 in
theorem lifted (os : Os) (started : os.Started) (H : Type) (enc : TypeId × Value → H) :
    ReturnsInHanded {} Try.checked os 8 .any (Rows.treeNamesSpec.pre6 enc Try.prog Try.f8 Rows.treeNamesRow.domain false) (Rows.treeNamesSpec.post enc Try.prog Try.f8 false true false false) := by
  refine returnsInHanded_of_change (C := Try.checked) own started (by kernel_rfl) Try.func8
    (ChangeSpec.witness6 (enc := enc) (C := Try.checked) false ⟨#[], #[.agg #[.int .i64 0, .int .i64 0, .int .u64 0, .int .u64 0, .int .u64 0], .int .u64 0, .int .i64 0], []⟩ 8 (by kernel_rfl) (by kernel_rfl) (by kernel_rfl) (by kernel_rfl)) ?_
  intro W base args ds gs before hval0 hW hcnd _
  have hval : ∀ (j : Nat) t v, Try.f8.params[j]? = some t → args[j]? = some v → Value.okWide Try.prog W .any base t v := hval0
  have hW' := hW
  obtain ⟨p, q, hA0, hV, rfl, hfz, hnd⟩ := hW
  have hA : DataW.TrodAll enc Try.prog W 0 (fun _ => true) true Try.f8.params.toList args.toList ds p := hA0
  rw [Try.params8] at hA hval
  obtain ⟨v0, vs0, d0, ds0, p0, q0, hargs, rfl, rfl, h0, r0⟩ := trodAll_cons hA
  obtain ⟨v1, vs1, d1, ds1, p1, q1, rfl, rfl, rfl, h1, r1⟩ := trodAll_cons r0
  obtain ⟨v2, vs2, d2, ds2, p2, q2, rfl, rfl, rfl, h2, r2⟩ := trodAll_cons r1
  obtain ⟨rfl, rfl, rfl⟩ := trodAll_nil r2
  obtain rfl : args = #[v0, v1, v2] := by cases args; simp_all
  obtain ⟨rfl, rfl⟩ := trodVars_none hV
  obtain ⟨b, rfl, hb⟩ := open_bk (hval 0 _ v0 rfl rfl) h0
  obtain ⟨salt, rfl, hsalt⟩ := open_u64 (hval 1 _ v1 rfl rfl) h1
  obtain ⟨slot, rfl, hslot1, hslot2⟩ := open_num (hval 2 _ v2 rfl rfl) h2
  clear hA0 hval0
  refine (walk W b hb salt hsalt slot hslot1 hslot2).mono fun e W' ⟨he, hb⟩ => ?_
  subst he
  exact ⟨_, rfl, law_post rfl (by kernel_rfl) rfl hW' rfl hb⟩

theorem over : Rows.treeNamesRow.holds Try.pinned (OpenSpec.ofChange Rows.treeNamesSpec) :=
  OpenClaim.holds_of_wide 8 Try.f8 rfl rfl rfl rfl rfl rfl rfl ⟨rfl, rfl, rfl, rfl, rfl⟩ rfl rfl rfl rfl rfl (by kernel_rfl) Try.func8 (by kernel_rfl)
    (of_decide_eq_true (by kernel_rfl)) (by unfold Func.isWrapper; first | (rw [if_pos (by decide +kernel)]; kernel_rfl) | (rw [if_neg (by decide +kernel)]; exact ⟨rfl, rfl⟩))
    (fun os started H enc _ => lifted os started H enc)

/-- The statement. -/
theorem proved : Rows.TreeNamesSaid :=
  over
#print axioms proved
end Go.Proofs.Ytepgbnojbomicaa.treeNames
