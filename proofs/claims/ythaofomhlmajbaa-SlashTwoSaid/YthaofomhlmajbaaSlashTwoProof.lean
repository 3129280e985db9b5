/-
  Law SlashTwo of layer 12: two votes for two checkpoints of one epoch make who has both guilty, and nobody else; so do two of which one spans the other one.
-/
import Derived.Test.YthaofomhlmajbaaSlashAwake
import Derived.Test.YthaofomhlmajbaaFfgOpen
import Derived.Test.YthaofomhlmajbaaGround
import Derived.Test.YthaofomhlmajbaaTreeG
import Derived.Test.YthaofomhlmajbaaDutyG
namespace Go.Proofs.Ythaofomhlmajbaa.slashTwo
set_option maxRecDepth 100000
set_option linter.unusedVariables false
set_option linter.unusedSimpArgs false
open Go.ChangeShapes Go.WideShapes Go.ChangeAt Go.RowKit
set_option linter.unusedVariables false

theorem two_wf {p q : Lk} (hp : WfLk p) (hq : WfLk q) : WfLks [p, q] := by
  intro x hx
  rcases List.mem_cons.1 hx with rfl | hx
  · exact hp
  · rw [List.mem_singleton] at hx; subst hx; exact hq
theorem guilty_pair (p q : Lk) (hp : WfLk p) (hq : WfLk q) (V : Option Addr) (cv : Nat) (w : World) (hV : CellsAt w w.heap.size V (lksCells [p, q])) (h : pairL p q = true) :
    Calls Try.prog 11 #[.slice V 2 cv] w fun e w' => ∃ J cj, e = .returned (.slice J 1 cj) ∧ CellsAt w' w'.heap.size J (intCells [p.f]) ∧ Kept w w' := by
  refine (slashGuilty_any V cv [p, q] w (by simp) (two_wf hp hq) hV).mono ?_
  rintro e w' ⟨G, A', c', hG, _, rfl, hC, _, k⟩
  have e := hG.one (guil_pair h)
  subst e
  exact ⟨A', c', rfl, hC, k⟩
theorem guilty_apart (p q : Lk) (hp : WfLk p) (hq : WfLk q) (V : Option Addr) (cv : Nat) (w : World) (hV : CellsAt w w.heap.size V (lksCells [p, q])) (h : pairL p q = false) :
    Calls Try.prog 11 #[.slice V 2 cv] w fun e w' => ∃ J cj, e = .returned (.slice J 0 cj) ∧ Kept w w' := by
  refine (slashGuilty_any V cv [p, q] w (by simp) (two_wf hp hq) hV).mono ?_
  rintro e w' ⟨G, A', c', hG, _, rfl, hC, _, k⟩
  have e := hG.one (guil_apart h)
  subst e
  exact ⟨A', c', rfl, k⟩
def mkL (who a b : Int) (x : Id2) : Lk := ⟨who, ⟨a, (0, 0)⟩, ⟨b, x⟩⟩
theorem mk_wf {who a b : Int} {x : Id2} (h1 : -9223372036854775808 ≤ who ∧ who ≤ 9223372036854775807) (h2 : -9223372036854775808 ≤ a ∧ a ≤ 9223372036854775807) (h3 : -9223372036854775808 ≤ b ∧ b ≤ 9223372036854775807) (h4 : x.1 < 18446744073709551616 ∧ x.2 < 18446744073709551616) : WfLk (mkL who a b x) :=
  ⟨h1, ⟨h2, Nat.zero_lt_succ _, Nat.zero_lt_succ _⟩, h3, h4.1, h4.2⟩
theorem two_pair (who a b : Int) {x y : Id2} (h : ¬ x = y) : pairL (mkL who a b x) (mkL who a b y) = true :=
  pairL_iff.2 ⟨rfl, Or.inr (Or.inr ⟨fun e => h (congrArg (fun l : Lk => l.t.r) e), rfl⟩)⟩
theorem slim_pair (who : Int) {a b c : Int} (x y : Id2) (h : a < b) : pairL (mkL who b c y) (mkL who a (c + 1) x) = true :=
  pairL_iff.2 ⟨rfl, Or.inr (Or.inl ⟨h, by show c < c + 1; omega⟩)⟩

/-! ### The walk: the call returns true, and of what was there nothing has changed. -/
attribute [local go_sem high] eqIdN in
set_option maxRecDepth 100000 in
set_option maxHeartbeats 6400000 in
theorem walk (w : World) (who : Int) (hwho1 : -9223372036854775808 ≤ who) (hwho2 : who ≤ 9223372036854775807) (a : Int) (ha1 : -9223372036854775808 ≤ a) (ha2 : a ≤ 9223372036854775807) (b : Int) (hb1 : -9223372036854775808 ≤ b) (hb2 : b ≤ 9223372036854775807) (c : Int) (hc1 : -9223372036854775808 ≤ c) (hc2 : c ≤ 9223372036854775807) (x : Nat × Nat) (hx1 : x.1 < 18446744073709551616) (hx2 : x.2 < 18446744073709551616) (y : Nat × Nat) (hy1 : y.1 < 18446744073709551616) (hy2 : y.2 < 18446744073709551616) :
    Calls Try.prog 8 #[.int .i64 who, .int .i64 a, .int .i64 b, .int .i64 c, .agg #[.int .u64 x.1, .int .u64 x.2], .agg #[.int .u64 y.1, .int .u64 y.2]] w fun e w' => e = .returned (.bool true) ∧ Kept w w' := by
  go_enter Try.func8, Try.ntmps8
  go_wp2_with fail
  have K0 := Lib.hid (((Kept.refl w).alloc (.cells #[.int .u64 x.1, .int .u64 x.2] 24)).alloc (.cells #[.int .u64 y.1, .int .u64 y.2] 24))
  have HB0 := Lib.hid ((HasCells.new w #[.int .u64 x.1, .int .u64 x.2] 24 (w.heap.size) (by simp)).alloc (.cells #[.int .u64 y.1, .int .u64 y.2] 24))
  have HB1 := Lib.hid (HasCells.new (w.alloc (.cells #[.int .u64 x.1, .int .u64 x.2] 24)) #[.int .u64 y.1, .int .u64 y.2] 24 (w.heap.size + 1) (by simp))
  generalize ((w.alloc (.cells #[.int .u64 x.1, .int .u64 x.2] 24)).alloc (.cells #[.int .u64 y.1, .int .u64 y.2] 24)) = W0 at *
  generalize w.heap.size + 1 = z1 at *
  generalize w.heap.size = z0 at *
  have KB0 := Lib.hid (Kept.refl W0)
  refine (slashAwake W0).mono ?_
  rintro e W1 ⟨rfl, k⟩
  have KB1 := Lib.hid (KB0.out.trans k)
  clear k
  by_cases h1 : a < 0
  · have g1 : decide (a < 0) = true := decide_eq_true h1
    go_wp2_with fail
    go_ret
    exact ⟨by first | rfl | (simp; done), K0.out.trans KB1.out⟩
  · have g1 : decide (a < 0) = false := decide_eq_false h1
    by_cases h2 : b ≤ a
    · have g2 : decide (b ≤ a) = true := decide_eq_true h2
      go_wp2_with fail
      go_ret
      exact ⟨by first | rfl | (simp; done), K0.out.trans KB1.out⟩
    · have g2 : decide (b ≤ a) = false := decide_eq_false h2
      by_cases h3 : c ≤ b
      · have g3 : decide (c ≤ b) = true := decide_eq_true h3
        go_wp2_with fail
        go_ret
        exact ⟨by first | rfl | (simp; done), K0.out.trans KB1.out⟩
      · have g3 : decide (c ≤ b) = false := decide_eq_false h3
        by_cases h4 : 1099511627776 < c
        · have g4 : decide (1099511627776 < c) = true := decide_eq_true h4
          go_wp2_with fail
          go_ret
          exact ⟨by first | rfl | (simp; done), K0.out.trans KB1.out⟩
        · have g4 : decide (1099511627776 < c) = false := decide_eq_false h4
          by_cases hxy : x = y
          · subst hxy
            have hsx : sameI x x = true := sameI_yes rfl
            have hw : IntKind.i64.wrap (c + 1) = c + 1 := by rw [IntKind.wrap_i64]; omega
            have HO1 := Lib.hid (((HasCells.new W1 #[.int .i64 who, .int .i64 (a), .int .u64 0, .int .u64 0, .int .i64 (b), .int .u64 x.1, .int .u64 x.2] 28 W1.heap.size rfl).alloc (.cells #[.int .i64 who, .int .i64 (a), .int .u64 0, .int .u64 0, .int .i64 (b), .int .u64 x.1, .int .u64 x.2] 28)).alloc (.cells #[.int .i64 who, .int .i64 (a), .int .u64 0, .int .u64 0, .int .i64 (b), .int .u64 x.1, .int .u64 x.2, .int .i64 who, .int .i64 (a), .int .u64 0, .int .u64 0, .int .i64 (b), .int .u64 x.1, .int .u64 x.2] 28))
            have HP1 := Lib.hid ((HasCells.new (W1.alloc (.cells #[.int .i64 who, .int .i64 (a), .int .u64 0, .int .u64 0, .int .i64 (b), .int .u64 x.1, .int .u64 x.2] 28)) #[.int .i64 who, .int .i64 (a), .int .u64 0, .int .u64 0, .int .i64 (b), .int .u64 x.1, .int .u64 x.2] 28 (W1.heap.size + 1) (by simp)).alloc (.cells #[.int .i64 who, .int .i64 (a), .int .u64 0, .int .u64 0, .int .i64 (b), .int .u64 x.1, .int .u64 x.2, .int .i64 who, .int .i64 (a), .int .u64 0, .int .u64 0, .int .i64 (b), .int .u64 x.1, .int .u64 x.2] 28))
            have HR1 := Lib.hid (CellsAt.new ((W1.alloc (.cells #[.int .i64 who, .int .i64 (a), .int .u64 0, .int .u64 0, .int .i64 (b), .int .u64 x.1, .int .u64 x.2] 28)).alloc (.cells #[.int .i64 who, .int .i64 (a), .int .u64 0, .int .u64 0, .int .i64 (b), .int .u64 x.1, .int .u64 x.2] 28)) #[.int .i64 who, .int .i64 (a), .int .u64 0, .int .u64 0, .int .i64 (b), .int .u64 x.1, .int .u64 x.2, .int .i64 who, .int .i64 (a), .int .u64 0, .int .u64 0, .int .i64 (b), .int .u64 x.1, .int .u64 x.2] 28 (W1.heap.size + 1 + 1) (by simp))
            have KA1 := Lib.hid (((KB1.out.alloc (.cells #[.int .i64 who, .int .i64 (a), .int .u64 0, .int .u64 0, .int .i64 (b), .int .u64 x.1, .int .u64 x.2] 28)).alloc (.cells #[.int .i64 who, .int .i64 (a), .int .u64 0, .int .u64 0, .int .i64 (b), .int .u64 x.1, .int .u64 x.2] 28)).alloc (.cells #[.int .i64 who, .int .i64 (a), .int .u64 0, .int .u64 0, .int .i64 (b), .int .u64 x.1, .int .u64 x.2, .int .i64 who, .int .i64 (a), .int .u64 0, .int .u64 0, .int .i64 (b), .int .u64 x.1, .int .u64 x.2] 28))
            obtain ⟨b00, b01⟩ := (HB0.out.kept KB1.out).two
            have bz0 := (HB0.out.kept KB1.out).1
            obtain ⟨b10, b11⟩ := (HB1.out.kept KB1.out).two
            have bz1 := (HB1.out.kept KB1.out).1
            go_wp2_with fail
            clear b00 b01 bz0 b10 b11 bz1
            generalize (((W1.alloc (.cells #[.int .i64 who, .int .i64 (a), .int .u64 0, .int .u64 0, .int .i64 (b), .int .u64 x.1, .int .u64 x.2] 28)).alloc (.cells #[.int .i64 who, .int .i64 (a), .int .u64 0, .int .u64 0, .int .i64 (b), .int .u64 x.1, .int .u64 x.2] 28)).alloc (.cells #[.int .i64 who, .int .i64 (a), .int .u64 0, .int .u64 0, .int .i64 (b), .int .u64 x.1, .int .u64 x.2, .int .i64 who, .int .i64 (a), .int .u64 0, .int .u64 0, .int .i64 (b), .int .u64 x.1, .int .u64 x.2] 28)) = V1 at *
            generalize W1.heap.size + 1 + 1 = r1 at *
            generalize W1.heap.size + 1 = q1 at *
            generalize W1.heap.size = p1 at *
            clear HO1 HP1
            refine (guilty_apart (mkL who a b x) (mkL who a b x) (mk_wf ⟨hwho1, hwho2⟩ ⟨by omega, by omega⟩ ⟨by omega, by omega⟩ ⟨hx1, hx2⟩) (mk_wf ⟨hwho1, hwho2⟩ ⟨by omega, by omega⟩ ⟨by omega, by omega⟩ ⟨hx1, hx2⟩) _ _ _ HR1.out (pairL_self _)).mono ?_
            rintro e W2 ⟨J, cj, rfl, k⟩
            have KB2 := Lib.hid (KA1.out.trans k)
            clear k
            clear HR1
            have HO2 := Lib.hid (((HasCells.new W2 #[.int .i64 who, .int .i64 (a), .int .u64 0, .int .u64 0, .int .i64 (c + 1), .int .u64 x.1, .int .u64 x.2] 28 W2.heap.size rfl).alloc (.cells #[.int .i64 who, .int .i64 (b), .int .u64 0, .int .u64 0, .int .i64 (c), .int .u64 x.1, .int .u64 x.2] 28)).alloc (.cells #[.int .i64 who, .int .i64 (b), .int .u64 0, .int .u64 0, .int .i64 (c), .int .u64 x.1, .int .u64 x.2, .int .i64 who, .int .i64 (a), .int .u64 0, .int .u64 0, .int .i64 (c + 1), .int .u64 x.1, .int .u64 x.2] 28))
            have HP2 := Lib.hid ((HasCells.new (W2.alloc (.cells #[.int .i64 who, .int .i64 (a), .int .u64 0, .int .u64 0, .int .i64 (c + 1), .int .u64 x.1, .int .u64 x.2] 28)) #[.int .i64 who, .int .i64 (b), .int .u64 0, .int .u64 0, .int .i64 (c), .int .u64 x.1, .int .u64 x.2] 28 (W2.heap.size + 1) (by simp)).alloc (.cells #[.int .i64 who, .int .i64 (b), .int .u64 0, .int .u64 0, .int .i64 (c), .int .u64 x.1, .int .u64 x.2, .int .i64 who, .int .i64 (a), .int .u64 0, .int .u64 0, .int .i64 (c + 1), .int .u64 x.1, .int .u64 x.2] 28))
            have HR2 := Lib.hid (CellsAt.new ((W2.alloc (.cells #[.int .i64 who, .int .i64 (a), .int .u64 0, .int .u64 0, .int .i64 (c + 1), .int .u64 x.1, .int .u64 x.2] 28)).alloc (.cells #[.int .i64 who, .int .i64 (b), .int .u64 0, .int .u64 0, .int .i64 (c), .int .u64 x.1, .int .u64 x.2] 28)) #[.int .i64 who, .int .i64 (b), .int .u64 0, .int .u64 0, .int .i64 (c), .int .u64 x.1, .int .u64 x.2, .int .i64 who, .int .i64 (a), .int .u64 0, .int .u64 0, .int .i64 (c + 1), .int .u64 x.1, .int .u64 x.2] 28 (W2.heap.size + 1 + 1) (by simp))
            have KA2 := Lib.hid (((KB2.out.alloc (.cells #[.int .i64 who, .int .i64 (a), .int .u64 0, .int .u64 0, .int .i64 (c + 1), .int .u64 x.1, .int .u64 x.2] 28)).alloc (.cells #[.int .i64 who, .int .i64 (b), .int .u64 0, .int .u64 0, .int .i64 (c), .int .u64 x.1, .int .u64 x.2] 28)).alloc (.cells #[.int .i64 who, .int .i64 (b), .int .u64 0, .int .u64 0, .int .i64 (c), .int .u64 x.1, .int .u64 x.2, .int .i64 who, .int .i64 (a), .int .u64 0, .int .u64 0, .int .i64 (c + 1), .int .u64 x.1, .int .u64 x.2] 28))
            obtain ⟨b00, b01⟩ := (HB0.out.kept KB2.out).two
            have bz0 := (HB0.out.kept KB2.out).1
            obtain ⟨b10, b11⟩ := (HB1.out.kept KB2.out).two
            have bz1 := (HB1.out.kept KB2.out).1
            go_wp2_with fail
            clear b00 b01 bz0 b10 b11 bz1
            generalize (((W2.alloc (.cells #[.int .i64 who, .int .i64 (a), .int .u64 0, .int .u64 0, .int .i64 (c + 1), .int .u64 x.1, .int .u64 x.2] 28)).alloc (.cells #[.int .i64 who, .int .i64 (b), .int .u64 0, .int .u64 0, .int .i64 (c), .int .u64 x.1, .int .u64 x.2] 28)).alloc (.cells #[.int .i64 who, .int .i64 (b), .int .u64 0, .int .u64 0, .int .i64 (c), .int .u64 x.1, .int .u64 x.2, .int .i64 who, .int .i64 (a), .int .u64 0, .int .u64 0, .int .i64 (c + 1), .int .u64 x.1, .int .u64 x.2] 28)) = V2 at *
            generalize W2.heap.size + 1 + 1 = r2 at *
            generalize W2.heap.size + 1 = q2 at *
            generalize W2.heap.size = p2 at *
            refine (guilty_pair (mkL who b c x) (mkL who a (c + 1) x) (mk_wf ⟨hwho1, hwho2⟩ ⟨by omega, by omega⟩ ⟨by omega, by omega⟩ ⟨hx1, hx2⟩) (mk_wf ⟨hwho1, hwho2⟩ ⟨by omega, by omega⟩ ⟨by omega, by omega⟩ ⟨hx1, hx2⟩) _ _ _ HR2.out (slim_pair who x x (by omega))).mono ?_
            rintro e W3 ⟨J2, cj2, rfl, hJ2, k⟩
            replace HO2 := Lib.hid (HO2.out.kept k)
            replace HP2 := Lib.hid (HP2.out.kept k)
            have KB3 := Lib.hid (KA2.out.trans k)
            clear k
            clear HR2
            have HJ3 := Lib.hid hJ2
            obtain ⟨zj, oj, rfl, hbj, j0⟩ := int_atS hJ2 (i := 0) (by simp)
            simp only [List.getElem_cons_zero, Nat.add_zero] at j0
            clear hJ2
            obtain ⟨o0, o1, o2, o3, o4, o5, o6⟩ := HO2.out.seven
            obtain ⟨p0, p1_, p2_, p3, p4, p5, p6⟩ := HP2.out.seven
            have hww : (who == who) = true := by simp
            obtain ⟨b00, b01⟩ := (HB0.out.kept KB3.out).two
            have bz0 := (HB0.out.kept KB3.out).1
            obtain ⟨b10, b11⟩ := (HB1.out.kept KB3.out).two
            have bz1 := (HB1.out.kept KB3.out).1
            go_wp2_with fail
            clear b00 b01 bz0 b10 b11 bz1
            have hpw : pairL (mkL who a (c + 1) x) (mkL who b c x) = true := by rw [pairL_comm]; exact slim_pair who x x (by omega)
            have HPa := Lib.hid (slashPair_any (mkL who a (c + 1) x) (mkL who b c x) W3 (mk_wf ⟨hwho1, hwho2⟩ ⟨by omega, by omega⟩ ⟨by omega, by omega⟩ ⟨hx1, hx2⟩) (mk_wf ⟨hwho1, hwho2⟩ ⟨by omega, by omega⟩ ⟨by omega, by omega⟩ ⟨hx1, hx2⟩))
            rw [hpw] at HPa
            clear hpw
            refine (HPa.out).mono ?_
            rintro e W4 ⟨rfl, k⟩
            have KB4 := Lib.hid (KB3.out.trans k)
            clear k
            obtain ⟨b00, b01⟩ := (HB0.out.kept KB4.out).two
            have bz0 := (HB0.out.kept KB4.out).1
            obtain ⟨b10, b11⟩ := (HB1.out.kept KB4.out).two
            have bz1 := (HB1.out.kept KB4.out).1
            go_wp2_with fail
            clear b00 b01 bz0 b10 b11 bz1
            go_ret
            exact ⟨by first | rfl | (simp; done) | (simp [mkL]; done), K0.out.trans KB4.out⟩
          · have hsx : sameI x y = false := sameI_no hxy
            have hw : IntKind.i64.wrap (c + 1) = c + 1 := by rw [IntKind.wrap_i64]; omega
            have HO1 := Lib.hid (((HasCells.new W1 #[.int .i64 who, .int .i64 (a), .int .u64 0, .int .u64 0, .int .i64 (b), .int .u64 x.1, .int .u64 x.2] 28 W1.heap.size rfl).alloc (.cells #[.int .i64 who, .int .i64 (a), .int .u64 0, .int .u64 0, .int .i64 (b), .int .u64 y.1, .int .u64 y.2] 28)).alloc (.cells #[.int .i64 who, .int .i64 (a), .int .u64 0, .int .u64 0, .int .i64 (b), .int .u64 x.1, .int .u64 x.2, .int .i64 who, .int .i64 (a), .int .u64 0, .int .u64 0, .int .i64 (b), .int .u64 y.1, .int .u64 y.2] 28))
            have HP1 := Lib.hid ((HasCells.new (W1.alloc (.cells #[.int .i64 who, .int .i64 (a), .int .u64 0, .int .u64 0, .int .i64 (b), .int .u64 x.1, .int .u64 x.2] 28)) #[.int .i64 who, .int .i64 (a), .int .u64 0, .int .u64 0, .int .i64 (b), .int .u64 y.1, .int .u64 y.2] 28 (W1.heap.size + 1) (by simp)).alloc (.cells #[.int .i64 who, .int .i64 (a), .int .u64 0, .int .u64 0, .int .i64 (b), .int .u64 x.1, .int .u64 x.2, .int .i64 who, .int .i64 (a), .int .u64 0, .int .u64 0, .int .i64 (b), .int .u64 y.1, .int .u64 y.2] 28))
            have HR1 := Lib.hid (CellsAt.new ((W1.alloc (.cells #[.int .i64 who, .int .i64 (a), .int .u64 0, .int .u64 0, .int .i64 (b), .int .u64 x.1, .int .u64 x.2] 28)).alloc (.cells #[.int .i64 who, .int .i64 (a), .int .u64 0, .int .u64 0, .int .i64 (b), .int .u64 y.1, .int .u64 y.2] 28)) #[.int .i64 who, .int .i64 (a), .int .u64 0, .int .u64 0, .int .i64 (b), .int .u64 x.1, .int .u64 x.2, .int .i64 who, .int .i64 (a), .int .u64 0, .int .u64 0, .int .i64 (b), .int .u64 y.1, .int .u64 y.2] 28 (W1.heap.size + 1 + 1) (by simp))
            have KA1 := Lib.hid (((KB1.out.alloc (.cells #[.int .i64 who, .int .i64 (a), .int .u64 0, .int .u64 0, .int .i64 (b), .int .u64 x.1, .int .u64 x.2] 28)).alloc (.cells #[.int .i64 who, .int .i64 (a), .int .u64 0, .int .u64 0, .int .i64 (b), .int .u64 y.1, .int .u64 y.2] 28)).alloc (.cells #[.int .i64 who, .int .i64 (a), .int .u64 0, .int .u64 0, .int .i64 (b), .int .u64 x.1, .int .u64 x.2, .int .i64 who, .int .i64 (a), .int .u64 0, .int .u64 0, .int .i64 (b), .int .u64 y.1, .int .u64 y.2] 28))
            obtain ⟨b00, b01⟩ := (HB0.out.kept KB1.out).two
            have bz0 := (HB0.out.kept KB1.out).1
            obtain ⟨b10, b11⟩ := (HB1.out.kept KB1.out).two
            have bz1 := (HB1.out.kept KB1.out).1
            go_wp2_with fail
            clear b00 b01 bz0 b10 b11 bz1
            generalize (((W1.alloc (.cells #[.int .i64 who, .int .i64 (a), .int .u64 0, .int .u64 0, .int .i64 (b), .int .u64 x.1, .int .u64 x.2] 28)).alloc (.cells #[.int .i64 who, .int .i64 (a), .int .u64 0, .int .u64 0, .int .i64 (b), .int .u64 y.1, .int .u64 y.2] 28)).alloc (.cells #[.int .i64 who, .int .i64 (a), .int .u64 0, .int .u64 0, .int .i64 (b), .int .u64 x.1, .int .u64 x.2, .int .i64 who, .int .i64 (a), .int .u64 0, .int .u64 0, .int .i64 (b), .int .u64 y.1, .int .u64 y.2] 28)) = V1 at *
            generalize W1.heap.size + 1 + 1 = r1 at *
            generalize W1.heap.size + 1 = q1 at *
            generalize W1.heap.size = p1 at *
            clear HO1 HP1
            refine (guilty_pair (mkL who a b x) (mkL who a b y) (mk_wf ⟨hwho1, hwho2⟩ ⟨by omega, by omega⟩ ⟨by omega, by omega⟩ ⟨hx1, hx2⟩) (mk_wf ⟨hwho1, hwho2⟩ ⟨by omega, by omega⟩ ⟨by omega, by omega⟩ ⟨hy1, hy2⟩) _ _ _ HR1.out (two_pair who a b hxy)).mono ?_
            rintro e W2 ⟨J, cj, rfl, hJ, k⟩
            have KB2 := Lib.hid (KA1.out.trans k)
            clear k
            have HJ := Lib.hid hJ
            clear hJ
            clear HR1
            have HO2 := Lib.hid (((HasCells.new W2 #[.int .i64 who, .int .i64 (a), .int .u64 0, .int .u64 0, .int .i64 (c + 1), .int .u64 x.1, .int .u64 x.2] 28 W2.heap.size rfl).alloc (.cells #[.int .i64 who, .int .i64 (b), .int .u64 0, .int .u64 0, .int .i64 (c), .int .u64 y.1, .int .u64 y.2] 28)).alloc (.cells #[.int .i64 who, .int .i64 (b), .int .u64 0, .int .u64 0, .int .i64 (c), .int .u64 y.1, .int .u64 y.2, .int .i64 who, .int .i64 (a), .int .u64 0, .int .u64 0, .int .i64 (c + 1), .int .u64 x.1, .int .u64 x.2] 28))
            have HP2 := Lib.hid ((HasCells.new (W2.alloc (.cells #[.int .i64 who, .int .i64 (a), .int .u64 0, .int .u64 0, .int .i64 (c + 1), .int .u64 x.1, .int .u64 x.2] 28)) #[.int .i64 who, .int .i64 (b), .int .u64 0, .int .u64 0, .int .i64 (c), .int .u64 y.1, .int .u64 y.2] 28 (W2.heap.size + 1) (by simp)).alloc (.cells #[.int .i64 who, .int .i64 (b), .int .u64 0, .int .u64 0, .int .i64 (c), .int .u64 y.1, .int .u64 y.2, .int .i64 who, .int .i64 (a), .int .u64 0, .int .u64 0, .int .i64 (c + 1), .int .u64 x.1, .int .u64 x.2] 28))
            have HR2 := Lib.hid (CellsAt.new ((W2.alloc (.cells #[.int .i64 who, .int .i64 (a), .int .u64 0, .int .u64 0, .int .i64 (c + 1), .int .u64 x.1, .int .u64 x.2] 28)).alloc (.cells #[.int .i64 who, .int .i64 (b), .int .u64 0, .int .u64 0, .int .i64 (c), .int .u64 y.1, .int .u64 y.2] 28)) #[.int .i64 who, .int .i64 (b), .int .u64 0, .int .u64 0, .int .i64 (c), .int .u64 y.1, .int .u64 y.2, .int .i64 who, .int .i64 (a), .int .u64 0, .int .u64 0, .int .i64 (c + 1), .int .u64 x.1, .int .u64 x.2] 28 (W2.heap.size + 1 + 1) (by simp))
            have KA2 := Lib.hid (((KB2.out.alloc (.cells #[.int .i64 who, .int .i64 (a), .int .u64 0, .int .u64 0, .int .i64 (c + 1), .int .u64 x.1, .int .u64 x.2] 28)).alloc (.cells #[.int .i64 who, .int .i64 (b), .int .u64 0, .int .u64 0, .int .i64 (c), .int .u64 y.1, .int .u64 y.2] 28)).alloc (.cells #[.int .i64 who, .int .i64 (b), .int .u64 0, .int .u64 0, .int .i64 (c), .int .u64 y.1, .int .u64 y.2, .int .i64 who, .int .i64 (a), .int .u64 0, .int .u64 0, .int .i64 (c + 1), .int .u64 x.1, .int .u64 x.2] 28))
            obtain ⟨b00, b01⟩ := (HB0.out.kept KB2.out).two
            have bz0 := (HB0.out.kept KB2.out).1
            obtain ⟨b10, b11⟩ := (HB1.out.kept KB2.out).two
            have bz1 := (HB1.out.kept KB2.out).1
            go_wp2_with fail
            clear b00 b01 bz0 b10 b11 bz1
            have HJ2 := Lib.hid (((HJ.out.kept ((Kept.refl _).alloc (.cells #[.int .i64 who, .int .i64 (a), .int .u64 0, .int .u64 0, .int .i64 (c + 1), .int .u64 x.1, .int .u64 x.2] 28))).kept ((Kept.refl _).alloc (.cells #[.int .i64 who, .int .i64 (b), .int .u64 0, .int .u64 0, .int .i64 (c), .int .u64 y.1, .int .u64 y.2] 28))).kept ((Kept.refl _).alloc (.cells #[.int .i64 who, .int .i64 (b), .int .u64 0, .int .u64 0, .int .i64 (c), .int .u64 y.1, .int .u64 y.2, .int .i64 who, .int .i64 (a), .int .u64 0, .int .u64 0, .int .i64 (c + 1), .int .u64 x.1, .int .u64 x.2] 28)))
            clear HJ
            generalize (((W2.alloc (.cells #[.int .i64 who, .int .i64 (a), .int .u64 0, .int .u64 0, .int .i64 (c + 1), .int .u64 x.1, .int .u64 x.2] 28)).alloc (.cells #[.int .i64 who, .int .i64 (b), .int .u64 0, .int .u64 0, .int .i64 (c), .int .u64 y.1, .int .u64 y.2] 28)).alloc (.cells #[.int .i64 who, .int .i64 (b), .int .u64 0, .int .u64 0, .int .i64 (c), .int .u64 y.1, .int .u64 y.2, .int .i64 who, .int .i64 (a), .int .u64 0, .int .u64 0, .int .i64 (c + 1), .int .u64 x.1, .int .u64 x.2] 28)) = V2 at *
            generalize W2.heap.size + 1 + 1 = r2 at *
            generalize W2.heap.size + 1 = q2 at *
            generalize W2.heap.size = p2 at *
            refine (guilty_pair (mkL who b c y) (mkL who a (c + 1) x) (mk_wf ⟨hwho1, hwho2⟩ ⟨by omega, by omega⟩ ⟨by omega, by omega⟩ ⟨hy1, hy2⟩) (mk_wf ⟨hwho1, hwho2⟩ ⟨by omega, by omega⟩ ⟨by omega, by omega⟩ ⟨hx1, hx2⟩) _ _ _ HR2.out (slim_pair who x y (by omega))).mono ?_
            rintro e W3 ⟨J2, cj2, rfl, hJ2, k⟩
            replace HO2 := Lib.hid (HO2.out.kept k)
            replace HP2 := Lib.hid (HP2.out.kept k)
            replace HJ2 := Lib.hid (HJ2.out.kept k)
            have KB3 := Lib.hid (KA2.out.trans k)
            clear k
            clear HR2
            have HJ3 := Lib.hid hJ2
            obtain ⟨zj, oj, rfl, hbj, j0⟩ := int_atS hJ2 (i := 0) (by simp)
            simp only [List.getElem_cons_zero, Nat.add_zero] at j0
            clear hJ2
            obtain ⟨o0, o1, o2, o3, o4, o5, o6⟩ := HO2.out.seven
            obtain ⟨p0, p1_, p2_, p3, p4, p5, p6⟩ := HP2.out.seven
            have hJb := HJ2.out
            obtain ⟨zk, ok, rfl, hbk, k0⟩ := int_atS hJb (i := 0) (by simp)
            simp only [List.getElem_cons_zero, Nat.add_zero] at k0
            clear hJb
            have hww : (who == who) = true := by simp
            obtain ⟨b00, b01⟩ := (HB0.out.kept KB3.out).two
            have bz0 := (HB0.out.kept KB3.out).1
            obtain ⟨b10, b11⟩ := (HB1.out.kept KB3.out).two
            have bz1 := (HB1.out.kept KB3.out).1
            go_wp2_with fail
            clear b00 b01 bz0 b10 b11 bz1
            have hpw : pairL (mkL who a (c + 1) x) (mkL who b c y) = true := by rw [pairL_comm]; exact slim_pair who x y (by omega)
            have HPa := Lib.hid (slashPair_any (mkL who a (c + 1) x) (mkL who b c y) W3 (mk_wf ⟨hwho1, hwho2⟩ ⟨by omega, by omega⟩ ⟨by omega, by omega⟩ ⟨hx1, hx2⟩) (mk_wf ⟨hwho1, hwho2⟩ ⟨by omega, by omega⟩ ⟨by omega, by omega⟩ ⟨hy1, hy2⟩))
            rw [hpw] at HPa
            clear hpw
            refine (HPa.out).mono ?_
            rintro e W4 ⟨rfl, k⟩
            replace k0 := (k.cell (p := ⟨zk, ok, none⟩) hbk).trans k0
            have KB4 := Lib.hid (KB3.out.trans k)
            clear k
            obtain ⟨b00, b01⟩ := (HB0.out.kept KB4.out).two
            have bz0 := (HB0.out.kept KB4.out).1
            obtain ⟨b10, b11⟩ := (HB1.out.kept KB4.out).two
            have bz1 := (HB1.out.kept KB4.out).1
            go_wp2_with fail
            clear b00 b01 bz0 b10 b11 bz1
            go_ret
            exact ⟨by first | rfl | (simp; done) | (simp [mkL]; done), K0.out.trans KB4.out⟩

/-! ### The row's step -/
set_option maxRecDepth 100000 in
theorem lifted (os : Os) (started : os.Started) (H : Type) (enc : TypeId × Value → H) :
    ReturnsInHanded {} Try.checked os 8 .any (Rows.slashTwoSpec.pre6 enc Try.prog Try.f8 Rows.slashTwoRow.domain false) (Rows.slashTwoSpec.post enc Try.prog Try.f8 false true false false) := by
  refine returnsInHanded_of_change (C := Try.checked) own started (by kernel_rfl) Try.func8
    (ChangeSpec.witness6 (enc := enc) (C := Try.checked) false ⟨#[], #[.int .i64 0, .int .i64 0, .int .i64 0, .int .i64 0, .agg #[.int .u64 0, .int .u64 0], .agg #[.int .u64 0, .int .u64 0]], []⟩ 8 (by kernel_rfl) (by kernel_rfl) (by kernel_rfl) (by kernel_rfl)) ?_
  intro W base args ds gs before hval0 hW hcnd _
  have hval : ∀ (j : Nat) t v, Try.f8.params[j]? = some t → args[j]? = some v → Value.okWide Try.prog W .any base t v := hval0
  have hW' := hW
  obtain ⟨p, q, hA0, hV, rfl, hfz, hnd⟩ := hW
  have hA : DataW.TrodAll enc Try.prog W 0 (fun _ => true) true Try.f8.params.toList args.toList ds p := hA0
  rw [Try.params8] at hA hval
  obtain ⟨v0, vs0, d0, ds0, p0, q0, hargs, rfl, rfl, h0, r0⟩ := trodAll_cons hA
  obtain ⟨v1, vs1, d1, ds1, p1, q1, rfl, rfl, rfl, h1, r1⟩ := trodAll_cons r0
  obtain ⟨v2, vs2, d2, ds2, p2, q2, rfl, rfl, rfl, h2, r2⟩ := trodAll_cons r1
  obtain ⟨v3, vs3, d3, ds3, p3, q3, rfl, rfl, rfl, h3, r3⟩ := trodAll_cons r2
  obtain ⟨v4, vs4, d4, ds4, p4, q4, rfl, rfl, rfl, h4, r4⟩ := trodAll_cons r3
  obtain ⟨v5, vs5, d5, ds5, p5, q5, rfl, rfl, rfl, h5, r5⟩ := trodAll_cons r4
  obtain ⟨rfl, rfl, rfl⟩ := trodAll_nil r5
  obtain rfl : args = #[v0, v1, v2, v3, v4, v5] := by cases args; simp_all
  obtain ⟨rfl, rfl⟩ := trodVars_none hV
  obtain ⟨who, rfl, hwho1, hwho2⟩ := open_num (hval 0 _ v0 rfl rfl) h0
  obtain ⟨a, rfl, ha1, ha2⟩ := open_num (hval 1 _ v1 rfl rfl) h1
  obtain ⟨b, rfl, hb1, hb2⟩ := open_num (hval 2 _ v2 rfl rfl) h2
  obtain ⟨c, rfl, hc1, hc2⟩ := open_num (hval 3 _ v3 rfl rfl) h3
  obtain ⟨x, rfl, hx1, hx2⟩ := open_id (hval 4 _ v4 rfl rfl) h4
  obtain ⟨y, rfl, hy1, hy2⟩ := open_id (hval 5 _ v5 rfl rfl) h5
  clear hA0 hval0
  refine (walk W who hwho1 hwho2 a ha1 ha2 b hb1 hb2 c hc1 hc2 x hx1 hx2 y hy1 hy2).mono fun e W' ⟨he, hb⟩ => ?_
  subst he
  exact ⟨_, rfl, law_post rfl (by kernel_rfl) rfl hW' rfl hb⟩

theorem over : Rows.slashTwoRow.holds Try.pinned (OpenSpec.ofChange Rows.slashTwoSpec) :=
  OpenClaim.holds_of_wide 8 Try.f8 rfl rfl rfl rfl rfl rfl rfl ⟨rfl, rfl, rfl, rfl, rfl⟩ rfl rfl rfl rfl rfl (by kernel_rfl) Try.func8 (by kernel_rfl)
    (of_decide_eq_true (by kernel_rfl)) (by unfold Func.isWrapper; first | (rw [if_pos (by decide +kernel)]; kernel_rfl) | (rw [if_neg (by decide +kernel)]; exact ⟨rfl, rfl⟩))
    (fun os started H enc _ => lifted os started H enc)

/-- The statement. -/
theorem proved : Rows.SlashTwoSaid :=
  over
#print axioms proved

end Go.Proofs.Ythaofomhlmajbaa.slashTwo
