/-
  The contract of ratio.More: whether one product is more than another one.
  The functions that package quick's call hold makes, and ratio's More at any numbers.
  The contract of package quick's call hold.
  The contract of the method first of package quick: the first one of a chain that is so, by halves.
  The contracts of package quick's own calls For, Sure and Top.
-/
import Derived.Shelf.Bits.Mul64
import Derived.Laws.EntriesVeiled
import Derived.WalkMore
import Derived.ScopeJumps
import Derived.Deep.Cut
import Derived.Test.YtpojiijgahcidaaGreatGround
import Derived.Test.YtpojiijgahcidaaGreatPlainG
import Derived.Test.YtpojiijgahcidaaGreatWeighG
import Derived.Test.YtpojiijgahcidaaGreatHeadG
import Derived.Test.YtpojiijgahcidaaGreatDutyG
import Derived.Test.YtpojiijgahcidaaGreatTreeG
namespace Go.Proofs.YtpojiijgahcidaaGreat
set_option maxRecDepth 100000
set_option linter.unusedVariables false
set_option linter.unusedSimpArgs false
section
set_option linter.unusedSimpArgs false
set_option linter.unusedVariables false
open Go.ChangeShapes Go.WideShapes Go.ChangeAt Go.RowKit Go.Shelf

def renMul : Go.Shelf.Ren := ⟨fun _ => 107, fun t => if t = 46 then 152 else 23, fun g => g⟩
theorem layMul : Lays.n264 Tryz.prog renMul := { mixed := by kernel_rfl, f264 := by kernel_rfl, t46 := by kernel_rfl, a46 := fun _ => by kernel_rfl, z46 := fun _ => by kernel_rfl, v46 := fun _ => by kernel_rfl, t53 := by kernel_rfl, a53 := fun _ => by kernel_rfl, z53 := fun _ => by kernel_rfl, v53 := fun _ => by kernel_rfl }
theorem mul64_nat (x y : Nat) (hx : x < 18446744073709551616) (hy : y < 18446744073709551616) (w : World) :
    Calls Tryz.prog 107 #[.int .u64 x, .int .u64 y] w fun e w' => e = .returned (.tuple #[.int .u64 ((x * y / 18446744073709551616 : Nat) : Int), .int .u64 ((x * y % 18446744073709551616 : Nat) : Int)]) ∧ w' = w :=
  Any.bits_Mul64 layMul x y hx hy w

/-! ### Numbers -/
def mayR (n : Int) : Bool := decide (0 ≤ n ∧ n ≤ 4611686018427387904)
theorem mayR_yes {n : Int} (h : mayR n = true) : 0 ≤ n ∧ n ≤ 4611686018427387904 := of_decide_eq_true h
theorem mayR_mk {n : Int} (h : 0 ≤ n ∧ n ≤ 4611686018427387904) : mayR n = true := decide_eq_true h
theorem mayR_not {n : Int} (h : n < 0 ∨ 4611686018427387904 < n) : mayR n = false := decide_eq_false (by omega)
set_option maxHeartbeats 400000 in
theorem rMay_any (n : Int) (w : World) : Calls Tryz.prog 84 #[.int .i64 n] w fun e w' => e = .returned (.bool (mayR n)) ∧ w = w' := by
  by_cases h0 : 0 ≤ n
  · by_cases h1 : n ≤ 4611686018427387904
    · have H := Lib.hid (mayR_mk ⟨h0, h1⟩)
      go_enter Tryz.func84, Tryz.ntmps84
      go_wp2
      go_ret
      exact ⟨by rw [H.out]; rfl, rfl⟩
    · have H := Lib.hid (mayR_not (n := n) (by omega))
      go_enter Tryz.func84, Tryz.ntmps84
      go_wp2
      go_ret
      exact ⟨by rw [H.out]; rfl, rfl⟩
  · have H := Lib.hid (mayR_not (n := n) (by omega))
    go_enter Tryz.func84, Tryz.ntmps84
    go_wp2
    go_ret
    exact ⟨by rw [H.out]; rfl, rfl⟩

/-! ### Mul64, times -/
def hiI (p : Int) : Int := p / 18446744073709551616
def loI (p : Int) : Int := p % 18446744073709551616
theorem mul64_int (x y : Int) (hx0 : 0 ≤ x) (hx : x < 18446744073709551616) (hy0 : 0 ≤ y) (hy : y < 18446744073709551616) (w : World) :
    Calls Tryz.prog 107 #[.int .u64 x, .int .u64 y] w fun e w' => e = .returned (.tuple #[.int .u64 (hiI (x * y)), .int .u64 (loI (x * y))]) ∧ w = w' := by
  obtain ⟨a, rfl⟩ := Int.eq_ofNat_of_zero_le hx0
  obtain ⟨b, rfl⟩ := Int.eq_ofNat_of_zero_le hy0
  have h := mul64_nat a b (by omega) (by omega) w
  have e1 : hiI ((a : Int) * b) = ((a * b / 18446744073709551616 : Nat) : Int) := by unfold hiI; rw [← Int.natCast_mul]; omega
  have e2 : loI ((a : Int) * b) = ((a * b % 18446744073709551616 : Nat) : Int) := by unfold loI; rw [← Int.natCast_mul]; omega
  rw [e1, e2]; exact h.mono fun _ _ ⟨he, hw⟩ => ⟨he, hw.symm⟩
set_option maxHeartbeats 400000 in
theorem times_any (a b : Int) (ha : 0 ≤ a) (ha' : a ≤ 4611686018427387904) (hb : 0 ≤ b) (hb' : b ≤ 4611686018427387904) (w : World) :
    Calls Tryz.prog 86 #[.int .i64 a, .int .i64 b] w fun e w' => e = .returned (.agg #[.int .u64 (hiI (a * b)), .int .u64 (loI (a * b))]) ∧ Kept w w' := by
  go_enter Tryz.func86, Tryz.ntmps86
  go_wp2_with fail
  refine (mul64_int _ _ (by omega) (by omega) (by omega) (by omega) _).mono ?_
  rintro e w' ⟨rfl, rfl⟩
  go_wp2_with fail
  exact bodyPost_ret (v := .agg #[.int .u64 (hiI (a * b)), .int .u64 (loI (a * b))]) (by simp [results, Tryz.results86, go_sem]) rfl ⟨rfl, (Kept.refl _).alloc _⟩

/-! ### above -/
theorem Tryz.cellsU64 : Tryz.prog.cellsOf 23 = 1 := by kernel_rfl
theorem eqProduct (h1 l1 h2 l2 : Int) (w : World) :
    Sem.run Tryz.prog (Op.equalIn 10000 116 (.agg #[.int .u64 h1, .int .u64 l1]) (.agg #[.int .u64 h2, .int .u64 l2])) w = .ok ((h1 == h2) && (l1 == l2)) w := by
  obtain ⟨i, hi⟩ := info_of_underlying Tryz.underlying23
  rw [show (10000 : Nat) = 9998 + 1 + 1 from rfl, run_equalIn_array w (9998 + 1) _ _ Tryz.underlying116 hi, Tryz.cellsU64]
  have e2 : List.range 2 = [0, 1] := rfl
  rw [e2]
  simp only [Op.eqItems, Sem.run_bind]
  go_simp
  by_cases h : h1 = h2 <;> by_cases k : l1 = l2 <;> simp [h, k]
def aboveB (h1 l1 h2 l2 : Int) : Bool := decide (h2 < h1 ∨ (h1 = h2 ∧ l2 < l1))
theorem aboveB_yes {h1 l1 h2 l2 : Int} (h : h2 < h1 ∨ (h1 = h2 ∧ l2 < l1)) : aboveB h1 l1 h2 l2 = true := decide_eq_true h
theorem aboveB_no {h1 l1 h2 l2 : Int} (h : ¬ (h2 < h1 ∨ (h1 = h2 ∧ l2 < l1))) : aboveB h1 l1 h2 l2 = false := decide_eq_false h
attribute [local go_sem high] eqProduct in
set_option maxHeartbeats 400000 in
theorem above_any (h1 l1 h2 l2 : Int) (w : World) :
    Calls Tryz.prog 85 #[.agg #[.int .u64 h1, .int .u64 l1], .agg #[.int .u64 h2, .int .u64 l2]] w fun e w' => e = .returned (.bool (aboveB h1 l1 h2 l2)) ∧ Kept w w' := by
  by_cases hh : h1 = h2
  · subst hh
    by_cases hl : l2 < l1
    · have H := Lib.hid (aboveB_yes (h1 := h1) (h2 := h1) (Or.inr ⟨rfl, hl⟩))
      have b1 : (l1 == l2) = false := beq_eq_false_iff_ne.2 (by omega)
      go_enter Tryz.func85, Tryz.ntmps85
      go_wp2
      go_ret
      exact ⟨by rw [H.out]; rfl, by repeat (first | exact Kept.refl _ | apply Kept.drew | apply Kept.alloc)⟩
    · have H := Lib.hid (aboveB_no (h1 := h1) (l1 := l1) (h2 := h1) (l2 := l2) (by omega))
      by_cases he : l1 = l2
      · subst he
        go_enter Tryz.func85, Tryz.ntmps85
        go_wp2
        go_ret
        exact ⟨by rw [H.out]; rfl, by repeat (first | exact Kept.refl _ | apply Kept.drew | apply Kept.alloc)⟩
      · have b1 : (l1 == l2) = false := beq_eq_false_iff_ne.2 he
        go_enter Tryz.func85, Tryz.ntmps85
        go_wp2
        go_ret
        exact ⟨by rw [H.out]; rfl, by repeat (first | exact Kept.refl _ | apply Kept.drew | apply Kept.alloc)⟩
  · have b1 : (h1 == h2) = false := beq_eq_false_iff_ne.2 hh
    have b2 : (h1 != h2) = true := by rw [bne_iff_ne]; exact hh
    by_cases hl : h2 < h1
    · have H := Lib.hid (aboveB_yes (h1 := h1) (l1 := l1) (h2 := h2) (l2 := l2) (Or.inl hl))
      go_enter Tryz.func85, Tryz.ntmps85
      go_wp2
      go_ret
      exact ⟨by rw [H.out]; rfl, by repeat (first | exact Kept.refl _ | apply Kept.drew | apply Kept.alloc)⟩
    · have H := Lib.hid (aboveB_no (h1 := h1) (l1 := l1) (h2 := h2) (l2 := l2) (by omega))
      go_enter Tryz.func85, Tryz.ntmps85
      go_wp2
      go_ret
      exact ⟨by rw [H.out]; rfl, by repeat (first | exact Kept.refl _ | apply Kept.drew | apply Kept.alloc)⟩
theorem above_div (p q : Int) : aboveB (hiI p) (loI p) (hiI q) (loI q) = decide (q < p) := by
  unfold aboveB hiI loI
  rw [decide_eq_decide]
  omega

/-! ### More -/
set_option maxHeartbeats 800000 in
theorem rMore_any (a b c d : Int) (ha : mayR a = true) (hb : mayR b = true) (hc : mayR c = true) (hd : mayR d = true) (w : World) :
    Calls Tryz.prog 58 #[.int .i64 a, .int .i64 b, .int .i64 c, .int .i64 d] w fun e w' => e = .returned (.bool (decide (c * d < a * b))) ∧ Kept w w' := by
  obtain ⟨a0, a1⟩ := mayR_yes ha
  obtain ⟨b0, b1⟩ := mayR_yes hb
  obtain ⟨c0, c1⟩ := mayR_yes hc
  obtain ⟨d0, d1⟩ := mayR_yes hd
  have hs := Lib.hid (show decide (c * d < a * b) = aboveB (hiI (a * b)) (loI (a * b)) (hiI (c * d)) (loI (c * d)) by rw [above_div])
  go_enter Tryz.func58, Tryz.ntmps58
  go_wp2_with (go_at_call 84; refine (rMay_any _ _).mono ?_; rintro e w' ⟨rfl, rfl⟩)
  go_wp2_with fail
  refine (times_any _ _ (by omega) (by omega) (by omega) (by omega) _).mono ?_
  rintro e w1 ⟨rfl, g1⟩
  go_wp2_with fail
  refine (times_any _ _ (by omega) (by omega) (by omega) (by omega) _).mono ?_
  rintro e w2 ⟨rfl, g2⟩
  go_wp2_with fail
  refine (above_any _ _ _ _ _).mono ?_
  rintro e w3 ⟨rfl, g3⟩
  go_wp2_with fail
  go_ret
  exact ⟨by rw [hs.out]; rfl, g1.trans (g2.trans g3)⟩
end

section
set_option linter.unusedSimpArgs false
set_option linter.unusedVariables false
open Go.ChangeShapes Go.WideShapes Go.ChangeAt Go.RowKit

/-- A function that is called by its number. -/
def QEnters (f : Nat) : Prop := ∀ args w, (callFunc f args).run Tryz.prog w = .ok (.enter f args) w
/-- A function value that tells g of an id, here and in all worlds in which what is here stays. -/
def IdFn (f : Nat) (cb : Array Value) (g : Id2 → Value) (w : World) : Prop := ∀ W, Kept w W → ∀ x, WfI x → Calls Tryz.prog f (#[.agg #[.int .u64 x.1, .int .u64 x.2]] ++ cb) W fun e w' => e = .returned (g x) ∧ Kept W w'
theorem IdFn.kept {f : Nat} {cb : Array Value} {g : Id2 → Value} {w w' : World} (h : IdFn f cb g w) (k : Kept w w') : IdFn f cb g w' := fun W hW => h W (k.trans hW)
set_option maxRecDepth 100000 in
set_option maxHeartbeats 6400000 in
theorem rMoreAll_any (a b c d : Int) (w : World) :
    Calls Tryz.prog 58 #[.int .i64 a, .int .i64 b, .int .i64 c, .int .i64 d] w fun e w' => e = .returned (.bool (moreQ a b c d)) ∧ Kept w w' := by
  cases ha : mayQ a with
  | false =>
    have HE := Lib.hid (show moreQ a b c d = false by unfold moreQ; rw [show mayQ a = false from ha]; simp)
    have ga : mayR a = false := ha
    clear ha
    go_enter Tryz.func58, Tryz.ntmps58
    go_wp2_with (go_at_call 84; refine (rMay_any _ _).mono ?_; rintro e w' ⟨rfl, rfl⟩)
    go_ret
    exact ⟨by rw [HE.out]; first | rfl | (simp; done), Kept.refl _⟩
  | true =>
    cases hb : mayQ b with
    | false =>
      have HE := Lib.hid (show moreQ a b c d = false by unfold moreQ; rw [show mayQ b = false from hb]; simp)
      have gb : mayR b = false := hb
      have ga : mayR a = true := ha
      clear ha
      clear hb
      go_enter Tryz.func58, Tryz.ntmps58
      go_wp2_with (go_at_call 84; refine (rMay_any _ _).mono ?_; rintro e w' ⟨rfl, rfl⟩)
      go_ret
      exact ⟨by rw [HE.out]; first | rfl | (simp; done), Kept.refl _⟩
    | true =>
      cases hc : mayQ c with
      | false =>
        have HE := Lib.hid (show moreQ a b c d = false by unfold moreQ; rw [show mayQ c = false from hc]; simp)
        have gc : mayR c = false := hc
        have ga : mayR a = true := ha
        have gb : mayR b = true := hb
        clear ha
        clear hb
        clear hc
        go_enter Tryz.func58, Tryz.ntmps58
        go_wp2_with (go_at_call 84; refine (rMay_any _ _).mono ?_; rintro e w' ⟨rfl, rfl⟩)
        go_ret
        exact ⟨by rw [HE.out]; first | rfl | (simp; done), Kept.refl _⟩
      | true =>
        cases hd : mayQ d with
        | false =>
          have HE := Lib.hid (show moreQ a b c d = false by unfold moreQ; rw [show mayQ d = false from hd]; simp)
          have gd : mayR d = false := hd
          have ga : mayR a = true := ha
          have gb : mayR b = true := hb
          have gc : mayR c = true := hc
          clear ha
          clear hb
          clear hc
          clear hd
          go_enter Tryz.func58, Tryz.ntmps58
          go_wp2_with (go_at_call 84; refine (rMay_any _ _).mono ?_; rintro e w' ⟨rfl, rfl⟩)
          go_ret
          exact ⟨by rw [HE.out]; first | rfl | (simp; done), Kept.refl _⟩
        | true =>
          have HE := Lib.hid (show moreQ a b c d = decide (c * d < a * b) by unfold moreQ; rw [ha, hb, hc, hd]; simp)
          refine (rMore_any a b c d ha hb hc hd w).mono ?_
          rintro e w' ⟨rfl, kk⟩
          exact ⟨by rw [HE.out], kk⟩
set_option maxRecDepth 100000 in
set_option maxHeartbeats 6400000 in
theorem hold1_any (kA : Option Addr) (kc : Nat) (k : Cf) (lA : Option Addr) (lc : Nat) (l : List Bk) (vA : Option Addr) (vc : Nat) (v : List Vt) (rA : Option Addr) (rc : Nat) (r : List Vt) (x : Id2) (z1 z2 z3 : Nat) (w : World) (hl : l.length ≤ 10000) (hr : r.length ≤ 10000) (hwl : WfL l) (hwr : WfVs r) (hx : WfI x)
    (h1 : HasCells w z1 [.slice kA k.ws.length kc, .int .u64 k.seed, .int .i64 k.ep, .int .i64 k.nu, .int .i64 k.de]) (h2 : HasCells w z2 [.slice lA l.length lc, .slice vA v.length vc]) (h3 : HasCells w z3 [.slice rA r.length rc]) (hA : CellsAt w w.heap.size kA (intCells k.ws)) (hL : CellsAt w w.heap.size lA (blockCells l)) (hR : CellsAt w w.heap.size rA (votesCells r)) :
    Calls Tryz.prog 55 #[.agg #[.int .u64 x.1, .int .u64 x.2], .pointer (some ⟨z1, 0, none⟩), .pointer (some ⟨z2, 0, none⟩), .pointer (some ⟨z3, 0, none⟩)] w fun e w' => e = .returned (.int .i64 (onC k l r x)) ∧ Kept w w' := by
  have bz1 := h1.1
  obtain ⟨b10, b11, b12, b13, b14⟩ := h1.five
  have bz2 := h2.1
  obtain ⟨b20, b21⟩ := h2.two
  have bz3 := h3.1
  have b30 := h3.at0
  go_enter Tryz.func55, Tryz.ntmps55
  go_wp2_with fail
  have K0 := Lib.hid ((Kept.refl w).alloc (.cells #[.int .u64 x.1, .int .u64 x.2] 31))
  have HA := Lib.hid (hA.kept K0.out)
  clear hA
  have HL := Lib.hid (hL.kept K0.out)
  clear hL
  have HR := Lib.hid (hR.kept K0.out)
  clear hR
  have HB0 := Lib.hid (HasCells.new w #[.int .u64 x.1, .int .u64 x.2] 31 (w.heap.size) (by simp))
  generalize (w.alloc (.cells #[.int .u64 x.1, .int .u64 x.2] 31)) = W0 at *
  generalize w.heap.size = z0 at *
  have KB0 := Lib.hid (Kept.refl W0)
  clear b10 b11 b12 b13 b14 bz1 b20 b21 bz2 b30 bz3
  have HB1 := Lib.hid (h1.kept K0.out)
  clear h1
  have HB2 := Lib.hid (h2.kept K0.out)
  clear h2
  have HB3 := Lib.hid (h3.kept K0.out)
  clear h3
  obtain ⟨b00, b01⟩ := (HB0.out.kept KB0.out).two
  have bz0 := (HB0.out.kept KB0.out).1
  obtain ⟨b10, b11, b12, b13, b14⟩ := (HB1.out.kept KB0.out).five
  have bz1 := (HB1.out.kept KB0.out).1
  obtain ⟨b20, b21⟩ := (HB2.out.kept KB0.out).two
  have bz2 := (HB2.out.kept KB0.out).1
  have b30 := (HB3.out.kept KB0.out).at0
  have bz3 := (HB3.out.kept KB0.out).1
  go_wp2_with fail
  clear b00 b01 bz0 b10 b11 b12 b13 b14 bz1 b20 b21 bz2 b30 bz3
  refine (on_any kA kc k lA lc l rA rc r x W0 (by omega) (by omega) hwl hwr hx (HA.out.kept KB0.out) (HL.out.kept KB0.out) (HR.out.kept KB0.out)).mono ?_
  rintro e W1 ⟨rfl, k⟩
  have KB1 := Lib.hid (KB0.out.trans k)
  clear k
  go_wp2_with fail
  go_ret
  exact ⟨by first | rfl | (simp; done), K0.out.trans KB1.out⟩
set_option maxRecDepth 100000 in
set_option maxHeartbeats 6400000 in
theorem hold2_any (f : Nat) (cb : Array Value) (kA : Option Addr) (kc : Nat) (k : Cf) (g : Id2 → Int) (W : Int) (x : Id2) (z1 z2 z3 : Nat) (w : World) (hx : WfI x) (hg : ∀ x, 0 ≤ g x ∧ g x ≤ 13194139533312) (hnu : -1099511627776 ≤ k.nu ∧ k.nu ≤ 1099511627776) (hde : -1099511627776 ≤ k.de ∧ k.de ≤ 1099511627776) (eg : ∀ args w, (callFunc f args).run Tryz.prog w = .ok (.enter f args) w) (hF : IdFn f cb (fun x => .int .i64 (g x)) w)
    (h1 : HasCells w z1 [.func (.func f) #[] cb]) (h2 : HasCells w z2 [.slice kA k.ws.length kc, .int .u64 k.seed, .int .i64 k.ep, .int .i64 k.nu, .int .i64 k.de]) (h3 : HasCells w z3 [.int .i64 W]) :
    Calls Tryz.prog 57 #[.agg #[.int .u64 x.1, .int .u64 x.2], .pointer (some ⟨z1, 0, none⟩), .pointer (some ⟨z2, 0, none⟩), .pointer (some ⟨z3, 0, none⟩)] w fun e w' => e = .returned (.bool (moreQ (2 * g x) k.de W (k.de + 2 * k.nu))) ∧ Kept w w' := by
  have bz1 := h1.1
  have b10 := h1.at0
  have bz2 := h2.1
  obtain ⟨b20, b21, b22, b23, b24⟩ := h2.five
  have bz3 := h3.1
  have b30 := h3.at0
  go_enter Tryz.func57, Tryz.ntmps57
  go_wp2_with fail
  have K0 := Lib.hid ((Kept.refl w).alloc (.cells #[.int .u64 x.1, .int .u64 x.2] 31))
  have HB0 := Lib.hid (HasCells.new w #[.int .u64 x.1, .int .u64 x.2] 31 (w.heap.size) (by simp))
  generalize (w.alloc (.cells #[.int .u64 x.1, .int .u64 x.2] 31)) = W0 at *
  generalize w.heap.size = z0 at *
  have KB0 := Lib.hid (Kept.refl W0)
  clear b10 bz1 b20 b21 b22 b23 b24 bz2 b30 bz3
  have HB1 := Lib.hid (h1.kept K0.out)
  clear h1
  have HB2 := Lib.hid (h2.kept K0.out)
  clear h2
  have HB3 := Lib.hid (h3.kept K0.out)
  clear h3
  have HF := Lib.hid (hF.kept K0.out)
  clear hF
  have HX := Lib.hid hx
  clear hx
  have HG := Lib.hid hg
  clear hg
  have hw2 : IntKind.i64.wrap (2 * k.nu) = 2 * k.nu := by rw [IntKind.wrap_i64]; omega
  have hw3 : IntKind.i64.wrap (k.de + 2 * k.nu) = k.de + 2 * k.nu := by rw [IntKind.wrap_i64]; omega
  have hw1 : IntKind.i64.wrap (2 * g x) = 2 * g x := by have := HG.out x; rw [IntKind.wrap_i64]; omega
  obtain ⟨b00, b01⟩ := (HB0.out.kept KB0.out).two
  have bz0 := (HB0.out.kept KB0.out).1
  have b10 := (HB1.out.kept KB0.out).at0
  have bz1 := (HB1.out.kept KB0.out).1
  obtain ⟨b20, b21, b22, b23, b24⟩ := (HB2.out.kept KB0.out).five
  have bz2 := (HB2.out.kept KB0.out).1
  have b30 := (HB3.out.kept KB0.out).at0
  have bz3 := (HB3.out.kept KB0.out).1
  go_wp2_with fail
  have HF2 := Lib.hid (show ∀ w', Kept W0 w' → Calls Tryz.prog f (#[.agg #[.int .u64 x.1, .int .u64 x.2]] ++ cb) w' fun e w'' => e = .returned (.int .i64 (g x)) ∧ Kept w' w'' from fun w' kk => HF.out w' kk x HX.out)
  clear HF
  generalize hG2 : g x = G at *
  have HGE := Lib.hid hG2
  clear hG2
  refine wp_region_noPanic ?_
  refine wp_region_held_drew (S := (fun w' => w'.cell? ⟨z0, 0, none⟩ = some (.int .u64 x.1) ∧ w'.cell? ⟨z0, 1, none⟩ = some (.int .u64 x.2) ∧ w'.cell? ⟨z1, 0, none⟩ = some (.func (.func f) #[] cb) ∧ w'.cell? ⟨z2, 0, none⟩ = some (.slice kA k.ws.length kc) ∧ w'.cell? ⟨z2, 1, none⟩ = some (.int .u64 k.seed) ∧ w'.cell? ⟨z2, 2, none⟩ = some (.int .i64 k.ep) ∧ w'.cell? ⟨z2, 3, none⟩ = some (.int .i64 k.nu) ∧ w'.cell? ⟨z2, 4, none⟩ = some (.int .i64 k.de) ∧ w'.cell? ⟨z3, 0, none⟩ = some (.int .i64 W) ∧ Kept W0 w')) (by kernel_rfl) ?_ (fun hHeld => ?_)
  · exact ⟨b00, b01, b10, b20, b21, b22, b23, b24, b30, (Kept.refl _).drew⟩
  refine wpAnyH_take (i := 0) (v := ?_) (by simp only [List.getElem?_toArray, List.getElem?_cons_succ, List.getElem?_cons_zero]; rfl) (by kernel_rfl) (by kernel_rfl) (by kernel_rfl) (fun _ _ _ h => h) (Or.inl ⟨by rfl, ?_⟩) (by assumption) ?_
  rotate_left
  · intro w hSw
    (try dsimp only at hSw)
    go_simp
    (try with_reducible rfl)
  simp only [Act.put, List.setIfInBounds_toArray, List.set_cons_zero, List.set_cons_succ]
  refine wpAnyH_take (i := 1) (v := ?_) (by simp only [List.getElem?_toArray, List.getElem?_cons_succ, List.getElem?_cons_zero]; rfl) (by kernel_rfl) (by kernel_rfl) (by kernel_rfl) (fun _ _ _ h => h) (Or.inl ⟨by rfl, ?_⟩) (by assumption) ?_
  rotate_left
  · intro w hSw
    (try dsimp only at hSw)
    go_simp
    (try with_reducible rfl)
  simp only [Act.put, List.setIfInBounds_toArray, List.set_cons_zero, List.set_cons_succ]
  refine wpAnyH_take (i := 4) (v := ?_) (by simp only [List.getElem?_toArray, List.getElem?_cons_succ, List.getElem?_cons_zero]; rfl) (by kernel_rfl) (by kernel_rfl) (by kernel_rfl) (fun _ _ _ h => h) (Or.inl ⟨by rfl, ?_⟩) (by assumption) ?_
  rotate_left
  · intro w hSw
    (try dsimp only at hSw)
    go_simp
    (try with_reducible rfl)
  simp only [Act.put, List.setIfInBounds_toArray, List.set_cons_zero, List.set_cons_succ]
  refine wpAnyH_take (i := 5) (v := ?_) (by simp only [List.getElem?_toArray, List.getElem?_cons_succ, List.getElem?_cons_zero]; rfl) (by kernel_rfl) (by kernel_rfl) (by kernel_rfl) (fun _ _ _ h => h) (Or.inl ⟨by rfl, ?_⟩) (by assumption) ?_
  rotate_left
  · intro w hSw
    (try dsimp only at hSw)
    go_simp
    (try with_reducible rfl)
  simp only [Act.put, List.setIfInBounds_toArray, List.set_cons_zero, List.set_cons_succ]
  refine wpAnyH_take (i := 6) (v := ?_) (by simp only [List.getElem?_toArray, List.getElem?_cons_succ, List.getElem?_cons_zero]; rfl) (by kernel_rfl) (by kernel_rfl) (by kernel_rfl) (fun _ _ _ h => h) (Or.inl ⟨by rfl, ?_⟩) (by assumption) ?_
  rotate_left
  · intro w hSw
    (try dsimp only at hSw)
    go_simp
    (try with_reducible rfl)
  simp only [Act.put, List.setIfInBounds_toArray, List.set_cons_zero, List.set_cons_succ]
  refine wpAnyH_take (i := 7) (v := ?_) (by simp only [List.getElem?_toArray, List.getElem?_cons_succ, List.getElem?_cons_zero]; rfl) (by kernel_rfl) (by kernel_rfl) (by kernel_rfl) (fun _ _ _ h => h) (Or.inl ⟨by rfl, ?_⟩) (by assumption) ?_
  rotate_left
  · intro w hSw
    (try dsimp only at hSw)
    go_simp
    (try with_reducible rfl)
  simp only [Act.put, List.setIfInBounds_toArray, List.set_cons_zero, List.set_cons_succ]
  refine wpAnyH_take (i := 8) (v := ?_) (by simp only [List.getElem?_toArray, List.getElem?_cons_succ, List.getElem?_cons_zero]; rfl) (by kernel_rfl) (by kernel_rfl) (by kernel_rfl) (fun _ _ _ h => h) (Or.inl ⟨by rfl, ?_⟩) (by assumption) ?_
  rotate_left
  · intro w hSw
    (try dsimp only at hSw)
    go_simp
    (try with_reducible rfl)
  simp only [Act.put, List.setIfInBounds_toArray, List.set_cons_zero, List.set_cons_succ]
  refine wpAnyH_take (i := 9) (v := ?_) (by simp only [List.getElem?_toArray, List.getElem?_cons_succ, List.getElem?_cons_zero]; rfl) (by kernel_rfl) (by kernel_rfl) (by kernel_rfl) (fun _ _ _ h => h) (Or.inl ⟨by rfl, ?_⟩) (by assumption) ?_
  rotate_left
  · intro w hSw
    (try dsimp only at hSw)
    go_simp
    (try with_reducible rfl)
  simp only [Act.put, List.setIfInBounds_toArray, List.set_cons_zero, List.set_cons_succ]
  refine wpAnyH_take (i := 10) (v := ?_) (by simp only [List.getElem?_toArray, List.getElem?_cons_succ, List.getElem?_cons_zero]; rfl) (by kernel_rfl) (by kernel_rfl) (by kernel_rfl) (fun _ _ _ h => h) (Or.inl ⟨by rfl, ?_⟩) (by assumption) ?_
  rotate_left
  · intro w hSw
    (try dsimp only at hSw)
    go_simp
    (try with_reducible rfl)
  simp only [Act.put, List.setIfInBounds_toArray, List.set_cons_zero, List.set_cons_succ]
  refine wpAnyH_take (i := 11) (v := ?_) (by simp only [List.getElem?_toArray, List.getElem?_cons_succ, List.getElem?_cons_zero]; rfl) (by kernel_rfl) (by kernel_rfl) (by kernel_rfl) (fun _ _ _ h => h) (Or.inl ⟨by rfl, ?_⟩) (by assumption) ?_
  rotate_left
  · intro w hSw
    (try dsimp only at hSw)
    go_simp
    (try with_reducible rfl)
  simp only [Act.put, List.setIfInBounds_toArray, List.set_cons_zero, List.set_cons_succ]
  try simp only [hw2]
  refine wpAnyH_take (i := 12) (v := ?_) (by simp only [List.getElem?_toArray, List.getElem?_cons_succ, List.getElem?_cons_zero]; rfl) (by kernel_rfl) (by kernel_rfl) (by kernel_rfl) (fun _ _ _ h => h) (Or.inl ⟨by rfl, ?_⟩) (by assumption) ?_
  rotate_left
  · intro w hSw
    (try dsimp only at hSw)
    go_simp
    (try with_reducible rfl)
  simp only [Act.put, List.setIfInBounds_toArray, List.set_cons_zero, List.set_cons_succ]
  try simp only [hw3]
  refine wpAnyH_ready (rs := [2]) (by kernel_rfl) (by simp) ?_
  refine AllReadyH.cons (by simp only [List.getElem?_toArray, List.getElem?_cons_succ, List.getElem?_cons_zero]; rfl) (fun K hK => ?_) AllReadyH.nil
  go_simp
  refine (HF2.out _ (hHeld.2.2.2.2.2.2.2.2.2)).mono ?_
  rintro e w' ⟨rfl, kk⟩
  try go_wp2_with fail
  refine hK.out _ _ ?_ (fun hHeld2 => ?_)
  · exact keepP9 bz0 bz0 bz1 bz2 bz2 bz2 bz2 bz2 bz3 hHeld kk
  clear hK K hHeld
  have hHeld := hHeld2
  clear hHeld2
  try simp only [Act.put, List.setIfInBounds_toArray, List.set_cons_zero, List.set_cons_succ]
  refine wpAnyH_take (i := 3) (v := ?_) (by simp only [List.getElem?_toArray, List.getElem?_cons_succ, List.getElem?_cons_zero]; rfl) (by kernel_rfl) (by kernel_rfl) (by kernel_rfl) (fun _ _ _ h => h) (Or.inl ⟨by rfl, ?_⟩) (by assumption) ?_
  rotate_left
  · intro w hSw
    (try dsimp only at hSw)
    go_simp
    (try with_reducible rfl)
  simp only [Act.put, List.setIfInBounds_toArray, List.set_cons_zero, List.set_cons_succ]
  try simp only [hw1]
  refine wpAnyH_ready (rs := [13]) (by kernel_rfl) (by simp) ?_
  refine AllReadyH.cons (by simp only [List.getElem?_toArray, List.getElem?_cons_succ, List.getElem?_cons_zero]; rfl) (fun K hK => ?_) AllReadyH.nil
  go_simp
  go_at_call 58; with_reducible refine (rMoreAll_any (2 * G) k.de W (k.de + 2 * k.nu) _).mono ?_
  rintro e w' ⟨rfl, kk⟩
  try go_wp2_with fail
  refine hK.out _ _ ?_ (fun hHeld2 => ?_)
  · exact keepP9 bz0 bz0 bz1 bz2 bz2 bz2 bz2 bz2 bz3 hHeld kk
  clear hK K hHeld
  have hHeld := hHeld2
  clear hHeld2
  try simp only [Act.put, List.setIfInBounds_toArray, List.set_cons_zero, List.set_cons_succ]
  refine wpAnyH_take (i := 14) (v := ?_) (by simp only [List.getElem?_toArray, List.getElem?_cons_succ, List.getElem?_cons_zero]; rfl) (by kernel_rfl) (by kernel_rfl) (by kernel_rfl) (fun _ _ _ h => h) (Or.inl ⟨by rfl, ?_⟩) (by assumption) ?_
  rotate_left
  · intro w hSw
    (try dsimp only at hSw)
    go_simp
    (try with_reducible rfl)
  simp only [Act.put, List.setIfInBounds_toArray, List.set_cons_zero, List.set_cons_succ]
  refine wpAnyH_done (by kernel_rfl) ?_ _
  refine NoPanic.normal ?_
  have k := hHeld.2.2.2.2.2.2.2.2.2
  clear hHeld
  have KB1 := Lib.hid (KB0.out.trans k)
  clear k
  generalize w' = W1 at *
  go_wp2_with fail
  go_ret
  exact ⟨by rw [HGE.out]; first | rfl | (simp; done), K0.out.trans KB1.out⟩
end

section
set_option linter.unusedSimpArgs false
set_option linter.unusedVariables false
open Go.ChangeShapes Go.WideShapes Go.ChangeAt Go.RowKit

theorem HasCells.past {w : World} {z z' j : Nat} {xs : List Value} (h : HasCells w z xs) (hp : z' ≠ z) (u : Value) : HasCells (w.setCell ⟨z', j, none⟩ u) z xs :=
  ⟨by simpa using h.1, fun i y hy => by
    rw [World.cell?_setCell_other _ _ _ _ (fun q => hp (congrArg Addr.block q))]
    exact h.2 i y hy⟩
theorem AtB.past {w : World} {z z' j : Nat} {xs : Array Value} {t : TypeId} (h : AtB w z xs t) (hp : z' ≠ z) (u : Value) : AtB (w.setCell ⟨z', j, none⟩ u) z xs t := h.other (p := ⟨z', j, none⟩) hp u
theorem votes_nilfunc (l : List Vt) : Value.nilFunc ∉ votesCells l := by
  intro h
  unfold votesCells at h
  obtain ⟨v, _, hv⟩ := List.mem_flatMap.1 h
  simp [vtCells] at hv
theorem ints_nilfunc (l : List Int) : Value.nilFunc ∉ intCells l := by
  intro h
  unfold intCells at h
  obtain ⟨v, _, hv⟩ := List.mem_map.1 h
  cases hv
theorem blocks_nilfunc (l : List Bk) : Value.nilFunc ∉ blockCells l := by
  intro h
  unfold blockCells at h
  obtain ⟨v, _, hv⟩ := List.mem_flatMap.1 h
  simp [bkCells] at hv
/-- A row stays as it is where a box of two functions that there were none of is filled, and one box more is made. -/
theorem CellsAt.past2 {w : World} {A : Option Addr} {xs : List Value} {z : Nat} {t : TypeId} (h : CellsAt w w.heap.size A xs) (hz : AtB w z #[.nilFunc, .nilFunc] t) (hn : Value.nilFunc ∉ xs) (a b : Value) (o : Obj) : CellsAt (((w.setCell ⟨z, 0, none⟩ a).setCell ⟨z, 1, none⟩ b).alloc o) (((w.setCell ⟨z, 0, none⟩ a).setCell ⟨z, 1, none⟩ b).alloc o).heap.size A xs := by
  have h1 := h.past (p := ⟨z, 0, .none⟩) (hz.cell (j := 0)) hn a
  have h2 := h1.past (p := ⟨z, 1, .none⟩) ((hz.set 0 a).cell (j := 1)) hn b
  exact h2.kept ((Kept.refl _).alloc o)
theorem golds_len {k : Cf} {slot : Int} {v R : List Vt} (h : Golds k slot v R) (hwv : WfVs v) : WfVs R := fun x hx => hwv x (golds_mem h x hx)
/-- What hold hands back, once all that it has made lies where it is. -/
theorem hold_end (kA : Option Addr) (kc : Nat) (k : Cf) (lA : Option Addr) (lc : Nat) (l : List Bk) (vA : Option Addr) (vc : Nat) (v : List Vt) (rA : Option Addr) (rc : Nat) (r : List Vt) (slot : Int) (z0 z1 z3 z4 z5 : Nat) {w w' : World} (hl : l.length ≤ 10000) (hr : r.length ≤ 10000) (hwl : WfL l) (hwr : WfVs r) (hG : Golds k slot v r)
    (h1 : HasCells w' z0 [.slice kA k.ws.length kc, .int .u64 k.seed, .int .i64 k.ep, .int .i64 k.nu, .int .i64 k.de]) (h2 : HasCells w' z1 [.slice lA l.length lc, .slice vA v.length vc]) (h3 : HasCells w' z3 [.slice rA r.length rc]) (h4 : HasCells w' z4 [.int .i64 (wcC k slot)]) (h5 : HasCells w' z5 [.func (.func 55) #[] #[.pointer (some ⟨z0, 0, none⟩), .pointer (some ⟨z1, 0, none⟩), .pointer (some ⟨z3, 0, none⟩)]]) (hA : CellsAt w' w'.heap.size kA (intCells k.ws)) (hL : CellsAt w' w'.heap.size lA (blockCells l)) (hR : CellsAt w' w'.heap.size rA (votesCells r)) (hk : Kept w w') :
    (fun e w' => ∃ R f1 c1 f2 c2, Golds k slot v R ∧ e = .returned (.agg #[.func (.func f1) #[] c1, .func (.func f2) #[] c2]) ∧ QEnters f1 ∧ QEnters f2 ∧ IdFn f1 c1 (fun x => .int .i64 (onC k l R x)) w' ∧ ((-1099511627776 ≤ k.nu ∧ k.nu ≤ 1099511627776) → (-1099511627776 ≤ k.de ∧ k.de ≤ 1099511627776) → IdFn f2 c2 (fun x => .bool (sureC k l slot R x)) w') ∧ Kept w w') (Ending.returned (.agg #[.func (.func 55) #[] #[.pointer (some ⟨z0, 0, none⟩), .pointer (some ⟨z1, 0, none⟩), .pointer (some ⟨z3, 0, none⟩)], .func (.func 57) #[] #[.pointer (some ⟨z5, 0, none⟩), .pointer (some ⟨z0, 0, none⟩), .pointer (some ⟨z4, 0, none⟩)]])) w' := by
  have H1 : IdFn 55 #[.pointer (some ⟨z0, 0, none⟩), .pointer (some ⟨z1, 0, none⟩), .pointer (some ⟨z3, 0, none⟩)] (fun x => .int .i64 (onC k l r x)) w' := fun W hW x hx =>
    hold1_any kA kc k lA lc l vA vc v rA rc r x z0 z1 z3 W hl hr hwl hwr hx (h1.kept hW) (h2.kept hW) (h3.kept hW) (hA.kept hW) (hL.kept hW) (hR.kept hW)
  have e1 : QEnters 55 := enters_of Tryz.func55 (by kernel_rfl) rfl
  have e2 : QEnters 57 := enters_of Tryz.func57 (by kernel_rfl) rfl
  refine ⟨r, _, _, _, _, hG, rfl, e1, e2, H1, fun hnu hde W hW x hx => ?_, hk⟩
  exact hold2_any 55 _ kA kc k (fun x => onC k l r x) (wcC k slot) x z5 z0 z4 W hx (fun x => on_bounds k l r x) hnu hde e1 (H1.kept hW) (h5.kept hW) (h1.kept hW) (h4.kept hW)
set_option maxRecDepth 100000 in
set_option maxHeartbeats 6400000 in
theorem hold_any (kA : Option Addr) (kc : Nat) (k : Cf) (lA : Option Addr) (lc : Nat) (l : List Bk) (vA : Option Addr) (vc : Nat) (v : List Vt) (slot : Int) (w : World)
    (hk : k.ws.length ≤ 1000) (hsd : k.seed < 18446744073709551616) (hl : l.length ≤ 10000) (hv : v.length ≤ 10000) (hwl : WfL l) (hwv : WfVs v) (hA : CellsAt w w.heap.size kA (intCells k.ws)) (hL : CellsAt w w.heap.size lA (blockCells l)) (hV : CellsAt w w.heap.size vA (votesCells v)) :
    Calls Tryz.prog 31 #[.agg #[.slice kA k.ws.length kc, .int .u64 k.seed, .int .i64 k.ep, .int .i64 k.nu, .int .i64 k.de], .agg #[.slice lA l.length lc, .slice vA v.length vc], .int .i64 slot] w fun e w' => ∃ R f1 c1 f2 c2, Golds k slot v R ∧ e = .returned (.agg #[.func (.func f1) #[] c1, .func (.func f2) #[] c2]) ∧ QEnters f1 ∧ QEnters f2 ∧ IdFn f1 c1 (fun x => .int .i64 (onC k l R x)) w' ∧ ((-1099511627776 ≤ k.nu ∧ k.nu ≤ 1099511627776) → (-1099511627776 ≤ k.de ∧ k.de ≤ 1099511627776) → IdFn f2 c2 (fun x => .bool (sureC k l slot R x)) w') ∧ Kept w w' := by
  go_enter Tryz.func31, Tryz.ntmps31
  go_wp2_with fail
  have K0 := Lib.hid ((((Kept.refl w).alloc (.cells #[.slice kA k.ws.length kc, .int .u64 k.seed, .int .i64 k.ep, .int .i64 k.nu, .int .i64 k.de] 25)).alloc (.cells #[.slice lA l.length lc, .slice vA v.length vc] 29)).alloc (.cells #[.nilFunc, .nilFunc] 61))
  have HA := Lib.hid (hA.kept K0.out)
  clear hA
  have HL := Lib.hid (hL.kept K0.out)
  clear hL
  have HV := Lib.hid (hV.kept K0.out)
  clear hV
  have HB0 := Lib.hid (((HasCells.new w #[.slice kA k.ws.length kc, .int .u64 k.seed, .int .i64 k.ep, .int .i64 k.nu, .int .i64 k.de] 25 (w.heap.size) (by simp)).alloc (.cells #[.slice lA l.length lc, .slice vA v.length vc] 29)).alloc (.cells #[.nilFunc, .nilFunc] 61))
  have HB1 := Lib.hid ((HasCells.new (w.alloc (.cells #[.slice kA k.ws.length kc, .int .u64 k.seed, .int .i64 k.ep, .int .i64 k.nu, .int .i64 k.de] 25)) #[.slice lA l.length lc, .slice vA v.length vc] 29 (w.heap.size + 1) (by simp)).alloc (.cells #[.nilFunc, .nilFunc] 61))
  have HB2 := Lib.hid (HasCells.new ((w.alloc (.cells #[.slice kA k.ws.length kc, .int .u64 k.seed, .int .i64 k.ep, .int .i64 k.nu, .int .i64 k.de] 25)).alloc (.cells #[.slice lA l.length lc, .slice vA v.length vc] 29)) #[.nilFunc, .nilFunc] 61 (w.heap.size + 1 + 1) (by simp))
  have HPz := Lib.hid (show AtB (((w.alloc (.cells #[.slice kA k.ws.length kc, .int .u64 k.seed, .int .i64 k.ep, .int .i64 k.nu, .int .i64 k.de] 25)).alloc (.cells #[.slice lA l.length lc, .slice vA v.length vc] 29)).alloc (.cells #[.nilFunc, .nilFunc] 61)) (w.heap.size + 1 + 1) #[.nilFunc, .nilFunc] 61 from by have h := AtB.new ((w.alloc (.cells #[.slice kA k.ws.length kc, .int .u64 k.seed, .int .i64 k.ep, .int .i64 k.nu, .int .i64 k.de] 25)).alloc (.cells #[.slice lA l.length lc, .slice vA v.length vc] 29)) #[.nilFunc, .nilFunc] 61; rwa [show ((w.alloc (.cells #[.slice kA k.ws.length kc, .int .u64 k.seed, .int .i64 k.ep, .int .i64 k.nu, .int .i64 k.de] 25)).alloc (.cells #[.slice lA l.length lc, .slice vA v.length vc] 29)).heap.size = w.heap.size + 1 + 1 by simp] at h)
  have HNe := Lib.hid (show w.heap.size + 1 + 1 ≠ w.heap.size ∧ w.heap.size + 1 + 1 ≠ w.heap.size + 1 ∧ w.heap.size ≤ w.heap.size + 1 + 1 by omega)
  generalize (((w.alloc (.cells #[.slice kA k.ws.length kc, .int .u64 k.seed, .int .i64 k.ep, .int .i64 k.nu, .int .i64 k.de] 25)).alloc (.cells #[.slice lA l.length lc, .slice vA v.length vc] 29)).alloc (.cells #[.nilFunc, .nilFunc] 61)) = W0 at *
  generalize w.heap.size + 1 + 1 = z2 at *
  generalize w.heap.size + 1 = z1 at *
  generalize hz0 : w.heap.size = z0 at *
  have HZ0 := Lib.hid hz0
  clear hz0
  have KB0 := Lib.hid (Kept.refl W0)
  obtain ⟨b00, b01, b02, b03, b04⟩ := (HB0.out.kept KB0.out).five
  have bz0 := (HB0.out.kept KB0.out).1
  obtain ⟨b10, b11⟩ := (HB1.out.kept KB0.out).two
  have bz1 := (HB1.out.kept KB0.out).1
  go_wp2_with fail
  clear b00 b01 b02 b03 b04 bz0 b10 b11 bz1
  refine (goldOf_any kA kc k vA vc v slot W0 hk hsd hv hwv (HA.out.kept KB0.out) (HV.out.kept KB0.out)).mono ?_
  rintro e W1 ⟨R, A1, c1, hR, hRl, rfl, hC1, k⟩
  replace HPz := Lib.hid (HPz.out.kept k)
  have KB1 := Lib.hid (KB0.out.trans k)
  clear k
  have HG := Lib.hid hR
  have HGl := Lib.hid hRl
  clear hR hRl
  replace HA := Lib.hid (HA.out.kept KB1.out)
  replace HL := Lib.hid (HL.out.kept KB1.out)
  replace HV := Lib.hid (HV.out.kept KB1.out)
  replace HB0 := Lib.hid (HB0.out.kept KB1.out)
  replace HB1 := Lib.hid (HB1.out.kept KB1.out)
  replace HB2 := Lib.hid (HB2.out.kept KB1.out)
  replace K0 := Lib.hid (K0.out.trans KB1.out)
  have KB2 := Lib.hid (Kept.refl W1)
  have HC1 := Lib.hid hC1
  clear hC1
  obtain ⟨b00, b01, b02, b03, b04⟩ := (HB0.out.kept KB2.out).five
  have bz0 := (HB0.out.kept KB2.out).1
  obtain ⟨b10, b11⟩ := (HB1.out.kept KB2.out).two
  have bz1 := (HB1.out.kept KB2.out).1
  go_wp2_with fail
  clear b00 b01 b02 b03 b04 bz0 b10 b11 bz1
  have H3 := Lib.hid (AtB.new W1 #[.slice A1 R.length c1] 27)
  have k := (Kept.refl W1).alloc (.cells #[.slice A1 R.length c1] 27)
  obtain ⟨z3, hz3⟩ : ∃ z3, z3 = W1.heap.size := ⟨_, rfl⟩
  rw [← hz3] at H3 ⊢
  have HZ3 := Lib.hid hz3
  clear hz3
  generalize W1.alloc (.cells #[.slice A1 R.length c1] 27) = W2 at *
  have KB2 := Lib.hid (KB2.out.trans k)
  clear k
  have HCo := Lib.hid (fun w' (kk : Kept W2 w') => comm_any kA kc k slot w' (HA.out.kept (KB2.out.trans kk)) hsd)
  have HWe := Lib.hid (fun w' A2 c2 (kk : Kept W2 w') h => weight_any kA kc k A2 (commC k slot) c2 w' (HA.out.kept (KB2.out.trans kk)) (by have := comm_len k slot; omega) h)
  obtain ⟨b00, b01, b02, b03, b04⟩ := (HB0.out.kept KB2.out).five
  have bz0 := (HB0.out.kept KB2.out).1
  refine wp_region_noPanic ?_
  refine wp_region_held_drew (S := (fun w' => w'.cell? ⟨z0, 0, none⟩ = some (.slice kA k.ws.length kc) ∧ w'.cell? ⟨z0, 1, none⟩ = some (.int .u64 k.seed) ∧ w'.cell? ⟨z0, 2, none⟩ = some (.int .i64 k.ep) ∧ w'.cell? ⟨z0, 3, none⟩ = some (.int .i64 k.nu) ∧ w'.cell? ⟨z0, 4, none⟩ = some (.int .i64 k.de) ∧ Kept W2 w')) (by kernel_rfl) ?_ (fun hHeld => ?_)
  · exact ⟨b00, b01, b02, b03, b04, (Kept.refl _).drew⟩
  generalize W2.drew = V0 at *
  refine wpAnyH_take (i := 0) (v := ?_) (by simp only [List.getElem?_toArray, List.getElem?_cons_succ, List.getElem?_cons_zero]; rfl) (by kernel_rfl) (by kernel_rfl) (by kernel_rfl) (fun _ _ _ h => h) (Or.inl ⟨by rfl, ?_⟩) (by assumption) ?_
  rotate_left
  · intro w hSw
    (try dsimp only at hSw)
    go_simp
    (try with_reducible rfl)
  simp only [Act.put, List.setIfInBounds_toArray, List.set_cons_zero, List.set_cons_succ]
  refine wpAnyH_take (i := 1) (v := ?_) (by simp only [List.getElem?_toArray, List.getElem?_cons_succ, List.getElem?_cons_zero]; rfl) (by kernel_rfl) (by kernel_rfl) (by kernel_rfl) (fun _ _ _ h => h) (Or.inl ⟨by rfl, ?_⟩) (by assumption) ?_
  rotate_left
  · intro w hSw
    (try dsimp only at hSw)
    go_simp
    (try with_reducible rfl)
  simp only [Act.put, List.setIfInBounds_toArray, List.set_cons_zero, List.set_cons_succ]
  refine wpAnyH_take (i := 2) (v := ?_) (by simp only [List.getElem?_toArray, List.getElem?_cons_succ, List.getElem?_cons_zero]; rfl) (by kernel_rfl) (by kernel_rfl) (by kernel_rfl) (fun _ _ _ h => h) (Or.inl ⟨by rfl, ?_⟩) (by assumption) ?_
  rotate_left
  · intro w hSw
    (try dsimp only at hSw)
    go_simp
    (try with_reducible rfl)
  simp only [Act.put, List.setIfInBounds_toArray, List.set_cons_zero, List.set_cons_succ]
  refine wpAnyH_ready (rs := [3, 5]) (by kernel_rfl) (by simp) ?_
  refine AllReadyH.cons (by simp only [List.getElem?_toArray, List.getElem?_cons_succ, List.getElem?_cons_zero]; rfl) (fun K hK => ?_) (AllReadyH.cons (by simp only [List.getElem?_toArray, List.getElem?_cons_succ, List.getElem?_cons_zero]; rfl) (fun K hK => ?_) (AllReadyH.nil))
  · go_simp
    go_at_call 21; with_reducible refine (HCo.out _ (hHeld.2.2.2.2.2)).mono ?_
    rintro e V1 ⟨A2, c2, rfl, hC, kk⟩
    try go_wp2_with fail
    refine hK.out _ _ ?_ (fun hHeld2 => ?_)
    · exact keepP5 bz0 bz0 bz0 bz0 bz0 hHeld kk
    clear hK K hHeld
    have hHeld := hHeld2
    clear hHeld2
    try simp only [Act.put, List.setIfInBounds_toArray, List.set_cons_zero, List.set_cons_succ]
    refine wpAnyH_ready (rs := [4, 5]) (by kernel_rfl) (by simp) ?_
    refine AllReadyH.cons (by simp only [List.getElem?_toArray, List.getElem?_cons_succ, List.getElem?_cons_zero]; rfl) (fun K hK => ?_) (AllReadyH.cons (by simp only [List.getElem?_toArray, List.getElem?_cons_succ, List.getElem?_cons_zero]; rfl) (fun K hK => ?_) (AllReadyH.nil))
    · go_simp
      go_at_call 22; with_reducible refine (HWe.out _ A2 c2 (hHeld.2.2.2.2.2) hC).mono ?_
      rintro e V2 ⟨rfl, kk⟩
      rw [show weightC k (commC k slot) = wcC k slot from rfl]
      replace hC := hC.kept kk
      try go_wp2_with fail
      refine hK.out _ _ ?_ (fun hHeld2 => ?_)
      · exact keepP5 bz0 bz0 bz0 bz0 bz0 hHeld kk
      clear hK K hHeld
      have hHeld := hHeld2
      clear hHeld2
      try simp only [Act.put, List.setIfInBounds_toArray, List.set_cons_zero, List.set_cons_succ]
      refine wpAnyH_ready (rs := [5]) (by kernel_rfl) (by simp) ?_
      refine AllReadyH.cons (by simp only [List.getElem?_toArray, List.getElem?_cons_succ, List.getElem?_cons_zero]; rfl) (fun K hK => ?_) (AllReadyH.nil)
      have h4 := AtB.new V2 #[.int .i64 0] 3
      have kk := (Kept.refl V2).alloc (.cells #[.int .i64 0] 3)
      have hzh := (hHeld.2.2.2.2.2).size_le
      replace hC := hC.kept kk
      go_simp
      generalize V2.alloc (.cells #[.int .i64 0] 3) = V3 at *
      obtain ⟨z4, hz4⟩ : ∃ z4, z4 = V2.heap.size := ⟨_, rfl⟩
      rw [← hz4] at h4 hzh ⊢
      clear hz4
      refine hK.out _ _ ?_ (fun hHeld2 => ?_)
      · exact keepP5 bz0 bz0 bz0 bz0 bz0 hHeld kk
      clear hK K hHeld
      have hHeld := hHeld2
      clear hHeld2
      try simp only [Act.put, List.setIfInBounds_toArray, List.set_cons_zero, List.set_cons_succ]
      refine wpAnyH_ready (rs := [6]) (by kernel_rfl) (by simp) ?_
      refine AllReadyH.cons (by simp only [List.getElem?_toArray, List.getElem?_cons_succ, List.getElem?_cons_zero]; rfl) (fun K hK => ?_) (AllReadyH.nil)
      have c := h4.cell (j := 0)
      have fr := h4.fr 0
      have lt := h4.lt
      have hBl := Below.setCell (Below.refl W2.heap.size V3) (p := ⟨z4, 0, none⟩) hzh (.int .i64 (wcC k slot))
      replace h4 := h4.set1 (.int .i64 (wcC k slot))
      simp only [List.getElem?_toArray, List.getElem?_cons_zero] at c
      go_simp
      generalize V3.setCell ⟨z4, 0, none⟩ (.int .i64 (wcC k slot)) = V4 at *
      clear c fr lt
      refine hK.out _ _ ?_ (fun hHeld2 => ?_)
      · exact keepS5 bz0 bz0 bz0 bz0 bz0 hHeld hBl
      clear hK K hHeld
      have hHeld := hHeld2
      clear hHeld2
      try simp only [Act.put, List.setIfInBounds_toArray, List.set_cons_zero, List.set_cons_succ]
      refine wpAnyH_done (by kernel_rfl) ?_ _
      refine NoPanic.normal ?_
      have k := hHeld.2.2.2.2.2
      clear hHeld
      clear bz0 b00 b01 b02 b03 b04
      have H3z := Lib.hid (H3.out.kept k)
      have KB3 := Lib.hid (KB2.out.trans k)
      clear k
      have HPy := Lib.hid (HPz.out.kept KB3.out)
      have p0 := HPy.out.cell (j := 0)
      have p1 := HPy.out.cell (j := 1)
      have lt := HPy.out.lt
      have fr0 := HPy.out.fr 0
      have fr1 := HPy.out.fr 1
      simp only [List.getElem?_toArray, List.getElem?_cons_zero, List.getElem?_cons_succ] at p0 p1
      go_wp2_with fail
      generalize hz5 : V4.heap.size = z5 at *
      have ne3 : z2 ≠ z3 := by have := HPz.out.lt; have := HZ3.out; omega
      have ne4 : z2 ≠ z4 := by have := HPz.out.lt; have := KB2.out.size_le; omega
      have HEnd : (fun e w' => ∃ R f1 c1 f2 c2, Golds k slot v R ∧ e = .returned (.agg #[.func (.func f1) #[] c1, .func (.func f2) #[] c2]) ∧ QEnters f1 ∧ QEnters f2 ∧ IdFn f1 c1 (fun x => .int .i64 (onC k l R x)) w' ∧ ((-1099511627776 ≤ k.nu ∧ k.nu ≤ 1099511627776) → (-1099511627776 ≤ k.de ∧ k.de ≤ 1099511627776) → IdFn f2 c2 (fun x => .bool (sureC k l slot R x)) w') ∧ Kept w w') (Ending.returned (.agg #[.func (.func 55) #[] #[.pointer (some ⟨z0, 0, none⟩), .pointer (some ⟨z1, 0, none⟩), .pointer (some ⟨z3, 0, none⟩)], .func (.func 57) #[] #[.pointer (some ⟨z5, 0, none⟩), .pointer (some ⟨z0, 0, none⟩), .pointer (some ⟨z4, 0, none⟩)]])) (((V4.setCell ⟨z2, 0, none⟩ (.func (.func 55) #[] #[.pointer (some ⟨z0, 0, none⟩), .pointer (some ⟨z1, 0, none⟩), .pointer (some ⟨z3, 0, none⟩)])).setCell ⟨z2, 1, none⟩ (.func (.func 57) #[] #[.pointer (some ⟨z5, 0, none⟩), .pointer (some ⟨z0, 0, none⟩), .pointer (some ⟨z4, 0, none⟩)])).alloc (.cells #[.func (.func 55) #[] #[.pointer (some ⟨z0, 0, none⟩), .pointer (some ⟨z1, 0, none⟩), .pointer (some ⟨z3, 0, none⟩)]] 58)) := by
        refine hold_end kA kc k lA lc l vA vc v A1 c1 R slot z0 z1 z3 z4 z5 hl (Nat.le_trans HGl.out hv) hwl (golds_len HG.out hwv) HG.out ((((HB0.out.kept KB3.out).past HNe.out.1 _).past HNe.out.1 _).alloc _) ?_ ?_ ?_ ?_ ?_ ?_ ?_ ?_
        · exact (((HB1.out.kept KB3.out).past HNe.out.2.1 _).past HNe.out.2.1 _).alloc _
        · exact ((H3z.out.has.past ne3 _).past ne3 _).alloc _
        · exact ((h4.has.past ne4 _).past ne4 _).alloc _
        · exact HasCells.new _ #[.func (.func 55) #[] #[.pointer (some ⟨z0, 0, none⟩), .pointer (some ⟨z1, 0, none⟩), .pointer (some ⟨z3, 0, none⟩)]] _ z5 (by simp [hz5])
        · exact (HA.out.kept KB3.out).past2 HPy.out (ints_nilfunc _) _ _ _
        · exact (HL.out.kept KB3.out).past2 HPy.out (blocks_nilfunc _) _ _ _
        · exact (HC1.out.kept KB3.out).past2 HPy.out (votes_nilfunc _) _ _ _
        · exact (((K0.out.trans KB3.out).setCell (p := ⟨z2, 0, none⟩) (by have := HZ0.out; have := HNe.out.2.2; show w.heap.size ≤ z2; omega) _).setCell (p := ⟨z2, 1, none⟩) (by have := HZ0.out; have := HNe.out.2.2; show w.heap.size ≤ z2; omega) _).alloc _
      have r0 : (((V4.setCell ⟨z2, 0, none⟩ (.func (.func 55) #[] #[.pointer (some ⟨z0, 0, none⟩), .pointer (some ⟨z1, 0, none⟩), .pointer (some ⟨z3, 0, none⟩)])).setCell ⟨z2, 1, none⟩ (.func (.func 57) #[] #[.pointer (some ⟨z5, 0, none⟩), .pointer (some ⟨z0, 0, none⟩), .pointer (some ⟨z4, 0, none⟩)])).alloc (.cells #[.func (.func 55) #[] #[.pointer (some ⟨z0, 0, none⟩), .pointer (some ⟨z1, 0, none⟩), .pointer (some ⟨z3, 0, none⟩)]] 58)).cell? ⟨z2, 0, none⟩ = some (.func (.func 55) #[] #[.pointer (some ⟨z0, 0, none⟩), .pointer (some ⟨z1, 0, none⟩), .pointer (some ⟨z3, 0, none⟩)]) := (((HPy.out.set 0 (.func (.func 55) #[] #[.pointer (some ⟨z0, 0, none⟩), .pointer (some ⟨z1, 0, none⟩), .pointer (some ⟨z3, 0, none⟩)])).set 1 (.func (.func 57) #[] #[.pointer (some ⟨z5, 0, none⟩), .pointer (some ⟨z0, 0, none⟩), .pointer (some ⟨z4, 0, none⟩)])).kept ((Kept.refl _).alloc _)).cell (j := 0)
      have r1 : (((V4.setCell ⟨z2, 0, none⟩ (.func (.func 55) #[] #[.pointer (some ⟨z0, 0, none⟩), .pointer (some ⟨z1, 0, none⟩), .pointer (some ⟨z3, 0, none⟩)])).setCell ⟨z2, 1, none⟩ (.func (.func 57) #[] #[.pointer (some ⟨z5, 0, none⟩), .pointer (some ⟨z0, 0, none⟩), .pointer (some ⟨z4, 0, none⟩)])).alloc (.cells #[.func (.func 55) #[] #[.pointer (some ⟨z0, 0, none⟩), .pointer (some ⟨z1, 0, none⟩), .pointer (some ⟨z3, 0, none⟩)]] 58)).cell? ⟨z2, 1, none⟩ = some (.func (.func 57) #[] #[.pointer (some ⟨z5, 0, none⟩), .pointer (some ⟨z0, 0, none⟩), .pointer (some ⟨z4, 0, none⟩)]) := (((HPy.out.set 0 (.func (.func 55) #[] #[.pointer (some ⟨z0, 0, none⟩), .pointer (some ⟨z1, 0, none⟩), .pointer (some ⟨z3, 0, none⟩)])).set 1 (.func (.func 57) #[] #[.pointer (some ⟨z5, 0, none⟩), .pointer (some ⟨z0, 0, none⟩), .pointer (some ⟨z4, 0, none⟩)])).kept ((Kept.refl _).alloc _)).cell (j := 1)
      generalize (((V4.setCell ⟨z2, 0, none⟩ (.func (.func 55) #[] #[.pointer (some ⟨z0, 0, none⟩), .pointer (some ⟨z1, 0, none⟩), .pointer (some ⟨z3, 0, none⟩)])).setCell ⟨z2, 1, none⟩ (.func (.func 57) #[] #[.pointer (some ⟨z5, 0, none⟩), .pointer (some ⟨z0, 0, none⟩), .pointer (some ⟨z4, 0, none⟩)])).alloc (.cells #[.func (.func 55) #[] #[.pointer (some ⟨z0, 0, none⟩), .pointer (some ⟨z1, 0, none⟩), .pointer (some ⟨z3, 0, none⟩)]] 58)) = WE at HEnd r0 r1 ⊢
      exact bodyPost_ret (v := .agg #[.func (.func 55) #[] #[.pointer (some ⟨z0, 0, none⟩), .pointer (some ⟨z1, 0, none⟩), .pointer (some ⟨z3, 0, none⟩)], .func (.func 57) #[] #[.pointer (some ⟨z5, 0, none⟩), .pointer (some ⟨z0, 0, none⟩), .pointer (some ⟨z4, 0, none⟩)]]) (by simp [results, Tryz.results31, go_sem, r0, r1]) rfl HEnd
    · have h4 := AtB.new V1 #[.int .i64 0] 3
      have kk := (Kept.refl V1).alloc (.cells #[.int .i64 0] 3)
      have hzh := (hHeld.2.2.2.2.2).size_le
      replace hC := hC.kept kk
      go_simp
      generalize V1.alloc (.cells #[.int .i64 0] 3) = V2 at *
      obtain ⟨z4, hz4⟩ : ∃ z4, z4 = V1.heap.size := ⟨_, rfl⟩
      rw [← hz4] at h4 hzh ⊢
      clear hz4
      refine hK.out _ _ ?_ (fun hHeld2 => ?_)
      · exact keepP5 bz0 bz0 bz0 bz0 bz0 hHeld kk
      clear hK K hHeld
      have hHeld := hHeld2
      clear hHeld2
      try simp only [Act.put, List.setIfInBounds_toArray, List.set_cons_zero, List.set_cons_succ]
      refine wpAnyH_ready (rs := [4]) (by kernel_rfl) (by simp) ?_
      refine AllReadyH.cons (by simp only [List.getElem?_toArray, List.getElem?_cons_succ, List.getElem?_cons_zero]; rfl) (fun K hK => ?_) (AllReadyH.nil)
      go_simp
      go_at_call 22; with_reducible refine (HWe.out _ A2 c2 (hHeld.2.2.2.2.2) hC).mono ?_
      rintro e V3 ⟨rfl, kk⟩
      rw [show weightC k (commC k slot) = wcC k slot from rfl]
      replace hC := hC.kept kk
      replace h4 := h4.kept kk
      try go_wp2_with fail
      refine hK.out _ _ ?_ (fun hHeld2 => ?_)
      · exact keepP5 bz0 bz0 bz0 bz0 bz0 hHeld kk
      clear hK K hHeld
      have hHeld := hHeld2
      clear hHeld2
      try simp only [Act.put, List.setIfInBounds_toArray, List.set_cons_zero, List.set_cons_succ]
      refine wpAnyH_ready (rs := [6]) (by kernel_rfl) (by simp) ?_
      refine AllReadyH.cons (by simp only [List.getElem?_toArray, List.getElem?_cons_succ, List.getElem?_cons_zero]; rfl) (fun K hK => ?_) (AllReadyH.nil)
      have c := h4.cell (j := 0)
      have fr := h4.fr 0
      have lt := h4.lt
      have hBl := Below.setCell (Below.refl W2.heap.size V3) (p := ⟨z4, 0, none⟩) hzh (.int .i64 (wcC k slot))
      replace h4 := h4.set1 (.int .i64 (wcC k slot))
      simp only [List.getElem?_toArray, List.getElem?_cons_zero] at c
      go_simp
      generalize V3.setCell ⟨z4, 0, none⟩ (.int .i64 (wcC k slot)) = V4 at *
      clear c fr lt
      refine hK.out _ _ ?_ (fun hHeld2 => ?_)
      · exact keepS5 bz0 bz0 bz0 bz0 bz0 hHeld hBl
      clear hK K hHeld
      have hHeld := hHeld2
      clear hHeld2
      try simp only [Act.put, List.setIfInBounds_toArray, List.set_cons_zero, List.set_cons_succ]
      refine wpAnyH_done (by kernel_rfl) ?_ _
      refine NoPanic.normal ?_
      have k := hHeld.2.2.2.2.2
      clear hHeld
      clear bz0 b00 b01 b02 b03 b04
      have H3z := Lib.hid (H3.out.kept k)
      have KB3 := Lib.hid (KB2.out.trans k)
      clear k
      have HPy := Lib.hid (HPz.out.kept KB3.out)
      have p0 := HPy.out.cell (j := 0)
      have p1 := HPy.out.cell (j := 1)
      have lt := HPy.out.lt
      have fr0 := HPy.out.fr 0
      have fr1 := HPy.out.fr 1
      simp only [List.getElem?_toArray, List.getElem?_cons_zero, List.getElem?_cons_succ] at p0 p1
      go_wp2_with fail
      generalize hz5 : V4.heap.size = z5 at *
      have ne3 : z2 ≠ z3 := by have := HPz.out.lt; have := HZ3.out; omega
      have ne4 : z2 ≠ z4 := by have := HPz.out.lt; have := KB2.out.size_le; omega
      have HEnd : (fun e w' => ∃ R f1 c1 f2 c2, Golds k slot v R ∧ e = .returned (.agg #[.func (.func f1) #[] c1, .func (.func f2) #[] c2]) ∧ QEnters f1 ∧ QEnters f2 ∧ IdFn f1 c1 (fun x => .int .i64 (onC k l R x)) w' ∧ ((-1099511627776 ≤ k.nu ∧ k.nu ≤ 1099511627776) → (-1099511627776 ≤ k.de ∧ k.de ≤ 1099511627776) → IdFn f2 c2 (fun x => .bool (sureC k l slot R x)) w') ∧ Kept w w') (Ending.returned (.agg #[.func (.func 55) #[] #[.pointer (some ⟨z0, 0, none⟩), .pointer (some ⟨z1, 0, none⟩), .pointer (some ⟨z3, 0, none⟩)], .func (.func 57) #[] #[.pointer (some ⟨z5, 0, none⟩), .pointer (some ⟨z0, 0, none⟩), .pointer (some ⟨z4, 0, none⟩)]])) (((V4.setCell ⟨z2, 0, none⟩ (.func (.func 55) #[] #[.pointer (some ⟨z0, 0, none⟩), .pointer (some ⟨z1, 0, none⟩), .pointer (some ⟨z3, 0, none⟩)])).setCell ⟨z2, 1, none⟩ (.func (.func 57) #[] #[.pointer (some ⟨z5, 0, none⟩), .pointer (some ⟨z0, 0, none⟩), .pointer (some ⟨z4, 0, none⟩)])).alloc (.cells #[.func (.func 55) #[] #[.pointer (some ⟨z0, 0, none⟩), .pointer (some ⟨z1, 0, none⟩), .pointer (some ⟨z3, 0, none⟩)]] 58)) := by
        refine hold_end kA kc k lA lc l vA vc v A1 c1 R slot z0 z1 z3 z4 z5 hl (Nat.le_trans HGl.out hv) hwl (golds_len HG.out hwv) HG.out ((((HB0.out.kept KB3.out).past HNe.out.1 _).past HNe.out.1 _).alloc _) ?_ ?_ ?_ ?_ ?_ ?_ ?_ ?_
        · exact (((HB1.out.kept KB3.out).past HNe.out.2.1 _).past HNe.out.2.1 _).alloc _
        · exact ((H3z.out.has.past ne3 _).past ne3 _).alloc _
        · exact ((h4.has.past ne4 _).past ne4 _).alloc _
        · exact HasCells.new _ #[.func (.func 55) #[] #[.pointer (some ⟨z0, 0, none⟩), .pointer (some ⟨z1, 0, none⟩), .pointer (some ⟨z3, 0, none⟩)]] _ z5 (by simp [hz5])
        · exact (HA.out.kept KB3.out).past2 HPy.out (ints_nilfunc _) _ _ _
        · exact (HL.out.kept KB3.out).past2 HPy.out (blocks_nilfunc _) _ _ _
        · exact (HC1.out.kept KB3.out).past2 HPy.out (votes_nilfunc _) _ _ _
        · exact (((K0.out.trans KB3.out).setCell (p := ⟨z2, 0, none⟩) (by have := HZ0.out; have := HNe.out.2.2; show w.heap.size ≤ z2; omega) _).setCell (p := ⟨z2, 1, none⟩) (by have := HZ0.out; have := HNe.out.2.2; show w.heap.size ≤ z2; omega) _).alloc _
      have r0 : (((V4.setCell ⟨z2, 0, none⟩ (.func (.func 55) #[] #[.pointer (some ⟨z0, 0, none⟩), .pointer (some ⟨z1, 0, none⟩), .pointer (some ⟨z3, 0, none⟩)])).setCell ⟨z2, 1, none⟩ (.func (.func 57) #[] #[.pointer (some ⟨z5, 0, none⟩), .pointer (some ⟨z0, 0, none⟩), .pointer (some ⟨z4, 0, none⟩)])).alloc (.cells #[.func (.func 55) #[] #[.pointer (some ⟨z0, 0, none⟩), .pointer (some ⟨z1, 0, none⟩), .pointer (some ⟨z3, 0, none⟩)]] 58)).cell? ⟨z2, 0, none⟩ = some (.func (.func 55) #[] #[.pointer (some ⟨z0, 0, none⟩), .pointer (some ⟨z1, 0, none⟩), .pointer (some ⟨z3, 0, none⟩)]) := (((HPy.out.set 0 (.func (.func 55) #[] #[.pointer (some ⟨z0, 0, none⟩), .pointer (some ⟨z1, 0, none⟩), .pointer (some ⟨z3, 0, none⟩)])).set 1 (.func (.func 57) #[] #[.pointer (some ⟨z5, 0, none⟩), .pointer (some ⟨z0, 0, none⟩), .pointer (some ⟨z4, 0, none⟩)])).kept ((Kept.refl _).alloc _)).cell (j := 0)
      have r1 : (((V4.setCell ⟨z2, 0, none⟩ (.func (.func 55) #[] #[.pointer (some ⟨z0, 0, none⟩), .pointer (some ⟨z1, 0, none⟩), .pointer (some ⟨z3, 0, none⟩)])).setCell ⟨z2, 1, none⟩ (.func (.func 57) #[] #[.pointer (some ⟨z5, 0, none⟩), .pointer (some ⟨z0, 0, none⟩), .pointer (some ⟨z4, 0, none⟩)])).alloc (.cells #[.func (.func 55) #[] #[.pointer (some ⟨z0, 0, none⟩), .pointer (some ⟨z1, 0, none⟩), .pointer (some ⟨z3, 0, none⟩)]] 58)).cell? ⟨z2, 1, none⟩ = some (.func (.func 57) #[] #[.pointer (some ⟨z5, 0, none⟩), .pointer (some ⟨z0, 0, none⟩), .pointer (some ⟨z4, 0, none⟩)]) := (((HPy.out.set 0 (.func (.func 55) #[] #[.pointer (some ⟨z0, 0, none⟩), .pointer (some ⟨z1, 0, none⟩), .pointer (some ⟨z3, 0, none⟩)])).set 1 (.func (.func 57) #[] #[.pointer (some ⟨z5, 0, none⟩), .pointer (some ⟨z0, 0, none⟩), .pointer (some ⟨z4, 0, none⟩)])).kept ((Kept.refl _).alloc _)).cell (j := 1)
      generalize (((V4.setCell ⟨z2, 0, none⟩ (.func (.func 55) #[] #[.pointer (some ⟨z0, 0, none⟩), .pointer (some ⟨z1, 0, none⟩), .pointer (some ⟨z3, 0, none⟩)])).setCell ⟨z2, 1, none⟩ (.func (.func 57) #[] #[.pointer (some ⟨z5, 0, none⟩), .pointer (some ⟨z0, 0, none⟩), .pointer (some ⟨z4, 0, none⟩)])).alloc (.cells #[.func (.func 55) #[] #[.pointer (some ⟨z0, 0, none⟩), .pointer (some ⟨z1, 0, none⟩), .pointer (some ⟨z3, 0, none⟩)]] 58)) = WE at HEnd r0 r1 ⊢
      exact bodyPost_ret (v := .agg #[.func (.func 55) #[] #[.pointer (some ⟨z0, 0, none⟩), .pointer (some ⟨z1, 0, none⟩), .pointer (some ⟨z3, 0, none⟩)], .func (.func 57) #[] #[.pointer (some ⟨z5, 0, none⟩), .pointer (some ⟨z0, 0, none⟩), .pointer (some ⟨z4, 0, none⟩)]]) (by simp [results, Tryz.results31, go_sem, r0, r1]) rfl HEnd
  · have h4 := AtB.new V0 #[.int .i64 0] 3
    have kk := (Kept.refl V0).alloc (.cells #[.int .i64 0] 3)
    have hzh := (hHeld.2.2.2.2.2).size_le
    go_simp
    generalize V0.alloc (.cells #[.int .i64 0] 3) = V1 at *
    obtain ⟨z4, hz4⟩ : ∃ z4, z4 = V0.heap.size := ⟨_, rfl⟩
    rw [← hz4] at h4 hzh ⊢
    clear hz4
    refine hK.out _ _ ?_ (fun hHeld2 => ?_)
    · exact keepP5 bz0 bz0 bz0 bz0 bz0 hHeld kk
    clear hK K hHeld
    have hHeld := hHeld2
    clear hHeld2
    try simp only [Act.put, List.setIfInBounds_toArray, List.set_cons_zero, List.set_cons_succ]
    refine wpAnyH_ready (rs := [3]) (by kernel_rfl) (by simp) ?_
    refine AllReadyH.cons (by simp only [List.getElem?_toArray, List.getElem?_cons_succ, List.getElem?_cons_zero]; rfl) (fun K hK => ?_) (AllReadyH.nil)
    go_simp
    go_at_call 21; with_reducible refine (HCo.out _ (hHeld.2.2.2.2.2)).mono ?_
    rintro e V2 ⟨A2, c2, rfl, hC, kk⟩
    replace h4 := h4.kept kk
    try go_wp2_with fail
    refine hK.out _ _ ?_ (fun hHeld2 => ?_)
    · exact keepP5 bz0 bz0 bz0 bz0 bz0 hHeld kk
    clear hK K hHeld
    have hHeld := hHeld2
    clear hHeld2
    try simp only [Act.put, List.setIfInBounds_toArray, List.set_cons_zero, List.set_cons_succ]
    refine wpAnyH_ready (rs := [4]) (by kernel_rfl) (by simp) ?_
    refine AllReadyH.cons (by simp only [List.getElem?_toArray, List.getElem?_cons_succ, List.getElem?_cons_zero]; rfl) (fun K hK => ?_) (AllReadyH.nil)
    go_simp
    go_at_call 22; with_reducible refine (HWe.out _ A2 c2 (hHeld.2.2.2.2.2) hC).mono ?_
    rintro e V3 ⟨rfl, kk⟩
    rw [show weightC k (commC k slot) = wcC k slot from rfl]
    replace hC := hC.kept kk
    replace h4 := h4.kept kk
    try go_wp2_with fail
    refine hK.out _ _ ?_ (fun hHeld2 => ?_)
    · exact keepP5 bz0 bz0 bz0 bz0 bz0 hHeld kk
    clear hK K hHeld
    have hHeld := hHeld2
    clear hHeld2
    try simp only [Act.put, List.setIfInBounds_toArray, List.set_cons_zero, List.set_cons_succ]
    refine wpAnyH_ready (rs := [6]) (by kernel_rfl) (by simp) ?_
    refine AllReadyH.cons (by simp only [List.getElem?_toArray, List.getElem?_cons_succ, List.getElem?_cons_zero]; rfl) (fun K hK => ?_) (AllReadyH.nil)
    have c := h4.cell (j := 0)
    have fr := h4.fr 0
    have lt := h4.lt
    have hBl := Below.setCell (Below.refl W2.heap.size V3) (p := ⟨z4, 0, none⟩) hzh (.int .i64 (wcC k slot))
    replace h4 := h4.set1 (.int .i64 (wcC k slot))
    simp only [List.getElem?_toArray, List.getElem?_cons_zero] at c
    go_simp
    generalize V3.setCell ⟨z4, 0, none⟩ (.int .i64 (wcC k slot)) = V4 at *
    clear c fr lt
    refine hK.out _ _ ?_ (fun hHeld2 => ?_)
    · exact keepS5 bz0 bz0 bz0 bz0 bz0 hHeld hBl
    clear hK K hHeld
    have hHeld := hHeld2
    clear hHeld2
    try simp only [Act.put, List.setIfInBounds_toArray, List.set_cons_zero, List.set_cons_succ]
    refine wpAnyH_done (by kernel_rfl) ?_ _
    refine NoPanic.normal ?_
    have k := hHeld.2.2.2.2.2
    clear hHeld
    clear bz0 b00 b01 b02 b03 b04
    have H3z := Lib.hid (H3.out.kept k)
    have KB3 := Lib.hid (KB2.out.trans k)
    clear k
    have HPy := Lib.hid (HPz.out.kept KB3.out)
    have p0 := HPy.out.cell (j := 0)
    have p1 := HPy.out.cell (j := 1)
    have lt := HPy.out.lt
    have fr0 := HPy.out.fr 0
    have fr1 := HPy.out.fr 1
    simp only [List.getElem?_toArray, List.getElem?_cons_zero, List.getElem?_cons_succ] at p0 p1
    go_wp2_with fail
    generalize hz5 : V4.heap.size = z5 at *
    have ne3 : z2 ≠ z3 := by have := HPz.out.lt; have := HZ3.out; omega
    have ne4 : z2 ≠ z4 := by have := HPz.out.lt; have := KB2.out.size_le; omega
    have HEnd : (fun e w' => ∃ R f1 c1 f2 c2, Golds k slot v R ∧ e = .returned (.agg #[.func (.func f1) #[] c1, .func (.func f2) #[] c2]) ∧ QEnters f1 ∧ QEnters f2 ∧ IdFn f1 c1 (fun x => .int .i64 (onC k l R x)) w' ∧ ((-1099511627776 ≤ k.nu ∧ k.nu ≤ 1099511627776) → (-1099511627776 ≤ k.de ∧ k.de ≤ 1099511627776) → IdFn f2 c2 (fun x => .bool (sureC k l slot R x)) w') ∧ Kept w w') (Ending.returned (.agg #[.func (.func 55) #[] #[.pointer (some ⟨z0, 0, none⟩), .pointer (some ⟨z1, 0, none⟩), .pointer (some ⟨z3, 0, none⟩)], .func (.func 57) #[] #[.pointer (some ⟨z5, 0, none⟩), .pointer (some ⟨z0, 0, none⟩), .pointer (some ⟨z4, 0, none⟩)]])) (((V4.setCell ⟨z2, 0, none⟩ (.func (.func 55) #[] #[.pointer (some ⟨z0, 0, none⟩), .pointer (some ⟨z1, 0, none⟩), .pointer (some ⟨z3, 0, none⟩)])).setCell ⟨z2, 1, none⟩ (.func (.func 57) #[] #[.pointer (some ⟨z5, 0, none⟩), .pointer (some ⟨z0, 0, none⟩), .pointer (some ⟨z4, 0, none⟩)])).alloc (.cells #[.func (.func 55) #[] #[.pointer (some ⟨z0, 0, none⟩), .pointer (some ⟨z1, 0, none⟩), .pointer (some ⟨z3, 0, none⟩)]] 58)) := by
      refine hold_end kA kc k lA lc l vA vc v A1 c1 R slot z0 z1 z3 z4 z5 hl (Nat.le_trans HGl.out hv) hwl (golds_len HG.out hwv) HG.out ((((HB0.out.kept KB3.out).past HNe.out.1 _).past HNe.out.1 _).alloc _) ?_ ?_ ?_ ?_ ?_ ?_ ?_ ?_
      · exact (((HB1.out.kept KB3.out).past HNe.out.2.1 _).past HNe.out.2.1 _).alloc _
      · exact ((H3z.out.has.past ne3 _).past ne3 _).alloc _
      · exact ((h4.has.past ne4 _).past ne4 _).alloc _
      · exact HasCells.new _ #[.func (.func 55) #[] #[.pointer (some ⟨z0, 0, none⟩), .pointer (some ⟨z1, 0, none⟩), .pointer (some ⟨z3, 0, none⟩)]] _ z5 (by simp [hz5])
      · exact (HA.out.kept KB3.out).past2 HPy.out (ints_nilfunc _) _ _ _
      · exact (HL.out.kept KB3.out).past2 HPy.out (blocks_nilfunc _) _ _ _
      · exact (HC1.out.kept KB3.out).past2 HPy.out (votes_nilfunc _) _ _ _
      · exact (((K0.out.trans KB3.out).setCell (p := ⟨z2, 0, none⟩) (by have := HZ0.out; have := HNe.out.2.2; show w.heap.size ≤ z2; omega) _).setCell (p := ⟨z2, 1, none⟩) (by have := HZ0.out; have := HNe.out.2.2; show w.heap.size ≤ z2; omega) _).alloc _
    have r0 : (((V4.setCell ⟨z2, 0, none⟩ (.func (.func 55) #[] #[.pointer (some ⟨z0, 0, none⟩), .pointer (some ⟨z1, 0, none⟩), .pointer (some ⟨z3, 0, none⟩)])).setCell ⟨z2, 1, none⟩ (.func (.func 57) #[] #[.pointer (some ⟨z5, 0, none⟩), .pointer (some ⟨z0, 0, none⟩), .pointer (some ⟨z4, 0, none⟩)])).alloc (.cells #[.func (.func 55) #[] #[.pointer (some ⟨z0, 0, none⟩), .pointer (some ⟨z1, 0, none⟩), .pointer (some ⟨z3, 0, none⟩)]] 58)).cell? ⟨z2, 0, none⟩ = some (.func (.func 55) #[] #[.pointer (some ⟨z0, 0, none⟩), .pointer (some ⟨z1, 0, none⟩), .pointer (some ⟨z3, 0, none⟩)]) := (((HPy.out.set 0 (.func (.func 55) #[] #[.pointer (some ⟨z0, 0, none⟩), .pointer (some ⟨z1, 0, none⟩), .pointer (some ⟨z3, 0, none⟩)])).set 1 (.func (.func 57) #[] #[.pointer (some ⟨z5, 0, none⟩), .pointer (some ⟨z0, 0, none⟩), .pointer (some ⟨z4, 0, none⟩)])).kept ((Kept.refl _).alloc _)).cell (j := 0)
    have r1 : (((V4.setCell ⟨z2, 0, none⟩ (.func (.func 55) #[] #[.pointer (some ⟨z0, 0, none⟩), .pointer (some ⟨z1, 0, none⟩), .pointer (some ⟨z3, 0, none⟩)])).setCell ⟨z2, 1, none⟩ (.func (.func 57) #[] #[.pointer (some ⟨z5, 0, none⟩), .pointer (some ⟨z0, 0, none⟩), .pointer (some ⟨z4, 0, none⟩)])).alloc (.cells #[.func (.func 55) #[] #[.pointer (some ⟨z0, 0, none⟩), .pointer (some ⟨z1, 0, none⟩), .pointer (some ⟨z3, 0, none⟩)]] 58)).cell? ⟨z2, 1, none⟩ = some (.func (.func 57) #[] #[.pointer (some ⟨z5, 0, none⟩), .pointer (some ⟨z0, 0, none⟩), .pointer (some ⟨z4, 0, none⟩)]) := (((HPy.out.set 0 (.func (.func 55) #[] #[.pointer (some ⟨z0, 0, none⟩), .pointer (some ⟨z1, 0, none⟩), .pointer (some ⟨z3, 0, none⟩)])).set 1 (.func (.func 57) #[] #[.pointer (some ⟨z5, 0, none⟩), .pointer (some ⟨z0, 0, none⟩), .pointer (some ⟨z4, 0, none⟩)])).kept ((Kept.refl _).alloc _)).cell (j := 1)
    generalize (((V4.setCell ⟨z2, 0, none⟩ (.func (.func 55) #[] #[.pointer (some ⟨z0, 0, none⟩), .pointer (some ⟨z1, 0, none⟩), .pointer (some ⟨z3, 0, none⟩)])).setCell ⟨z2, 1, none⟩ (.func (.func 57) #[] #[.pointer (some ⟨z5, 0, none⟩), .pointer (some ⟨z0, 0, none⟩), .pointer (some ⟨z4, 0, none⟩)])).alloc (.cells #[.func (.func 55) #[] #[.pointer (some ⟨z0, 0, none⟩), .pointer (some ⟨z1, 0, none⟩), .pointer (some ⟨z3, 0, none⟩)]] 58)) = WE at HEnd r0 r1 ⊢
    exact bodyPost_ret (v := .agg #[.func (.func 55) #[] #[.pointer (some ⟨z0, 0, none⟩), .pointer (some ⟨z1, 0, none⟩), .pointer (some ⟨z3, 0, none⟩)], .func (.func 57) #[] #[.pointer (some ⟨z5, 0, none⟩), .pointer (some ⟨z0, 0, none⟩), .pointer (some ⟨z4, 0, none⟩)]]) (by simp [results, Tryz.results31, go_sem, r0, r1]) rfl HEnd
end

section
set_option linter.unusedSimpArgs false
set_option linter.unusedVariables false
open Go.ChangeShapes Go.WideShapes Go.ChangeAt Go.RowKit

/-- What holds at each jump: between which two bounds the first one is. -/
def FirstJ (f1 : Nat) (c1 : Array Value) (f2 : Nat) (c2 : Array Value) (p : Id2 → Bool) (c : List Id2) (A : Option Addr) (cc : Nat) (W : World) (z : Nat) (a' : Act) (w' : World) : Prop :=
  ∃ (i j : Nat) (u3 u7 u8 u9 u10 u11 u12 u13 u14 u15 u16 u17 u18 u19 u20 u21 u22 u23 u24 u25 u26 u27 u28 u29 : Value), a' = { tmps := #[.agg #[.func (.func f1) #[] c1, .func (.func f2) #[] c2], .slice A c.length cc, .pointer (some ⟨z, 0, none⟩), u3, .int .i64 0, .int .i64 (i : Int), .int .i64 (j : Int), u7, u8, u9, u10, u11, u12, u13, u14, u15, u16, u17, u18, u19, u20, u21, u22, u23, u24, u25, u26, u27, u28, u29], defers := [] } ∧ Betw p c i j ∧ Kept W w'
def gapOf (a : Act) : Nat := (intOf (a.tmps.getD 6 undef)).toNat - (intOf (a.tmps.getD 5 undef)).toNat
theorem wp_scope_from {P : Program} {a : Act} {w : World} {Q : Exit → Act → World → Prop} {c X : Code} (l : Nat) (J : Act → World → Prop) (μ : Act → World → Nat) (hf : findLabel c l = some (Code.skip.seq X))
    (pass : ∀ a w, J a w → X.wp P (Exit.jump l (fun a' w' => J a' w' ∧ μ a' w' < μ a w) Q) a w)
    (first : (∀ a w, J a w → X.wp P (Exit.jump l J Q) a w) → c.wp P (Exit.jump l J Q) a w) : (Code.scope c).wp P Q a w := by
  refine wp_scope_jumps l J μ hf (first fun a w h => wp_mono (pass a w h) ?_) (fun a w h => wp_seq (wp_skip (pass a w h)))
  intro e a' w' hq
  cases e with
  | goto l' => exact ⟨hq.1, hq.2.1⟩
  | normal => exact hq
  | exit id => exact hq
  | ret => exact hq
  | panic ch => exact hq
  | outgrown => exact hq
set_option maxRecDepth 100000 in
set_option maxHeartbeats 6400000 in
theorem first_any (f1 : Nat) (c1 : Array Value) (f2 : Nat) (c2 : Array Value) (p : Id2 → Bool) (A : Option Addr) (cc : Nat) (c : List Id2) (w : World) (hn : c.length ≤ 1000000) (hs : Steps p c) (hw : ∀ y ∈ c, WfI y) (hC : CellsAt w w.heap.size A (idsCells c)) (eg : QEnters f2) (hF : IdFn f2 c2 (fun x => .bool (p x)) w) :
    Calls Tryz.prog 32 #[.agg #[.func (.func f1) #[] c1, .func (.func f2) #[] c2], .slice A c.length cc] w fun e w' => ∃ i, FirstOf p c i ∧ e = .returned (.int .i64 (i : Nat)) ∧ Kept w w' := by
  have HF := Lib.hid (hF.kept ((Kept.refl w).alloc (.cells #[.func (.func f1) #[] c1, .func (.func f2) #[] c2] 61)))
  have HS := Lib.hid hs
  have HW := Lib.hid hw
  have HC := Lib.hid (hC.kept ((Kept.refl w).alloc (.cells #[.func (.func f1) #[] c1, .func (.func f2) #[] c2] 61)))
  unfold QEnters at eg
  clear hF hs hw hC
  have K0 := Lib.hid ((Kept.refl w).alloc (.cells #[.func (.func f1) #[] c1, .func (.func f2) #[] c2] 61))
  have HB := Lib.hid (HasCells.new w #[.func (.func f1) #[] c1, .func (.func f2) #[] c2] 61 w.heap.size rfl)
  go_enter Tryz.func32, Tryz.ntmps32
  go_wp2_with fail
  refine wp_scope_from 0 (FirstJ f1 c1 f2 c2 p c A cc (w.alloc (.cells #[.func (.func f1) #[] c1, .func (.func f2) #[] c2] 61)) w.heap.size) (fun a _ => gapOf a) rfl ?_ ?_
  · rintro a' wr ⟨i, j, u3, u7, u8, u9, u10, u11, u12, u13, u14, u15, u16, u17, u18, u19, u20, u21, u22, u23, u24, u25, u26, u27, u28, u29, rfl, hBt, hK⟩
    have HBt := Lib.hid hBt
    have HK := Lib.hid hK
    clear hBt hK
    by_cases heq : i = j
    · have HFi := Lib.hid (HBt.out.first heq)
      have he : ((i : Int) == (j : Int)) = true := by rw [beq_iff_eq]; omega
      clear heq
      go_wp2_with fail
      simp only [Exit.jump]
      go_ret
      exact ⟨i, HFi.out, by first | rfl | (simp; done), K0.out.trans HK.out⟩
    · have he : ((i : Int) == (j : Int)) = false := by rw [beq_eq_false_iff_ne]; omega
      have hij : i < j := by have := HBt.out.ab; omega
      have hjl := HBt.out.bl
      obtain ⟨d, hd⟩ : ∃ d, d = j - i := ⟨_, rfl⟩
      obtain ⟨e2, he2⟩ : ∃ e2, e2 = d / 2 := ⟨_, rfl⟩
      obtain ⟨m, hm⟩ : ∃ m, m = i + e2 := ⟨_, rfl⟩
      have q1 : IntKind.i64.wrap ((j : Int) - (i : Int)) = (d : Int) := by rw [IntKind.wrap_i64]; omega
      have q2 : ((d : Int)).tdiv 2 = (e2 : Int) := by rw [Int.tdiv_eq_ediv_of_nonneg (by omega)]; omega
      have q3 : IntKind.i64.wrap (e2 : Int) = (e2 : Int) := by rw [IntKind.wrap_i64]; omega
      have q4 : IntKind.i64.wrap ((i : Int) + (e2 : Int)) = (m : Int) := by rw [IntKind.wrap_i64]; omega
      have q5 : IntKind.i64.wrap ((m : Int) + 1) = ((m + 1 : Nat) : Int) := by rw [IntKind.wrap_i64]; omega
      have hml : m < c.length := by omega
      have hmi : i ≤ m := by omega
      have hmj : m < j := by omega
      have HM := Lib.hid (⟨hmi, hmj⟩ : i ≤ m ∧ m < j)
      have HHit := Lib.hid (fun h => HBt.out.hit HS.out hmi hmj hml h)
      have HMis := Lib.hid (fun h => HBt.out.miss HS.out hmi hmj hml h)
      have HX := Lib.hid (HW.out _ (List.getElem_mem hml))
      obtain ⟨zq, oq, rfl, hbq, x0, x1⟩ := id_at (HC.out.kept HK.out) hml
      obtain ⟨bb0, bb1⟩ := (HB.out.kept HK.out).two
      have bbz := (HB.out.kept HK.out).1
      clear hd he2 hm hij hmi hmj
      generalize c[m] = y at *
      have HFx := Lib.hid (show ∀ w', Kept wr w' → Calls Tryz.prog f2 (#[.agg #[.int .u64 y.1, .int .u64 y.2]] ++ c2) w' fun e w'' => e = .returned (.bool (p y)) ∧ Kept w' w'' from fun w' kk => HF.out w' (HK.out.trans kk) y HX.out)
      generalize hpy : p y = v at *
      clear hpy
      go_wp2_with fail
      refine wp_region_noPanic ?_
      refine wp_region_held_drew (S := (fun w' => w'.cell? ⟨w.heap.size, 0, none⟩ = some (.func (.func f1) #[] c1) ∧ w'.cell? ⟨w.heap.size, 1, none⟩ = some (.func (.func f2) #[] c2) ∧ w'.cell? ⟨zq, oq + m * 2, none⟩ = some (.int .u64 y.1) ∧ w'.cell? ⟨zq, oq + m * 2 + 1, none⟩ = some (.int .u64 y.2) ∧ Kept wr w')) (by kernel_rfl) ?_ (fun hHeld => ?_)
      · exact ⟨bb0, bb1, x0, x1, (Kept.refl _).drew⟩
      refine wpAnyH_take (i := 0) (v := ?_) (by simp only [List.getElem?_toArray, List.getElem?_cons_succ, List.getElem?_cons_zero]; rfl) (by kernel_rfl) (by kernel_rfl) (by kernel_rfl) (fun _ _ _ h => h) (Or.inl ⟨by rfl, ?_⟩) (by assumption) ?_
      rotate_left
      · intro w hSw
        (try dsimp only at hSw)
        go_simp
        (try with_reducible rfl)
      simp only [Act.put, List.setIfInBounds_toArray, List.set_cons_zero, List.set_cons_succ]
      refine wpAnyH_take (i := 1) (v := ?_) (by simp only [List.getElem?_toArray, List.getElem?_cons_succ, List.getElem?_cons_zero]; rfl) (by kernel_rfl) (by kernel_rfl) (by kernel_rfl) (fun _ _ _ h => h) (Or.inl ⟨by rfl, ?_⟩) (by assumption) ?_
      rotate_left
      · intro w hSw
        (try dsimp only at hSw)
        go_simp
        (try with_reducible rfl)
      simp only [Act.put, List.setIfInBounds_toArray, List.set_cons_zero, List.set_cons_succ]
      refine wpAnyH_take (i := 2) (v := ?_) (by simp only [List.getElem?_toArray, List.getElem?_cons_succ, List.getElem?_cons_zero]; rfl) (by kernel_rfl) (by kernel_rfl) (by kernel_rfl) (fun _ _ _ h => h) (Or.inl ⟨by rfl, ?_⟩) (by assumption) ?_
      rotate_left
      · intro w hSw
        (try dsimp only at hSw)
        go_simp
        (try with_reducible rfl)
      simp only [Act.put, List.setIfInBounds_toArray, List.set_cons_zero, List.set_cons_succ]
      refine wpAnyH_take (i := 3) (v := ?_) (by simp only [List.getElem?_toArray, List.getElem?_cons_succ, List.getElem?_cons_zero]; rfl) (by kernel_rfl) (by kernel_rfl) (by kernel_rfl) (fun _ _ _ h => h) (Or.inl ⟨by rfl, ?_⟩) (by assumption) ?_
      rotate_left
      · intro w hSw
        (try dsimp only at hSw)
        go_simp
        (try with_reducible rfl)
      simp only [Act.put, List.setIfInBounds_toArray, List.set_cons_zero, List.set_cons_succ]
      refine wpAnyH_take (i := 4) (v := ?_) (by simp only [List.getElem?_toArray, List.getElem?_cons_succ, List.getElem?_cons_zero]; rfl) (by kernel_rfl) (by kernel_rfl) (by kernel_rfl) (fun _ _ _ h => h) (Or.inl ⟨by rfl, ?_⟩) (by assumption) ?_
      rotate_left
      · intro w hSw
        (try dsimp only at hSw)
        go_simp
        (try with_reducible rfl)
      simp only [Act.put, List.setIfInBounds_toArray, List.set_cons_zero, List.set_cons_succ]
      refine wpAnyH_take (i := 5) (v := ?_) (by simp only [List.getElem?_toArray, List.getElem?_cons_succ, List.getElem?_cons_zero]; rfl) (by kernel_rfl) (by kernel_rfl) (by kernel_rfl) (fun _ _ _ h => h) (Or.inl ⟨by rfl, ?_⟩) (by assumption) ?_
      rotate_left
      · intro w hSw
        (try dsimp only at hSw)
        go_simp
        (try with_reducible rfl)
      simp only [Act.put, List.setIfInBounds_toArray, List.set_cons_zero, List.set_cons_succ]
      refine wpAnyH_ready (rs := [6]) (by kernel_rfl) (by simp) ?_
      refine AllReadyH.cons (by simp only [List.getElem?_toArray, List.getElem?_cons_succ, List.getElem?_cons_zero]; rfl) (fun K hK => ?_) AllReadyH.nil
      go_simp
      refine (HFx.out _ (hHeld.2.2.2.2)).mono ?_
      rintro e w' ⟨rfl, kk⟩
      try go_wp2_with fail
      refine hK.out _ _ ?_ (fun hHeld2 => ?_)
      · exact keepP4 bbz bbz hbq hbq hHeld kk
      clear hK K hHeld
      have hHeld := hHeld2
      clear hHeld2
      try simp only [Act.put, List.setIfInBounds_toArray, List.set_cons_zero, List.set_cons_succ]
      refine wpAnyH_done (by kernel_rfl) ?_ _
      refine NoPanic.normal ?_
      have HK2 := Lib.hid (HK.out.trans hHeld.2.2.2.2)
      clear hHeld bb0 bb1 x0 x1 hbq bbz HFx
      cases v with
      | true =>
        have HJ := Lib.hid (HHit.out rfl)
        go_wp2_with fail
        go_step3
        refine ⟨rfl, ⟨i, m, _, _, _, _, _, _, _, _, _, _, _, _, _, _, _, _, _, _, _, _, _, _, _, _, rfl, HJ.out, HK2.out⟩, ?_⟩
        show (m : Int).toNat - (i : Int).toNat < (j : Int).toNat - (i : Int).toNat
        have := HM.out
        omega
      | false =>
        have HJ := Lib.hid (HMis.out rfl)
        go_wp2_with fail
        go_step3
        refine ⟨rfl, ⟨m + 1, j, _, _, _, _, _, _, _, _, _, _, _, _, _, _, _, _, _, _, _, _, _, _, _, _, rfl, HJ.out, HK2.out⟩, ?_⟩
        show (j : Int).toNat - ((m + 1 : Nat) : Int).toNat < (j : Int).toNat - (i : Int).toNat
        have := HM.out
        omega
  · intro HStart
    go_upto_region 2 with fail
    refine wp_label ?_
    refine (by assumption : ∀ a w, _ → _) _ _ (HStart _ _ ⟨0, c.length, _, _, _, _, _, _, _, _, _, _, _, _, _, _, _, _, _, _, _, _, _, _, _, _, rfl, Betw.start p c, Kept.refl _⟩)
end

section
set_option linter.unusedSimpArgs false
set_option linter.unusedVariables false
open Go.ChangeShapes Go.WideShapes Go.ChangeAt Go.RowKit

theorem field_poll1 (f1 f2 : Nat) (c1 c2 : Array Value) (w : World) : (Instr.field 61 (.agg #[.func (.func f1) #[] c1, .func (.func f2) #[] c2]) 0).run Tryz.prog w = .ok (.func (.func f1) #[] c1) w := by kernel_rfl
theorem field_poll2 (f1 f2 : Nat) (c1 c2 : Array Value) (w : World) : (Instr.field 61 (.agg #[.func (.func f1) #[] c1, .func (.func f2) #[] c2]) 1).run Tryz.prog w = .ok (.func (.func f2) #[] c2) w := by kernel_rfl
theorem CellsAt.front {w : World} {B : Nat} {A : Option Addr} {xs ys : List Value} (h : CellsAt w B A (xs ++ ys)) : CellsAt w B A xs := fun j u hu => h j u (by
  rw [List.getElem?_append_left (List.getElem?_eq_some_iff.1 hu).1]
  exact hu)
theorem ids_front {w : World} {B : Nat} {A : Option Addr} {c : List Id2} (h : CellsAt w B A (idsCells c)) : CellsAt w B A (idsCells c.dropLast) := by
  rcases List.eq_nil_or_concat c with e | ⟨r, y, e⟩
  · subst e; exact h
  · subst e
    rw [List.concat_eq_append, ← idsCells_append] at h
    rw [List.concat_eq_append, List.dropLast_concat]
    exact h.front
set_option maxHeartbeats 400000 in
theorem above_chain (A : Option Addr) (n cc : Nat) (hn : n ≤ 1000000) (hc : n ≤ cc) (w : World) :
    Calls Tryz.prog 30 #[.slice A n cc] w fun e w' => e = .returned (.slice A (n - 1) cc) ∧ Kept w w' := by
  have hup := fun k (hk : k ≤ cc) w => upto_ids A n cc k hk w
  cases n with
  | zero =>
    have q1 : IntKind.i64.wrap (0 - 1) = -1 := by decide
    have h0 : ∀ w, (Instr.slice 49 (.slice A 0 cc) none (some (.int .i64 0)) none).run Tryz.prog w = .ok (.slice A 0 cc) w := fun w => hup 0 (by omega) w
    clear hup
    go_enter Tryz.func30, Tryz.ntmps30
    go_wp2_with fail
    go_ret
    exact ⟨by first | rfl | (simp; done), Kept.refl _⟩
  | succ m =>
    have q1 : IntKind.i64.wrap (((m + 1 : Nat) : Int) - 1) = (m : Int) := by rw [IntKind.wrap_i64]; omega
    have q2 : IntKind.i64.wrap ((m : Int) + 1 - 1) = (m : Int) := by rw [IntKind.wrap_i64]; omega
    have q3 : (if (0 : Int) > (m : Int) then (0 : Int) else (m : Int)) = (m : Int) := if_neg (by omega)
    have q4 : ¬ ((m : Int) < 0) := by omega
    have h0 := fun w => hup m (by omega) w
    clear hup
    go_enter Tryz.func30, Tryz.ntmps30
    go_wp2_with fail
    go_ret
    exact ⟨by first | rfl | (simp; done), Kept.refl _⟩
attribute [local go_sem high] field_poll1 field_poll2 in
set_option maxRecDepth 100000 in
set_option maxHeartbeats 6400000 in
theorem quickFor_any (kA : Option Addr) (kc : Nat) (k : Cf) (lA : Option Addr) (lc : Nat) (l : List Bk) (vA : Option Addr) (vc : Nat) (v : List Vt) (slot : Int) (x : Id2) (w : World)
    (hk : k.ws.length ≤ 1000) (hsd : k.seed < 18446744073709551616) (hl : l.length ≤ 10000) (hv : v.length ≤ 10000) (hwl : WfL l) (hwv : WfVs v) (hwx : WfI x) (hA : CellsAt w w.heap.size kA (intCells k.ws)) (hL : CellsAt w w.heap.size lA (blockCells l)) (hV : CellsAt w w.heap.size vA (votesCells v)) :
    Calls Tryz.prog 15 #[.agg #[.slice kA k.ws.length kc, .int .u64 k.seed, .int .i64 k.ep, .int .i64 k.nu, .int .i64 k.de], .agg #[.slice lA l.length lc, .slice vA v.length vc], .int .i64 slot, .agg #[.int .u64 x.1, .int .u64 x.2]] w fun e w' => ∃ R, Golds k slot v R ∧ e = .returned (.int .i64 (onC k l R x)) ∧ Kept w w' := by
  go_enter Tryz.func15, Tryz.ntmps15
  go_wp2_with fail
  have K0 := Lib.hid ((((Kept.refl w).alloc (.cells #[.slice kA k.ws.length kc, .int .u64 k.seed, .int .i64 k.ep, .int .i64 k.nu, .int .i64 k.de] 25)).alloc (.cells #[.slice lA l.length lc, .slice vA v.length vc] 29)).alloc (.cells #[.int .u64 x.1, .int .u64 x.2] 31))
  have HA := Lib.hid (hA.kept K0.out)
  clear hA
  have HL := Lib.hid (hL.kept K0.out)
  clear hL
  have HV := Lib.hid (hV.kept K0.out)
  clear hV
  have HB0 := Lib.hid (((HasCells.new w #[.slice kA k.ws.length kc, .int .u64 k.seed, .int .i64 k.ep, .int .i64 k.nu, .int .i64 k.de] 25 (w.heap.size) (by simp)).alloc (.cells #[.slice lA l.length lc, .slice vA v.length vc] 29)).alloc (.cells #[.int .u64 x.1, .int .u64 x.2] 31))
  have HB1 := Lib.hid ((HasCells.new (w.alloc (.cells #[.slice kA k.ws.length kc, .int .u64 k.seed, .int .i64 k.ep, .int .i64 k.nu, .int .i64 k.de] 25)) #[.slice lA l.length lc, .slice vA v.length vc] 29 (w.heap.size + 1) (by simp)).alloc (.cells #[.int .u64 x.1, .int .u64 x.2] 31))
  have HB2 := Lib.hid (HasCells.new ((w.alloc (.cells #[.slice kA k.ws.length kc, .int .u64 k.seed, .int .i64 k.ep, .int .i64 k.nu, .int .i64 k.de] 25)).alloc (.cells #[.slice lA l.length lc, .slice vA v.length vc] 29)) #[.int .u64 x.1, .int .u64 x.2] 31 (w.heap.size + 1 + 1) (by simp))
  generalize (((w.alloc (.cells #[.slice kA k.ws.length kc, .int .u64 k.seed, .int .i64 k.ep, .int .i64 k.nu, .int .i64 k.de] 25)).alloc (.cells #[.slice lA l.length lc, .slice vA v.length vc] 29)).alloc (.cells #[.int .u64 x.1, .int .u64 x.2] 31)) = W0 at *
  generalize w.heap.size + 1 + 1 = z2 at *
  generalize w.heap.size + 1 = z1 at *
  generalize w.heap.size = z0 at *
  have KB0 := Lib.hid (Kept.refl W0)
  obtain ⟨b00, b01, b02, b03, b04⟩ := (HB0.out.kept KB0.out).five
  have bz0 := (HB0.out.kept KB0.out).1
  obtain ⟨b10, b11⟩ := (HB1.out.kept KB0.out).two
  have bz1 := (HB1.out.kept KB0.out).1
  obtain ⟨b20, b21⟩ := (HB2.out.kept KB0.out).two
  have bz2 := (HB2.out.kept KB0.out).1
  go_wp2_with fail
  have HHo := Lib.hid (fun w' (kk : Kept W0 w') => hold_any kA kc k lA lc l vA vc v slot w' hk hsd hl hv hwl hwv (HA.out.kept kk) (HL.out.kept kk) (HV.out.kept kk))
  have HX := Lib.hid hwx
  clear hwx
  refine wp_region_noPanic ?_
  refine wp_region_held_drew (S := (fun w' => w'.cell? ⟨z0, 0, none⟩ = some (.slice kA k.ws.length kc) ∧ w'.cell? ⟨z0, 1, none⟩ = some (.int .u64 k.seed) ∧ w'.cell? ⟨z0, 2, none⟩ = some (.int .i64 k.ep) ∧ w'.cell? ⟨z0, 3, none⟩ = some (.int .i64 k.nu) ∧ w'.cell? ⟨z0, 4, none⟩ = some (.int .i64 k.de) ∧ w'.cell? ⟨z1, 0, none⟩ = some (.slice lA l.length lc) ∧ w'.cell? ⟨z1, 1, none⟩ = some (.slice vA v.length vc) ∧ w'.cell? ⟨z2, 0, none⟩ = some (.int .u64 x.1) ∧ w'.cell? ⟨z2, 1, none⟩ = some (.int .u64 x.2) ∧ Kept W0 w')) (by kernel_rfl) ?_ (fun hHeld => ?_)
  · exact ⟨b00, b01, b02, b03, b04, b10, b11, b20, b21, (Kept.refl _).drew⟩
  refine wpAnyH_take (i := 0) (v := ?_) (by simp only [List.getElem?_toArray, List.getElem?_cons_succ, List.getElem?_cons_zero]; rfl) (by kernel_rfl) (by kernel_rfl) (by kernel_rfl) (fun _ _ _ h => h) (Or.inl ⟨by rfl, ?_⟩) (by assumption) ?_
  rotate_left
  · intro w hSw
    (try dsimp only at hSw)
    go_simp
    (try with_reducible rfl)
  simp only [Act.put, List.setIfInBounds_toArray, List.set_cons_zero, List.set_cons_succ]
  refine wpAnyH_take (i := 1) (v := ?_) (by simp only [List.getElem?_toArray, List.getElem?_cons_succ, List.getElem?_cons_zero]; rfl) (by kernel_rfl) (by kernel_rfl) (by kernel_rfl) (fun _ _ _ h => h) (Or.inl ⟨by rfl, ?_⟩) (by assumption) ?_
  rotate_left
  · intro w hSw
    (try dsimp only at hSw)
    go_simp
    (try with_reducible rfl)
  simp only [Act.put, List.setIfInBounds_toArray, List.set_cons_zero, List.set_cons_succ]
  refine wpAnyH_take (i := 2) (v := ?_) (by simp only [List.getElem?_toArray, List.getElem?_cons_succ, List.getElem?_cons_zero]; rfl) (by kernel_rfl) (by kernel_rfl) (by kernel_rfl) (fun _ _ _ h => h) (Or.inl ⟨by rfl, ?_⟩) (by assumption) ?_
  rotate_left
  · intro w hSw
    (try dsimp only at hSw)
    go_simp
    (try with_reducible rfl)
  simp only [Act.put, List.setIfInBounds_toArray, List.set_cons_zero, List.set_cons_succ]
  refine wpAnyH_take (i := 5) (v := ?_) (by simp only [List.getElem?_toArray, List.getElem?_cons_succ, List.getElem?_cons_zero]; rfl) (by kernel_rfl) (by kernel_rfl) (by kernel_rfl) (fun _ _ _ h => h) (Or.inl ⟨by rfl, ?_⟩) (by assumption) ?_
  rotate_left
  · intro w hSw
    (try dsimp only at hSw)
    go_simp
    (try with_reducible rfl)
  simp only [Act.put, List.setIfInBounds_toArray, List.set_cons_zero, List.set_cons_succ]
  refine wpAnyH_ready (rs := [3]) (by kernel_rfl) (by simp) ?_
  refine AllReadyH.cons (by simp only [List.getElem?_toArray, List.getElem?_cons_succ, List.getElem?_cons_zero]; rfl) (fun K hK => ?_) AllReadyH.nil
  go_simp
  go_at_call 31; with_reducible refine (HHo.out _ (hHeld.2.2.2.2.2.2.2.2.2)).mono ?_
  rintro e w' ⟨R, f1, c1, f2, c2, hR, rfl, eg1, eg2, hF1, hF2, kk⟩
  unfold QEnters at eg1 eg2
  have HF := Lib.hid (show ∀ W', Kept w' W' → Calls Tryz.prog f1 (#[.agg #[.int .u64 x.1, .int .u64 x.2]] ++ c1) W' fun e w'' => e = .returned (.int .i64 (onC k l R x)) ∧ Kept W' w'' from fun W' hW => hF1 W' hW x HX.out)
  clear hF1 hF2
  try go_wp2_with fail
  refine hK.out _ _ ?_ (fun hHeld2 => ?_)
  · exact keepP9 bz0 bz0 bz0 bz0 bz0 bz1 bz1 bz2 bz2 hHeld kk
  clear hK K hHeld
  have hHeld := hHeld2
  clear hHeld2
  try simp only [Act.put, List.setIfInBounds_toArray, List.set_cons_zero, List.set_cons_succ]
  refine wpAnyH_take (i := 4) (v := ?_) (by simp only [List.getElem?_toArray, List.getElem?_cons_succ, List.getElem?_cons_zero]; rfl) (by kernel_rfl) (by kernel_rfl) (by kernel_rfl) (fun _ _ _ h => h) (Or.inl ⟨by rfl, ?_⟩) (by assumption) ?_
  rotate_left
  · intro w hSw
    (try dsimp only at hSw)
    go_simp
    (try with_reducible rfl)
  simp only [Act.put, List.setIfInBounds_toArray, List.set_cons_zero, List.set_cons_succ]
  refine wpAnyH_ready (rs := [6]) (by kernel_rfl) (by simp) ?_
  refine AllReadyH.cons (by simp only [List.getElem?_toArray, List.getElem?_cons_succ, List.getElem?_cons_zero]; rfl) (fun K hK => ?_) AllReadyH.nil
  go_simp
  refine (HF.out _ (Kept.refl _)).mono ?_
  rintro e w' ⟨rfl, kk⟩
  try go_wp2_with fail
  refine hK.out _ _ ?_ (fun hHeld2 => ?_)
  · exact keepP9 bz0 bz0 bz0 bz0 bz0 bz1 bz1 bz2 bz2 hHeld kk
  clear hK K hHeld
  have hHeld := hHeld2
  clear hHeld2
  try simp only [Act.put, List.setIfInBounds_toArray, List.set_cons_zero, List.set_cons_succ]
  refine wpAnyH_take (i := 7) (v := ?_) (by simp only [List.getElem?_toArray, List.getElem?_cons_succ, List.getElem?_cons_zero]; rfl) (by kernel_rfl) (by kernel_rfl) (by kernel_rfl) (fun _ _ _ h => h) (Or.inl ⟨by rfl, ?_⟩) (by assumption) ?_
  rotate_left
  · intro w hSw
    (try dsimp only at hSw)
    go_simp
    (try with_reducible rfl)
  simp only [Act.put, List.setIfInBounds_toArray, List.set_cons_zero, List.set_cons_succ]
  refine wpAnyH_done (by kernel_rfl) ?_ _
  refine NoPanic.normal ?_
  have k := hHeld.2.2.2.2.2.2.2.2.2
  clear hHeld
  have KB1 := Lib.hid (KB0.out.trans k)
  clear k
  generalize w' = W1 at *
  go_wp2_with fail
  go_ret
  exact ⟨R, hR, by first | rfl | (simp; done), K0.out.trans KB1.out⟩
attribute [local go_sem high] field_poll1 field_poll2 in
set_option maxRecDepth 100000 in
set_option maxHeartbeats 6400000 in
theorem quickSure_any (kA : Option Addr) (kc : Nat) (k : Cf) (lA : Option Addr) (lc : Nat) (l : List Bk) (vA : Option Addr) (vc : Nat) (v : List Vt) (slot : Int) (x : Id2) (w : World)
    (hk : k.ws.length ≤ 1000) (hsd : k.seed < 18446744073709551616) (hl : l.length ≤ 10000) (hv : v.length ≤ 10000) (hwl : WfL l) (hwv : WfVs v) (hwx : WfI x) (hnu : -1099511627776 ≤ k.nu ∧ k.nu ≤ 1099511627776) (hde : -1099511627776 ≤ k.de ∧ k.de ≤ 1099511627776) (hA : CellsAt w w.heap.size kA (intCells k.ws)) (hL : CellsAt w w.heap.size lA (blockCells l)) (hV : CellsAt w w.heap.size vA (votesCells v)) :
    Calls Tryz.prog 17 #[.agg #[.slice kA k.ws.length kc, .int .u64 k.seed, .int .i64 k.ep, .int .i64 k.nu, .int .i64 k.de], .agg #[.slice lA l.length lc, .slice vA v.length vc], .int .i64 slot, .agg #[.int .u64 x.1, .int .u64 x.2]] w fun e w' => ∃ R, Golds k slot v R ∧ e = .returned (.bool (sureC k l slot R x)) ∧ Kept w w' := by
  go_enter Tryz.func17, Tryz.ntmps17
  go_wp2_with fail
  have K0 := Lib.hid ((((Kept.refl w).alloc (.cells #[.slice kA k.ws.length kc, .int .u64 k.seed, .int .i64 k.ep, .int .i64 k.nu, .int .i64 k.de] 25)).alloc (.cells #[.slice lA l.length lc, .slice vA v.length vc] 29)).alloc (.cells #[.int .u64 x.1, .int .u64 x.2] 31))
  have HA := Lib.hid (hA.kept K0.out)
  clear hA
  have HL := Lib.hid (hL.kept K0.out)
  clear hL
  have HV := Lib.hid (hV.kept K0.out)
  clear hV
  have HB0 := Lib.hid (((HasCells.new w #[.slice kA k.ws.length kc, .int .u64 k.seed, .int .i64 k.ep, .int .i64 k.nu, .int .i64 k.de] 25 (w.heap.size) (by simp)).alloc (.cells #[.slice lA l.length lc, .slice vA v.length vc] 29)).alloc (.cells #[.int .u64 x.1, .int .u64 x.2] 31))
  have HB1 := Lib.hid ((HasCells.new (w.alloc (.cells #[.slice kA k.ws.length kc, .int .u64 k.seed, .int .i64 k.ep, .int .i64 k.nu, .int .i64 k.de] 25)) #[.slice lA l.length lc, .slice vA v.length vc] 29 (w.heap.size + 1) (by simp)).alloc (.cells #[.int .u64 x.1, .int .u64 x.2] 31))
  have HB2 := Lib.hid (HasCells.new ((w.alloc (.cells #[.slice kA k.ws.length kc, .int .u64 k.seed, .int .i64 k.ep, .int .i64 k.nu, .int .i64 k.de] 25)).alloc (.cells #[.slice lA l.length lc, .slice vA v.length vc] 29)) #[.int .u64 x.1, .int .u64 x.2] 31 (w.heap.size + 1 + 1) (by simp))
  generalize (((w.alloc (.cells #[.slice kA k.ws.length kc, .int .u64 k.seed, .int .i64 k.ep, .int .i64 k.nu, .int .i64 k.de] 25)).alloc (.cells #[.slice lA l.length lc, .slice vA v.length vc] 29)).alloc (.cells #[.int .u64 x.1, .int .u64 x.2] 31)) = W0 at *
  generalize w.heap.size + 1 + 1 = z2 at *
  generalize w.heap.size + 1 = z1 at *
  generalize w.heap.size = z0 at *
  have KB0 := Lib.hid (Kept.refl W0)
  obtain ⟨b00, b01, b02, b03, b04⟩ := (HB0.out.kept KB0.out).five
  have bz0 := (HB0.out.kept KB0.out).1
  obtain ⟨b10, b11⟩ := (HB1.out.kept KB0.out).two
  have bz1 := (HB1.out.kept KB0.out).1
  obtain ⟨b20, b21⟩ := (HB2.out.kept KB0.out).two
  have bz2 := (HB2.out.kept KB0.out).1
  go_wp2_with fail
  have HHo := Lib.hid (fun w' (kk : Kept W0 w') => hold_any kA kc k lA lc l vA vc v slot w' hk hsd hl hv hwl hwv (HA.out.kept kk) (HL.out.kept kk) (HV.out.kept kk))
  have HX := Lib.hid hwx
  clear hwx
  refine wp_region_noPanic ?_
  refine wp_region_held_drew (S := (fun w' => w'.cell? ⟨z0, 0, none⟩ = some (.slice kA k.ws.length kc) ∧ w'.cell? ⟨z0, 1, none⟩ = some (.int .u64 k.seed) ∧ w'.cell? ⟨z0, 2, none⟩ = some (.int .i64 k.ep) ∧ w'.cell? ⟨z0, 3, none⟩ = some (.int .i64 k.nu) ∧ w'.cell? ⟨z0, 4, none⟩ = some (.int .i64 k.de) ∧ w'.cell? ⟨z1, 0, none⟩ = some (.slice lA l.length lc) ∧ w'.cell? ⟨z1, 1, none⟩ = some (.slice vA v.length vc) ∧ w'.cell? ⟨z2, 0, none⟩ = some (.int .u64 x.1) ∧ w'.cell? ⟨z2, 1, none⟩ = some (.int .u64 x.2) ∧ Kept W0 w')) (by kernel_rfl) ?_ (fun hHeld => ?_)
  · exact ⟨b00, b01, b02, b03, b04, b10, b11, b20, b21, (Kept.refl _).drew⟩
  refine wpAnyH_take (i := 0) (v := ?_) (by simp only [List.getElem?_toArray, List.getElem?_cons_succ, List.getElem?_cons_zero]; rfl) (by kernel_rfl) (by kernel_rfl) (by kernel_rfl) (fun _ _ _ h => h) (Or.inl ⟨by rfl, ?_⟩) (by assumption) ?_
  rotate_left
  · intro w hSw
    (try dsimp only at hSw)
    go_simp
    (try with_reducible rfl)
  simp only [Act.put, List.setIfInBounds_toArray, List.set_cons_zero, List.set_cons_succ]
  refine wpAnyH_take (i := 1) (v := ?_) (by simp only [List.getElem?_toArray, List.getElem?_cons_succ, List.getElem?_cons_zero]; rfl) (by kernel_rfl) (by kernel_rfl) (by kernel_rfl) (fun _ _ _ h => h) (Or.inl ⟨by rfl, ?_⟩) (by assumption) ?_
  rotate_left
  · intro w hSw
    (try dsimp only at hSw)
    go_simp
    (try with_reducible rfl)
  simp only [Act.put, List.setIfInBounds_toArray, List.set_cons_zero, List.set_cons_succ]
  refine wpAnyH_take (i := 2) (v := ?_) (by simp only [List.getElem?_toArray, List.getElem?_cons_succ, List.getElem?_cons_zero]; rfl) (by kernel_rfl) (by kernel_rfl) (by kernel_rfl) (fun _ _ _ h => h) (Or.inl ⟨by rfl, ?_⟩) (by assumption) ?_
  rotate_left
  · intro w hSw
    (try dsimp only at hSw)
    go_simp
    (try with_reducible rfl)
  simp only [Act.put, List.setIfInBounds_toArray, List.set_cons_zero, List.set_cons_succ]
  refine wpAnyH_take (i := 5) (v := ?_) (by simp only [List.getElem?_toArray, List.getElem?_cons_succ, List.getElem?_cons_zero]; rfl) (by kernel_rfl) (by kernel_rfl) (by kernel_rfl) (fun _ _ _ h => h) (Or.inl ⟨by rfl, ?_⟩) (by assumption) ?_
  rotate_left
  · intro w hSw
    (try dsimp only at hSw)
    go_simp
    (try with_reducible rfl)
  simp only [Act.put, List.setIfInBounds_toArray, List.set_cons_zero, List.set_cons_succ]
  refine wpAnyH_ready (rs := [3]) (by kernel_rfl) (by simp) ?_
  refine AllReadyH.cons (by simp only [List.getElem?_toArray, List.getElem?_cons_succ, List.getElem?_cons_zero]; rfl) (fun K hK => ?_) AllReadyH.nil
  go_simp
  go_at_call 31; with_reducible refine (HHo.out _ (hHeld.2.2.2.2.2.2.2.2.2)).mono ?_
  rintro e w' ⟨R, f1, c1, f2, c2, hR, rfl, eg1, eg2, hF1, hF2, kk⟩
  unfold QEnters at eg1 eg2
  have HF := Lib.hid (show ∀ W', Kept w' W' → Calls Tryz.prog f2 (#[.agg #[.int .u64 x.1, .int .u64 x.2]] ++ c2) W' fun e w'' => e = .returned (.bool (sureC k l slot R x)) ∧ Kept W' w'' from fun W' hW => hF2 hnu hde W' hW x HX.out)
  clear hF1 hF2
  try go_wp2_with fail
  refine hK.out _ _ ?_ (fun hHeld2 => ?_)
  · exact keepP9 bz0 bz0 bz0 bz0 bz0 bz1 bz1 bz2 bz2 hHeld kk
  clear hK K hHeld
  have hHeld := hHeld2
  clear hHeld2
  try simp only [Act.put, List.setIfInBounds_toArray, List.set_cons_zero, List.set_cons_succ]
  refine wpAnyH_take (i := 4) (v := ?_) (by simp only [List.getElem?_toArray, List.getElem?_cons_succ, List.getElem?_cons_zero]; rfl) (by kernel_rfl) (by kernel_rfl) (by kernel_rfl) (fun _ _ _ h => h) (Or.inl ⟨by rfl, ?_⟩) (by assumption) ?_
  rotate_left
  · intro w hSw
    (try dsimp only at hSw)
    go_simp
    (try with_reducible rfl)
  simp only [Act.put, List.setIfInBounds_toArray, List.set_cons_zero, List.set_cons_succ]
  refine wpAnyH_ready (rs := [6]) (by kernel_rfl) (by simp) ?_
  refine AllReadyH.cons (by simp only [List.getElem?_toArray, List.getElem?_cons_succ, List.getElem?_cons_zero]; rfl) (fun K hK => ?_) AllReadyH.nil
  go_simp
  refine (HF.out _ (Kept.refl _)).mono ?_
  rintro e w' ⟨rfl, kk⟩
  try go_wp2_with fail
  refine hK.out _ _ ?_ (fun hHeld2 => ?_)
  · exact keepP9 bz0 bz0 bz0 bz0 bz0 bz1 bz1 bz2 bz2 hHeld kk
  clear hK K hHeld
  have hHeld := hHeld2
  clear hHeld2
  try simp only [Act.put, List.setIfInBounds_toArray, List.set_cons_zero, List.set_cons_succ]
  refine wpAnyH_take (i := 7) (v := ?_) (by simp only [List.getElem?_toArray, List.getElem?_cons_succ, List.getElem?_cons_zero]; rfl) (by kernel_rfl) (by kernel_rfl) (by kernel_rfl) (fun _ _ _ h => h) (Or.inl ⟨by rfl, ?_⟩) (by assumption) ?_
  rotate_left
  · intro w hSw
    (try dsimp only at hSw)
    go_simp
    (try with_reducible rfl)
  simp only [Act.put, List.setIfInBounds_toArray, List.set_cons_zero, List.set_cons_succ]
  refine wpAnyH_done (by kernel_rfl) ?_ _
  refine NoPanic.normal ?_
  have k := hHeld.2.2.2.2.2.2.2.2.2
  clear hHeld
  have KB1 := Lib.hid (KB0.out.trans k)
  clear k
  generalize w' = W1 at *
  go_wp2_with fail
  go_ret
  exact ⟨R, hR, by first | rfl | (simp; done), K0.out.trans KB1.out⟩
set_option maxRecDepth 100000 in
set_option maxHeartbeats 6400000 in
theorem quickTop_any (kA : Option Addr) (kc : Nat) (k : Cf) (lA : Option Addr) (lc : Nat) (l : List Bk) (vA : Option Addr) (vc : Nat) (v : List Vt) (slot : Int) (x : Id2) (w : World)
    (hk : k.ws.length ≤ 1000) (hsd : k.seed < 18446744073709551616) (hl : l.length ≤ 10000) (hv : v.length ≤ 10000) (hwl : WfL l) (hwv : WfVs v) (hwx : WfI x) (hnu : -1099511627776 ≤ k.nu ∧ k.nu ≤ 1099511627776) (hde : -1099511627776 ≤ k.de ∧ k.de ≤ 1099511627776) (hA : CellsAt w w.heap.size kA (intCells k.ws)) (hL : CellsAt w w.heap.size lA (blockCells l)) (hV : CellsAt w w.heap.size vA (votesCells v)) :
    Calls Tryz.prog 13 #[.agg #[.slice kA k.ws.length kc, .int .u64 k.seed, .int .i64 k.ep, .int .i64 k.nu, .int .i64 k.de], .agg #[.slice lA l.length lc, .slice vA v.length vc], .int .i64 slot, .agg #[.int .u64 x.1, .int .u64 x.2]] w fun e w' => ∃ R, Golds k slot v R ∧ e = .returned (.tuple #[.agg #[.int .u64 ((topC k l slot R x).getD zid).1, .int .u64 ((topC k l slot R x).getD zid).2], .bool (topC k l slot R x).isSome]) ∧ Kept w w' := by
  go_enter Tryz.func13, Tryz.ntmps13
  go_wp2_with fail
  have K0 := Lib.hid (((((Kept.refl w).alloc (.cells #[.slice kA k.ws.length kc, .int .u64 k.seed, .int .i64 k.ep, .int .i64 k.nu, .int .i64 k.de] 25)).alloc (.cells #[.slice lA l.length lc, .slice vA v.length vc] 29)).alloc (.cells #[.int .u64 x.1, .int .u64 x.2] 31)).alloc (.cells #[.int .u64 0, .int .u64 0] 31))
  have HA := Lib.hid (hA.kept K0.out)
  clear hA
  have HL := Lib.hid (hL.kept K0.out)
  clear hL
  have HV := Lib.hid (hV.kept K0.out)
  clear hV
  have HB0 := Lib.hid ((((HasCells.new w #[.slice kA k.ws.length kc, .int .u64 k.seed, .int .i64 k.ep, .int .i64 k.nu, .int .i64 k.de] 25 (w.heap.size) (by simp)).alloc (.cells #[.slice lA l.length lc, .slice vA v.length vc] 29)).alloc (.cells #[.int .u64 x.1, .int .u64 x.2] 31)).alloc (.cells #[.int .u64 0, .int .u64 0] 31))
  have HB1 := Lib.hid (((HasCells.new (w.alloc (.cells #[.slice kA k.ws.length kc, .int .u64 k.seed, .int .i64 k.ep, .int .i64 k.nu, .int .i64 k.de] 25)) #[.slice lA l.length lc, .slice vA v.length vc] 29 (w.heap.size + 1) (by simp)).alloc (.cells #[.int .u64 x.1, .int .u64 x.2] 31)).alloc (.cells #[.int .u64 0, .int .u64 0] 31))
  have HB2 := Lib.hid ((HasCells.new ((w.alloc (.cells #[.slice kA k.ws.length kc, .int .u64 k.seed, .int .i64 k.ep, .int .i64 k.nu, .int .i64 k.de] 25)).alloc (.cells #[.slice lA l.length lc, .slice vA v.length vc] 29)) #[.int .u64 x.1, .int .u64 x.2] 31 (w.heap.size + 1 + 1) (by simp)).alloc (.cells #[.int .u64 0, .int .u64 0] 31))
  have HB3 := Lib.hid (HasCells.new (((w.alloc (.cells #[.slice kA k.ws.length kc, .int .u64 k.seed, .int .i64 k.ep, .int .i64 k.nu, .int .i64 k.de] 25)).alloc (.cells #[.slice lA l.length lc, .slice vA v.length vc] 29)).alloc (.cells #[.int .u64 x.1, .int .u64 x.2] 31)) #[.int .u64 0, .int .u64 0] 31 (w.heap.size + 1 + 1 + 1) (by simp))
  have HRb := Lib.hid (show AtI ((((w.alloc (.cells #[.slice kA k.ws.length kc, .int .u64 k.seed, .int .i64 k.ep, .int .i64 k.nu, .int .i64 k.de] 25)).alloc (.cells #[.slice lA l.length lc, .slice vA v.length vc] 29)).alloc (.cells #[.int .u64 x.1, .int .u64 x.2] 31)).alloc (.cells #[.int .u64 0, .int .u64 0] 31)) (w.heap.size + 1 + 1 + 1) zid from AtI.new _ zid _ (by simp))
  have HZ3 := Lib.hid (show w.heap.size ≤ w.heap.size + 1 + 1 + 1 by omega)
  generalize ((((w.alloc (.cells #[.slice kA k.ws.length kc, .int .u64 k.seed, .int .i64 k.ep, .int .i64 k.nu, .int .i64 k.de] 25)).alloc (.cells #[.slice lA l.length lc, .slice vA v.length vc] 29)).alloc (.cells #[.int .u64 x.1, .int .u64 x.2] 31)).alloc (.cells #[.int .u64 0, .int .u64 0] 31)) = W0 at *
  generalize w.heap.size + 1 + 1 + 1 = z3 at *
  generalize w.heap.size + 1 + 1 = z2 at *
  generalize w.heap.size + 1 = z1 at *
  generalize hz0 : w.heap.size = z0 at *
  have HZ0 := Lib.hid hz0
  clear hz0
  have KB0 := Lib.hid (Kept.refl W0)
  obtain ⟨b00, b01, b02, b03, b04⟩ := (HB0.out.kept KB0.out).five
  have bz0 := (HB0.out.kept KB0.out).1
  obtain ⟨b10, b11⟩ := (HB1.out.kept KB0.out).two
  have bz1 := (HB1.out.kept KB0.out).1
  obtain ⟨b20, b21⟩ := (HB2.out.kept KB0.out).two
  have bz2 := (HB2.out.kept KB0.out).1
  obtain ⟨b30, b31⟩ := (HB3.out.kept KB0.out).two
  have bz3 := (HB3.out.kept KB0.out).1
  go_wp2_with fail
  clear b00 b01 b02 b03 b04 bz0 b10 b11 bz1 b20 b21 bz2 b30 b31 bz3
  refine (chain_own lA lc l (by omega) hwl x hwx W0 (HL.out.kept KB0.out)).mono ?_
  rintro e W1 ⟨A1, c1, rfl, hfit, hC1, _, k⟩
  replace HRb := Lib.hid (HRb.out.kept k)
  have KB1 := Lib.hid (KB0.out.trans k)
  clear k
  replace HA := Lib.hid (HA.out.kept KB1.out)
  replace HL := Lib.hid (HL.out.kept KB1.out)
  replace HV := Lib.hid (HV.out.kept KB1.out)
  replace HB0 := Lib.hid (HB0.out.kept KB1.out)
  replace HB1 := Lib.hid (HB1.out.kept KB1.out)
  replace HB2 := Lib.hid (HB2.out.kept KB1.out)
  replace HB3 := Lib.hid (HB3.out.kept KB1.out)
  replace K0 := Lib.hid (K0.out.trans KB1.out)
  have KB2 := Lib.hid (Kept.refl W1)
  have HC1 := Lib.hid hC1
  clear hC1
  have HFit := Lib.hid hfit
  clear hfit
  have HLn := Lib.hid (chainC_length l x)
  have HCw := Lib.hid (chain_wfC hwl x hwx)
  obtain ⟨b00, b01, b02, b03, b04⟩ := (HB0.out.kept KB2.out).five
  have bz0 := (HB0.out.kept KB2.out).1
  obtain ⟨b10, b11⟩ := (HB1.out.kept KB2.out).two
  have bz1 := (HB1.out.kept KB2.out).1
  obtain ⟨b20, b21⟩ := (HB2.out.kept KB2.out).two
  have bz2 := (HB2.out.kept KB2.out).1
  obtain ⟨b30, b31⟩ := (HB3.out.kept KB2.out).two
  have bz3 := (HB3.out.kept KB2.out).1
  go_wp2_with fail
  clear b00 b01 b02 b03 b04 bz0 b10 b11 bz1 b20 b21 bz2 b30 b31 bz3
  refine (above_chain A1 (chainC l x).length c1 (by have := HLn.out; omega) HFit.out W1).mono ?_
  rintro e W3 ⟨rfl, k⟩
  replace HRb := Lib.hid (HRb.out.kept k)
  have KB3 := Lib.hid (KB2.out.trans k)
  clear k
  have HSt := Lib.hid (fun R (h : Golds k slot v R) => (show Steps (sureC k l slot R) (chainC l x).dropLast from Steps.dropLast fun i j hij hj hp => sure_behind h hij hj hp))
  have HTop := Lib.hid (fun R i (h : FirstOf (sureC k l slot R) (chainC l x).dropLast i) => (show topC k l slot R x = (chainC l x).dropLast[i]? from h.find))
  have HDw := Lib.hid (fun y (hy : y ∈ (chainC l x).dropLast) => HCw.out y (List.dropLast_subset _ hy))
  have HDl := Lib.hid (show (chainC l x).dropLast.length ≤ 10001 by rw [List.length_dropLast]; have := HLn.out; omega)
  rw [show (chainC l x).length - 1 = (chainC l x).dropLast.length from List.length_dropLast.symm]
  have hCd := ids_front (HC1.out.kept KB3.out)
  clear HC1 HLn HCw HFit
  replace HA := Lib.hid (HA.out.kept KB3.out)
  replace HL := Lib.hid (HL.out.kept KB3.out)
  replace HV := Lib.hid (HV.out.kept KB3.out)
  replace HB0 := Lib.hid (HB0.out.kept KB3.out)
  replace HB1 := Lib.hid (HB1.out.kept KB3.out)
  replace HB2 := Lib.hid (HB2.out.kept KB3.out)
  replace HB3 := Lib.hid (HB3.out.kept KB3.out)
  replace K0 := Lib.hid (K0.out.trans KB3.out)
  have KB4 := Lib.hid (Kept.refl W3)
  have HCd := Lib.hid hCd
  clear hCd
  generalize (chainC l x).dropLast = D at *
  obtain ⟨b00, b01, b02, b03, b04⟩ := (HB0.out.kept KB4.out).five
  have bz0 := (HB0.out.kept KB4.out).1
  obtain ⟨b10, b11⟩ := (HB1.out.kept KB4.out).two
  have bz1 := (HB1.out.kept KB4.out).1
  obtain ⟨b20, b21⟩ := (HB2.out.kept KB4.out).two
  have bz2 := (HB2.out.kept KB4.out).1
  obtain ⟨b30, b31⟩ := (HB3.out.kept KB4.out).two
  have bz3 := (HB3.out.kept KB4.out).1
  go_wp2_with fail
  clear b00 b01 b02 b03 b04 bz0 b10 b11 bz1 b20 b21 bz2 b30 b31 bz3
  refine (hold_any kA kc k lA lc l vA vc v slot W3 hk hsd hl hv hwl hwv (HA.out.kept KB4.out) (HL.out.kept KB4.out) (HV.out.kept KB4.out)).mono ?_
  rintro e W5 ⟨R, f1, c1f, f2, c2f, hR, rfl, eg1, eg2, hF1, hF2, k⟩
  replace HRb := Lib.hid (HRb.out.kept k)
  have KB5 := Lib.hid (KB4.out.trans k)
  clear k
  have HR := Lib.hid hR
  have HF2 := Lib.hid (hF2 hnu hde)
  have HEg := Lib.hid eg2
  clear hR hF1 hF2 eg1 eg2
  obtain ⟨b00, b01, b02, b03, b04⟩ := (HB0.out.kept KB5.out).five
  have bz0 := (HB0.out.kept KB5.out).1
  obtain ⟨b10, b11⟩ := (HB1.out.kept KB5.out).two
  have bz1 := (HB1.out.kept KB5.out).1
  obtain ⟨b20, b21⟩ := (HB2.out.kept KB5.out).two
  have bz2 := (HB2.out.kept KB5.out).1
  obtain ⟨b30, b31⟩ := (HB3.out.kept KB5.out).two
  have bz3 := (HB3.out.kept KB5.out).1
  go_wp2_with fail
  clear b00 b01 b02 b03 b04 bz0 b10 b11 bz1 b20 b21 bz2 b30 b31 bz3
  refine (first_any f1 c1f f2 c2f (sureC k l slot R) A1 c1 D W5 (by have := HDl.out; omega) (HSt.out R HR.out) HDw.out (HCd.out.kept KB5.out) HEg.out HF2.out).mono ?_
  rintro e W6 ⟨i, hi, rfl, k⟩
  replace HRb := Lib.hid (HRb.out.kept k)
  have KB6 := Lib.hid (KB5.out.trans k)
  clear k
  have HT := Lib.hid (HTop.out R i hi)
  have HLe := Lib.hid hi.le
  clear hi
  clear HTop HSt HF2 HEg
  have r0 := HRb.out.c0
  have r1 := HRb.out.c1
  have hbr := HRb.out.lt
  have f0 := HRb.out.fr 0
  have f1_ := HRb.out.fr 1
  obtain ⟨t, ht⟩ : ∃ t, t = topC k l slot R x := ⟨_, rfl⟩
  rw [← ht] at HT
  have HTT := Lib.hid ht
  clear ht
  by_cases heq : i = D.length
  · have he : ((i : Int) == (D.length : Int)) = true := by rw [beq_iff_eq]; omega
    have HN := Lib.hid (show t = none by rw [HT.out, List.getElem?_eq_none (by omega)])
    clear heq
    go_wp2_with fail
    refine bodyPost_ret (v := .tuple #[.agg #[.int .u64 0, .int .u64 0], .bool false]) (by simp [results, Tryz.results13, go_sem, r0, r1]) rfl ⟨R, HR.out, by rw [← HTT.out, HN.out]; rfl, ?_⟩
    exact ((K0.out.trans KB6.out).setCell (p := ⟨z3, 0, none⟩) (Nat.le_trans (Nat.le_of_eq HZ0.out) HZ3.out) _).setCell (p := ⟨z3, 1, none⟩) (Nat.le_trans (Nat.le_of_eq HZ0.out) HZ3.out) _
  · have he : ((i : Int) == (D.length : Int)) = false := by rw [beq_eq_false_iff_ne]; omega
    have hil : i < D.length := by have := HLe.out; omega
    clear heq
    obtain ⟨zq, oq, rfl, hbq, x0, x1⟩ := id_at (HCd.out.kept KB6.out) hil
    have HN := Lib.hid (show t = some D[i] by rw [HT.out, List.getElem?_eq_getElem hil])
    clear HT
    generalize D[i] = y at *
    go_wp2_with fail
    refine bodyPost_ret (v := .tuple #[.agg #[.int .u64 y.1, .int .u64 y.2], .bool true]) (by simp [results, Tryz.results13, go_sem, r0, r1]) rfl ⟨R, HR.out, by rw [← HTT.out, HN.out]; rfl, ?_⟩
    exact ((K0.out.trans KB6.out).setCell (p := ⟨z3, 0, none⟩) (Nat.le_trans (Nat.le_of_eq HZ0.out) HZ3.out) _).setCell (p := ⟨z3, 1, none⟩) (Nat.le_trans (Nat.le_of_eq HZ0.out) HZ3.out) _
end

end Go.Proofs.YtpojiijgahcidaaGreat
