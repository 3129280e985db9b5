/-
  The contracts of package view's calls Block and Vote.
-/
import Derived.Test.YtacdiicnfoejoaaViewFacts
import Derived.Test.YtacdiicnfoejoaaDutyG
import Derived.Test.YtacdiicnfoejoaaTreeG
namespace Go.Proofs.Ytacdiicnfoejoaa
set_option maxRecDepth 100000
set_option linter.unusedVariables false
set_option linter.unusedSimpArgs false
set_option linter.unusedSimpArgs false
set_option linter.unusedVariables false
open Go.ChangeShapes Go.WideShapes Go.ChangeAt Go.RowKit

attribute [local go_sem high] eqIdZ in
set_option maxRecDepth 100000 in
set_option maxHeartbeats 1600000 in
theorem viewBlock_of (kA : Option Addr) (kc : Nat) (k : Cf) (b : Bk) (n : Id2) (p : Int) (w : World)
    (HNm : ∀ w, Calls Try.prog 16 #[.agg #[.int .i64 b.s, .int .i64 b.f, .int .u64 b.p.1, .int .u64 b.p.2, .int .u64 b.t]] w fun e w' => e = .returned (.agg #[.int .u64 n.1, .int .u64 n.2]) ∧ Kept w w')
    (HP : ∀ w', Kept w w' → Calls Try.prog 22 #[.agg #[.slice kA k.ws.length kc, .int .u64 k.seed, .int .i64 k.ep, .int .i64 k.nu, .int .i64 k.de], .int .i64 b.s] w' fun e w'' => e = .returned (.int .i64 p) ∧ Kept w' w'') :
    Calls Try.prog 19 #[.agg #[.slice kA k.ws.length kc, .int .u64 k.seed, .int .i64 k.ep, .int .i64 k.nu, .int .i64 k.de], .agg #[.int .i64 b.s, .int .i64 b.f, .int .u64 b.p.1, .int .u64 b.p.2, .int .u64 b.t]] w fun e w' => e = .returned (.bool (decide (0 ≤ p) && (decide (p = b.f) && !isZ n))) ∧ Kept w w' := by
  have K0 := Lib.hid (((Kept.refl w).alloc (.cells #[.slice kA k.ws.length kc, .int .u64 k.seed, .int .i64 k.ep, .int .i64 k.nu, .int .i64 k.de] 25)).alloc (.cells #[.int .i64 b.s, .int .i64 b.f, .int .u64 b.p.1, .int .u64 b.p.2, .int .u64 b.t] 42))
  have HB0 := Lib.hid ((HasCells.new w #[.slice kA k.ws.length kc, .int .u64 k.seed, .int .i64 k.ep, .int .i64 k.nu, .int .i64 k.de] 25 (w.heap.size) rfl).alloc (.cells #[.int .i64 b.s, .int .i64 b.f, .int .u64 b.p.1, .int .u64 b.p.2, .int .u64 b.t] 42))
  have HB := Lib.hid (HasCells.new (w.alloc (.cells #[.slice kA k.ws.length kc, .int .u64 k.seed, .int .i64 k.ep, .int .i64 k.nu, .int .i64 k.de] 25)) #[.int .i64 b.s, .int .i64 b.f, .int .u64 b.p.1, .int .u64 b.p.2, .int .u64 b.t] 42 (w.heap.size + 1) (by simp))
  have HPr := Lib.hid HP
  replace HNm := Lib.hid HNm
  clear HP
  go_enter Try.func19, Try.ntmps19
  go_wp2_with fail
  generalize (w.alloc (.cells #[.slice kA k.ws.length kc, .int .u64 k.seed, .int .i64 k.ep, .int .i64 k.nu, .int .i64 k.de] 25)).alloc (.cells #[.int .i64 b.s, .int .i64 b.f, .int .u64 b.p.1, .int .u64 b.p.2, .int .u64 b.t] 42) = W0 at *
  generalize w.heap.size + 1 = z1 at *
  generalize w.heap.size = z0 at *
  obtain ⟨b00, b01, b02, b03, b04⟩ := HB0.out.five
  have bz0 := HB0.out.1
  obtain ⟨b0, b1, b2, b3, b4⟩ := HB.out.five
  have bz := HB.out.1
  go_wp2_with fail
  clear b00 b01 b02 b03 b04 bz0 b0 b1 b2 b3 b4 bz
  refine (HPr.out W0 K0.out).mono ?_
  rintro e W1 ⟨rfl, k1⟩
  have HK1 := Lib.hid (K0.out.trans k1)
  obtain ⟨b0, b1, b2, b3, b4⟩ := (HB.out.kept k1).five
  have bz := (HB.out.kept k1).1
  clear k1
  by_cases h1 : 0 ≤ p
  · have g1 : decide (0 ≤ p) = true := decide_eq_true h1
    by_cases h2 : p = b.f
    · have g2 : (p == b.f) = true := beq_iff_eq.2 h2
      have HE := Lib.hid (show (decide (0 ≤ p) && (decide (p = b.f) && !isZ n)) = !isZ n by rw [g1, decide_eq_true h2]; rfl)
      clear h2
      go_wp2_with fail
      refine (HNm.out _).mono ?_
      rintro e W2 ⟨rfl, k2⟩
      have HK2 := Lib.hid (HK1.out.trans k2)
      clear k2
      cases hz : isZ n with
      | true =>
        go_wp2_with fail
        go_ret
        exact ⟨by first | (rw [HE.out, hz]; rfl) | (rw [← hz, HE.out]; rfl) | (rw [HE.out]; rfl), HK2.out⟩
      | false =>
        go_wp2_with fail
        go_ret
        exact ⟨by first | (rw [HE.out, hz]; rfl) | (rw [← hz, HE.out]; rfl) | (rw [HE.out]; rfl), HK2.out⟩
    · have g2 : (p == b.f) = false := beq_eq_false_iff_ne.2 h2
      have HE := Lib.hid (show (decide (0 ≤ p) && (decide (p = b.f) && !isZ n)) = false by rw [decide_eq_false h2]; simp)
      go_wp2_with fail
      go_ret
      exact ⟨by rw [HE.out]; rfl, HK1.out⟩
  · have g1 : decide (0 ≤ p) = false := decide_eq_false h1
    have HE := Lib.hid (show (decide (0 ≤ p) && (decide (p = b.f) && !isZ n)) = false by rw [g1]; rfl)
    go_wp2_with fail
    go_ret
    exact ⟨by rw [HE.out]; rfl, HK1.out⟩
theorem viewBlock_any (kA : Option Addr) (kc : Nat) (k : Cf) (b : Bk) (hb : WfB b) (w : World) (hk : k.ws.length ≤ 1000) (hsd : k.seed < 18446744073709551616) (hA : CellsAt w w.heap.size kA (intCells k.ws)) :
    Calls Try.prog 19 #[.agg #[.slice kA k.ws.length kc, .int .u64 k.seed, .int .i64 k.ep, .int .i64 k.nu, .int .i64 k.de], .agg #[.int .i64 b.s, .int .i64 b.f, .int .u64 b.p.1, .int .u64 b.p.2, .int .u64 b.t]] w fun e w' => e = .returned (.bool (blockC k b)) ∧ Kept w w' :=
  viewBlock_of kA kc k b (nameB b) (propC k b.s) w (fun w => name_any b hb w) fun w' q => prop_any kA kc k b.s w' (hA.kept q) hsd
set_option maxRecDepth 100000 in
set_option maxHeartbeats 1600000 in
theorem viewVote_any (kA : Option Addr) (kc : Nat) (k : Cf) (v : Vt) (hv : WfV v) (w : World) (hk : k.ws.length ≤ 1000) (hsd : k.seed < 18446744073709551616) (hA : CellsAt w w.heap.size kA (intCells k.ws)) :
    Calls Try.prog 20 #[.agg #[.slice kA k.ws.length kc, .int .u64 k.seed, .int .i64 k.ep, .int .i64 k.nu, .int .i64 k.de], .agg #[.int .i64 v.f, .int .i64 v.s, .int .u64 v.p.1, .int .u64 v.p.2]] w fun e w' => e = .returned (.bool (voteC k v)) ∧ Kept w w' := by
  have K0 := Lib.hid (((Kept.refl w).alloc (.cells #[.slice kA k.ws.length kc, .int .u64 k.seed, .int .i64 k.ep, .int .i64 k.nu, .int .i64 k.de] 25)).alloc (.cells #[.int .i64 v.f, .int .i64 v.s, .int .u64 v.p.1, .int .u64 v.p.2] 45))
  have HA := Lib.hid (hA.kept K0.out)
  have HB0 := Lib.hid ((HasCells.new w #[.slice kA k.ws.length kc, .int .u64 k.seed, .int .i64 k.ep, .int .i64 k.nu, .int .i64 k.de] 25 (w.heap.size) rfl).alloc (.cells #[.int .i64 v.f, .int .i64 v.s, .int .u64 v.p.1, .int .u64 v.p.2] 45))
  have HB := Lib.hid (HasCells.new (w.alloc (.cells #[.slice kA k.ws.length kc, .int .u64 k.seed, .int .i64 k.ep, .int .i64 k.nu, .int .i64 k.de] 25)) #[.int .i64 v.f, .int .i64 v.s, .int .u64 v.p.1, .int .u64 v.p.2] 45 (w.heap.size + 1) (by simp))
  clear hA
  go_enter Try.func20, Try.ntmps20
  go_wp2_with fail
  generalize (w.alloc (.cells #[.slice kA k.ws.length kc, .int .u64 k.seed, .int .i64 k.ep, .int .i64 k.nu, .int .i64 k.de] 25)).alloc (.cells #[.int .i64 v.f, .int .i64 v.s, .int .u64 v.p.1, .int .u64 v.p.2] 45) = W0 at *
  generalize w.heap.size + 1 = z1 at *
  generalize w.heap.size = z0 at *
  obtain ⟨b00, b01, b02, b03, b04⟩ := HB0.out.five
  have bz0 := HB0.out.1
  obtain ⟨b0, b1, b2, b3⟩ := HB.out.four
  have bz := HB.out.1
  go_wp2_with fail
  clear b00 b01 b02 b03 b04 bz0 b0 b1 b2 b3 bz
  refine (in_any kA kc k v.s v.f W0 HA.out hsd).mono ?_
  rintro e W1 ⟨rfl, k1⟩
  have HK1 := Lib.hid (K0.out.trans k1)
  clear k1
  go_wp2_with fail
  go_ret
  exact ⟨rfl, HK1.out⟩

end Go.Proofs.Ytacdiicnfoejoaa
