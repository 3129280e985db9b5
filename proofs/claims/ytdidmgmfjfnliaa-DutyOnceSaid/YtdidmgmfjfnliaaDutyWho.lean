/-
  The contracts of package duty's calls In and Proposer, and of those beneath them.
-/
import Derived.Test.YtdidmgmfjfnliaaDutyTotal
import Derived.Test.YtdidmgmfjfnliaaShufAt
import Derived.Deep.RegionHeld3
namespace Go.Proofs.Ytdidmgmfjfnliaa
open Go.ChangeShapes Go.WideShapes Go.ChangeAt Go.RowKit

theorem dutyC_may {k : Cf} {slot : Int} (h : mayC k = false) : dutyC k slot = false := by unfold dutyC; rw [h]; rfl
theorem dutyC_slot {k : Cf} {slot : Int} (h : mayC k = true) : dutyC k slot = decide (1 ≤ slot ∧ slot ≤ 1048576) := by unfold dutyC; rw [h]; rfl

set_option maxHeartbeats 800000 in
theorem has_any (A : Option Addr) (c : Nat) (k : Cf) (slot : Int) (w : World) (hA : CellsAt w w.heap.size A (intCells k.ws)) :
    Calls Try.prog 25 #[.agg #[.slice A k.ws.length c, .int .u64 k.seed, .int .i64 k.ep, .int .i64 k.nu, .int .i64 k.de], .int .i64 slot] w fun e w' => e = .returned (.bool (dutyC k slot)) ∧ Kept w w' := by
  have HA := Lib.hid hA
  clear hA
  cases hm : mayC k with
  | false =>
    have HM := Lib.hid hm
    have HR := Lib.hid (dutyC_may (slot := slot) hm)
    clear hm
    go_enter Try.func25, Try.ntmps25
    go_wp2_with fail
    refine (may_any A c k _ (conf_box HA.out).2.1).mono ?_
    rintro e W ⟨rfl, k1⟩
    rw [HM.out]
    have K1 := Lib.hid ((conf_box HA.out).2.2.trans k1)
    clear k1
    go_wp2_with fail
    go_ret
    exact ⟨by rw [HR.out]; rfl, K1.out⟩
  | true =>
    have HM := Lib.hid hm
    have HR := Lib.hid (dutyC_slot (slot := slot) hm)
    clear hm
    by_cases h1 : 1 ≤ slot
    · by_cases h2 : slot ≤ 1048576
      · have HS := Lib.hid (HR.out.trans (decide_eq_true ⟨h1, h2⟩))
        go_enter Try.func25, Try.ntmps25
        go_wp2_with fail
        refine (may_any A c k _ (conf_box HA.out).2.1).mono ?_
        rintro e W ⟨rfl, k1⟩
        rw [HM.out]
        have K1 := Lib.hid ((conf_box HA.out).2.2.trans k1)
        clear k1
        go_wp2_with fail
        go_ret
        exact ⟨by rw [HS.out]; first | rfl | (simp; done) | (simp; omega), K1.out⟩
      · have HS := Lib.hid (HR.out.trans (decide_eq_false (by omega)))
        go_enter Try.func25, Try.ntmps25
        go_wp2_with fail
        refine (may_any A c k _ (conf_box HA.out).2.1).mono ?_
        rintro e W ⟨rfl, k1⟩
        rw [HM.out]
        have K1 := Lib.hid ((conf_box HA.out).2.2.trans k1)
        clear k1
        go_wp2_with fail
        go_ret
        exact ⟨by rw [HS.out]; first | rfl | (simp; done) | (simp; omega), K1.out⟩
    · have HS := Lib.hid (HR.out.trans (decide_eq_false (by omega)))
      go_enter Try.func25, Try.ntmps25
      go_wp2_with fail
      refine (may_any A c k _ (conf_box HA.out).2.1).mono ?_
      rintro e W ⟨rfl, k1⟩
      rw [HM.out]
      have K1 := Lib.hid ((conf_box HA.out).2.2.trans k1)
      clear k1
      go_wp2_with fail
      go_ret
      exact ⟨by rw [HS.out]; first | rfl | (simp; done) | (simp; omega), K1.out⟩

set_option maxHeartbeats 800000 in
theorem valid_any (A : Option Addr) (c : Nat) (k : Cf) (who : Int) (w : World) :
    Calls Try.prog 33 #[.agg #[.slice A k.ws.length c, .int .u64 k.seed, .int .i64 k.ep, .int .i64 k.nu, .int .i64 k.de], .int .i64 who] w fun e w' => e = .returned (.bool (validC k who)) ∧ Kept w w' := by
  by_cases h1 : 0 ≤ who
  · by_cases h2 : who < (k.ws.length : Int)
    · have HS := Lib.hid (show validC k who = true from decide_eq_true ⟨h1, h2⟩)
      go_enter Try.func33, Try.ntmps33
      go_wp2
      go_ret
      exact ⟨by rw [HS.out]; first | rfl | (simp; done) | (simp; omega), (Kept.refl w).alloc _⟩
    · have HS := Lib.hid (show validC k who = false from decide_eq_false (by omega))
      go_enter Try.func33, Try.ntmps33
      go_wp2
      go_ret
      exact ⟨by rw [HS.out]; first | rfl | (simp; done) | (simp; omega), (Kept.refl w).alloc _⟩
  · have HS := Lib.hid (show validC k who = false from decide_eq_false (by omega))
    go_enter Try.func33, Try.ntmps33
    go_wp2
    go_ret
    exact ⟨by rw [HS.out]; first | rfl | (simp; done) | (simp; omega), (Kept.refl w).alloc _⟩

theorem three_keep {W w w' : World} {b : Nat} {x0 x1 x2 : Value} (hb : b < W.heap.size) (h : w.cell? ⟨b, 0, none⟩ = some x0 ∧ w.cell? ⟨b, 1, none⟩ = some x1 ∧ w.cell? ⟨b, 2, none⟩ = some x2 ∧ Kept W w) (k : Kept w w') :
    w'.cell? ⟨b, 0, none⟩ = some x0 ∧ w'.cell? ⟨b, 1, none⟩ = some x1 ∧ w'.cell? ⟨b, 2, none⟩ = some x2 ∧ Kept W w' := by
  have hb' : b < w.heap.size := Nat.lt_of_lt_of_le hb h.2.2.2.size_le
  exact ⟨(k.cell (p := ⟨b, 0, none⟩) hb').trans h.1, (k.cell (p := ⟨b, 1, none⟩) hb').trans h.2.1, (k.cell (p := ⟨b, 2, none⟩) hb').trans h.2.2.1, h.2.2.2.trans k⟩

set_option maxRecDepth 100000 in
set_option maxHeartbeats 1600000 in
theorem member_nat (A : Option Addr) (c : Nat) (k : Cf) (s E who : Nat) (w : World) (hep : k.ep = (E : Int)) (hE : 1 ≤ E) (hE8 : E ≤ 8) (hn0 : 1 ≤ k.ws.length) (hn : k.ws.length ≤ 1000) (hw : who < k.ws.length) (hs : s ≤ 1048576) (hsd : k.seed < 18446744073709551616) :
    Calls Try.prog 27 #[.agg #[.slice A k.ws.length c, .int .u64 k.seed, .int .i64 k.ep, .int .i64 k.nu, .int .i64 k.de], .int .i64 s, .int .i64 who] w fun e w' => e = .returned (.bool (memN k.seed k.ws.length E s who)) ∧ Kept w w' := by
  rw [hep]
  have hEz : ¬ E = 0 := by omega
  have hq : (s : Int).tdiv (E : Int) = ((s / E : Nat) : Int) := (Int.ofNat_tdiv s E).symm
  have hql : s / E ≤ s := Nat.div_le_self s E
  have HM := Lib.hid (show memN k.seed k.ws.length E s who = decide (atN (stepN k.seed (s / E)) k.ws.length who % E = s % E) from rfl)
  have hr : (s : Int).tmod (E : Int) = ((s % E : Nat) : Int) := (Int.ofNat_tmod s E).symm
  generalize s / E = q at *
  have hqw : IntKind.u64.wrap (q : Int) = (q : Int) := by rw [IntKind.wrap_u64]; omega
  have hqi : IntKind.i64.wrap (q : Int) = (q : Int) := by rw [IntKind.wrap_i64]; omega
  have hdl := stepN_lt k.seed q
  have HST := Lib.hid (fun w' => step_any k.seed q hsd (by omega) w')
  generalize stepN k.seed q = d at *
  have HAT := Lib.hid (fun w' => at_yes d k.ws.length who w' hdl hn0 hn hw)
  have hm : ((atN d k.ws.length who : Nat) : Int).tmod (E : Int) = ((atN d k.ws.length who % E : Nat) : Int) := (Int.ofNat_tmod _ E).symm
  generalize atN d k.ws.length who = a at *
  generalize a % E = x at *
  generalize s % E = y at *
  clear hep
  go_enter Try.func27, Try.ntmps27
  go_wp2_with fail
  have HC := Lib.hid (HasCells.new w #[.slice A k.ws.length c, .int .u64 k.seed, .int .i64 (E : Int), .int .i64 k.nu, .int .i64 k.de] 25 w.heap.size rfl)
  have HK := Lib.hid ((Kept.refl w).alloc (.cells #[.slice A k.ws.length c, .int .u64 k.seed, .int .i64 (E : Int), .int .i64 k.nu, .int .i64 k.de] 25))
  generalize w.alloc (.cells #[.slice A k.ws.length c, .int .u64 k.seed, .int .i64 (E : Int), .int .i64 k.nu, .int .i64 k.de] 25) = W at *
  generalize w.heap.size = z at *
  obtain ⟨c0, c1, c2, _, _⟩ := HC.out.five
  have hz := HC.out.1
  go_region_held3 (fun w' => w'.cell? ⟨z, 0, none⟩ = some (.slice A k.ws.length c) ∧ w'.cell? ⟨z, 1, none⟩ = some (.int .u64 k.seed) ∧ w'.cell? ⟨z, 2, none⟩ = some (.int .i64 (E : Int)) ∧ Kept W w')
    (first | exact ⟨c0, c1, c2, Kept.refl _⟩ | exact ⟨c0, c1, c2, (Kept.refl _).drew⟩ | assumption | exact three_keep hz (by assumption) (by assumption))
    (first
      | (go_at_call 34; ((with_reducible refine (HST.out _).mono ?_); rintro e w' ⟨rfl, rfl⟩)))
  rename_i hh
  obtain ⟨d0, d1, d2, dk⟩ := hh
  have HE := Lib.hid (show decide (x = y) = ((x : Int) == (y : Int)) by rw [Bool.eq_iff_iff]; simp; omega)
  go_wp2_with fail
  go_region_held3 (fun w' => w'.cell? ⟨z, 0, none⟩ = some (.slice A k.ws.length c) ∧ w'.cell? ⟨z, 1, none⟩ = some (.int .u64 k.seed) ∧ w'.cell? ⟨z, 2, none⟩ = some (.int .i64 (E : Int)) ∧ Kept W w')
    (first | exact ⟨d0, d1, d2, dk⟩ | exact ⟨d0, d1, d2, dk.drew⟩ | assumption | exact three_keep hz (by assumption) (by assumption))
    (first
      | (go_at_call 36; ((with_reducible refine (HAT.out _).mono ?_); rintro e w' ⟨rfl, kk⟩)))
  all_goals
    rename_i hh
    have hk := Lib.hid (HK.out.trans hh.2.2.2)
    clear hh
    go_wp2_with fail
    go_ret
    exact ⟨by rw [HM.out, HE.out]; rfl, hk.out⟩

/-- A conf that may be, in a slot: its numbers as natural ones. -/
theorem duty_nats {k : Cf} {slot : Int} (h : dutyC k slot = true) : ∃ E s : Nat, k.ep = (E : Int) ∧ slot = (s : Int) ∧ 1 ≤ E ∧ E ≤ 8 ∧ 1 ≤ s ∧ s ≤ 1048576 ∧ 1 ≤ k.ws.length ∧ k.ws.length ≤ 12 := by
  obtain ⟨hm, h1, h2⟩ := dutyC_yes h
  have := mayC_yes hm
  exact ⟨k.ep.toNat, slot.toNat, by omega, by omega, by omega, by omega, by omega, by omega, by omega, by omega⟩
theorem member_any (A : Option Addr) (c : Nat) (k : Cf) (slot who : Int) (w : World) (hd : dutyC k slot = true) (hv : validC k who = true) (hsd : k.seed < 18446744073709551616) :
    Calls Try.prog 27 #[.agg #[.slice A k.ws.length c, .int .u64 k.seed, .int .i64 k.ep, .int .i64 k.nu, .int .i64 k.de], .int .i64 slot, .int .i64 who] w fun e w' => e = .returned (.bool (memC k slot who.toNat)) ∧ Kept w w' := by
  obtain ⟨E, s, he, rfl, h1, h2, h3, h4, h5, h6⟩ := duty_nats hd
  have hv' := of_decide_eq_true hv
  obtain ⟨j, rfl⟩ : ∃ j : Nat, who = (j : Int) := ⟨who.toNat, by omega⟩
  have := member_nat A c k s E j w he h1 h2 h5 (by omega) (by omega) h4 hsd
  unfold memC
  rw [show k.ep.toNat = E by omega, Int.toNat_natCast, Int.toNat_natCast]
  exact this

theorem inC_no {k : Cf} {slot who : Int} (h : dutyC k slot = false) : inC k slot who = false := by unfold inC; rw [h]; rfl
theorem inC_out {k : Cf} {slot who : Int} (h : validC k who = false) : inC k slot who = false := by unfold inC; rw [h]; simp
theorem inC_yes {k : Cf} {slot who : Int} (h : dutyC k slot = true) (h' : validC k who = true) : inC k slot who = memC k slot who.toNat := by unfold inC; rw [h, h', Bool.true_and, Bool.true_and]

set_option maxHeartbeats 1600000 in
theorem in_any (A : Option Addr) (c : Nat) (k : Cf) (slot who : Int) (w : World) (hA : CellsAt w w.heap.size A (intCells k.ws)) (hsd : k.seed < 18446744073709551616) :
    Calls Try.prog 21 #[.agg #[.slice A k.ws.length c, .int .u64 k.seed, .int .i64 k.ep, .int .i64 k.nu, .int .i64 k.de], .int .i64 slot, .int .i64 who] w fun e w' => e = .returned (.bool (inC k slot who)) ∧ Kept w w' := by
  have HC := Lib.hid (conf_box (c := c) hA)
  clear hA
  cases hd : dutyC k slot with
  | false =>
    have HD := Lib.hid hd
    have HR := Lib.hid (inC_no (who := who) hd)
    clear hd
    go_enter Try.func21, Try.ntmps21
    go_wp2_with fail
    refine (has_any A c k slot _ HC.out.2.1).mono ?_
    rintro e W ⟨rfl, k1⟩
    rw [HD.out]
    have K1 := Lib.hid (HC.out.2.2.trans k1)
    clear k1
    go_wp2_with fail
    go_ret
    exact ⟨by rw [HR.out]; rfl, K1.out⟩
  | true =>
    cases hv : validC k who with
    | false =>
      have HD := Lib.hid hd
      have HV := Lib.hid hv
      have HR := Lib.hid (inC_out (slot := slot) hv)
      clear hd hv
      go_enter Try.func21, Try.ntmps21
      go_wp2_with fail
      refine (has_any A c k slot _ HC.out.2.1).mono ?_
      rintro e W ⟨rfl, k1⟩
      rw [HD.out]
      have K1 := Lib.hid (HC.out.2.2.trans k1)
      obtain ⟨c0, c1, c2, c3, c4⟩ := (HC.out.1.kept k1).five
      clear k1
      go_wp2_with fail
      refine (valid_any A c k who _).mono ?_
      rintro e W2 ⟨rfl, k2⟩
      rw [HV.out]
      have K2 := Lib.hid (K1.out.trans k2)
      clear k2 K1 c0 c1 c2 c3 c4
      go_wp2_with fail
      go_ret
      exact ⟨by rw [HR.out]; rfl, K2.out⟩
    | true =>
      have HD := Lib.hid hd
      have HV := Lib.hid hv
      have HR := Lib.hid (inC_yes hd hv)
      have HME := Lib.hid (fun w' => member_any A c k slot who w' hd hv hsd)
      clear hd hv
      go_enter Try.func21, Try.ntmps21
      go_wp2_with fail
      refine (has_any A c k slot _ HC.out.2.1).mono ?_
      rintro e W ⟨rfl, k1⟩
      rw [HD.out]
      have K1 := Lib.hid (HC.out.2.2.trans k1)
      have H1 := Lib.hid (HC.out.1.kept k1)
      obtain ⟨c0, c1, c2, c3, c4⟩ := H1.out.five
      clear k1
      go_wp2_with fail
      refine (valid_any A c k who _).mono ?_
      rintro e W2 ⟨rfl, k2⟩
      rw [HV.out]
      have K2 := Lib.hid (K1.out.trans k2)
      clear c0 c1 c2 c3 c4
      obtain ⟨c0, c1, c2, c3, c4⟩ := (H1.out.kept k2).five
      clear k2 K1
      go_wp2_with fail
      refine (HME.out _).mono ?_
      rintro e W3 ⟨rfl, k3⟩
      have K3 := Lib.hid (K2.out.trans k3)
      clear k3 K2 c0 c1 c2 c3 c4
      go_wp2_with fail
      go_ret
      exact ⟨by rw [HR.out]; rfl, K3.out⟩

theorem propC_no {k : Cf} {slot : Int} (h : dutyC k slot = false) : propC k slot = -1 := by unfold propC; rw [h]; rfl
set_option maxHeartbeats 1600000 in
theorem prop_any (A : Option Addr) (c : Nat) (k : Cf) (slot : Int) (w : World) (hA : CellsAt w w.heap.size A (intCells k.ws)) (hsd : k.seed < 18446744073709551616) :
    Calls Try.prog 22 #[.agg #[.slice A k.ws.length c, .int .u64 k.seed, .int .i64 k.ep, .int .i64 k.nu, .int .i64 k.de], .int .i64 slot] w fun e w' => e = .returned (.int .i64 (propC k slot)) ∧ Kept w w' := by
  have HC := Lib.hid (conf_box (c := c) hA)
  clear hA
  cases hd : dutyC k slot with
  | false =>
    have HD := Lib.hid hd
    have HR := Lib.hid (propC_no hd)
    clear hd
    go_enter Try.func22, Try.ntmps22
    go_wp2_with fail
    refine (has_any A c k slot _ HC.out.2.1).mono ?_
    rintro e W ⟨rfl, k1⟩
    rw [HD.out]
    have K1 := Lib.hid (HC.out.2.2.trans k1)
    clear k1
    go_wp2_with fail
    go_ret
    exact ⟨by rw [HR.out]; rfl, K1.out⟩
  | true =>
    have HD := Lib.hid hd
    obtain ⟨E, s, he, hs, h1, h2, h3, h4, h5, h6⟩ := duty_nats hd
    have HR := Lib.hid (show propC k slot = ((stepN (stepN k.seed 4294967296) s % k.ws.length : Nat) : Int) by unfold propC propN; rw [if_pos hd, hs, Int.toNat_natCast])
    have hsw : IntKind.u64.wrap slot = (s : Int) := by rw [hs, IntKind.wrap_u64]; omega
    have hnw : IntKind.u64.wrap (k.ws.length : Int) = (k.ws.length : Int) := by rw [IntKind.wrap_u64]; omega
    have HS1 := Lib.hid (fun w' => step_any k.seed 4294967296 hsd (by omega) w')
    have HS2 := Lib.hid (fun w' => step_any (stepN k.seed 4294967296) s (stepN_lt _ _) (by omega) w')
    have htm : ((stepN (stepN k.seed 4294967296) s : Nat) : Int).tmod (k.ws.length : Int) = ((stepN (stepN k.seed 4294967296) s % k.ws.length : Nat) : Int) := (Int.ofNat_tmod _ _).symm
    have hlt : stepN (stepN k.seed 4294967296) s % k.ws.length < k.ws.length := Nat.mod_lt _ (by omega)
    have hnz : ¬ k.ws.length = 0 := by omega
    generalize stepN (stepN k.seed 4294967296) s % k.ws.length = x at *
    generalize stepN (stepN k.seed 4294967296) s = y at *
    generalize stepN k.seed 4294967296 = y1 at *
    clear hd he hs
    go_enter Try.func22, Try.ntmps22
    go_wp2_with fail
    refine (has_any A c k slot _ HC.out.2.1).mono ?_
    rintro e W ⟨rfl, k1⟩
    rw [HD.out]
    have K1 := Lib.hid (HC.out.2.2.trans k1)
    have H1 := Lib.hid (HC.out.1.kept k1)
    obtain ⟨c0, c1, c2, c3, c4⟩ := H1.out.five
    clear k1
    go_wp2_with fail
    refine (HS1.out _).mono ?_
    rintro e w' ⟨rfl, rfl⟩
    go_wp2_with fail
    refine (HS2.out _).mono ?_
    rintro e w' ⟨rfl, rfl⟩
    go_wp2_with fail
    go_ret
    exact ⟨by rw [HR.out]; rfl, K1.out⟩
end Go.Proofs.Ytdidmgmfjfnliaa
