/-
  For every conf, every list of weights and every slot marigoldlaw05.DutySeeds returns true and leaves its arguments as they were: no further condition.
-/
import Derived.Test.YtdidmgmfjfnliaaDutyInts
namespace Go.Proofs.Ytdidmgmfjfnliaa.dutySeeds
open Go.ChangeShapes Go.WideShapes Go.ChangeAt Go.RowKit
set_option linter.unusedVariables false

theorem seeds_duty {k : Cf} {v : List Int} {slot : Int} (hm : mayC k = true) (hm' : mayC { k with ws := v } = true) : dutyC { k with ws := v } slot = dutyC k slot := by
  rw [dutyC_slot hm, dutyC_slot hm']
theorem seeds_comm {k : Cf} {v : List Int} {slot : Int} (hl : v.length = k.ws.length) (hm : mayC k = true) (hm' : mayC { k with ws := v } = true) : commC { k with ws := v } slot = commC k slot := by
  unfold commC
  rw [seeds_duty hm hm']
  show (if _ then commTo (memN k.seed v.length k.ep.toNat slot.toNat) v.length else []) = _
  rw [hl]
  rfl
theorem seeds_prop {k : Cf} {v : List Int} {slot : Int} (hl : v.length = k.ws.length) (hm : mayC k = true) (hm' : mayC { k with ws := v } = true) : propC { k with ws := v } slot = propC k slot := by
  unfold propC
  rw [seeds_duty hm hm']
  show (if _ then ((propN k.seed v.length slot.toNat : Nat) : Int) else -1) = _
  rw [hl]
theorem comm_len (k : Cf) (slot : Int) : (commC k slot).length ≤ 1000000 := by
  cases h : dutyC k slot with
  | false => rw [commC_no h]; simp
  | true =>
    rw [commC_yes h]
    have := commTo_length (memC k slot) k.ws.length
    have := (mayC_yes (dutyC_yes h).1).2.1
    omega

section
variable (vA : Option Addr) (vc : Nat) (k : Cf) (v : List Int) (slot : Int) (w : World) (hV : CellsAt w w.heap.size vA (intCells v))
include hV
theorem may_v : Calls Try.prog 16 #[.agg #[.slice vA v.length vc, .int .u64 k.seed, .int .i64 k.ep, .int .i64 k.nu, .int .i64 k.de]] w fun e w' => e = .returned (.bool (mayC { k with ws := v })) ∧ Kept w w' := may_any vA vc { k with ws := v } w hV
theorem comm_v (khs : k.seed < 18446744073709551616) (he : commC { k with ws := v } slot = commC k slot) : Calls Try.prog 14 #[.agg #[.slice vA v.length vc, .int .u64 k.seed, .int .i64 k.ep, .int .i64 k.nu, .int .i64 k.de], .int .i64 slot] w fun e w' => ∃ A' c', e = .returned (.slice A' (commC k slot).length c') ∧ CellsAt w' w'.heap.size A' (intCells (commC k slot)) ∧ Kept w w' := by
  have h := comm_any vA vc { k with ws := v } slot w hV khs
  rw [he] at h
  exact h
theorem prop_v (khs : k.seed < 18446744073709551616) (he : propC { k with ws := v } slot = propC k slot) : Calls Try.prog 22 #[.agg #[.slice vA v.length vc, .int .u64 k.seed, .int .i64 k.ep, .int .i64 k.nu, .int .i64 k.de], .int .i64 slot] w fun e w' => e = .returned (.int .i64 (propC k slot)) ∧ Kept w w' := by
  have h := prop_any vA vc { k with ws := v } slot w hV khs
  rw [he] at h
  exact h
end

/-! ### The walk: the call returns true, and of what was there nothing has changed. -/
set_option maxRecDepth 100000 in
set_option maxHeartbeats 3200000 in
theorem walk (w : World) (kA : Option Addr) (kc : Nat) (k : Cf) (khm : k.ws.length ≤ maxLen) (khs : k.seed < 18446744073709551616) (khl : CellsAt w w.heap.size kA (intCells k.ws)) (vA : Option Addr) (vc : Nat) (v : List Int) (vhm : v.length ≤ maxLen) (vhb : ∀ x ∈ v, -9223372036854775808 ≤ x ∧ x ≤ 9223372036854775807) (vhl : CellsAt w w.heap.size vA (intCells v)) (slot : Int) (hslot1 : -9223372036854775808 ≤ slot) (hslot2 : slot ≤ 9223372036854775807) :
    Calls Try.prog 9 #[.agg #[.slice kA k.ws.length kc, .int .u64 k.seed, .int .i64 k.ep, .int .i64 k.nu, .int .i64 k.de], .slice vA v.length vc, .int .i64 slot] w fun e w' => e = .returned (.bool true) ∧ Kept w w' := by
  by_cases hl : v.length = k.ws.length
  · have hlb : ((k.ws.length : Int) != (v.length : Int)) = false := by rw [hl]; simp
    cases hm : mayC k with
    | false =>
      have HM := Lib.hid hm
      clear hm hl
      obtain ⟨hC, hA, hK⟩ := conf_box (c := kc) khl
      have HC0 := Lib.hid hC
      have HA0 := Lib.hid hA
      have HK0 := Lib.hid hK
      have HLv0 := Lib.hid (vhl.kept hK)
      clear hC hA hK khl vhl
      go_enter Try.func9, Try.ntmps9
      go_wp2_with fail
      generalize w.alloc (.cells #[.slice kA k.ws.length kc, .int .u64 k.seed, .int .i64 k.ep, .int .i64 k.nu, .int .i64 k.de] 25) = W0 at *
      generalize w.heap.size = z at *
      refine (dutyAwake _).mono ?_
      rintro e W1 ⟨rfl, k1⟩
      have HC1 := Lib.hid (HC0.out.kept k1)
      have HA1 := Lib.hid (HA0.out.kept k1)
      have HLv1 := Lib.hid (HLv0.out.kept k1)
      have HK1 := Lib.hid (HK0.out.trans k1)
      clear k1 HC0 HA0 HLv0 HK0
      obtain ⟨c0, c1, c2, c3, c4⟩ := HC1.out.five
      have hz := HC1.out.1
      go_wp2_with fail
      clear c0 c1 c2 c3 c4 hz
      have k1 : Kept W1 (W1.alloc (.cells #[.slice vA v.length vc, .int .u64 k.seed, .int .i64 k.ep, .int .i64 k.nu, .int .i64 k.de] 25)) := (Kept.refl W1).alloc _
      have HD2 := Lib.hid (HasCells.new W1 #[.slice vA v.length vc, .int .u64 k.seed, .int .i64 k.ep, .int .i64 k.nu, .int .i64 k.de] 25 W1.heap.size rfl)
      have HC2 := Lib.hid (HC1.out.kept k1)
      have HA2 := Lib.hid (HA1.out.kept k1)
      have HLv2 := Lib.hid (HLv1.out.kept k1)
      have HK2 := Lib.hid (HK1.out.trans k1)
      clear k1 HC1 HA1 HLv1 HK1
      generalize W1.alloc (.cells #[.slice vA v.length vc, .int .u64 k.seed, .int .i64 k.ep, .int .i64 k.nu, .int .i64 k.de] 25) = W2 at *
      generalize W1.heap.size = y at *
      refine (may_any kA kc k _ HA2.out).mono ?_
      rintro e W3 ⟨rfl, k1⟩
      rw [HM.out]
      have HC3 := Lib.hid (HC2.out.kept k1)
      have HA3 := Lib.hid (HA2.out.kept k1)
      have HLv3 := Lib.hid (HLv2.out.kept k1)
      have HD3 := Lib.hid (HD2.out.kept k1)
      have HK3 := Lib.hid (HK2.out.trans k1)
      clear k1 HC2 HA2 HLv2 HD2 HK2
      obtain ⟨c0, c1, c2, c3, c4⟩ := HC3.out.five
      have hz := HC3.out.1
      go_wp2_with fail
      clear c0 c1 c2 c3 c4 hz
      go_ret
      exact ⟨rfl, HK3.out⟩
    | true =>
      cases hm' : mayC { k with ws := v } with
      | false =>
        have HM := Lib.hid hm
        have HM' := Lib.hid hm'
        clear hm hm' hl
        obtain ⟨hC, hA, hK⟩ := conf_box (c := kc) khl
        have HC0 := Lib.hid hC
        have HA0 := Lib.hid hA
        have HK0 := Lib.hid hK
        have HLv0 := Lib.hid (vhl.kept hK)
        clear hC hA hK khl vhl
        go_enter Try.func9, Try.ntmps9
        go_wp2_with fail
        generalize w.alloc (.cells #[.slice kA k.ws.length kc, .int .u64 k.seed, .int .i64 k.ep, .int .i64 k.nu, .int .i64 k.de] 25) = W0 at *
        generalize w.heap.size = z at *
        refine (dutyAwake _).mono ?_
        rintro e W1 ⟨rfl, k1⟩
        have HC1 := Lib.hid (HC0.out.kept k1)
        have HA1 := Lib.hid (HA0.out.kept k1)
        have HLv1 := Lib.hid (HLv0.out.kept k1)
        have HK1 := Lib.hid (HK0.out.trans k1)
        clear k1 HC0 HA0 HLv0 HK0
        obtain ⟨c0, c1, c2, c3, c4⟩ := HC1.out.five
        have hz := HC1.out.1
        go_wp2_with fail
        clear c0 c1 c2 c3 c4 hz
        have k1 : Kept W1 (W1.alloc (.cells #[.slice vA v.length vc, .int .u64 k.seed, .int .i64 k.ep, .int .i64 k.nu, .int .i64 k.de] 25)) := (Kept.refl W1).alloc _
        have HD2 := Lib.hid (HasCells.new W1 #[.slice vA v.length vc, .int .u64 k.seed, .int .i64 k.ep, .int .i64 k.nu, .int .i64 k.de] 25 W1.heap.size rfl)
        have HC2 := Lib.hid (HC1.out.kept k1)
        have HA2 := Lib.hid (HA1.out.kept k1)
        have HLv2 := Lib.hid (HLv1.out.kept k1)
        have HK2 := Lib.hid (HK1.out.trans k1)
        clear k1 HC1 HA1 HLv1 HK1
        generalize W1.alloc (.cells #[.slice vA v.length vc, .int .u64 k.seed, .int .i64 k.ep, .int .i64 k.nu, .int .i64 k.de] 25) = W2 at *
        generalize W1.heap.size = y at *
        refine (may_any kA kc k _ HA2.out).mono ?_
        rintro e W3 ⟨rfl, k1⟩
        rw [HM.out]
        have HC3 := Lib.hid (HC2.out.kept k1)
        have HA3 := Lib.hid (HA2.out.kept k1)
        have HLv3 := Lib.hid (HLv2.out.kept k1)
        have HD3 := Lib.hid (HD2.out.kept k1)
        have HK3 := Lib.hid (HK2.out.trans k1)
        clear k1 HC2 HA2 HLv2 HD2 HK2
        obtain ⟨c0, c1, c2, c3, c4⟩ := HC3.out.five
        have hz := HC3.out.1
        obtain ⟨d0, d1, d2, d3, d4⟩ := HD3.out.five
        have hy := HD3.out.1
        go_wp2_with fail
        refine (may_v vA vc k v _ HLv3.out).mono ?_
        rintro e W4 ⟨rfl, k1⟩
        rw [HM'.out]
        have HC4 := Lib.hid (HC3.out.kept k1)
        have HA4 := Lib.hid (HA3.out.kept k1)
        have HLv4 := Lib.hid (HLv3.out.kept k1)
        have HD4 := Lib.hid (HD3.out.kept k1)
        have HK4 := Lib.hid (HK3.out.trans k1)
        clear k1 HC3 HA3 HLv3 HD3 HK3
        clear c0 c1 c2 c3 c4 hz d0 d1 d2 d3 d4 hy
        obtain ⟨c0, c1, c2, c3, c4⟩ := HC4.out.five
        have hz := HC4.out.1
        obtain ⟨d0, d1, d2, d3, d4⟩ := HD4.out.five
        have hy := HD4.out.1
        go_wp2_with fail
        go_ret
        exact ⟨rfl, HK4.out⟩
      | true =>
        have HM := Lib.hid hm
        have HM' := Lib.hid hm'
        have HE := Lib.hid (seeds_comm (slot := slot) hl hm hm')
        have HP := Lib.hid (seeds_prop (slot := slot) hl hm hm')
        have HLen := Lib.hid (comm_len k slot)
        clear hm hm' hl
        obtain ⟨hC, hA, hK⟩ := conf_box (c := kc) khl
        have HC0 := Lib.hid hC
        have HA0 := Lib.hid hA
        have HK0 := Lib.hid hK
        have HLv0 := Lib.hid (vhl.kept hK)
        clear hC hA hK khl vhl
        go_enter Try.func9, Try.ntmps9
        go_wp2_with fail
        generalize w.alloc (.cells #[.slice kA k.ws.length kc, .int .u64 k.seed, .int .i64 k.ep, .int .i64 k.nu, .int .i64 k.de] 25) = W0 at *
        generalize w.heap.size = z at *
        refine (dutyAwake _).mono ?_
        rintro e W1 ⟨rfl, k1⟩
        have HC1 := Lib.hid (HC0.out.kept k1)
        have HA1 := Lib.hid (HA0.out.kept k1)
        have HLv1 := Lib.hid (HLv0.out.kept k1)
        have HK1 := Lib.hid (HK0.out.trans k1)
        clear k1 HC0 HA0 HLv0 HK0
        obtain ⟨c0, c1, c2, c3, c4⟩ := HC1.out.five
        have hz := HC1.out.1
        go_wp2_with fail
        clear c0 c1 c2 c3 c4 hz
        have k1 : Kept W1 (W1.alloc (.cells #[.slice vA v.length vc, .int .u64 k.seed, .int .i64 k.ep, .int .i64 k.nu, .int .i64 k.de] 25)) := (Kept.refl W1).alloc _
        have HD2 := Lib.hid (HasCells.new W1 #[.slice vA v.length vc, .int .u64 k.seed, .int .i64 k.ep, .int .i64 k.nu, .int .i64 k.de] 25 W1.heap.size rfl)
        have HC2 := Lib.hid (HC1.out.kept k1)
        have HA2 := Lib.hid (HA1.out.kept k1)
        have HLv2 := Lib.hid (HLv1.out.kept k1)
        have HK2 := Lib.hid (HK1.out.trans k1)
        clear k1 HC1 HA1 HLv1 HK1
        generalize W1.alloc (.cells #[.slice vA v.length vc, .int .u64 k.seed, .int .i64 k.ep, .int .i64 k.nu, .int .i64 k.de] 25) = W2 at *
        generalize W1.heap.size = y at *
        refine (may_any kA kc k _ HA2.out).mono ?_
        rintro e W3 ⟨rfl, k1⟩
        rw [HM.out]
        have HC3 := Lib.hid (HC2.out.kept k1)
        have HA3 := Lib.hid (HA2.out.kept k1)
        have HLv3 := Lib.hid (HLv2.out.kept k1)
        have HD3 := Lib.hid (HD2.out.kept k1)
        have HK3 := Lib.hid (HK2.out.trans k1)
        clear k1 HC2 HA2 HLv2 HD2 HK2
        obtain ⟨c0, c1, c2, c3, c4⟩ := HC3.out.five
        have hz := HC3.out.1
        obtain ⟨d0, d1, d2, d3, d4⟩ := HD3.out.five
        have hy := HD3.out.1
        go_wp2_with fail
        refine (may_v vA vc k v _ HLv3.out).mono ?_
        rintro e W4 ⟨rfl, k1⟩
        rw [HM'.out]
        have HC4 := Lib.hid (HC3.out.kept k1)
        have HA4 := Lib.hid (HA3.out.kept k1)
        have HLv4 := Lib.hid (HLv3.out.kept k1)
        have HD4 := Lib.hid (HD3.out.kept k1)
        have HK4 := Lib.hid (HK3.out.trans k1)
        clear k1 HC3 HA3 HLv3 HD3 HK3
        clear c0 c1 c2 c3 c4 hz d0 d1 d2 d3 d4 hy
        obtain ⟨c0, c1, c2, c3, c4⟩ := HC4.out.five
        have hz := HC4.out.1
        obtain ⟨d0, d1, d2, d3, d4⟩ := HD4.out.five
        have hy := HD4.out.1
        go_wp2_with fail
        have HC1 := Lib.hid (fun w' (hk : w'.cell? ⟨z, 0, none⟩ = some (.slice kA k.ws.length kc) ∧ w'.cell? ⟨z, 1, none⟩ = some (.int .u64 k.seed) ∧ w'.cell? ⟨z, 2, none⟩ = some (.int .i64 k.ep) ∧ w'.cell? ⟨z, 3, none⟩ = some (.int .i64 k.nu) ∧ w'.cell? ⟨z, 4, none⟩ = some (.int .i64 k.de) ∧ w'.cell? ⟨y, 0, none⟩ = some (.slice vA v.length vc) ∧ w'.cell? ⟨y, 1, none⟩ = some (.int .u64 k.seed) ∧ w'.cell? ⟨y, 2, none⟩ = some (.int .i64 k.ep) ∧ w'.cell? ⟨y, 3, none⟩ = some (.int .i64 k.nu) ∧ w'.cell? ⟨y, 4, none⟩ = some (.int .i64 k.de) ∧ Kept W4 w') => comm_any kA kc k slot w' (HA4.out.kept hk.2.2.2.2.2.2.2.2.2.2) khs)
        have HC2 := Lib.hid (fun w' (hk : w'.cell? ⟨z, 0, none⟩ = some (.slice kA k.ws.length kc) ∧ w'.cell? ⟨z, 1, none⟩ = some (.int .u64 k.seed) ∧ w'.cell? ⟨z, 2, none⟩ = some (.int .i64 k.ep) ∧ w'.cell? ⟨z, 3, none⟩ = some (.int .i64 k.nu) ∧ w'.cell? ⟨z, 4, none⟩ = some (.int .i64 k.de) ∧ w'.cell? ⟨y, 0, none⟩ = some (.slice vA v.length vc) ∧ w'.cell? ⟨y, 1, none⟩ = some (.int .u64 k.seed) ∧ w'.cell? ⟨y, 2, none⟩ = some (.int .i64 k.ep) ∧ w'.cell? ⟨y, 3, none⟩ = some (.int .i64 k.nu) ∧ w'.cell? ⟨y, 4, none⟩ = some (.int .i64 k.de) ∧ Kept W4 w') => comm_v vA vc k v slot w' (HLv4.out.kept hk.2.2.2.2.2.2.2.2.2.2) khs HE.out)
        have HP1 := Lib.hid (fun w' (hk : w'.cell? ⟨z, 0, none⟩ = some (.slice kA k.ws.length kc) ∧ w'.cell? ⟨z, 1, none⟩ = some (.int .u64 k.seed) ∧ w'.cell? ⟨z, 2, none⟩ = some (.int .i64 k.ep) ∧ w'.cell? ⟨z, 3, none⟩ = some (.int .i64 k.nu) ∧ w'.cell? ⟨z, 4, none⟩ = some (.int .i64 k.de) ∧ w'.cell? ⟨y, 0, none⟩ = some (.slice vA v.length vc) ∧ w'.cell? ⟨y, 1, none⟩ = some (.int .u64 k.seed) ∧ w'.cell? ⟨y, 2, none⟩ = some (.int .i64 k.ep) ∧ w'.cell? ⟨y, 3, none⟩ = some (.int .i64 k.nu) ∧ w'.cell? ⟨y, 4, none⟩ = some (.int .i64 k.de) ∧ Kept W4 w') => prop_any kA kc k slot w' (HA4.out.kept hk.2.2.2.2.2.2.2.2.2.2) khs)
        have HP2 := Lib.hid (fun w' (hk : w'.cell? ⟨z, 0, none⟩ = some (.slice kA k.ws.length kc) ∧ w'.cell? ⟨z, 1, none⟩ = some (.int .u64 k.seed) ∧ w'.cell? ⟨z, 2, none⟩ = some (.int .i64 k.ep) ∧ w'.cell? ⟨z, 3, none⟩ = some (.int .i64 k.nu) ∧ w'.cell? ⟨z, 4, none⟩ = some (.int .i64 k.de) ∧ w'.cell? ⟨y, 0, none⟩ = some (.slice vA v.length vc) ∧ w'.cell? ⟨y, 1, none⟩ = some (.int .u64 k.seed) ∧ w'.cell? ⟨y, 2, none⟩ = some (.int .i64 k.ep) ∧ w'.cell? ⟨y, 3, none⟩ = some (.int .i64 k.nu) ∧ w'.cell? ⟨y, 4, none⟩ = some (.int .i64 k.de) ∧ Kept W4 w') => prop_v vA vc k v slot w' (HLv4.out.kept hk.2.2.2.2.2.2.2.2.2.2) khs HP.out)
        clear HE HP
        generalize commC k slot = l at *
        generalize propC k slot = p at *
        go_region_held3 (fun w' => w'.cell? ⟨z, 0, none⟩ = some (.slice kA k.ws.length kc) ∧ w'.cell? ⟨z, 1, none⟩ = some (.int .u64 k.seed) ∧ w'.cell? ⟨z, 2, none⟩ = some (.int .i64 k.ep) ∧ w'.cell? ⟨z, 3, none⟩ = some (.int .i64 k.nu) ∧ w'.cell? ⟨z, 4, none⟩ = some (.int .i64 k.de) ∧ w'.cell? ⟨y, 0, none⟩ = some (.slice vA v.length vc) ∧ w'.cell? ⟨y, 1, none⟩ = some (.int .u64 k.seed) ∧ w'.cell? ⟨y, 2, none⟩ = some (.int .i64 k.ep) ∧ w'.cell? ⟨y, 3, none⟩ = some (.int .i64 k.nu) ∧ w'.cell? ⟨y, 4, none⟩ = some (.int .i64 k.de) ∧ Kept W4 w')
          (first | exact ⟨c0, c1, c2, c3, c4, d0, d1, d2, d3, d4, Kept.refl _⟩ | exact ⟨c0, c1, c2, c3, c4, d0, d1, d2, d3, d4, (Kept.refl _).drew⟩ | assumption | exact ten_keep hz hy (by assumption) (by assumption))
          (first
            | (go_at_call 14; ((with_reducible refine (HC1.out _ (by assumption)).mono ?_); rintro e w' ⟨A', c', rfl, hcl, kk⟩))
            | (go_at_call 14; ((with_reducible refine (HC2.out _ (by assumption)).mono ?_); rintro e w' ⟨A'', c'', rfl, hcl2, kk⟩; have hcl1 := hcl.kept kk))
            | (go_at_call 13; ((with_reducible refine (ints_same A' c' A'' c'' l _ HLen.out hcl1 hcl2).mono ?_); rintro e w' ⟨rfl, kk⟩)))
        rename_i hh
        obtain ⟨e0, e1, e2, e3, e4, f0, f1, f2, f3, f4, fk⟩ := hh
        clear hcl hcl1 hcl2
        go_wp2_with fail
        go_region_held3 (fun w' => w'.cell? ⟨z, 0, none⟩ = some (.slice kA k.ws.length kc) ∧ w'.cell? ⟨z, 1, none⟩ = some (.int .u64 k.seed) ∧ w'.cell? ⟨z, 2, none⟩ = some (.int .i64 k.ep) ∧ w'.cell? ⟨z, 3, none⟩ = some (.int .i64 k.nu) ∧ w'.cell? ⟨z, 4, none⟩ = some (.int .i64 k.de) ∧ w'.cell? ⟨y, 0, none⟩ = some (.slice vA v.length vc) ∧ w'.cell? ⟨y, 1, none⟩ = some (.int .u64 k.seed) ∧ w'.cell? ⟨y, 2, none⟩ = some (.int .i64 k.ep) ∧ w'.cell? ⟨y, 3, none⟩ = some (.int .i64 k.nu) ∧ w'.cell? ⟨y, 4, none⟩ = some (.int .i64 k.de) ∧ Kept W4 w')
          (first | exact ⟨e0, e1, e2, e3, e4, f0, f1, f2, f3, f4, fk⟩ | exact ⟨e0, e1, e2, e3, e4, f0, f1, f2, f3, f4, fk.drew⟩ | assumption | exact ten_keep hz hy (by assumption) (by assumption))
          (first
            | (go_at_call 22; ((with_reducible refine (HP1.out _ (by assumption)).mono ?_); rintro e w' ⟨rfl, kk⟩))
            | (go_at_call 22; ((with_reducible refine (HP2.out _ (by assumption)).mono ?_); rintro e w' ⟨rfl, kk⟩)))
        rename_i hh
        have hk := Lib.hid (HK4.out.trans hh.2.2.2.2.2.2.2.2.2.2)
        clear hh
        go_wp2_with fail
        go_ret
        exact ⟨by first | rfl | (simp; done), hk.out⟩
  · have hlb : ((k.ws.length : Int) != (v.length : Int)) = true := by simp; omega
    clear hl
    obtain ⟨hC, hA, hK⟩ := conf_box (c := kc) khl
    have HC0 := Lib.hid hC
    have HA0 := Lib.hid hA
    have HK0 := Lib.hid hK
    have HLv0 := Lib.hid (vhl.kept hK)
    clear hC hA hK khl vhl
    go_enter Try.func9, Try.ntmps9
    go_wp2_with fail
    generalize w.alloc (.cells #[.slice kA k.ws.length kc, .int .u64 k.seed, .int .i64 k.ep, .int .i64 k.nu, .int .i64 k.de] 25) = W0 at *
    generalize w.heap.size = z at *
    refine (dutyAwake _).mono ?_
    rintro e W1 ⟨rfl, k1⟩
    have HC1 := Lib.hid (HC0.out.kept k1)
    have HA1 := Lib.hid (HA0.out.kept k1)
    have HLv1 := Lib.hid (HLv0.out.kept k1)
    have HK1 := Lib.hid (HK0.out.trans k1)
    clear k1 HC0 HA0 HLv0 HK0
    obtain ⟨c0, c1, c2, c3, c4⟩ := HC1.out.five
    have hz := HC1.out.1
    go_wp2_with fail
    clear c0 c1 c2 c3 c4 hz
    go_ret
    exact ⟨rfl, HK1.out.alloc _⟩

/-! ### The row's step -/
set_option maxRecDepth 100000 in
theorem lifted (os : Os) (started : os.Started) (H : Type) (enc : TypeId × Value → H) :
    ReturnsInHanded {} Try.checked os 9 .any (Rows.dutySeedsSpec.pre6 enc Try.prog Try.f9 Rows.dutySeedsRow.domain false) (Rows.dutySeedsSpec.post enc Try.prog Try.f9 false true false false) := by
  refine returnsInHanded_of_change (C := Try.checked) own started (by kernel_rfl) Try.func9
    (ChangeSpec.witness6 (enc := enc) (C := Try.checked) false ⟨#[], #[.agg #[.slice none 0 0, .int .u64 0, .int .i64 0, .int .i64 0, .int .i64 0], .slice none 0 0, .int .i64 0], []⟩ 8 (by kernel_rfl) (by kernel_rfl) (by kernel_rfl) (by kernel_rfl)) ?_
  intro W base args ds gs before hval0 hW hcnd _
  have hval : ∀ (j : Nat) t v, Try.f9.params[j]? = some t → args[j]? = some v → Value.okWide Try.prog W .any base t v := hval0
  have hW' := hW
  obtain ⟨p, q, hA0, hV, rfl, hfz, hnd⟩ := hW
  have hA : DataW.TrodAll enc Try.prog W 0 (fun _ => true) true Try.f9.params.toList args.toList ds p := hA0
  rw [Try.params9] at hA hval
  obtain ⟨v0, vs0, d0, ds0, p0, q0, hargs, rfl, rfl, h0, r0⟩ := trodAll_cons hA
  obtain ⟨v1, vs1, d1, ds1, p1, q1, rfl, rfl, rfl, h1, r1⟩ := trodAll_cons r0
  obtain ⟨v2, vs2, d2, ds2, p2, q2, rfl, rfl, rfl, h2, r2⟩ := trodAll_cons r1
  obtain ⟨rfl, rfl, rfl⟩ := trodAll_nil r2
  obtain rfl : args = #[v0, v1, v2] := by cases args; simp_all
  obtain ⟨rfl, rfl⟩ := trodVars_none hV
  obtain ⟨kA, kc, k, rfl, khm, khs, khl⟩ := open_conf (hval 0 _ v0 rfl rfl) h0
  obtain ⟨vA, vc, v, rfl, vhm, vhb, vhl⟩ := open_list (hval 1 _ v1 rfl rfl) h1
  obtain ⟨slot, rfl, hslot1, hslot2⟩ := open_num (hval 2 _ v2 rfl rfl) h2
  clear hA0 hval0
  refine (walk W kA kc k khm khs khl vA vc v vhm vhb vhl slot hslot1 hslot2).mono fun e W' ⟨he, hb⟩ => ?_
  subst he
  exact ⟨_, rfl, law_post rfl (by kernel_rfl) rfl hW' rfl hb⟩

theorem over : Rows.dutySeedsRow.holds Try.pinned (OpenSpec.ofChange Rows.dutySeedsSpec) :=
  OpenClaim.holds_of_wide 9 Try.f9 rfl rfl rfl rfl rfl rfl rfl ⟨rfl, rfl, rfl, rfl, rfl⟩ rfl rfl rfl rfl rfl (by kernel_rfl) Try.func9 (by kernel_rfl)
    (of_decide_eq_true (by kernel_rfl)) (by unfold Func.isWrapper; first | (rw [if_pos (by decide +kernel)]; kernel_rfl) | (rw [if_neg (by decide +kernel)]; exact ⟨rfl, rfl⟩))
    (fun os started H enc _ => lifted os started H enc)

/-- The statement. -/
theorem proved : Rows.DutySeedsSaid :=
  over
#print axioms proved
end Go.Proofs.Ytdidmgmfjfnliaa.dutySeeds
