/-
  The contracts of ffg's isValidator, mayAsk, mayBe and areEnough.
-/
import Derived.Test.YthaofomhlmajbaaFfgUnder
import Derived.Test.YthaofomhlmajbaaRatio
import Derived.Test.YthaofomhlmajbaaDutyG
import Derived.Test.YthaofomhlmajbaaTreeG
import Derived.Test.YthaofomhlmajbaaFfgMath
import Derived.Test.YthaofomhlmajbaaFfgEq
import Derived.Test.YthaofomhlmajbaaGround
namespace Go.Proofs.Ythaofomhlmajbaa
set_option maxRecDepth 100000
set_option linter.unusedVariables false
set_option linter.unusedSimpArgs false
set_option linter.unusedSimpArgs false
set_option linter.unusedVariables false
open Go.ChangeShapes Go.WideShapes Go.ChangeAt Go.RowKit

def valK (k : Cf) (f : Int) : Bool := decide (0 ≤ f ∧ f < k.ws.length)
set_option maxRecDepth 100000 in
set_option maxHeartbeats 3200000 in
theorem ffgVal_any (A : Option Addr) (c : Nat) (k : Cf) (hk : k.ws.length ≤ 1000) (f : Int) (w : World) :
    Calls Try.prog 58 #[.agg #[.slice A k.ws.length c, .int .u64 k.seed, .int .i64 k.ep, .int .i64 k.nu, .int .i64 k.de], .int .i64 f] w fun e w' => e = .returned (.bool (valK k f)) ∧ Kept w w' := by
  have K0 := Lib.hid ((Kept.refl w).alloc (.cells #[.slice A k.ws.length c, .int .u64 k.seed, .int .i64 k.ep, .int .i64 k.nu, .int .i64 k.de] 37))
  have HV : Hid (valK k f = decide (0 ≤ f ∧ f < k.ws.length)) := Lib.hid rfl
  generalize valK k f = res at *
  by_cases h0 : 0 ≤ f
  · by_cases h1 : f < (k.ws.length : Int)
    · have HE := Lib.hid (show res = true by rw [HV.out]; exact decide_eq_true ⟨h0, h1⟩)
      go_enter Try.func58, Try.ntmps58
      go_wp2_with fail
      go_ret
      exact ⟨by rw [HE.out]; first | rfl | (simp; done), K0.out⟩
    · have HE := Lib.hid (show res = false by rw [HV.out]; exact decide_eq_false (by omega))
      go_enter Try.func58, Try.ntmps58
      go_wp2_with fail
      go_ret
      exact ⟨by rw [HE.out]; first | rfl | (simp [h1]; done), K0.out⟩
  · have HE := Lib.hid (show res = false by rw [HV.out]; exact decide_eq_false (by omega))
    go_enter Try.func58, Try.ntmps58
    go_wp2_with fail
    go_ret
    exact ⟨by rw [HE.out]; first | rfl | (simp [h0]; done), K0.out⟩
set_option maxRecDepth 100000 in
set_option maxHeartbeats 3200000 in
theorem mayAsk_any (A : Option Addr) (c : Nat) (k : Cf) (L : Option Addr) (cl : Nat) (l : List Bk) (w : World)
    (hl : l.length ≤ 1000000) (hwl : WfL l) (hA : CellsAt w w.heap.size A (intCells k.ws)) (hL : CellsAt w w.heap.size L (blockCells l)) :
    Calls Try.prog 26 #[.agg #[.slice A k.ws.length c, .int .u64 k.seed, .int .i64 k.ep, .int .i64 k.nu, .int .i64 k.de], .slice L l.length cl] w fun e w' => e = .returned (.bool (mayC k && mayB l)) ∧ Kept w w' := by
  have K0 := Lib.hid ((Kept.refl w).alloc (.cells #[.slice A k.ws.length c, .int .u64 k.seed, .int .i64 k.ep, .int .i64 k.nu, .int .i64 k.de] 37))
  have HC := Lib.hid (HasCells.new w #[.slice A k.ws.length c, .int .u64 k.seed, .int .i64 k.ep, .int .i64 k.nu, .int .i64 k.de] 37 w.heap.size rfl)
  have HA := Lib.hid (hA.kept K0.out)
  have HL := Lib.hid (hL.kept K0.out)
  have HWL := Lib.hid hwl
  clear hA hL hwl
  have HD := Lib.hid (fun w' (kk : Kept (w.alloc (.cells #[.slice A k.ws.length c, .int .u64 k.seed, .int .i64 k.ep, .int .i64 k.nu, .int .i64 k.de] 37)) w') => mayD_any A c k w' (HA.out.kept kk))
  have HT := Lib.hid (fun w' (kk : Kept (w.alloc (.cells #[.slice A k.ws.length c, .int .u64 k.seed, .int .i64 k.ep, .int .i64 k.nu, .int .i64 k.de] 37)) w') => may_any L cl l hl HWL.out w' (HL.out.kept kk))
  generalize mayC k = ma at *
  generalize mayB l = mb at *
  go_enter Try.func26, Try.ntmps26
  go_wp2_with fail
  generalize w.alloc (.cells #[.slice A k.ws.length c, .int .u64 k.seed, .int .i64 k.ep, .int .i64 k.nu, .int .i64 k.de] 37) = W at *
  generalize w.heap.size = z0 at *
  refine (HD.out W (Kept.refl W)).mono ?_
  rintro e W1 ⟨rfl, k1⟩
  have K1 := Lib.hid k1
  clear k1
  cases ma with
  | false =>
    go_wp2_with fail
    go_ret
    exact ⟨by first | rfl | (simp; done), K0.out.trans K1.out⟩
  | true =>
    go_wp2_with fail
    refine (HT.out W1 K1.out).mono ?_
    rintro e W2 ⟨rfl, k2⟩
    have K2 := Lib.hid (K1.out.trans k2)
    clear k2
    go_wp2_with fail
    go_ret
    exact ⟨by first | rfl | (simp; done), K0.out.trans K2.out⟩
def wayK (s t : Ck) : Bool := decide (0 ≤ s.e ∧ s.e < t.e ∧ t.e ≤ 1048576)
set_option maxRecDepth 100000 in
set_option maxHeartbeats 3200000 in
theorem wayMay_any (b m : Nat) (g : Id2 → Option (Nat × Nat)) (x : Ck × Ck) (hx : WfWay x) (w : World) (HM : ReachM b m g w) :
    Calls Try.prog 45 #[.agg #[.int .i64 x.1.e, .int .u64 x.1.r.1, .int .u64 x.1.r.2, .int .i64 x.2.e, .int .u64 x.2.r.1, .int .u64 x.2.r.2], .map (some b)] w fun e w' => e = .returned (.bool (wayK x.1 x.2 && underR g x.1.r x.2.r)) ∧ Kept w w' := by
  have K0 := Lib.hid ((Kept.refl w).alloc (.cells #[.int .i64 x.1.e, .int .u64 x.1.r.1, .int .u64 x.1.r.2, .int .i64 x.2.e, .int .u64 x.2.r.1, .int .u64 x.2.r.2] 89))
  have HC := Lib.hid (HasCells.new w #[.int .i64 x.1.e, .int .u64 x.1.r.1, .int .u64 x.1.r.2, .int .i64 x.2.e, .int .u64 x.2.r.1, .int .u64 x.2.r.2] 89 w.heap.size rfl)
  have HM1 := Lib.hid (HM.kept K0.out)
  have HX := Lib.hid hx
  clear HM hx
  obtain ⟨s, t⟩ := x
  have HV : Hid (wayK s t = decide (0 ≤ s.e ∧ s.e < t.e ∧ t.e ≤ 1048576)) := Lib.hid rfl
  (try dsimp only)
  generalize wayK s t = res at *
  have HU := Lib.hid (fun w' (kk : Kept (w.alloc (.cells #[.int .i64 s.e, .int .u64 s.r.1, .int .u64 s.r.2, .int .i64 t.e, .int .u64 t.r.1, .int .u64 t.r.2] 89)) w') => reachUnder_any b m g s.r t.r HX.out.1.2 HX.out.2.2 w' (HM1.out.kept kk))
  generalize underR g s.r t.r = u at *
  by_cases h0 : 0 ≤ s.e
  · by_cases h1 : s.e < t.e
    · by_cases h2 : t.e ≤ 1048576
      · have HE := Lib.hid (show res = true by rw [HV.out]; exact decide_eq_true ⟨h0, h1, h2⟩)
        clear HV
        go_enter Try.func45, Try.ntmps45
        go_wp2_with fail
        generalize w.alloc (.cells #[.int .i64 s.e, .int .u64 s.r.1, .int .u64 s.r.2, .int .i64 t.e, .int .u64 t.r.1, .int .u64 t.r.2] 89) = W at *
        generalize w.heap.size = z0 at *
        refine (HU.out W (Kept.refl W)).mono ?_
        rintro e W1 ⟨rfl, k1⟩
        have K1 := Lib.hid k1
        clear k1
        go_wp2_with fail
        go_ret
        exact ⟨by rw [HE.out]; first | rfl | (simp; done), K0.out.trans K1.out⟩
      · have HE := Lib.hid (show res = false by rw [HV.out]; exact decide_eq_false (by omega))
        go_enter Try.func45, Try.ntmps45
        go_wp2_with fail
        go_ret
        exact ⟨by rw [HE.out]; first | rfl | (simp; done), K0.out⟩
    · have HE := Lib.hid (show res = false by rw [HV.out]; exact decide_eq_false (by omega))
      go_enter Try.func45, Try.ntmps45
      go_wp2_with fail
      go_ret
      exact ⟨by rw [HE.out]; first | rfl | (simp; done), K0.out⟩
  · have HE := Lib.hid (show res = false by rw [HV.out]; exact decide_eq_false (by omega))
    go_enter Try.func45, Try.ntmps45
    go_wp2_with fail
    go_ret
    exact ⟨by rw [HE.out]; first | rfl | (simp; done), K0.out⟩

def enoughK (k : Cf) (l : List Int) : Bool := decide (0 < l.length ∧ 2 * totalC k ≤ 3 * weightC k l)
set_option maxRecDepth 100000 in
set_option maxHeartbeats 3200000 in
theorem enough_any (A : Option Addr) (c : Nat) (k : Cf) (hk : k.ws.length ≤ 1000) (B : Option Addr) (cb : Nat) (l : List Int) (hl : l.length ≤ 1000000) (w : World) (hA : CellsAt w w.heap.size A (intCells k.ws)) (hB : CellsAt w w.heap.size B (intCells l)) :
    Calls Try.prog 46 #[.agg #[.slice A k.ws.length c, .int .u64 k.seed, .int .i64 k.ep, .int .i64 k.nu, .int .i64 k.de], .slice B l.length cb] w fun e w' => e = .returned (.bool (enoughK k l)) ∧ Kept w w' := by
  have K0 := Lib.hid ((Kept.refl w).alloc (.cells #[.slice A k.ws.length c, .int .u64 k.seed, .int .i64 k.ep, .int .i64 k.nu, .int .i64 k.de] 37))
  have HC := Lib.hid (HasCells.new w #[.slice A k.ws.length c, .int .u64 k.seed, .int .i64 k.ep, .int .i64 k.nu, .int .i64 k.de] 37 w.heap.size rfl)
  have HA := Lib.hid (hA.kept K0.out)
  have HB := Lib.hid (hB.kept K0.out)
  have HV : Hid (enoughK k l = decide (0 < l.length ∧ 2 * totalC k ≤ 3 * weightC k l)) := Lib.hid rfl
  generalize enoughK k l = res at *
  clear hA hB
  go_enter Try.func46, Try.ntmps46
  go_wp2_with fail
  generalize w.alloc (.cells #[.slice A k.ws.length c, .int .u64 k.seed, .int .i64 k.ep, .int .i64 k.nu, .int .i64 k.de] 37) = W at *
  generalize w.heap.size = z0 at *
  obtain ⟨c0, c1, c2, c3, c4⟩ := HC.out.five
  have hz := HC.out.1
  have HT := Lib.hid (fun w' (kk : Kept W w') => total_any A c k w' (HA.out.kept kk))
  have HW := Lib.hid (fun w' (kk : Kept W w') => weight_any A c k B l cb w' (HA.out.kept kk) hl (HB.out.kept kk))
  have hpb := weight_bounds k l
  have htb := total_bounds k
  have HR := Lib.hid (fun w' => rMore_any 2 (totalC k) 3 (weightC k l) (by decide) (mayR_mk (by omega)) (by decide) (mayR_mk (by omega)) w')
  generalize weightC k l = p at *
  generalize totalC k = q at *
  generalize hn : l.length = n at *
  clear hn
  by_cases h0 : 0 < n
  · have hq0 : decide (0 < n) = true := decide_eq_true h0
    have hq1 : decide ((0 : Int) < (n : Int)) = true := decide_eq_true (by omega)
    have HE := Lib.hid (show res = !decide (3 * p < 2 * q) by rw [HV.out, Bool.eq_iff_iff, decide_eq_true_iff]; simp; omega)
    generalize decide (3 * p < 2 * q) = r at *
    clear HV
    refine wp_region_noPanic ?_
    refine wp_region_held_drew (S := (fun w' => w'.cell? ⟨z0, 0, none⟩ = some (.slice A k.ws.length c) ∧ w'.cell? ⟨z0, 1, none⟩ = some (.int .u64 k.seed) ∧ w'.cell? ⟨z0, 2, none⟩ = some (.int .i64 k.ep) ∧ w'.cell? ⟨z0, 3, none⟩ = some (.int .i64 k.nu) ∧ w'.cell? ⟨z0, 4, none⟩ = some (.int .i64 k.de) ∧ Kept W w')) (by kernel_rfl) ?_ (fun hHeld => ?_)
    · exact ⟨c0, c1, c2, c3, c4, (Kept.refl _).drew⟩
    refine wpAnyH_take (i := 0) (v := ?_) (by simp only [List.getElem?_toArray, List.getElem?_cons_succ, List.getElem?_cons_zero]; rfl) (by kernel_rfl) (by kernel_rfl) (by kernel_rfl) (fun _ _ _ h => h) (Or.inl ⟨by rfl, ?_⟩) (by assumption) ?_
    rotate_left
    · intro w hSw
      (try dsimp only at hSw)
      go_simp
      (try with_reducible rfl)
    simp only [Act.put, List.setIfInBounds_toArray, List.set_cons_zero, List.set_cons_succ]
    refine wpAnyH_take (i := 1) (v := ?_) (by simp only [List.getElem?_toArray, List.getElem?_cons_succ, List.getElem?_cons_zero]; rfl) (by kernel_rfl) (by kernel_rfl) (by kernel_rfl) (fun _ _ _ h => h) (Or.inl ⟨by rfl, ?_⟩) (by assumption) ?_
    rotate_left
    · intro w hSw
      (try dsimp only at hSw)
      go_simp
      (try with_reducible rfl)
    simp only [Act.put, List.setIfInBounds_toArray, List.set_cons_zero, List.set_cons_succ]
    refine wpAnyH_take (i := 2) (v := ?_) (by simp only [List.getElem?_toArray, List.getElem?_cons_succ, List.getElem?_cons_zero]; rfl) (by kernel_rfl) (by kernel_rfl) (by kernel_rfl) (fun _ _ _ h => h) (Or.inl ⟨by rfl, ?_⟩) (by assumption) ?_
    rotate_left
    · intro w hSw
      (try dsimp only at hSw)
      go_simp
      (try with_reducible rfl)
    simp only [Act.put, List.setIfInBounds_toArray, List.set_cons_zero, List.set_cons_succ]
    try simp only [hq0, hq1]
    refine wpAnyH_take (i := 3) (v := ?_) (by simp only [List.getElem?_toArray, List.getElem?_cons_succ, List.getElem?_cons_zero]; rfl) (by kernel_rfl) (by kernel_rfl) (by kernel_rfl) (fun _ _ _ h => h) (Or.inl ⟨by rfl, ?_⟩) (by assumption) ?_
    rotate_left
    · intro w hSw
      (try dsimp only at hSw)
      go_simp
      (try with_reducible rfl)
    simp only [Act.put, List.setIfInBounds_toArray, List.set_cons_zero, List.set_cons_succ]
    refine wpAnyH_take (i := 4) (v := ?_) (by simp only [List.getElem?_toArray, List.getElem?_cons_succ, List.getElem?_cons_zero]; rfl) (by kernel_rfl) (by kernel_rfl) (by kernel_rfl) (fun _ _ _ h => h) (Or.inl ⟨by rfl, ?_⟩) (by assumption) ?_
    rotate_left
    · intro w hSw
      (try dsimp only at hSw)
      go_simp
      (try with_reducible rfl)
    simp only [Act.put, List.setIfInBounds_toArray, List.set_cons_zero, List.set_cons_succ]
    refine wpAnyH_take (i := 6) (v := ?_) (by simp only [List.getElem?_toArray, List.getElem?_cons_succ, List.getElem?_cons_zero]; rfl) (by kernel_rfl) (by kernel_rfl) (by kernel_rfl) (fun _ _ _ h => h) (Or.inl ⟨by rfl, ?_⟩) (by assumption) ?_
    rotate_left
    · intro w hSw
      (try dsimp only at hSw)
      go_simp
      (try with_reducible rfl)
    simp only [Act.put, List.setIfInBounds_toArray, List.set_cons_zero, List.set_cons_succ]
    refine wpAnyH_take (i := 7) (v := ?_) (by simp only [List.getElem?_toArray, List.getElem?_cons_succ, List.getElem?_cons_zero]; rfl) (by kernel_rfl) (by kernel_rfl) (by kernel_rfl) (fun _ _ _ h => h) (Or.inl ⟨by rfl, ?_⟩) (by assumption) ?_
    rotate_left
    · intro w hSw
      (try dsimp only at hSw)
      go_simp
      (try with_reducible rfl)
    simp only [Act.put, List.setIfInBounds_toArray, List.set_cons_zero, List.set_cons_succ]
    refine wpAnyH_ready (rs := [5]) (by kernel_rfl) (by simp) ?_
    refine AllReadyH.cons (by simp only [List.getElem?_toArray, List.getElem?_cons_succ, List.getElem?_cons_zero]; rfl) (fun K hK => ?_) AllReadyH.nil
    go_simp
    go_at_call 17; with_reducible refine (HT.out _ hHeld.2.2.2.2.2).mono ?_
    rintro e w' ⟨rfl, kk⟩
    try go_wp2_with fail
    refine hK.out _ _ ?_ (fun hHeld2 => ?_)
    · exact keepP5 hz hz hz hz hz hHeld kk
    clear hK K hHeld
    have hHeld := hHeld2
    clear hHeld2
    try simp only [Act.put, List.setIfInBounds_toArray, List.set_cons_zero, List.set_cons_succ]
    refine wpAnyH_ready (rs := [8]) (by kernel_rfl) (by simp) ?_
    refine AllReadyH.cons (by simp only [List.getElem?_toArray, List.getElem?_cons_succ, List.getElem?_cons_zero]; rfl) (fun K hK => ?_) AllReadyH.nil
    go_simp
    go_at_call 16; with_reducible refine (HW.out _ hHeld.2.2.2.2.2).mono ?_
    rintro e w' ⟨rfl, kk⟩
    try go_wp2_with fail
    refine hK.out _ _ ?_ (fun hHeld2 => ?_)
    · exact keepP5 hz hz hz hz hz hHeld kk
    clear hK K hHeld
    have hHeld := hHeld2
    clear hHeld2
    try simp only [Act.put, List.setIfInBounds_toArray, List.set_cons_zero, List.set_cons_succ]
    refine wpAnyH_ready (rs := [9]) (by kernel_rfl) (by simp) ?_
    refine AllReadyH.cons (by simp only [List.getElem?_toArray, List.getElem?_cons_succ, List.getElem?_cons_zero]; rfl) (fun K hK => ?_) AllReadyH.nil
    go_simp
    go_at_call 60; with_reducible refine (HR.out _).mono ?_
    rintro e w' ⟨rfl, kk⟩
    try go_wp2_with fail
    refine hK.out _ _ ?_ (fun hHeld2 => ?_)
    · exact keepP5 hz hz hz hz hz hHeld kk
    clear hK K hHeld
    have hHeld := hHeld2
    clear hHeld2
    try simp only [Act.put, List.setIfInBounds_toArray, List.set_cons_zero, List.set_cons_succ]
    refine wpAnyH_take (i := 10) (v := ?_) (by simp only [List.getElem?_toArray, List.getElem?_cons_succ, List.getElem?_cons_zero]; rfl) (by kernel_rfl) (by kernel_rfl) (by kernel_rfl) (fun _ _ _ h => h) (Or.inl ⟨by rfl, ?_⟩) (by assumption) ?_
    rotate_left
    · intro w hSw
      (try dsimp only at hSw)
      go_simp
      (try with_reducible rfl)
    simp only [Act.put, List.setIfInBounds_toArray, List.set_cons_zero, List.set_cons_succ]
    refine wpAnyH_take (i := 11) (v := ?_) (by simp only [List.getElem?_toArray, List.getElem?_cons_succ, List.getElem?_cons_zero]; rfl) (by kernel_rfl) (by kernel_rfl) (by kernel_rfl) (fun _ _ _ h => h) (Or.inl ⟨by rfl, ?_⟩) (by assumption) ?_
    rotate_left
    · intro w hSw
      (try dsimp only at hSw)
      go_simp
      (try with_reducible rfl)
    simp only [Act.put, List.setIfInBounds_toArray, List.set_cons_zero, List.set_cons_succ]
    refine wpAnyH_take (i := 12) (v := ?_) (by simp only [List.getElem?_toArray, List.getElem?_cons_succ, List.getElem?_cons_zero]; rfl) (by kernel_rfl) (by kernel_rfl) (by kernel_rfl) (fun _ _ _ h => h) (Or.inl ⟨by rfl, ?_⟩) (by assumption) ?_
    rotate_left
    · intro w hSw
      (try dsimp only at hSw)
      go_simp
      (try with_reducible rfl)
    simp only [Act.put, List.setIfInBounds_toArray, List.set_cons_zero, List.set_cons_succ]
    refine wpAnyH_done (by kernel_rfl) ?_ _
    refine NoPanic.normal ?_
    have K1 := Lib.hid hHeld.2.2.2.2.2
    clear hHeld c0 c1 c2 c3 c4
    go_wp2_with fail
    go_ret
    exact ⟨by rw [HE.out]; first | rfl | (simp; done), K0.out.trans K1.out⟩
  · have hq0 : decide (0 < n) = false := decide_eq_false h0
    have hq1 : decide ((0 : Int) < (n : Int)) = false := decide_eq_false (by omega)
    have HE := Lib.hid (show res = false by rw [HV.out]; exact decide_eq_false (fun q => h0 q.1))
    clear HV
    refine wp_region_noPanic ?_
    refine wp_region_held_drew (S := (fun w' => w'.cell? ⟨z0, 0, none⟩ = some (.slice A k.ws.length c) ∧ w'.cell? ⟨z0, 1, none⟩ = some (.int .u64 k.seed) ∧ w'.cell? ⟨z0, 2, none⟩ = some (.int .i64 k.ep) ∧ w'.cell? ⟨z0, 3, none⟩ = some (.int .i64 k.nu) ∧ w'.cell? ⟨z0, 4, none⟩ = some (.int .i64 k.de) ∧ Kept W w')) (by kernel_rfl) ?_ (fun hHeld => ?_)
    · exact ⟨c0, c1, c2, c3, c4, (Kept.refl _).drew⟩
    refine wpAnyH_take (i := 0) (v := ?_) (by simp only [List.getElem?_toArray, List.getElem?_cons_succ, List.getElem?_cons_zero]; rfl) (by kernel_rfl) (by kernel_rfl) (by kernel_rfl) (fun _ _ _ h => h) (Or.inl ⟨by rfl, ?_⟩) (by assumption) ?_
    rotate_left
    · intro w hSw
      (try dsimp only at hSw)
      go_simp
      (try with_reducible rfl)
    simp only [Act.put, List.setIfInBounds_toArray, List.set_cons_zero, List.set_cons_succ]
    refine wpAnyH_take (i := 1) (v := ?_) (by simp only [List.getElem?_toArray, List.getElem?_cons_succ, List.getElem?_cons_zero]; rfl) (by kernel_rfl) (by kernel_rfl) (by kernel_rfl) (fun _ _ _ h => h) (Or.inl ⟨by rfl, ?_⟩) (by assumption) ?_
    rotate_left
    · intro w hSw
      (try dsimp only at hSw)
      go_simp
      (try with_reducible rfl)
    simp only [Act.put, List.setIfInBounds_toArray, List.set_cons_zero, List.set_cons_succ]
    refine wpAnyH_take (i := 2) (v := ?_) (by simp only [List.getElem?_toArray, List.getElem?_cons_succ, List.getElem?_cons_zero]; rfl) (by kernel_rfl) (by kernel_rfl) (by kernel_rfl) (fun _ _ _ h => h) (Or.inl ⟨by rfl, ?_⟩) (by assumption) ?_
    rotate_left
    · intro w hSw
      (try dsimp only at hSw)
      go_simp
      (try with_reducible rfl)
    simp only [Act.put, List.setIfInBounds_toArray, List.set_cons_zero, List.set_cons_succ]
    try simp only [hq0, hq1]
    refine wpAnyH_take (i := 3) (v := ?_) (by simp only [List.getElem?_toArray, List.getElem?_cons_succ, List.getElem?_cons_zero]; rfl) (by kernel_rfl) (by kernel_rfl) (by kernel_rfl) (fun _ _ _ h => h) (Or.inl ⟨by rfl, ?_⟩) (by assumption) ?_
    rotate_left
    · intro w hSw
      (try dsimp only at hSw)
      go_simp
      (try with_reducible rfl)
    simp only [Act.put, List.setIfInBounds_toArray, List.set_cons_zero, List.set_cons_succ]
    refine wpAnyH_take (i := 4) (v := undef) (by simp only [List.getElem?_toArray, List.getElem?_cons_succ, List.getElem?_cons_zero]; rfl) (by kernel_rfl) (by kernel_rfl) (by kernel_rfl) (fun _ _ _ h => h) (Or.inr ⟨by rfl, rfl⟩) (by assumption) ?_
    simp only [Act.put, List.setIfInBounds_toArray, List.set_cons_zero, List.set_cons_succ]
    refine wpAnyH_take (i := 5) (v := undef) (by simp only [List.getElem?_toArray, List.getElem?_cons_succ, List.getElem?_cons_zero]; rfl) (by kernel_rfl) (by kernel_rfl) (by kernel_rfl) (fun _ _ _ h => h) (Or.inr ⟨by rfl, rfl⟩) (by assumption) ?_
    simp only [Act.put, List.setIfInBounds_toArray, List.set_cons_zero, List.set_cons_succ]
    refine wpAnyH_take (i := 6) (v := undef) (by simp only [List.getElem?_toArray, List.getElem?_cons_succ, List.getElem?_cons_zero]; rfl) (by kernel_rfl) (by kernel_rfl) (by kernel_rfl) (fun _ _ _ h => h) (Or.inr ⟨by rfl, rfl⟩) (by assumption) ?_
    simp only [Act.put, List.setIfInBounds_toArray, List.set_cons_zero, List.set_cons_succ]
    refine wpAnyH_take (i := 7) (v := undef) (by simp only [List.getElem?_toArray, List.getElem?_cons_succ, List.getElem?_cons_zero]; rfl) (by kernel_rfl) (by kernel_rfl) (by kernel_rfl) (fun _ _ _ h => h) (Or.inr ⟨by rfl, rfl⟩) (by assumption) ?_
    simp only [Act.put, List.setIfInBounds_toArray, List.set_cons_zero, List.set_cons_succ]
    refine wpAnyH_take (i := 8) (v := undef) (by simp only [List.getElem?_toArray, List.getElem?_cons_succ, List.getElem?_cons_zero]; rfl) (by kernel_rfl) (by kernel_rfl) (by kernel_rfl) (fun _ _ _ h => h) (Or.inr ⟨by rfl, rfl⟩) (by assumption) ?_
    simp only [Act.put, List.setIfInBounds_toArray, List.set_cons_zero, List.set_cons_succ]
    refine wpAnyH_take (i := 9) (v := undef) (by simp only [List.getElem?_toArray, List.getElem?_cons_succ, List.getElem?_cons_zero]; rfl) (by kernel_rfl) (by kernel_rfl) (by kernel_rfl) (fun _ _ _ h => h) (Or.inr ⟨by rfl, rfl⟩) (by assumption) ?_
    simp only [Act.put, List.setIfInBounds_toArray, List.set_cons_zero, List.set_cons_succ]
    refine wpAnyH_take (i := 10) (v := undef) (by simp only [List.getElem?_toArray, List.getElem?_cons_succ, List.getElem?_cons_zero]; rfl) (by kernel_rfl) (by kernel_rfl) (by kernel_rfl) (fun _ _ _ h => h) (Or.inr ⟨by rfl, rfl⟩) (by assumption) ?_
    simp only [Act.put, List.setIfInBounds_toArray, List.set_cons_zero, List.set_cons_succ]
    refine wpAnyH_take (i := 11) (v := ?_) (by simp only [List.getElem?_toArray, List.getElem?_cons_succ, List.getElem?_cons_zero]; rfl) (by kernel_rfl) (by kernel_rfl) (by kernel_rfl) (fun _ _ _ h => h) (Or.inl ⟨by rfl, ?_⟩) (by assumption) ?_
    rotate_left
    · intro w hSw
      (try dsimp only at hSw)
      go_simp
      (try with_reducible rfl)
    simp only [Act.put, List.setIfInBounds_toArray, List.set_cons_zero, List.set_cons_succ]
    refine wpAnyH_take (i := 12) (v := ?_) (by simp only [List.getElem?_toArray, List.getElem?_cons_succ, List.getElem?_cons_zero]; rfl) (by kernel_rfl) (by kernel_rfl) (by kernel_rfl) (fun _ _ _ h => h) (Or.inl ⟨by rfl, ?_⟩) (by assumption) ?_
    rotate_left
    · intro w hSw
      (try dsimp only at hSw)
      go_simp
      (try with_reducible rfl)
    simp only [Act.put, List.setIfInBounds_toArray, List.set_cons_zero, List.set_cons_succ]
    refine wpAnyH_done (by kernel_rfl) ?_ _
    refine NoPanic.normal ?_
    have K1 := Lib.hid hHeld.2.2.2.2.2
    clear hHeld c0 c1 c2 c3 c4
    go_wp2_with fail
    go_ret
    exact ⟨by rw [HE.out]; first | rfl | (simp; done), K0.out.trans K1.out⟩

end Go.Proofs.Ythaofomhlmajbaa
