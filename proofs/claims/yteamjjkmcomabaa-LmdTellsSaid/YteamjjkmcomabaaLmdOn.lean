/-
  The contracts of package lmd's calls Boost and isBoosted, and of the function that onBy hands back.
-/
import Derived.Test.YteamjjkmcomabaaLmdMath
import Derived.Test.YteamjjkmcomabaaLmdZ
import Derived.Test.YteamjjkmcomabaaDutyG
import Derived.Test.YteamjjkmcomabaaTreeG
import Derived.Test.YteamjjkmcomabaaWeighOn
import Derived.Test.YteamjjkmcomabaaGround
namespace Go.Proofs.Yteamjjkmcomabaa
set_option maxRecDepth 100000
set_option linter.unusedVariables false
set_option linter.unusedSimpArgs false
set_option linter.unusedSimpArgs false
set_option linter.unusedVariables false
open Go.ChangeShapes Go.WideShapes Go.ChangeAt Go.RowKit

set_option maxRecDepth 100000 in
set_option maxHeartbeats 3200000 in
theorem lmdBoost_any (kA : Option Addr) (kc : Nat) (k : Cf) (pct : Int) (w : World) (hk : k.ws.length ≤ 1000) (hA : CellsAt w w.heap.size kA (intCells k.ws)) :
    Calls Try.prog 14 #[.agg #[.slice kA k.ws.length kc, .int .u64 k.seed, .int .i64 k.ep, .int .i64 k.nu, .int .i64 k.de], .int .i64 pct] w fun e w' => e = .returned (.int .i64 (boostC k pct)) ∧ Kept w w' := by
  go_enter Try.func14, Try.ntmps14
  go_wp2_with fail
  have K0 := Lib.hid ((Kept.refl w).alloc (.cells #[.slice kA k.ws.length kc, .int .u64 k.seed, .int .i64 k.ep, .int .i64 k.nu, .int .i64 k.de] 25))
  have HA := Lib.hid (hA.kept K0.out)
  clear hA
  have HB0 := Lib.hid (HasCells.new w #[.slice kA k.ws.length kc, .int .u64 k.seed, .int .i64 k.ep, .int .i64 k.nu, .int .i64 k.de] 25 (w.heap.size) (by simp))
  generalize (w.alloc (.cells #[.slice kA k.ws.length kc, .int .u64 k.seed, .int .i64 k.ep, .int .i64 k.nu, .int .i64 k.de] 25)) = W0 at *
  generalize w.heap.size = z0 at *
  have KB0 := Lib.hid (Kept.refl W0)
  refine (mayD_any kA kc k W0 (HA.out.kept KB0.out)).mono ?_
  rintro e W1 ⟨rfl, k⟩
  have KB1 := Lib.hid (KB0.out.trans k)
  clear k
  cases hm : mayC k with
  | false =>
    have HE := Lib.hid (show boostC k pct = 0 from boostC_no (by rw [hm]; simp))
    clear hm
    go_wp2_with fail
    go_ret
    exact ⟨by rw [HE.out]; first | rfl | (simp; done), K0.out.trans KB1.out⟩
  | true =>
    by_cases h0 : pct < 0
    · have HE := Lib.hid (show boostC k pct = 0 from boostC_no (by omega))
      have g1 : decide (pct < 0) = true := decide_eq_true h0
      clear hm
      go_wp2_with fail
      go_ret
      exact ⟨by rw [HE.out]; first | rfl | (simp; done), K0.out.trans KB1.out⟩
    · by_cases h1 : 100 < pct
      · have HE := Lib.hid (show boostC k pct = 0 from boostC_no (by omega))
        have g1 : decide (pct < 0) = false := decide_eq_false h0
        have g2 : decide (100 < pct) = true := decide_eq_true h1
        clear hm
        go_wp2_with fail
        go_ret
        exact ⟨by rw [HE.out]; first | rfl | (simp; done), K0.out.trans KB1.out⟩
      · have g1 : decide (pct < 0) = false := decide_eq_false h0
        have g2 : decide (100 < pct) = false := decide_eq_false h1
        have HE := Lib.hid (boostC_yes hm (show 0 ≤ pct by omega) (show pct ≤ 100 by omega))
        have hep := (mayC_yes hm).2.2.2.1
        have htb := total_bounds k
        have ht0 := total_zero k
        have hq1 := quo_le ht0 hep
        have hp1 := part_le hq1.1 (show 0 ≤ pct by omega) (show pct ≤ 100 by omega)
        have hq : (totalC k).tdiv k.ep = totalC k / k.ep := Int.tdiv_eq_ediv_of_nonneg ht0
        have HTo := Lib.hid (fun w' (kk : Kept W0 w') => total_any kA kc k w' (HA.out.kept kk))
        have hz : ¬ k.ep = 0 := by omega
        clear hm
        generalize totalC k = t at *
        generalize t / k.ep = q at *
        have hqw : IntKind.i64.wrap q = q := by rw [IntKind.wrap_i64]; omega
        have hmw : IntKind.i64.wrap (q * pct) = q * pct := by rw [IntKind.wrap_i64]; omega
        have hd : (q * pct).tdiv 100 = q * pct / 100 := Int.tdiv_eq_ediv_of_nonneg hp1.1
        have hdw : IntKind.i64.wrap (q * pct / 100) = q * pct / 100 := by rw [IntKind.wrap_i64]; omega
        obtain ⟨b00, b01, b02, b03, b04⟩ := (HB0.out.kept KB1.out).five
        have bz0 := (HB0.out.kept KB1.out).1
        go_wp2_with fail
        refine wp_region_noPanic ?_
        refine wp_region_held_drew (S := (fun w' => w'.cell? ⟨z0, 0, none⟩ = some (.slice kA k.ws.length kc) ∧ w'.cell? ⟨z0, 1, none⟩ = some (.int .u64 k.seed) ∧ w'.cell? ⟨z0, 2, none⟩ = some (.int .i64 k.ep) ∧ w'.cell? ⟨z0, 3, none⟩ = some (.int .i64 k.nu) ∧ w'.cell? ⟨z0, 4, none⟩ = some (.int .i64 k.de) ∧ Kept W1 w')) (by kernel_rfl) ?_ (fun hHeld => ?_)
        · exact ⟨b00, b01, b02, b03, b04, (Kept.refl _).drew⟩
        refine wpAnyH_take (i := 0) (v := ?_) (by simp only [List.getElem?_toArray, List.getElem?_cons_succ, List.getElem?_cons_zero]; rfl) (by kernel_rfl) (by kernel_rfl) (by kernel_rfl) (fun _ _ _ h => h) (Or.inl ⟨by rfl, ?_⟩) (by assumption) ?_
        rotate_left
        · intro w hSw
          (try dsimp only at hSw)
          go_simp
          (try with_reducible rfl)
        simp only [Act.put, List.setIfInBounds_toArray, List.set_cons_zero, List.set_cons_succ]
        refine wpAnyH_take (i := 2) (v := ?_) (by simp only [List.getElem?_toArray, List.getElem?_cons_succ, List.getElem?_cons_zero]; rfl) (by kernel_rfl) (by kernel_rfl) (by kernel_rfl) (fun _ _ _ h => h) (Or.inl ⟨by rfl, ?_⟩) (by assumption) ?_
        rotate_left
        · intro w hSw
          (try dsimp only at hSw)
          go_simp
          (try with_reducible rfl)
        simp only [Act.put, List.setIfInBounds_toArray, List.set_cons_zero, List.set_cons_succ]
        refine wpAnyH_take (i := 3) (v := ?_) (by simp only [List.getElem?_toArray, List.getElem?_cons_succ, List.getElem?_cons_zero]; rfl) (by kernel_rfl) (by kernel_rfl) (by kernel_rfl) (fun _ _ _ h => h) (Or.inl ⟨by rfl, ?_⟩) (by assumption) ?_
        rotate_left
        · intro w hSw
          (try dsimp only at hSw)
          go_simp
          (try with_reducible rfl)
        simp only [Act.put, List.setIfInBounds_toArray, List.set_cons_zero, List.set_cons_succ]
        refine wpAnyH_take (i := 5) (v := ?_) (by simp only [List.getElem?_toArray, List.getElem?_cons_succ, List.getElem?_cons_zero]; rfl) (by kernel_rfl) (by kernel_rfl) (by kernel_rfl) (fun _ _ _ h => h) (Or.inl ⟨by rfl, ?_⟩) (by assumption) ?_
        rotate_left
        · intro w hSw
          (try dsimp only at hSw)
          go_simp
          (try with_reducible rfl)
        simp only [Act.put, List.setIfInBounds_toArray, List.set_cons_zero, List.set_cons_succ]
        refine wpAnyH_ready (rs := [1]) (by kernel_rfl) (by simp) ?_
        refine AllReadyH.cons (by simp only [List.getElem?_toArray, List.getElem?_cons_succ, List.getElem?_cons_zero]; rfl) (fun K hK => ?_) AllReadyH.nil
        go_simp
        go_at_call 23; with_reducible refine (HTo.out _ (KB1.out.trans hHeld.2.2.2.2.2)).mono ?_
        rintro e w' ⟨rfl, kk⟩
        try go_wp2_with fail
        refine hK.out _ _ ?_ (fun hHeld2 => ?_)
        · exact keepP5 bz0 bz0 bz0 bz0 bz0 hHeld kk
        clear hK K hHeld
        have hHeld := hHeld2
        clear hHeld2
        try simp only [Act.put, List.setIfInBounds_toArray, List.set_cons_zero, List.set_cons_succ]
        refine wpAnyH_take (i := 4) (v := ?_) (by simp only [List.getElem?_toArray, List.getElem?_cons_succ, List.getElem?_cons_zero]; rfl) (by kernel_rfl) (by kernel_rfl) (by kernel_rfl) (fun _ _ _ h => h) (Or.inl ⟨by rfl, ?_⟩) (by assumption) ?_
        rotate_left
        · intro w hSw
          (try dsimp only at hSw)
          go_simp
          (try with_reducible rfl)
        simp only [Act.put, List.setIfInBounds_toArray, List.set_cons_zero, List.set_cons_succ]
        try simp only [hq, hqw]
        refine wpAnyH_take (i := 6) (v := ?_) (by simp only [List.getElem?_toArray, List.getElem?_cons_succ, List.getElem?_cons_zero]; rfl) (by kernel_rfl) (by kernel_rfl) (by kernel_rfl) (fun _ _ _ h => h) (Or.inl ⟨by rfl, ?_⟩) (by assumption) ?_
        rotate_left
        · intro w hSw
          (try dsimp only at hSw)
          go_simp
          (try with_reducible rfl)
        simp only [Act.put, List.setIfInBounds_toArray, List.set_cons_zero, List.set_cons_succ]
        try simp only [hmw]
        refine wpAnyH_take (i := 7) (v := ?_) (by simp only [List.getElem?_toArray, List.getElem?_cons_succ, List.getElem?_cons_zero]; rfl) (by kernel_rfl) (by kernel_rfl) (by kernel_rfl) (fun _ _ _ h => h) (Or.inl ⟨by rfl, ?_⟩) (by assumption) ?_
        rotate_left
        · intro w hSw
          (try dsimp only at hSw)
          go_simp
          (try with_reducible rfl)
        simp only [Act.put, List.setIfInBounds_toArray, List.set_cons_zero, List.set_cons_succ]
        try simp only [hd, hdw]
        refine wpAnyH_take (i := 8) (v := ?_) (by simp only [List.getElem?_toArray, List.getElem?_cons_succ, List.getElem?_cons_zero]; rfl) (by kernel_rfl) (by kernel_rfl) (by kernel_rfl) (fun _ _ _ h => h) (Or.inl ⟨by rfl, ?_⟩) (by assumption) ?_
        rotate_left
        · intro w hSw
          (try dsimp only at hSw)
          go_simp
          (try with_reducible rfl)
        simp only [Act.put, List.setIfInBounds_toArray, List.set_cons_zero, List.set_cons_succ]
        refine wpAnyH_done (by kernel_rfl) ?_ _
        refine NoPanic.normal ?_
        have k := hHeld.2.2.2.2.2
        clear hHeld
        clear b00 b01 b02 b03 b04 bz0
        have KB2 := Lib.hid (KB1.out.trans k)
        clear k
        generalize w' = W2 at *
        go_wp2_with fail
        go_ret
        exact ⟨by rw [HE.out]; first | rfl | (simp; done), K0.out.trans KB2.out⟩
def boostedB (l : List Bk) (bo x : Id2) : Bool := !(isZ bo) && underC l x bo
theorem lift_boosted (l : List Bk) (bo : Id2) (B : Int) (x : Id2) : liftC l bo B x = if boostedB l bo x = true then B else 0 := by
  unfold liftC boostedB
  cases h : isZ bo with
  | true => rw [isZ_eq h]; simp
  | false =>
    have := isZ_ne h
    simp [this]
attribute [local go_sem high] eqIdZ in
set_option maxRecDepth 100000 in
set_option maxHeartbeats 3200000 in
theorem isBoosted_any (lA : Option Addr) (lc : Nat) (l : List Bk) (hl : l.length ≤ 10000) (hwl : WfL l) (bo x : Id2) (hbo : WfI bo) (w : World) (hL : CellsAt w w.heap.size lA (blockCells l)) :
    Calls Try.prog 56 #[.slice lA l.length lc, .agg #[.int .u64 bo.1, .int .u64 bo.2], .agg #[.int .u64 x.1, .int .u64 x.2]] w fun e w' => e = .returned (.bool (boostedB l bo x)) ∧ Kept w w' := by
  cases hz : isZ bo with
  | true =>
    have HE := Lib.hid (show boostedB l bo x = false by unfold boostedB; rw [hz]; rfl)
    go_enter Try.func56, Try.ntmps56
    go_wp2_with fail
    have K0 := Lib.hid (((Kept.refl w).alloc (.cells #[.int .u64 bo.1, .int .u64 bo.2] 29)).alloc (.cells #[.int .u64 x.1, .int .u64 x.2] 29))
    have HL := Lib.hid (hL.kept K0.out)
    clear hL
    have HB0 := Lib.hid ((HasCells.new w #[.int .u64 bo.1, .int .u64 bo.2] 29 (w.heap.size) (by simp)).alloc (.cells #[.int .u64 x.1, .int .u64 x.2] 29))
    have HB1 := Lib.hid (HasCells.new (w.alloc (.cells #[.int .u64 bo.1, .int .u64 bo.2] 29)) #[.int .u64 x.1, .int .u64 x.2] 29 (w.heap.size + 1) (by simp))
    generalize ((w.alloc (.cells #[.int .u64 bo.1, .int .u64 bo.2] 29)).alloc (.cells #[.int .u64 x.1, .int .u64 x.2] 29)) = W0 at *
    generalize w.heap.size + 1 = z1 at *
    generalize w.heap.size = z0 at *
    have KB0 := Lib.hid (Kept.refl W0)
    go_ret
    exact ⟨by rw [HE.out]; first | rfl | (simp; done), K0.out.trans KB0.out⟩
  | false =>
    have HE := Lib.hid (show boostedB l bo x = underC l x bo by unfold boostedB; rw [hz]; rfl)
    go_enter Try.func56, Try.ntmps56
    go_wp2_with fail
    have K0 := Lib.hid (((Kept.refl w).alloc (.cells #[.int .u64 bo.1, .int .u64 bo.2] 29)).alloc (.cells #[.int .u64 x.1, .int .u64 x.2] 29))
    have HL := Lib.hid (hL.kept K0.out)
    clear hL
    have HB0 := Lib.hid ((HasCells.new w #[.int .u64 bo.1, .int .u64 bo.2] 29 (w.heap.size) (by simp)).alloc (.cells #[.int .u64 x.1, .int .u64 x.2] 29))
    have HB1 := Lib.hid (HasCells.new (w.alloc (.cells #[.int .u64 bo.1, .int .u64 bo.2] 29)) #[.int .u64 x.1, .int .u64 x.2] 29 (w.heap.size + 1) (by simp))
    generalize ((w.alloc (.cells #[.int .u64 bo.1, .int .u64 bo.2] 29)).alloc (.cells #[.int .u64 x.1, .int .u64 x.2] 29)) = W0 at *
    generalize w.heap.size + 1 = z1 at *
    generalize w.heap.size = z0 at *
    have KB0 := Lib.hid (Kept.refl W0)
    refine (under_any lA lc l (by omega) hwl x bo hbo W0 (HL.out.kept KB0.out)).mono ?_
    rintro e W1 ⟨rfl, k⟩
    have KB1 := Lib.hid (KB0.out.trans k)
    clear k
    generalize underC l x bo = u at *
    obtain ⟨b00, b01⟩ := (HB0.out.kept KB1.out).two
    have bz0 := (HB0.out.kept KB1.out).1
    obtain ⟨b10, b11⟩ := (HB1.out.kept KB1.out).two
    have bz1 := (HB1.out.kept KB1.out).1
    go_wp2_with fail
    clear b00 b01 bz0 b10 b11 bz1
    go_ret
    exact ⟨by rw [HE.out]; first | rfl | (simp; done), K0.out.trans KB1.out⟩
set_option maxRecDepth 100000 in
set_option maxHeartbeats 3200000 in
theorem onBy1_any (kA : Option Addr) (kc : Nat) (k : Cf) (lA : Option Addr) (lc : Nat) (l : List Bk) (rA : Option Addr) (rc : Nat) (r : List Vt) (bo : Id2) (B : Int) (x : Id2) (z1 z2 z3 z4 z5 : Nat) (w : World) (hl : l.length ≤ 10000) (hr : r.length ≤ 10000) (hwl : WfL l) (hwr : WfVs r) (hbo : WfI bo) (hx : WfI x) (hB : 0 ≤ B ∧ B ≤ totalC k)
    (h1 : HasCells w z1 [.slice kA k.ws.length kc, .int .u64 k.seed, .int .i64 k.ep, .int .i64 k.nu, .int .i64 k.de]) (h2 : HasCells w z2 [.slice lA l.length lc]) (h3 : HasCells w z3 [.slice rA r.length rc]) (h4 : HasCells w z4 [.int .u64 bo.1, .int .u64 bo.2]) (h5 : HasCells w z5 [.int .i64 B]) (hA : CellsAt w w.heap.size kA (intCells k.ws)) (hL : CellsAt w w.heap.size lA (blockCells l)) (hR : CellsAt w w.heap.size rA (votesCells r)) :
    Calls Try.prog 55 #[.agg #[.int .u64 x.1, .int .u64 x.2], .pointer (some ⟨z1, 0, none⟩), .pointer (some ⟨z2, 0, none⟩), .pointer (some ⟨z3, 0, none⟩), .pointer (some ⟨z4, 0, none⟩), .pointer (some ⟨z5, 0, none⟩)] w fun e w' => e = .returned (.int .i64 (onC k l r x + liftC l bo B x)) ∧ Kept w w' := by
  have bz1 := h1.1
  obtain ⟨b10, b11, b12, b13, b14⟩ := h1.five
  have bz2 := h2.1
  have b20 := h2.at0
  have bz3 := h3.1
  have b30 := h3.at0
  have bz4 := h4.1
  obtain ⟨b40, b41⟩ := h4.two
  have bz5 := h5.1
  have b50 := h5.at0
  go_enter Try.func55, Try.ntmps55
  go_wp2_with fail
  have K0 := Lib.hid ((Kept.refl w).alloc (.cells #[.int .u64 x.1, .int .u64 x.2] 29))
  have HA := Lib.hid (hA.kept K0.out)
  clear hA
  have HL := Lib.hid (hL.kept K0.out)
  clear hL
  have HR := Lib.hid (hR.kept K0.out)
  clear hR
  have HB0 := Lib.hid (HasCells.new w #[.int .u64 x.1, .int .u64 x.2] 29 (w.heap.size) (by simp))
  generalize (w.alloc (.cells #[.int .u64 x.1, .int .u64 x.2] 29)) = W0 at *
  generalize w.heap.size = z0 at *
  have KB0 := Lib.hid (Kept.refl W0)
  clear b10 b11 b12 b13 b14 bz1 b20 bz2 b30 bz3 b40 b41 bz4 b50 bz5
  have HB1 := Lib.hid (h1.kept K0.out)
  clear h1
  have HB2 := Lib.hid (h2.kept K0.out)
  clear h2
  have HB3 := Lib.hid (h3.kept K0.out)
  clear h3
  have HB4 := Lib.hid (h4.kept K0.out)
  clear h4
  have HB5 := Lib.hid (h5.kept K0.out)
  clear h5
  have HBd := Lib.hid hB
  clear hB
  refine (on_any kA kc k lA lc l rA rc r x W0 (by omega) (by omega) hwl hwr hx (HA.out.kept KB0.out) (HL.out.kept KB0.out) (HR.out.kept KB0.out)).mono ?_
  rintro e W1 ⟨rfl, k⟩
  have KB1 := Lib.hid (KB0.out.trans k)
  clear k
  obtain ⟨b00, b01⟩ := (HB0.out.kept KB1.out).two
  have bz0 := (HB0.out.kept KB1.out).1
  obtain ⟨b10, b11, b12, b13, b14⟩ := (HB1.out.kept KB1.out).five
  have bz1 := (HB1.out.kept KB1.out).1
  have b20 := (HB2.out.kept KB1.out).at0
  have bz2 := (HB2.out.kept KB1.out).1
  have b30 := (HB3.out.kept KB1.out).at0
  have bz3 := (HB3.out.kept KB1.out).1
  obtain ⟨b40, b41⟩ := (HB4.out.kept KB1.out).two
  have bz4 := (HB4.out.kept KB1.out).1
  have b50 := (HB5.out.kept KB1.out).at0
  have bz5 := (HB5.out.kept KB1.out).1
  go_wp2_with fail
  clear b00 b01 bz0 b10 b11 b12 b13 b14 bz1 b20 bz2 b30 bz3 b40 b41 bz4 b50 bz5
  refine (isBoosted_any lA lc l hl hwl bo x hbo W1 (HL.out.kept KB1.out)).mono ?_
  rintro e W2 ⟨rfl, k⟩
  have KB2 := Lib.hid (KB1.out.trans k)
  clear k
  have h1 := on_bounds k l r x
  have h2 := total_bounds k
  have hBd := HBd.out
  have HE := Lib.hid (lift_boosted l bo B x)
  have hw : IntKind.i64.wrap (onC k l r x + B) = onC k l r x + B := by rw [IntKind.wrap_i64]; omega
  cases hb : boostedB l bo x with
  | true =>
    have HF := Lib.hid (show onC k l r x + liftC l bo B x = onC k l r x + B by rw [HE.out, if_pos hb])
    clear HE
    obtain ⟨b00, b01⟩ := (HB0.out.kept KB2.out).two
    have bz0 := (HB0.out.kept KB2.out).1
    obtain ⟨b10, b11, b12, b13, b14⟩ := (HB1.out.kept KB2.out).five
    have bz1 := (HB1.out.kept KB2.out).1
    have b20 := (HB2.out.kept KB2.out).at0
    have bz2 := (HB2.out.kept KB2.out).1
    have b30 := (HB3.out.kept KB2.out).at0
    have bz3 := (HB3.out.kept KB2.out).1
    obtain ⟨b40, b41⟩ := (HB4.out.kept KB2.out).two
    have bz4 := (HB4.out.kept KB2.out).1
    have b50 := (HB5.out.kept KB2.out).at0
    have bz5 := (HB5.out.kept KB2.out).1
    go_wp2_with fail
    clear b00 b01 bz0 b10 b11 b12 b13 b14 bz1 b20 bz2 b30 bz3 b40 b41 bz4 b50 bz5
    go_ret
    exact ⟨by rw [HF.out]; first | rfl | (simp; done), K0.out.trans KB2.out⟩
  | false =>
    have HF := Lib.hid (show onC k l r x + liftC l bo B x = onC k l r x by rw [HE.out, if_neg (by rw [hb]; simp), Int.add_zero])
    clear HE
    obtain ⟨b00, b01⟩ := (HB0.out.kept KB2.out).two
    have bz0 := (HB0.out.kept KB2.out).1
    obtain ⟨b10, b11, b12, b13, b14⟩ := (HB1.out.kept KB2.out).five
    have bz1 := (HB1.out.kept KB2.out).1
    have b20 := (HB2.out.kept KB2.out).at0
    have bz2 := (HB2.out.kept KB2.out).1
    have b30 := (HB3.out.kept KB2.out).at0
    have bz3 := (HB3.out.kept KB2.out).1
    obtain ⟨b40, b41⟩ := (HB4.out.kept KB2.out).two
    have bz4 := (HB4.out.kept KB2.out).1
    have b50 := (HB5.out.kept KB2.out).at0
    have bz5 := (HB5.out.kept KB2.out).1
    go_wp2_with fail
    clear b00 b01 bz0 b10 b11 b12 b13 b14 bz1 b20 bz2 b30 bz3 b40 b41 bz4 b50 bz5
    go_ret
    exact ⟨by rw [HF.out]; first | rfl | (simp; done), K0.out.trans KB2.out⟩

end Go.Proofs.Yteamjjkmcomabaa
