/-
  The contract of package view's call Only: its two closures, handed to left.
-/
import Derived.Test.YtacdiicnfoejoaaViewLeft
import Derived.Test.YtacdiicnfoejoaaViewCome
import Derived.Test.YtacdiicnfoejoaaGround
namespace Go.Proofs.Ytacdiicnfoejoaa
set_option maxRecDepth 100000
set_option linter.unusedVariables false
set_option linter.unusedSimpArgs false
set_option linter.unusedSimpArgs false
set_option linter.unusedVariables false
open Go.ChangeShapes Go.WideShapes Go.ChangeAt Go.RowKit

theorem filter_snoc {α : Type} (p : α → Bool) {l : List α} {j : Nat} (hj : j < l.length) : (l.take (j + 1)).filter p = if p l[j] then (l.take j).filter p ++ [l[j]] else (l.take j).filter p := by
  rw [List.take_succ_eq_append_getElem hj, List.filter_append]
  cases h : p l[j] <;> simp [h]
set_option maxRecDepth 100000 in
set_option maxHeartbeats 3200000 in
theorem only1_any (kA : Option Addr) (kc : Nat) (k : Cf) (y : Bk) (hy : WfB y) (z : Nat) (w : World) (hk : k.ws.length ≤ 1000) (hsd : k.seed < 18446744073709551616) (hA : CellsAt w w.heap.size kA (intCells k.ws)) (hz : HasCells w z [.slice kA k.ws.length kc, .int .u64 k.seed, .int .i64 k.ep, .int .i64 k.nu, .int .i64 k.de]) :
    Calls Try.prog 38 #[.agg #[.int .i64 y.s, .int .i64 y.f, .int .u64 y.p.1, .int .u64 y.p.2, .int .u64 y.t], .pointer (some ⟨z, 0, none⟩)] w fun e w' => e = .returned (.bool (blockC k y)) ∧ Kept w w' := by
  have K0 := Lib.hid ((Kept.refl w).alloc (.cells #[.int .i64 y.s, .int .i64 y.f, .int .u64 y.p.1, .int .u64 y.p.2, .int .u64 y.t] 42))
  have HA := Lib.hid (hA.kept K0.out)
  have HZ := Lib.hid (hz.kept K0.out)
  have HY := Lib.hid (HasCells.new w #[.int .i64 y.s, .int .i64 y.f, .int .u64 y.p.1, .int .u64 y.p.2, .int .u64 y.t] 42 w.heap.size rfl)
  have HC := Lib.hid (fun w' kk => viewBlock_any kA kc k y hy w' hk hsd (HA.out.kept kk))
  have hzl := hz.1
  clear hA hz hy
  obtain ⟨b00, b01, b02, b03, b04⟩ := HZ.out.five
  have bz0 := HZ.out.1
  go_enter Try.func38, Try.ntmps38
  go_wp2_with fail
  clear b00 b01 b02 b03 b04 bz0 hzl
  generalize w.alloc (.cells #[.int .i64 y.s, .int .i64 y.f, .int .u64 y.p.1, .int .u64 y.p.2, .int .u64 y.t] 42) = W0 at *
  generalize w.heap.size = z1 at *
  refine (HC.out W0 (Kept.refl W0)).mono ?_
  rintro e W1 ⟨rfl, k1⟩
  go_wp2_with fail
  go_ret
  exact ⟨by first | rfl | (simp; done), K0.out.trans k1⟩
theorem onlyB_any (kA : Option Addr) (kc : Nat) (k : Cf) (z : Nat) (lA : Option Addr) (lc : Nat) (l : List Bk) (w : World) (hk : k.ws.length ≤ 1000) (hsd : k.seed < 18446744073709551616) (hl : l.length ≤ 10000) (hwl : ∀ y ∈ l, WfB y) (hA : CellsAt w w.heap.size kA (intCells k.ws)) (hz : HasCells w z [.slice kA k.ws.length kc, .int .u64 k.seed, .int .i64 k.ep, .int .i64 k.nu, .int .i64 k.de]) (hL : CellsAt w w.heap.size lA (blockCells l)) :
    Calls Try.prog 37 #[.slice lA l.length lc, .func (.func 38) #[] #[.pointer (some ⟨z, 0, none⟩)]] w fun e w' => ∃ A c, e = .returned (.slice A (l.filter (blockC k)).length c) ∧ Bks w (l.filter (blockC k)) (.slice A (l.filter (blockC k)).length c) w' := by
  refine (leftBCb_any w 38 #[.pointer (some ⟨z, 0, none⟩)] (fun _ => False) lA lc l (fun j L S w' => L = (l.take j).filter (blockC k) ∧ (∀ x, ¬ S x) ∧ Kept w w') w hl hL (fun _ _ _ q => q) (Kept.refl w) (enters_of Try.func38 (by kernel_rfl) rfl) ⟨?_, ?_, ?_⟩ ⟨rfl, fun _ q => q, Kept.refl w⟩).mono ?_
  · rintro j hj L S w1 ⟨rfl, hS, hK⟩
    refine (only1_any kA kc k l[j] (hwl _ (List.getElem_mem hj)) z w1 hk hsd (hA.kept hK) (hz.kept hK)).mono ?_
    rintro e w2 ⟨rfl, k2⟩
    exact ⟨_, fun _ => False, rfl, ⟨(filter_snoc _ hj).symm, fun _ q => q, hK.trans k2⟩, Off.of_kept k2, fun _ q => q.elim⟩
  · rintro j L S w1 w2 ⟨h1, h2, h3⟩ k2 _ _
    exact ⟨h1, h2, k2⟩
  · rintro j L S w1 ⟨h1, h2, h3⟩
    exact ⟨h3, fun x q => absurd q (h2 x)⟩
  · rintro e w' ⟨L, A, c, S, rfl, ⟨rfl, _, _⟩, hI⟩
    have h := hI.row
    rw [List.take_length] at h ⊢
    exact ⟨A, c, rfl, h⟩
set_option maxRecDepth 100000 in
set_option maxHeartbeats 3200000 in
theorem only2_any (kA : Option Addr) (kc : Nat) (k : Cf) (y : Vt) (hy : WfV y) (z : Nat) (w : World) (hk : k.ws.length ≤ 1000) (hsd : k.seed < 18446744073709551616) (hA : CellsAt w w.heap.size kA (intCells k.ws)) (hz : HasCells w z [.slice kA k.ws.length kc, .int .u64 k.seed, .int .i64 k.ep, .int .i64 k.nu, .int .i64 k.de]) :
    Calls Try.prog 40 #[.agg #[.int .i64 y.f, .int .i64 y.s, .int .u64 y.p.1, .int .u64 y.p.2], .pointer (some ⟨z, 0, none⟩)] w fun e w' => e = .returned (.bool (voteC k y)) ∧ Kept w w' := by
  have K0 := Lib.hid ((Kept.refl w).alloc (.cells #[.int .i64 y.f, .int .i64 y.s, .int .u64 y.p.1, .int .u64 y.p.2] 45))
  have HA := Lib.hid (hA.kept K0.out)
  have HZ := Lib.hid (hz.kept K0.out)
  have HY := Lib.hid (HasCells.new w #[.int .i64 y.f, .int .i64 y.s, .int .u64 y.p.1, .int .u64 y.p.2] 45 w.heap.size rfl)
  have HC := Lib.hid (fun w' kk => viewVote_any kA kc k y hy w' hk hsd (HA.out.kept kk))
  have hzl := hz.1
  clear hA hz hy
  obtain ⟨b00, b01, b02, b03, b04⟩ := HZ.out.five
  have bz0 := HZ.out.1
  go_enter Try.func40, Try.ntmps40
  go_wp2_with fail
  clear b00 b01 b02 b03 b04 bz0 hzl
  generalize w.alloc (.cells #[.int .i64 y.f, .int .i64 y.s, .int .u64 y.p.1, .int .u64 y.p.2] 45) = W0 at *
  generalize w.heap.size = z1 at *
  refine (HC.out W0 (Kept.refl W0)).mono ?_
  rintro e W1 ⟨rfl, k1⟩
  go_wp2_with fail
  go_ret
  exact ⟨by first | rfl | (simp; done), K0.out.trans k1⟩
theorem onlyV_any (kA : Option Addr) (kc : Nat) (k : Cf) (z : Nat) (lA : Option Addr) (lc : Nat) (l : List Vt) (w : World) (hk : k.ws.length ≤ 1000) (hsd : k.seed < 18446744073709551616) (hl : l.length ≤ 10000) (hwl : ∀ y ∈ l, WfV y) (hA : CellsAt w w.heap.size kA (intCells k.ws)) (hz : HasCells w z [.slice kA k.ws.length kc, .int .u64 k.seed, .int .i64 k.ep, .int .i64 k.nu, .int .i64 k.de]) (hL : CellsAt w w.heap.size lA (votesCells l)) :
    Calls Try.prog 39 #[.slice lA l.length lc, .func (.func 40) #[] #[.pointer (some ⟨z, 0, none⟩)]] w fun e w' => ∃ A c, e = .returned (.slice A (l.filter (voteC k)).length c) ∧ Vts w (l.filter (voteC k)) (.slice A (l.filter (voteC k)).length c) w' := by
  refine (leftVCb_any w 40 #[.pointer (some ⟨z, 0, none⟩)] (fun _ => False) lA lc l (fun j L S w' => L = (l.take j).filter (voteC k) ∧ (∀ x, ¬ S x) ∧ Kept w w') w hl hL (fun _ _ _ q => q) (Kept.refl w) (enters_of Try.func40 (by kernel_rfl) rfl) ⟨?_, ?_, ?_⟩ ⟨rfl, fun _ q => q, Kept.refl w⟩).mono ?_
  · rintro j hj L S w1 ⟨rfl, hS, hK⟩
    refine (only2_any kA kc k l[j] (hwl _ (List.getElem_mem hj)) z w1 hk hsd (hA.kept hK) (hz.kept hK)).mono ?_
    rintro e w2 ⟨rfl, k2⟩
    exact ⟨_, fun _ => False, rfl, ⟨(filter_snoc _ hj).symm, fun _ q => q, hK.trans k2⟩, Off.of_kept k2, fun _ q => q.elim⟩
  · rintro j L S w1 w2 ⟨h1, h2, h3⟩ k2 _ _
    exact ⟨h1, h2, k2⟩
  · rintro j L S w1 ⟨h1, h2, h3⟩
    exact ⟨h3, fun x q => absurd q (h2 x)⟩
  · rintro e w' ⟨L, A, c, S, rfl, ⟨rfl, _, _⟩, hI⟩
    have h := hI.row
    rw [List.take_length] at h ⊢
    exact ⟨A, c, rfl, h⟩
set_option maxRecDepth 100000 in
set_option maxHeartbeats 3200000 in
theorem viewOnlyN_any (kA : Option Addr) (kc : Nat) (k : Cf) (lA : Option Addr) (lc : Nat) (l : List Bk) (vA : Option Addr) (vc : Nat) (v : List Vt) (w : World) (hk : k.ws.length ≤ 1000) (hsd : k.seed < 18446744073709551616) (hl : l.length ≤ 10000) (hv : v.length ≤ 10000) (hwl : WfL l) (hwv : WfVs v) (hA : CellsAt w w.heap.size kA (intCells k.ws)) (hL : CellsAt w w.heap.size lA (blockCells l)) (hV : CellsAt w w.heap.size vA (votesCells v)) :
    Calls Try.prog 18 #[.agg #[.slice kA k.ws.length kc, .int .u64 k.seed, .int .i64 k.ep, .int .i64 k.nu, .int .i64 k.de], .agg #[.slice lA l.length lc, .slice vA v.length vc]] w (ViewNew (onlyW k ⟨l, v⟩) w) := by
  have K0 := Lib.hid (((Kept.refl w).alloc (.cells #[.slice kA k.ws.length kc, .int .u64 k.seed, .int .i64 k.ep, .int .i64 k.nu, .int .i64 k.de] 25)).alloc (.cells #[.slice lA l.length lc, .slice vA v.length vc] 29))
  have HA := Lib.hid (hA.kept K0.out)
  have HL := Lib.hid (hL.kept K0.out)
  have HV := Lib.hid (hV.kept K0.out)
  clear hA hL hV
  have HB0 := Lib.hid ((HasCells.new w #[.slice kA k.ws.length kc, .int .u64 k.seed, .int .i64 k.ep, .int .i64 k.nu, .int .i64 k.de] 25 (w.heap.size) rfl).alloc (.cells #[.slice lA l.length lc, .slice vA v.length vc] 29))
  have HB1 := Lib.hid (HasCells.new (w.alloc (.cells #[.slice kA k.ws.length kc, .int .u64 k.seed, .int .i64 k.ep, .int .i64 k.nu, .int .i64 k.de] 25)) #[.slice lA l.length lc, .slice vA v.length vc] 29 (w.heap.size + 1) (by simp))
  go_enter Try.func18, Try.ntmps18
  go_wp2_with fail
  have HS4 := Lib.hid (show ((w.alloc (.cells #[.slice kA k.ws.length kc, .int .u64 k.seed, .int .i64 k.ep, .int .i64 k.nu, .int .i64 k.de] 25)).alloc (.cells #[.slice lA l.length lc, .slice vA v.length vc] 29)).heap.size = w.heap.size + 1 + 1 by simp)
  have H4 := Lib.hid (show AtB (((w.alloc (.cells #[.slice kA k.ws.length kc, .int .u64 k.seed, .int .i64 k.ep, .int .i64 k.nu, .int .i64 k.de] 25)).alloc (.cells #[.slice lA l.length lc, .slice vA v.length vc] 29)).alloc (.cells #[.slice none 0 0, .slice none 0 0] 29)) (w.heap.size + 1 + 1) #[.slice none 0 0, .slice none 0 0] 29 from HS4.out ▸ AtB.new _ #[.slice none 0 0, .slice none 0 0] _)
  generalize (w.alloc (.cells #[.slice kA k.ws.length kc, .int .u64 k.seed, .int .i64 k.ep, .int .i64 k.nu, .int .i64 k.de] 25)).alloc (.cells #[.slice lA l.length lc, .slice vA v.length vc] 29) = W0 at *
  generalize w.heap.size + 1 + 1 = z4 at *
  generalize w.heap.size + 1 = z1 at *
  generalize w.heap.size = z0 at *
  have KW := Lib.hid ((Kept.refl W0).alloc (.cells #[.slice none 0 0, .slice none 0 0] 29))
  generalize W0.alloc (.cells #[.slice none 0 0, .slice none 0 0] 29) = Wm at *
  have HG4 := Lib.hid (show W0.heap.size ≤ z4 from Nat.le_of_eq HS4.out)
  clear HS4
  have KM := Lib.hid (KW.out.trans (Kept.refl Wm).drew)
  have h4 := H4.out.kept (Kept.refl Wm).drew
  obtain ⟨d0, d1⟩ := HB1.out.two
  have dz := HB1.out.1
  clear KW H4
  refine wp_region_noPanic ?_
  refine wp_region_held_drew (S := (fun w' => w'.cell? ⟨z1, 0, none⟩ = some (.slice lA l.length lc) ∧ w'.cell? ⟨z1, 1, none⟩ = some (.slice vA v.length vc) ∧ Kept W0 w')) (by kernel_rfl) ?_ (fun hHeld => ?_)
  · exact ⟨(KM.out.cell (p := ⟨z1, 0, none⟩) dz).trans d0, (KM.out.cell (p := ⟨z1, 1, none⟩) dz).trans d1, KM.out⟩
  generalize Wm.drew = V0 at *
  refine wpAnyH_take (i := 0) (v := ?_) (by simp only [List.getElem?_toArray, List.getElem?_cons_succ, List.getElem?_cons_zero]; rfl) (by kernel_rfl) (by kernel_rfl) (by kernel_rfl) (fun _ _ _ h => h) (Or.inl ⟨by rfl, ?_⟩) (by assumption) ?_
  rotate_left
  · intro w hSw
    (try dsimp only at hSw)
    go_simp
    (try with_reducible rfl)
  simp only [Act.put, List.setIfInBounds_toArray, List.set_cons_zero, List.set_cons_succ]
  refine wpAnyH_take (i := 1) (v := ?_) (by simp only [List.getElem?_toArray, List.getElem?_cons_succ, List.getElem?_cons_zero]; rfl) (by kernel_rfl) (by kernel_rfl) (by kernel_rfl) (fun _ _ _ h => h) (Or.inl ⟨by rfl, ?_⟩) (by assumption) ?_
  rotate_left
  · intro w hSw
    (try dsimp only at hSw)
    go_simp
    (try with_reducible rfl)
  simp only [Act.put, List.setIfInBounds_toArray, List.set_cons_zero, List.set_cons_succ]
  refine wpAnyH_take (i := 2) (v := ?_) (by simp only [List.getElem?_toArray, List.getElem?_cons_succ, List.getElem?_cons_zero]; rfl) (by kernel_rfl) (by kernel_rfl) (by kernel_rfl) (fun _ _ _ h => h) (Or.inl ⟨by rfl, ?_⟩) (by assumption) ?_
  rotate_left
  · intro w hSw
    (try dsimp only at hSw)
    go_simp
    (try with_reducible rfl)
  simp only [Act.put, List.setIfInBounds_toArray, List.set_cons_zero, List.set_cons_succ]
  refine wpAnyH_take (i := 4) (v := ?_) (by simp only [List.getElem?_toArray, List.getElem?_cons_succ, List.getElem?_cons_zero]; rfl) (by kernel_rfl) (by kernel_rfl) (by kernel_rfl) (fun _ _ _ h => h) (Or.inl ⟨by rfl, ?_⟩) (by assumption) ?_
  rotate_left
  · intro w hSw
    (try dsimp only at hSw)
    go_simp
    (try with_reducible rfl)
  simp only [Act.put, List.setIfInBounds_toArray, List.set_cons_zero, List.set_cons_succ]
  refine wpAnyH_take (i := 5) (v := ?_) (by simp only [List.getElem?_toArray, List.getElem?_cons_succ, List.getElem?_cons_zero]; rfl) (by kernel_rfl) (by kernel_rfl) (by kernel_rfl) (fun _ _ _ h => h) (Or.inl ⟨by rfl, ?_⟩) (by assumption) ?_
  rotate_left
  · intro w hSw
    (try dsimp only at hSw)
    go_simp
    (try with_reducible rfl)
  simp only [Act.put, List.setIfInBounds_toArray, List.set_cons_zero, List.set_cons_succ]
  refine wpAnyH_take (i := 6) (v := ?_) (by simp only [List.getElem?_toArray, List.getElem?_cons_succ, List.getElem?_cons_zero]; rfl) (by kernel_rfl) (by kernel_rfl) (by kernel_rfl) (fun _ _ _ h => h) (Or.inl ⟨by rfl, ?_⟩) (by assumption) ?_
  rotate_left
  · intro w hSw
    (try dsimp only at hSw)
    go_simp
    (try with_reducible rfl)
  simp only [Act.put, List.setIfInBounds_toArray, List.set_cons_zero, List.set_cons_succ]
  refine wpAnyH_ready (rs := [3]) (by kernel_rfl) (by simp) ?_
  refine AllReadyH.cons (by simp only [List.getElem?_toArray, List.getElem?_cons_succ, List.getElem?_cons_zero]; rfl) (fun K hK => ?_) (AllReadyH.nil)
  go_simp
  go_at_call 37
  refine (onlyB_any kA kc k z0 lA lc l V0 hk hsd hl hwl (HA.out.kept hHeld.2.2) (HB0.out.kept hHeld.2.2) (HL.out.kept hHeld.2.2)).mono ?_
  rintro e V1 ⟨A, c, rfl, hb⟩
  have kk := hb.2
  have kT := hHeld.2.2.trans kk
  replace h4 := h4.kept kk
  replace hb := hb.lower hHeld.2.2
  clear kk
  refine hK.out _ _ ?_ (fun hHeld2 => ?_)
  · exact ⟨(kT.cell (p := ⟨z1, 0, none⟩) dz).trans d0, (kT.cell (p := ⟨z1, 1, none⟩) dz).trans d1, kT⟩
  clear hK K hHeld
  have hHeld := hHeld2
  clear hHeld2
  try simp only [Act.put, List.setIfInBounds_toArray, List.set_cons_zero, List.set_cons_succ]
  refine wpAnyH_ready (rs := [7]) (by kernel_rfl) (by simp) ?_
  refine AllReadyH.cons (by simp only [List.getElem?_toArray, List.getElem?_cons_succ, List.getElem?_cons_zero]; rfl) (fun K hK => ?_) (AllReadyH.nil)
  go_simp
  go_at_call 39
  refine (onlyV_any kA kc k z0 vA vc v V1 hk hsd hv hwv (HA.out.kept hHeld.2.2) (HB0.out.kept hHeld.2.2) (HV.out.kept hHeld.2.2)).mono ?_
  rintro e V2 ⟨B, d, rfl, hv'⟩
  have kk := hv'.2
  have kT := hHeld.2.2.trans kk
  replace hb := hb.kept kk
  replace h4 := h4.kept kk
  replace hv' := hv'.lower hHeld.2.2
  clear kk
  refine hK.out _ _ ?_ (fun hHeld2 => ?_)
  · exact ⟨(kT.cell (p := ⟨z1, 0, none⟩) dz).trans d0, (kT.cell (p := ⟨z1, 1, none⟩) dz).trans d1, kT⟩
  clear hK K hHeld
  have hHeld := hHeld2
  clear hHeld2
  try simp only [Act.put, List.setIfInBounds_toArray, List.set_cons_zero, List.set_cons_succ]
  refine wpAnyH_take (i := 8) (v := ?_) (by simp only [List.getElem?_toArray, List.getElem?_cons_succ, List.getElem?_cons_zero]; rfl) (by kernel_rfl) (by kernel_rfl) (by kernel_rfl) (fun _ _ _ h => h) (Or.inl ⟨by rfl, ?_⟩) (by assumption) ?_
  rotate_left
  · intro w hSw
    (try dsimp only at hSw)
    go_simp
    (try with_reducible rfl)
  simp only [Act.put, List.setIfInBounds_toArray, List.set_cons_zero, List.set_cons_succ]
  refine wpAnyH_ready (rs := [9]) (by kernel_rfl) (by simp) ?_
  refine AllReadyH.cons (by simp only [List.getElem?_toArray, List.getElem?_cons_succ, List.getElem?_cons_zero]; rfl) (fun K hK => ?_) (AllReadyH.nil)
  have c0 : V2.cell? ⟨z4, 0, none⟩ = some (.slice none 0 0) := h4.cell
  have c1 : V2.cell? ⟨z4, 1, none⟩ = some (.slice none 0 0) := h4.cell
  have f0 := h4.fr 0
  have f1 := h4.fr 1
  have lt4 := h4.lt
  replace hb := bks_past_box (bks_past_box hb h4 (by decide) HG4.out 0 (.slice A (l.filter (blockC k)).length c)) (h4.set 0 (.slice A (l.filter (blockC k)).length c)) (by decide) HG4.out 1 (.slice B (v.filter (voteC k)).length d)
  replace hv' := vts_past_box (vts_past_box hv' h4 (by decide) HG4.out 0 (.slice A (l.filter (blockC k)).length c)) (h4.set 0 (.slice A (l.filter (blockC k)).length c)) (by decide) HG4.out 1 (.slice B (v.filter (voteC k)).length d)
  replace h4 := h4.set2 (.slice A (l.filter (blockC k)).length c) (.slice B (v.filter (voteC k)).length d)
  have kT := hb.2
  go_simp
  generalize (V2.setCell ⟨z4, 0, none⟩ (.slice A (l.filter (blockC k)).length c)).setCell ⟨z4, 1, none⟩ (.slice B (v.filter (voteC k)).length d) = V3 at *
  clear c0 c1 f0 f1 lt4
  refine hK.out _ _ ?_ (fun hHeld2 => ?_)
  · exact ⟨(kT.cell (p := ⟨z1, 0, none⟩) dz).trans d0, (kT.cell (p := ⟨z1, 1, none⟩) dz).trans d1, kT⟩
  clear hK K hHeld
  have hHeld := hHeld2
  clear hHeld2
  try simp only [Act.put, List.setIfInBounds_toArray, List.set_cons_zero, List.set_cons_succ]
  refine wpAnyH_done (by kernel_rfl) ?_ _
  refine NoPanic.normal ?_
  have r0 : V3.cell? ⟨z4, 0, none⟩ = some (.slice A (l.filter (blockC k)).length c) := h4.cell
  have r1 : V3.cell? ⟨z4, 1, none⟩ = some (.slice B (v.filter (voteC k)).length d) := h4.cell
  clear hHeld
  go_wp2_with fail
  refine bodyPost_ret (v := .agg #[.slice A (l.filter (blockC k)).length c, .slice B (v.filter (voteC k)).length d]) (by simp [results, Try.results18, go_sem, r0, r1]) rfl ?_
  exact ⟨A, c, B, d, rfl, hb.lower K0.out, hv'.lower K0.out⟩

end Go.Proofs.Ytacdiicnfoejoaa
