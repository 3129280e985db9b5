/-
  Law WeighMore of layer 8: one block more changes nothing of what is on others, if no vote is for it, whatever conf, blocks, votes, block and id.
-/
import Derived.Test.YtajdhcanajbgoaaWeighAwake
import Derived.Test.YtajdhcanajbgoaaWeighFacts
import Derived.Test.YtajdhcanajbgoaaWeighKeep
import Derived.Test.YtajdhcanajbgoaaKeep
import Derived.Test.YtajdhcanajbgoaaDutyG
import Derived.Test.YtajdhcanajbgoaaTreeG
import Derived.Test.YtajdhcanajbgoaaVoteG
import Derived.Test.YtajdhcanajbgoaaMixG
import Derived.Test.YtajdhcanajbgoaaGround
import Derived.Test.YtajdhcanajbgoaaSized
namespace Go.Proofs.Ytajdhcanajbgoaa.weighMore
set_option maxRecDepth 100000
open Go.ChangeShapes Go.WideShapes Go.ChangeAt Go.RowKit
set_option linter.unusedVariables false

attribute [local go_sem high] eqIdN eqIdZ in
set_option maxRecDepth 100000 in
set_option maxHeartbeats 3200000 in
theorem walk_of (w : World) (kA : Option Addr) (kc : Nat) (k : Cf) (khm : k.ws.length ≤ maxLen) (khs : k.seed < 18446744073709551616) (khl : CellsAt w w.heap.size kA (intCells k.ws)) (lA : Option Addr) (lc : Nat) (l : List Bk) (lhm : l.length ≤ maxLen) (lhc : l.length ≤ lc) (lhw : WfL l) (lhl : CellsAt w w.heap.size lA (blockCells l)) (lhz : l.length * 40 ≤ 140737488351232) (vA : Option Addr) (vc : Nat) (v : List Vt) (vhm : v.length ≤ maxLen) (vhc : v.length ≤ vc) (vhw : WfVs v) (vhl : CellsAt w w.heap.size vA (votesCells v)) (b : Bk) (hb : WfB b) (x : Nat × Nat) (hx1 : x.1 < 18446744073709551616) (hx2 : x.2 < 18446744073709551616) (n : Id2) (hn : WfI n) (hN : ∀ w, Calls Try.prog 23 #[.agg #[.int .i64 b.s, .int .i64 b.f, .int .u64 b.p.1, .int .u64 b.p.2, .int .u64 b.t]] w fun e w' => e = .returned (.agg #[.int .u64 n.1, .int .u64 n.2]) ∧ Kept w w') (hM1 : mayB (l ++ [b]) = true → (∀ y ∈ v, y.p ≠ n) → onC k (l ++ [b]) v x = onC k l v x) (hM2 : mayB (l ++ [b]) = true → (∀ y ∈ v, y.p ≠ n) → onC k (l ++ [b]) v n = 0) :
    Calls Try.prog 8 #[.agg #[.slice kA k.ws.length kc, .int .u64 k.seed, .int .i64 k.ep, .int .i64 k.nu, .int .i64 k.de], .slice lA l.length lc, .slice vA v.length vc, .agg #[.int .i64 b.s, .int .i64 b.f, .int .u64 b.p.1, .int .u64 b.p.2, .int .u64 b.t], .agg #[.int .u64 x.1, .int .u64 x.2]] w fun e w' => e = .returned (.bool true) ∧ Kept w w' := by
  cases hf : fewC k l v with
  | false =>
    go_enter Try.func8, Try.ntmps8
    go_wp2_with fail
    have K0 := Lib.hid ((((Kept.refl w).alloc (.cells #[.slice kA k.ws.length kc, .int .u64 k.seed, .int .i64 k.ep, .int .i64 k.nu, .int .i64 k.de] 25)).alloc (.cells #[.int .i64 b.s, .int .i64 b.f, .int .u64 b.p.1, .int .u64 b.p.2, .int .u64 b.t] 48)).alloc (.cells #[.int .u64 x.1, .int .u64 x.2] 29))
    have HA := Lib.hid (khl.kept K0.out)
    clear khl
    have HL := Lib.hid (lhl.kept K0.out)
    clear lhl
    have HV := Lib.hid (vhl.kept K0.out)
    clear vhl
    have HB0 := Lib.hid (((HasCells.new w #[.slice kA k.ws.length kc, .int .u64 k.seed, .int .i64 k.ep, .int .i64 k.nu, .int .i64 k.de] 25 (w.heap.size) (by simp)).alloc (.cells #[.int .i64 b.s, .int .i64 b.f, .int .u64 b.p.1, .int .u64 b.p.2, .int .u64 b.t] 48)).alloc (.cells #[.int .u64 x.1, .int .u64 x.2] 29))
    have HB1 := Lib.hid ((HasCells.new (w.alloc (.cells #[.slice kA k.ws.length kc, .int .u64 k.seed, .int .i64 k.ep, .int .i64 k.nu, .int .i64 k.de] 25)) #[.int .i64 b.s, .int .i64 b.f, .int .u64 b.p.1, .int .u64 b.p.2, .int .u64 b.t] 48 (w.heap.size + 1) (by simp)).alloc (.cells #[.int .u64 x.1, .int .u64 x.2] 29))
    have HB2 := Lib.hid (HasCells.new ((w.alloc (.cells #[.slice kA k.ws.length kc, .int .u64 k.seed, .int .i64 k.ep, .int .i64 k.nu, .int .i64 k.de] 25)).alloc (.cells #[.int .i64 b.s, .int .i64 b.f, .int .u64 b.p.1, .int .u64 b.p.2, .int .u64 b.t] 48)) #[.int .u64 x.1, .int .u64 x.2] 29 (w.heap.size + 1 + 1) (by simp))
    generalize (((w.alloc (.cells #[.slice kA k.ws.length kc, .int .u64 k.seed, .int .i64 k.ep, .int .i64 k.nu, .int .i64 k.de] 25)).alloc (.cells #[.int .i64 b.s, .int .i64 b.f, .int .u64 b.p.1, .int .u64 b.p.2, .int .u64 b.t] 48)).alloc (.cells #[.int .u64 x.1, .int .u64 x.2] 29)) = W0 at *
    generalize w.heap.size + 1 + 1 = z2 at *
    generalize w.heap.size + 1 = z1 at *
    generalize w.heap.size = z0 at *
    have KB0 := Lib.hid (Kept.refl W0)
    refine (weighAwake W0).mono ?_
    rintro e W1 ⟨rfl, k⟩
    have KB1 := Lib.hid (KB0.out.trans k)
    clear k
    obtain ⟨b00, b01, b02, b03, b04⟩ := (HB0.out.kept KB1.out).five
    have bz0 := (HB0.out.kept KB1.out).1
    obtain ⟨b10, b11, b12, b13, b14⟩ := (HB1.out.kept KB1.out).five
    have bz1 := (HB1.out.kept KB1.out).1
    obtain ⟨b20, b21⟩ := (HB2.out.kept KB1.out).two
    have bz2 := (HB2.out.kept KB1.out).1
    go_wp2_with fail
    clear b00 b01 b02 b03 b04 bz0 b10 b11 b12 b13 b14 bz1 b20 b21 bz2
    refine (few_any kA kc k lA lc l vA vc v W1).mono ?_
    rintro e W2 ⟨rfl, k⟩
    have KB2 := Lib.hid (KB1.out.trans k)
    clear k
    rw [hf]
    obtain ⟨b00, b01, b02, b03, b04⟩ := (HB0.out.kept KB2.out).five
    have bz0 := (HB0.out.kept KB2.out).1
    obtain ⟨b10, b11, b12, b13, b14⟩ := (HB1.out.kept KB2.out).five
    have bz1 := (HB1.out.kept KB2.out).1
    obtain ⟨b20, b21⟩ := (HB2.out.kept KB2.out).two
    have bz2 := (HB2.out.kept KB2.out).1
    go_wp2_with fail
    clear b00 b01 b02 b03 b04 bz0 b10 b11 b12 b13 b14 bz1 b20 b21 bz2
    obtain ⟨b10, b11, b12, b13, b14⟩ := (HB1.out.kept KB2.out).five
    have bz1 := (HB1.out.kept KB2.out).1
    have hq := (⟨b10, b11, b12, b13, b14, Kept.refl W2⟩ : _ ∧ _ ∧ _ ∧ _ ∧ _ ∧ _)
    have hb0 : l.length * 40 ≤ 140737488355328 := by omega
    have hb1 : (l.length + 1) * 40 ≤ 140737488355328 := by omega
    have HLw := (HL.out.kept KB2.out)
    go_region_held3 (fun w' => w'.cell? ⟨z1, 0, none⟩ = some (.int .i64 b.s) ∧ w'.cell? ⟨z1, 1, none⟩ = some (.int .i64 b.f) ∧ w'.cell? ⟨z1, 2, none⟩ = some (.int .u64 b.p.1) ∧ w'.cell? ⟨z1, 3, none⟩ = some (.int .u64 b.p.2) ∧ w'.cell? ⟨z1, 4, none⟩ = some (.int .u64 b.t) ∧ Kept W2 w')
      (first | exact ⟨b10, b11, b12, b13, b14, Kept.refl _⟩ | exact ⟨b10, b11, b12, b13, b14, (Kept.refl _).drew⟩ | assumption | exact keepP5 bz1 bz1 bz1 bz1 bz1 (by assumption) (by assumption) | exact keepP5 bz1 bz1 bz1 bz1 bz1 hq (Kept.trans (Kept.drew (Kept.refl _)) b2.2) | exact keepP5 bz1 bz1 bz1 bz1 bz1 hq (Kept.trans (Kept.drew (Kept.alloc (Kept.refl _) _)) b2.2) | exact keepP5 bz1 bz1 bz1 bz1 bz1 hq (Kept.trans (Kept.drew (Kept.refl _)) b1.2) | exact keepP5 bz1 bz1 bz1 bz1 bz1 hq (Kept.trans (Kept.drew (Kept.alloc (Kept.refl _) _)) b1.2) | exact keepP5 bz1 bz1 bz1 bz1 bz1 hq (Kept.drew (Kept.alloc (Kept.refl _) _)) | exact keepP5 bz1 bz1 bz1 bz1 bz1 (by assumption) ((Kept.refl _).alloc _))
      (first
        | (refine step_bznil _ (by rfl) (.tmp 20) (by rfl) _ lA l.length lc l (by rfl) rfl (HLw.kept (Kept.refl _).drew) hb0 ?_; intro A1 d1 w1 b1)
        | (refine step_bznil _ (by rfl) (.tmp 20) (by rfl) _ lA l.length lc l (by rfl) rfl (HLw.kept (Kept.drew (Kept.alloc (Kept.refl _) _))) hb0 ?_; intro A1 d1 w1 b1)
        | (refine step_bkz _ (by rfl) (.tmp 21) (.tmp 23) (by rfl) _ l _ (by rfl) (b1.alloc _) _ _ 1 1 [b] (by rfl) rfl (blocks_new _ _ _ _ rfl) hb1 ?_; intro AM dM w2 b2)
        | (refine step_bkz _ (by rfl) (.tmp 21) (.tmp 23) (by rfl) _ l _ (by rfl) b1 _ _ 1 1 [b] (by rfl) rfl (((blocks_new W2 _ _ _ rfl).kept (Kept.drew (Kept.refl _))).kept b1.2) hb1 ?_; intro AM dM w2 b2))
    all_goals
      rename_i hh
      have k := hh.2.2.2.2.2
      clear hh
      have KB3 := Lib.hid (KB2.out.trans k)
      clear k
      have XB := Lib.hid (b2.cells (by simp))
      clear hq b1 b2 b10 b11 b12 b13 b14 bz1 hb0 hb1 HLw
      generalize w2 = W3 at *
      go_wp2_with fail
      go_quiet (fail)
      go_wp2_with fail
      go_ret
      exact ⟨by first | rfl | (simp; done), (K0.out.trans KB3.out).drewN _⟩
  | true =>
    obtain ⟨hk40, hl30, hv30⟩ := fewC_yes hf
    have HF := Lib.hid hf
    clear hf
    go_enter Try.func8, Try.ntmps8
    go_wp2_with fail
    have K0 := Lib.hid ((((Kept.refl w).alloc (.cells #[.slice kA k.ws.length kc, .int .u64 k.seed, .int .i64 k.ep, .int .i64 k.nu, .int .i64 k.de] 25)).alloc (.cells #[.int .i64 b.s, .int .i64 b.f, .int .u64 b.p.1, .int .u64 b.p.2, .int .u64 b.t] 48)).alloc (.cells #[.int .u64 x.1, .int .u64 x.2] 29))
    have HA := Lib.hid (khl.kept K0.out)
    clear khl
    have HL := Lib.hid (lhl.kept K0.out)
    clear lhl
    have HV := Lib.hid (vhl.kept K0.out)
    clear vhl
    have HB0 := Lib.hid (((HasCells.new w #[.slice kA k.ws.length kc, .int .u64 k.seed, .int .i64 k.ep, .int .i64 k.nu, .int .i64 k.de] 25 (w.heap.size) (by simp)).alloc (.cells #[.int .i64 b.s, .int .i64 b.f, .int .u64 b.p.1, .int .u64 b.p.2, .int .u64 b.t] 48)).alloc (.cells #[.int .u64 x.1, .int .u64 x.2] 29))
    have HB1 := Lib.hid ((HasCells.new (w.alloc (.cells #[.slice kA k.ws.length kc, .int .u64 k.seed, .int .i64 k.ep, .int .i64 k.nu, .int .i64 k.de] 25)) #[.int .i64 b.s, .int .i64 b.f, .int .u64 b.p.1, .int .u64 b.p.2, .int .u64 b.t] 48 (w.heap.size + 1) (by simp)).alloc (.cells #[.int .u64 x.1, .int .u64 x.2] 29))
    have HB2 := Lib.hid (HasCells.new ((w.alloc (.cells #[.slice kA k.ws.length kc, .int .u64 k.seed, .int .i64 k.ep, .int .i64 k.nu, .int .i64 k.de] 25)).alloc (.cells #[.int .i64 b.s, .int .i64 b.f, .int .u64 b.p.1, .int .u64 b.p.2, .int .u64 b.t] 48)) #[.int .u64 x.1, .int .u64 x.2] 29 (w.heap.size + 1 + 1) (by simp))
    generalize (((w.alloc (.cells #[.slice kA k.ws.length kc, .int .u64 k.seed, .int .i64 k.ep, .int .i64 k.nu, .int .i64 k.de] 25)).alloc (.cells #[.int .i64 b.s, .int .i64 b.f, .int .u64 b.p.1, .int .u64 b.p.2, .int .u64 b.t] 48)).alloc (.cells #[.int .u64 x.1, .int .u64 x.2] 29)) = W0 at *
    generalize w.heap.size + 1 + 1 = z2 at *
    generalize w.heap.size + 1 = z1 at *
    generalize w.heap.size = z0 at *
    have KB0 := Lib.hid (Kept.refl W0)
    refine (weighAwake W0).mono ?_
    rintro e W1 ⟨rfl, k⟩
    have KB1 := Lib.hid (KB0.out.trans k)
    clear k
    obtain ⟨b00, b01, b02, b03, b04⟩ := (HB0.out.kept KB1.out).five
    have bz0 := (HB0.out.kept KB1.out).1
    obtain ⟨b10, b11, b12, b13, b14⟩ := (HB1.out.kept KB1.out).five
    have bz1 := (HB1.out.kept KB1.out).1
    obtain ⟨b20, b21⟩ := (HB2.out.kept KB1.out).two
    have bz2 := (HB2.out.kept KB1.out).1
    go_wp2_with fail
    clear b00 b01 b02 b03 b04 bz0 b10 b11 b12 b13 b14 bz1 b20 b21 bz2
    refine (few_any kA kc k lA lc l vA vc v W1).mono ?_
    rintro e W2 ⟨rfl, k⟩
    have KB2 := Lib.hid (KB1.out.trans k)
    clear k
    rw [HF.out]
    obtain ⟨b00, b01, b02, b03, b04⟩ := (HB0.out.kept KB2.out).five
    have bz0 := (HB0.out.kept KB2.out).1
    obtain ⟨b10, b11, b12, b13, b14⟩ := (HB1.out.kept KB2.out).five
    have bz1 := (HB1.out.kept KB2.out).1
    obtain ⟨b20, b21⟩ := (HB2.out.kept KB2.out).two
    have bz2 := (HB2.out.kept KB2.out).1
    go_wp2_with fail
    clear b00 b01 b02 b03 b04 bz0 b10 b11 b12 b13 b14 bz1 b20 b21 bz2
    obtain ⟨b10, b11, b12, b13, b14⟩ := (HB1.out.kept KB2.out).five
    have bz1 := (HB1.out.kept KB2.out).1
    have hq := (⟨b10, b11, b12, b13, b14, Kept.refl W2⟩ : _ ∧ _ ∧ _ ∧ _ ∧ _ ∧ _)
    have hb0 : l.length * 40 ≤ 140737488355328 := by omega
    have hb1 : (l.length + 1) * 40 ≤ 140737488355328 := by omega
    have HLw := (HL.out.kept KB2.out)
    go_region_held3 (fun w' => w'.cell? ⟨z1, 0, none⟩ = some (.int .i64 b.s) ∧ w'.cell? ⟨z1, 1, none⟩ = some (.int .i64 b.f) ∧ w'.cell? ⟨z1, 2, none⟩ = some (.int .u64 b.p.1) ∧ w'.cell? ⟨z1, 3, none⟩ = some (.int .u64 b.p.2) ∧ w'.cell? ⟨z1, 4, none⟩ = some (.int .u64 b.t) ∧ Kept W2 w')
      (first | exact ⟨b10, b11, b12, b13, b14, Kept.refl _⟩ | exact ⟨b10, b11, b12, b13, b14, (Kept.refl _).drew⟩ | assumption | exact keepP5 bz1 bz1 bz1 bz1 bz1 (by assumption) (by assumption) | exact keepP5 bz1 bz1 bz1 bz1 bz1 hq (Kept.trans (Kept.drew (Kept.refl _)) b2.2) | exact keepP5 bz1 bz1 bz1 bz1 bz1 hq (Kept.trans (Kept.drew (Kept.alloc (Kept.refl _) _)) b2.2) | exact keepP5 bz1 bz1 bz1 bz1 bz1 hq (Kept.trans (Kept.drew (Kept.refl _)) b1.2) | exact keepP5 bz1 bz1 bz1 bz1 bz1 hq (Kept.trans (Kept.drew (Kept.alloc (Kept.refl _) _)) b1.2) | exact keepP5 bz1 bz1 bz1 bz1 bz1 hq (Kept.drew (Kept.alloc (Kept.refl _) _)) | exact keepP5 bz1 bz1 bz1 bz1 bz1 (by assumption) ((Kept.refl _).alloc _))
      (first
        | (refine step_bznil _ (by rfl) (.tmp 20) (by rfl) _ lA l.length lc l (by rfl) rfl (HLw.kept (Kept.refl _).drew) hb0 ?_; intro A1 d1 w1 b1)
        | (refine step_bznil _ (by rfl) (.tmp 20) (by rfl) _ lA l.length lc l (by rfl) rfl (HLw.kept (Kept.drew (Kept.alloc (Kept.refl _) _))) hb0 ?_; intro A1 d1 w1 b1)
        | (refine step_bkz _ (by rfl) (.tmp 21) (.tmp 23) (by rfl) _ l _ (by rfl) (b1.alloc _) _ _ 1 1 [b] (by rfl) rfl (blocks_new _ _ _ _ rfl) hb1 ?_; intro AM dM w2 b2)
        | (refine step_bkz _ (by rfl) (.tmp 21) (.tmp 23) (by rfl) _ l _ (by rfl) b1 _ _ 1 1 [b] (by rfl) rfl (((blocks_new W2 _ _ _ rfl).kept (Kept.drew (Kept.refl _))).kept b1.2) hb1 ?_; intro AM dM w2 b2))
    all_goals
      rename_i hh
      have k := hh.2.2.2.2.2
      clear hh
      have KB3 := Lib.hid (KB2.out.trans k)
      clear k
      have XB := Lib.hid (b2.cells (by simp))
      clear hq b1 b2 b10 b11 b12 b13 b14 bz1 hb0 hb1 HLw
      generalize w2 = W3 at *
      have hML : (l ++ [b]).length ≤ 1000000 := by simp; omega
      have hMW : WfL (l ++ [b]) := wfl_more lhw hb
      have hMl : l.length + 1 = (l ++ [b]).length := by simp
      generalize hM : l ++ [b] = M at *
      try rw [hMl]
      clear hM hMl
      go_wp2_with fail
      have HMay := Lib.hid (fun w' (kk : Kept W3 w') => may_any AM dM M hML hMW w' (XB.out.kept kk))
      cases hm : mayB M with
      | false =>
        have HMy := Lib.hid (fun w' (kk : Kept W3 w') => bool_is hm (HMay.out w' kk))
        clear HMay
        refine wp_region_noPanic ?_
        refine wp_region_held_drew (S := (fun w' => Kept W3 w')) (by kernel_rfl) ?_ (fun hHeld => ?_)
        · exact (Kept.refl _).drew
        refine wpAnyH_take (i := 0) (v := ?_) (by simp only [List.getElem?_toArray, List.getElem?_cons_succ, List.getElem?_cons_zero]; rfl) (by kernel_rfl) (by kernel_rfl) (by kernel_rfl) (fun _ _ _ h => h) (Or.inl ⟨by rfl, ?_⟩) (by assumption) ?_
        rotate_left
        · intro w hSw
          (try dsimp only at hSw)
          go_simp
          (try with_reducible rfl)
        simp only [Act.put, List.setIfInBounds_toArray, List.set_cons_zero, List.set_cons_succ]
        refine wpAnyH_take (i := 1) (v := ?_) (by simp only [List.getElem?_toArray, List.getElem?_cons_succ, List.getElem?_cons_zero]; rfl) (by kernel_rfl) (by kernel_rfl) (by kernel_rfl) (fun _ _ _ h => h) (Or.inl ⟨by rfl, ?_⟩) (by assumption) ?_
        rotate_left
        · intro w hSw
          (try dsimp only at hSw)
          go_simp
          (try with_reducible rfl)
        simp only [Act.put, List.setIfInBounds_toArray, List.set_cons_zero, List.set_cons_succ]
        refine wpAnyH_take (i := 2) (v := ?_) (by simp only [List.getElem?_toArray, List.getElem?_cons_succ, List.getElem?_cons_zero]; rfl) (by kernel_rfl) (by kernel_rfl) (by kernel_rfl) (fun _ _ _ h => h) (Or.inl ⟨by rfl, ?_⟩) (by assumption) ?_
        rotate_left
        · intro w hSw
          (try dsimp only at hSw)
          go_simp
          (try with_reducible rfl)
        simp only [Act.put, List.setIfInBounds_toArray, List.set_cons_zero, List.set_cons_succ]
        refine wpAnyH_take (i := 3) (v := ?_) (by simp only [List.getElem?_toArray, List.getElem?_cons_succ, List.getElem?_cons_zero]; rfl) (by kernel_rfl) (by kernel_rfl) (by kernel_rfl) (fun _ _ _ h => h) (Or.inl ⟨by rfl, ?_⟩) (by assumption) ?_
        rotate_left
        · intro w hSw
          (try dsimp only at hSw)
          go_simp
          (try with_reducible rfl)
        simp only [Act.put, List.setIfInBounds_toArray, List.set_cons_zero, List.set_cons_succ]
        refine wpAnyH_take (i := 4) (v := ?_) (by simp only [List.getElem?_toArray, List.getElem?_cons_succ, List.getElem?_cons_zero]; rfl) (by kernel_rfl) (by kernel_rfl) (by kernel_rfl) (fun _ _ _ h => h) (Or.inl ⟨by rfl, ?_⟩) (by assumption) ?_
        rotate_left
        · intro w hSw
          (try dsimp only at hSw)
          go_simp
          (try with_reducible rfl)
        simp only [Act.put, List.setIfInBounds_toArray, List.set_cons_zero, List.set_cons_succ]
        refine wpAnyH_take (i := 5) (v := ?_) (by simp only [List.getElem?_toArray, List.getElem?_cons_succ, List.getElem?_cons_zero]; rfl) (by kernel_rfl) (by kernel_rfl) (by kernel_rfl) (fun _ _ _ h => h) (Or.inl ⟨by rfl, ?_⟩) (by assumption) ?_
        rotate_left
        · intro w hSw
          (try dsimp only at hSw)
          go_simp
          (try with_reducible rfl)
        simp only [Act.put, List.setIfInBounds_toArray, List.set_cons_zero, List.set_cons_succ]
        refine wpAnyH_take (i := 6) (v := ?_) (by simp only [List.getElem?_toArray, List.getElem?_cons_succ, List.getElem?_cons_zero]; rfl) (by kernel_rfl) (by kernel_rfl) (by kernel_rfl) (fun _ _ _ h => h) (Or.inl ⟨by rfl, ?_⟩) (by assumption) ?_
        rotate_left
        · intro w hSw
          (try dsimp only at hSw)
          go_simp
          (try with_reducible rfl)
        simp only [Act.put, List.setIfInBounds_toArray, List.set_cons_zero, List.set_cons_succ]
        refine wpAnyH_take (i := 7) (v := ?_) (by simp only [List.getElem?_toArray, List.getElem?_cons_succ, List.getElem?_cons_zero]; rfl) (by kernel_rfl) (by kernel_rfl) (by kernel_rfl) (fun _ _ _ h => h) (Or.inl ⟨by rfl, ?_⟩) (by assumption) ?_
        rotate_left
        · intro w hSw
          (try dsimp only at hSw)
          go_simp
          (try with_reducible rfl)
        simp only [Act.put, List.setIfInBounds_toArray, List.set_cons_zero, List.set_cons_succ]
        refine wpAnyH_ready (rs := [8]) (by kernel_rfl) (by simp) ?_
        refine AllReadyH.cons (by simp only [List.getElem?_toArray, List.getElem?_cons_succ, List.getElem?_cons_zero]; rfl) (fun K hK => ?_) AllReadyH.nil
        go_simp
        go_at_call 15; with_reducible refine (HMy.out _ hHeld).mono ?_
        rintro e w' ⟨rfl, kk⟩
        try go_wp2_with fail
        refine hK.out _ _ ?_ (fun hHeld2 => ?_)
        · exact hHeld.trans kk
        clear hK K hHeld
        have hHeld := hHeld2
        clear hHeld2
        try simp only [Act.put, List.setIfInBounds_toArray, List.set_cons_zero, List.set_cons_succ]
        refine wpAnyH_take (i := 9) (v := ?_) (by simp only [List.getElem?_toArray, List.getElem?_cons_succ, List.getElem?_cons_zero]; rfl) (by kernel_rfl) (by kernel_rfl) (by kernel_rfl) (fun _ _ _ h => h) (Or.inl ⟨by rfl, ?_⟩) (by assumption) ?_
        rotate_left
        · intro w hSw
          (try dsimp only at hSw)
          go_simp
          (try with_reducible rfl)
        simp only [Act.put, List.setIfInBounds_toArray, List.set_cons_zero, List.set_cons_succ]
        refine wpAnyH_take (i := 10) (v := ?_) (by simp only [List.getElem?_toArray, List.getElem?_cons_succ, List.getElem?_cons_zero]; rfl) (by kernel_rfl) (by kernel_rfl) (by kernel_rfl) (fun _ _ _ h => h) (Or.inl ⟨by rfl, ?_⟩) (by assumption) ?_
        rotate_left
        · intro w hSw
          (try dsimp only at hSw)
          go_simp
          (try with_reducible rfl)
        simp only [Act.put, List.setIfInBounds_toArray, List.set_cons_zero, List.set_cons_succ]
        refine wpAnyH_take (i := 11) (v := ?_) (by simp only [List.getElem?_toArray, List.getElem?_cons_succ, List.getElem?_cons_zero]; rfl) (by kernel_rfl) (by kernel_rfl) (by kernel_rfl) (fun _ _ _ h => h) (Or.inl ⟨by rfl, ?_⟩) (by assumption) ?_
        rotate_left
        · intro w hSw
          (try dsimp only at hSw)
          go_simp
          (try with_reducible rfl)
        simp only [Act.put, List.setIfInBounds_toArray, List.set_cons_zero, List.set_cons_succ]
        refine wpAnyH_take (i := 12) (v := undef) (by simp only [List.getElem?_toArray, List.getElem?_cons_succ, List.getElem?_cons_zero]; rfl) (by kernel_rfl) (by kernel_rfl) (by kernel_rfl) (fun _ _ _ h => h) (Or.inr ⟨by rfl, rfl⟩) (by assumption) ?_
        simp only [Act.put, List.setIfInBounds_toArray, List.set_cons_zero, List.set_cons_succ]
        refine wpAnyH_take (i := 13) (v := undef) (by simp only [List.getElem?_toArray, List.getElem?_cons_succ, List.getElem?_cons_zero]; rfl) (by kernel_rfl) (by kernel_rfl) (by kernel_rfl) (fun _ _ _ h => h) (Or.inr ⟨by rfl, rfl⟩) (by assumption) ?_
        simp only [Act.put, List.setIfInBounds_toArray, List.set_cons_zero, List.set_cons_succ]
        refine wpAnyH_take (i := 14) (v := undef) (by simp only [List.getElem?_toArray, List.getElem?_cons_succ, List.getElem?_cons_zero]; rfl) (by kernel_rfl) (by kernel_rfl) (by kernel_rfl) (fun _ _ _ h => h) (Or.inr ⟨by rfl, rfl⟩) (by assumption) ?_
        simp only [Act.put, List.setIfInBounds_toArray, List.set_cons_zero, List.set_cons_succ]
        refine wpAnyH_take (i := 15) (v := undef) (by simp only [List.getElem?_toArray, List.getElem?_cons_succ, List.getElem?_cons_zero]; rfl) (by kernel_rfl) (by kernel_rfl) (by kernel_rfl) (fun _ _ _ h => h) (Or.inr ⟨by rfl, rfl⟩) (by assumption) ?_
        simp only [Act.put, List.setIfInBounds_toArray, List.set_cons_zero, List.set_cons_succ]
        refine wpAnyH_take (i := 16) (v := ?_) (by simp only [List.getElem?_toArray, List.getElem?_cons_succ, List.getElem?_cons_zero]; rfl) (by kernel_rfl) (by kernel_rfl) (by kernel_rfl) (fun _ _ _ h => h) (Or.inl ⟨by rfl, ?_⟩) (by assumption) ?_
        rotate_left
        · intro w hSw
          (try dsimp only at hSw)
          go_simp
          (try with_reducible rfl)
        simp only [Act.put, List.setIfInBounds_toArray, List.set_cons_zero, List.set_cons_succ]
        refine wpAnyH_done (by kernel_rfl) ?_ _
        refine NoPanic.normal ?_
        have k := hHeld
        have KB4 := Lib.hid (KB3.out.trans k)
        clear k
        generalize w' = W4 at *
        go_wp2_with fail
        go_ret
        exact ⟨by first | rfl | (simp; done), K0.out.trans KB4.out⟩
      | true =>
        have HMy := Lib.hid (fun w' (kk : Kept W3 w') => bool_is hm (HMay.out w' kk))
        clear HMay
        obtain ⟨b10, b11, b12, b13, b14⟩ := (HB1.out.kept KB3.out).five
        have bz1 := (HB1.out.kept KB3.out).1
        obtain ⟨b20, b21⟩ := (HB2.out.kept KB3.out).two
        have bz2 := (HB2.out.kept KB3.out).1
        go_region_held3 (fun w' => w'.cell? ⟨z1, 0, none⟩ = some (.int .i64 b.s) ∧ w'.cell? ⟨z1, 1, none⟩ = some (.int .i64 b.f) ∧ w'.cell? ⟨z1, 2, none⟩ = some (.int .u64 b.p.1) ∧ w'.cell? ⟨z1, 3, none⟩ = some (.int .u64 b.p.2) ∧ w'.cell? ⟨z1, 4, none⟩ = some (.int .u64 b.t) ∧ w'.cell? ⟨z2, 0, none⟩ = some (.int .u64 x.1) ∧ w'.cell? ⟨z2, 1, none⟩ = some (.int .u64 x.2) ∧ Kept W3 w')
          (first | exact ⟨b10, b11, b12, b13, b14, b20, b21, Kept.refl _⟩ | exact ⟨b10, b11, b12, b13, b14, b20, b21, (Kept.refl _).drew⟩ | assumption | exact keepP7 bz1 bz1 bz1 bz1 bz1 bz2 bz2 (by assumption) (by assumption))
          (first
            | (go_at_call 15; ((first | (with_reducible refine (HMy.out _ (by assumption : _ ∧ _ ∧ _ ∧ _ ∧ _ ∧ _ ∧ _ ∧ Kept W3 _).2.2.2.2.2.2.2).mono ?_)); rintro e w' ⟨rfl, kk⟩))
            | (go_at_call 23; ((first | (with_reducible refine (hN _).mono ?_)); rintro e w' ⟨rfl, kk⟩)))
        all_goals
          rename_i hh
          have k := hh.2.2.2.2.2.2.2
          clear hh
          replace XB := Lib.hid (XB.out.kept k)
          have KB4 := Lib.hid (KB3.out.trans k)
          clear k
          generalize w' = W4 at *
          clear b10 b11 b12 b13 b14 bz1 b20 b21 bz2
          clear HMy
          cases hq : sameI x n with
          | false =>
            clear hq
            go_wp2_with fail
            go_loopw [14] (fun i w' => ∃ j : Nat, j ≤ v.length ∧ i = .int .i64 (j : Nat) ∧ Kept W4 w' ∧ ∀ y ∈ v.take j, y.p ≠ n) (fun i _ => v.length - (intOf i).toNat)
            case atStart => exact ⟨0, by omega, rfl, Kept.refl _, fun y hy => by simp at hy⟩
            case round =>
              obtain ⟨j, hj, rfl, k, hNo⟩ := hrel
              have HKr := Lib.hid k
              have HNo := Lib.hid hNo
              clear hNo
              replace XB := Lib.hid (XB.out.kept k)
              have KB5 := Lib.hid (KB4.out.trans k)
              clear k
              by_cases hlt : j < v.length
              · obtain ⟨z, o, rfl, hbC, c0, c1, c2, c3⟩ := vote_at HV.out hlt
                have C := Lib.hid (⟨c0, c1, c2, c3⟩ : _ ∧ _ ∧ _ ∧ _)
                clear c0 c1 c2 c3
                have HT := Lib.hid (take_vote hlt)
                generalize v[j] = y at *
                have hbw := Nat.lt_of_lt_of_le hbC KB5.out.size_le
                have c2 := (KB5.out.cell (p := ⟨z, o + j * 4 + 2, none⟩) hbC).trans C.out.2.2.1
                have c3 := (KB5.out.cell (p := ⟨z, o + j * 4 + 3, none⟩) hbC).trans C.out.2.2.2
                obtain ⟨b10, b11, b12, b13, b14⟩ := (HB1.out.kept KB5.out).five
                have bz1 := (HB1.out.kept KB5.out).1
                go_wp2_with fail
                go_region_held3 (fun w' => w'.cell? ⟨z, o + j * 4 + 2, none⟩ = some (.int .u64 y.p.1) ∧ w'.cell? ⟨z, o + j * 4 + 3, none⟩ = some (.int .u64 y.p.2) ∧ w'.cell? ⟨z1, 0, none⟩ = some (.int .i64 b.s) ∧ w'.cell? ⟨z1, 1, none⟩ = some (.int .i64 b.f) ∧ w'.cell? ⟨z1, 2, none⟩ = some (.int .u64 b.p.1) ∧ w'.cell? ⟨z1, 3, none⟩ = some (.int .u64 b.p.2) ∧ w'.cell? ⟨z1, 4, none⟩ = some (.int .u64 b.t) ∧ Kept wr w')
                  (first | exact ⟨c2, c3, b10, b11, b12, b13, b14, Kept.refl _⟩ | exact ⟨c2, c3, b10, b11, b12, b13, b14, (Kept.refl _).drew⟩ | assumption | exact keepP7 hbw hbw bz1 bz1 bz1 bz1 bz1 (by assumption) (by assumption))
                  (first
                    | (go_at_call 23; ((first | (with_reducible refine (hN _).mono ?_)); rintro e w' ⟨rfl, kk⟩)))
                all_goals
                  rename_i hh
                  have k := hh.2.2.2.2.2.2.2
                  clear hh
                  replace HKr := Lib.hid (HKr.out.trans k)
                  have KB6 := Lib.hid (KB5.out.trans k)
                  clear k
                  generalize w' = W6 at *
                  clear b10 b11 b12 b13 b14 bz1 c2 c3 hbw
                  cases hy : sameI y.p n with
                  | false =>
                    have HY := Lib.hid (show y.p ≠ n from of_decide_eq_false hy)
                    clear hy
                    go_wp2_with fail
                    go_roundw
                    case rel => exact ⟨j + 1, by omega, by go_num, HKr.out, fun u hu => by
                      rw [HT.out] at hu
                      rcases List.mem_append.1 hu with h | h
                      · exact HNo.out u h
                      · rw [show u = y by simpa using h]; exact HY.out⟩
                    case measure => simp [intOf]; omega
                  | true =>
                    clear hy
                    go_wp2_with fail
                    go_ret
                    exact ⟨by first | rfl | (simp; done), K0.out.trans KB6.out⟩
              · have hjl : j = v.length := by omega
                subst hjl
                have HNA := Lib.hid (show ∀ y ∈ v, y.p ≠ n by have := HNo.out; rwa [List.take_length] at this)
                have HO1 := Lib.hid (fun w' (kk0 : Kept wr w') => on_same (hM1 hm HNA.out) (on_any kA kc k AM dM M vA vc v x w' hML (by omega) hMW vhw ⟨hx1, hx2⟩ ((HA.out.kept KB5.out).kept kk0) (XB.out.kept kk0) ((HV.out.kept KB5.out).kept kk0)))
                have HO2 := Lib.hid (fun w' (kk0 : Kept wr w') => (fun (kk : Kept W0 w') => on_any kA kc k lA lc l vA vc v x w' (by omega) (by omega) lhw vhw ⟨hx1, hx2⟩ (HA.out.kept kk) (HL.out.kept kk) (HV.out.kept kk)) (KB5.out.trans kk0))
                have HO3 := Lib.hid (fun w' (kk0 : Kept wr w') => on_same (hM2 hm HNA.out) (on_any kA kc k AM dM M vA vc v n w' hML (by omega) hMW vhw hn ((HA.out.kept KB5.out).kept kk0) (XB.out.kept kk0) ((HV.out.kept KB5.out).kept kk0)))
                clear hM1 hM2
                generalize onC k l v x = p at *
                obtain ⟨b00, b01, b02, b03, b04⟩ := (HB0.out.kept KB5.out).five
                have bz0 := (HB0.out.kept KB5.out).1
                obtain ⟨b10, b11, b12, b13, b14⟩ := (HB1.out.kept KB5.out).five
                have bz1 := (HB1.out.kept KB5.out).1
                obtain ⟨b20, b21⟩ := (HB2.out.kept KB5.out).two
                have bz2 := (HB2.out.kept KB5.out).1
                go_wp2_with fail
                go_region_held3 (fun w' => w'.cell? ⟨z0, 0, none⟩ = some (.slice kA k.ws.length kc) ∧ w'.cell? ⟨z0, 1, none⟩ = some (.int .u64 k.seed) ∧ w'.cell? ⟨z0, 2, none⟩ = some (.int .i64 k.ep) ∧ w'.cell? ⟨z0, 3, none⟩ = some (.int .i64 k.nu) ∧ w'.cell? ⟨z0, 4, none⟩ = some (.int .i64 k.de) ∧ w'.cell? ⟨z1, 0, none⟩ = some (.int .i64 b.s) ∧ w'.cell? ⟨z1, 1, none⟩ = some (.int .i64 b.f) ∧ w'.cell? ⟨z1, 2, none⟩ = some (.int .u64 b.p.1) ∧ w'.cell? ⟨z1, 3, none⟩ = some (.int .u64 b.p.2) ∧ w'.cell? ⟨z1, 4, none⟩ = some (.int .u64 b.t) ∧ w'.cell? ⟨z2, 0, none⟩ = some (.int .u64 x.1) ∧ w'.cell? ⟨z2, 1, none⟩ = some (.int .u64 x.2) ∧ Kept wr w')
                  (first | exact ⟨b00, b01, b02, b03, b04, b10, b11, b12, b13, b14, b20, b21, Kept.refl _⟩ | exact ⟨b00, b01, b02, b03, b04, b10, b11, b12, b13, b14, b20, b21, (Kept.refl _).drew⟩ | assumption | exact keepP12 bz0 bz0 bz0 bz0 bz0 bz1 bz1 bz1 bz1 bz1 bz2 bz2 (by assumption) (by assumption))
                  (first
                    | (go_at_call 11; ((first | (with_reducible refine (HO1.out _ (by assumption : _ ∧ _ ∧ _ ∧ _ ∧ _ ∧ _ ∧ _ ∧ _ ∧ _ ∧ _ ∧ _ ∧ _ ∧ Kept wr _).2.2.2.2.2.2.2.2.2.2.2.2).mono ?_) | (with_reducible refine (HO2.out _ (by assumption : _ ∧ _ ∧ _ ∧ _ ∧ _ ∧ _ ∧ _ ∧ _ ∧ _ ∧ _ ∧ _ ∧ _ ∧ Kept wr _).2.2.2.2.2.2.2.2.2.2.2.2).mono ?_) | (with_reducible refine (HO3.out _ (by assumption : _ ∧ _ ∧ _ ∧ _ ∧ _ ∧ _ ∧ _ ∧ _ ∧ _ ∧ _ ∧ _ ∧ _ ∧ Kept wr _).2.2.2.2.2.2.2.2.2.2.2.2).mono ?_)); rintro e w' ⟨rfl, kk⟩))
                    | (go_at_call 23; ((first | (with_reducible refine (hN _).mono ?_)); rintro e w' ⟨rfl, kk⟩)))
                all_goals
                  rename_i hh
                  have k := hh.2.2.2.2.2.2.2.2.2.2.2.2
                  clear hh
                  have KB6 := Lib.hid (KB5.out.trans k)
                  clear k
                  generalize w' = W6 at *
                  go_wp2_with fail
                  go_ret
                  exact ⟨by first | rfl | (simp; done), K0.out.trans KB6.out⟩
          | true =>
            go_wp2_with fail
            go_ret
            exact ⟨by first | rfl | (simp; done), K0.out.trans KB4.out⟩

/-! ### The walk: the call returns true, and of what was there nothing has changed. -/
set_option maxHeartbeats 1000000 in
theorem walk (w : World) (kA : Option Addr) (kc : Nat) (k : Cf) (khm : k.ws.length ≤ maxLen) (khs : k.seed < 18446744073709551616) (khl : CellsAt w w.heap.size kA (intCells k.ws)) (lA : Option Addr) (lc : Nat) (l : List Bk) (lhm : l.length ≤ maxLen) (lhc : l.length ≤ lc) (lhw : WfL l) (lhl : CellsAt w w.heap.size lA (blockCells l)) (lhz : l.length * 40 ≤ 140737488351232) (vA : Option Addr) (vc : Nat) (v : List Vt) (vhm : v.length ≤ maxLen) (vhc : v.length ≤ vc) (vhw : WfVs v) (vhl : CellsAt w w.heap.size vA (votesCells v)) (b : Bk) (hb : WfB b) (x : Nat × Nat) (hx1 : x.1 < 18446744073709551616) (hx2 : x.2 < 18446744073709551616) :
    Calls Try.prog 8 #[.agg #[.slice kA k.ws.length kc, .int .u64 k.seed, .int .i64 k.ep, .int .i64 k.nu, .int .i64 k.de], .slice lA l.length lc, .slice vA v.length vc, .agg #[.int .i64 b.s, .int .i64 b.f, .int .u64 b.p.1, .int .u64 b.p.2, .int .u64 b.t], .agg #[.int .u64 x.1, .int .u64 x.2]] w fun e w' => e = .returned (.bool true) ∧ Kept w w' := by
  exact walk_of w kA kc k khm khs khl lA lc l lhm lhc lhw lhl lhz vA vc v vhm vhc vhw vhl b hb x hx1 hx2 (nameB b) (nameB_lt b) (fun w => name_any b hb w) (fun h q => more_on h q x) (fun h q => more_none h q)

/-! ### The row's step -/
set_option maxRecDepth 100000 in
theorem lifted (os : Os) (started : os.Started) (H : Type) (enc : TypeId × Value → H) :
    ReturnsInHanded {} Try.checked os 8 .any (Rows.weighMoreSpec.pre6 enc Try.prog Try.f8 Rows.weighMoreRow.domain false) (Rows.weighMoreSpec.post enc Try.prog Try.f8 false true false false) := by
  refine returnsInHanded_of_change_sized (C := Try.checked) own started (by kernel_rfl) Try.func8
    (ChangeSpec.witness6 (enc := enc) (C := Try.checked) false ⟨#[], #[.agg #[.slice none 0 0, .int .u64 0, .int .i64 0, .int .i64 0, .int .i64 0], .slice none 0 0, .slice none 0 0, .agg #[.int .i64 0, .int .i64 0, .int .u64 0, .int .u64 0, .int .u64 0], .agg #[.int .u64 0, .int .u64 0]], []⟩ 8 (by kernel_rfl) (by kernel_rfl) (by kernel_rfl) (by kernel_rfl)) ?_
  intro W base args ds gs before hval0 hW hcnd hsz _
  have hval : ∀ (j : Nat) t v, Try.f8.params[j]? = some t → args[j]? = some v → Value.okWide Try.prog W .any base t v := hval0
  have hW' := hW
  obtain ⟨p, q, hA0, hV, rfl, hfz, hnd⟩ := hW
  have hA : DataW.TrodAll enc Try.prog W 0 (fun _ => true) true Try.f8.params.toList args.toList ds p := hA0
  rw [Try.params8] at hA hval
  obtain ⟨v0, vs0, d0, ds0, p0, q0, hargs, rfl, rfl, h0, r0⟩ := trodAll_cons hA
  obtain ⟨v1, vs1, d1, ds1, p1, q1, rfl, rfl, rfl, h1, r1⟩ := trodAll_cons r0
  obtain ⟨v2, vs2, d2, ds2, p2, q2, rfl, rfl, rfl, h2, r2⟩ := trodAll_cons r1
  obtain ⟨v3, vs3, d3, ds3, p3, q3, rfl, rfl, rfl, h3, r3⟩ := trodAll_cons r2
  obtain ⟨v4, vs4, d4, ds4, p4, q4, rfl, rfl, rfl, h4, r4⟩ := trodAll_cons r3
  obtain ⟨rfl, rfl, rfl⟩ := trodAll_nil r4
  obtain rfl : args = #[v0, v1, v2, v3, v4] := by cases args; simp_all
  obtain ⟨rfl, rfl⟩ := trodVars_none hV
  obtain ⟨kA, kc, k, rfl, khm, khs, khl⟩ := open_conf (hval 0 _ v0 rfl rfl) h0
  obtain ⟨lA, lc, l, rfl, lhm, lhc, lhw, lhl, lhz⟩ := open_blockz hsz (j := 1) rfl rfl (hval 1 _ v1 rfl rfl) h1
  obtain ⟨vA, vc, v, rfl, vhm, vhc, vhw, vhl⟩ := open_votes (hval 2 _ v2 rfl rfl) h2
  obtain ⟨b, rfl, hb⟩ := open_bk (hval 3 _ v3 rfl rfl) h3
  obtain ⟨x, rfl, hx1, hx2⟩ := open_id (hval 4 _ v4 rfl rfl) h4
  clear hA0 hval0
  refine (walk W kA kc k khm khs khl lA lc l lhm lhc lhw lhl lhz vA vc v vhm vhc vhw vhl b hb x hx1 hx2).mono fun e W' ⟨he, hb⟩ => ?_
  subst he
  exact ⟨_, rfl, law_post rfl (by kernel_rfl) rfl hW' rfl hb⟩

theorem over : Rows.weighMoreRow.holds Try.pinned (OpenSpec.ofChange Rows.weighMoreSpec) :=
  OpenClaim.holds_of_wide 8 Try.f8 rfl rfl rfl rfl rfl rfl rfl ⟨rfl, rfl, rfl, rfl, rfl⟩ rfl rfl rfl rfl rfl (by kernel_rfl) Try.func8 (by kernel_rfl)
    (of_decide_eq_true (by kernel_rfl)) (by unfold Func.isWrapper; first | (rw [if_pos (by decide +kernel)]; kernel_rfl) | (rw [if_neg (by decide +kernel)]; exact ⟨rfl, rfl⟩))
    (fun os started H enc _ => lifted os started H enc)

/-- The statement. -/
theorem proved : Rows.WeighMoreSaid :=
  over
#print axioms proved

end Go.Proofs.Ytajdhcanajbgoaa.weighMore
