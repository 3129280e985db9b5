/-
  Law ArrayMoves of layer 10: weight that is moved is just that block's, and that of all below it, whatever items, id and number.
-/
import Derived.Test.YtabmdilhfiembaaArrayAwake
import Derived.Test.YtabmdilhfiembaaArrayOpen
import Derived.Test.YtabmdilhfiembaaArrayGrow
import Derived.Test.YtabmdilhfiembaaArrayMarks
import Derived.Test.YtabmdilhfiembaaArrayRefOps
import Derived.Test.YtabmdilhfiembaaGround
import Derived.Test.YtabmdilhfiembaaMixG
import Derived.Test.YtabmdilhfiembaaUntil
namespace Go.Proofs.Ytabmdilhfiembaa.arrayMoves
set_option maxRecDepth 100000
set_option linter.unusedVariables false
open Go.ChangeShapes Go.WideShapes Go.ChangeAt Go.RowKit
set_option linter.unusedVariables false

theorem makeBools (n : Nat) (hn : n ≤ 1000) (w : World) : (Instr.makeSlice 52 (.int .i64 (n : Int)) (.int .i64 (n : Int))).run Try.prog w = .ok (.slice (some ⟨w.heap.size, 0, none⟩) n n) (w.alloc (.cells (madeCells #[.bool false] n) 4)) :=
  run_make_row' 52 4 (.bool false) 1 Try.underlying52 (by kernel_rfl) rfl .i64 .i64 n (by omega) (by omega) w
theorem rows_kept {w w' : World} {g : Nat} {t : TypeId} {n : Nat} {f : Nat → Value} (h : w.rowIs g t n f) (k : Kept w w') : w'.rowIs g t n f := h.of_block (k.heap h.lt)

/-! ### The walk: the call returns true, and of what was there nothing has changed. -/
attribute [local go_sem high] eqIdN eqIdZ in
set_option maxRecDepth 100000 in
set_option maxHeartbeats 3200000 in
theorem walk (w : World) (aA : Option Addr) (ac : Nat) (a : List It) (ahm : a.length ≤ maxLen) (ahc : a.length ≤ ac) (ahl : CellsAt w w.heap.size aA (itemCells a)) (id : Nat × Nat) (hid1 : id.1 < 18446744073709551616) (hid2 : id.2 < 18446744073709551616) (y : Int) (hy1 : -9223372036854775808 ≤ y) (hy2 : y ≤ 9223372036854775807) :
    Calls Try.prog 10 #[.slice aA a.length ac, .agg #[.int .u64 id.1, .int .u64 id.2], .int .i64 y] w fun e w' => e = .returned (.bool true) ∧ Kept w w' := by
  by_cases h70 : a.length ≤ 70
  · go_enter Try.func10, Try.ntmps10
    go_wp2_with fail
    have K0 := Lib.hid ((Kept.refl w).alloc (.cells #[.int .u64 id.1, .int .u64 id.2] 29))
    have HA := Lib.hid (ahl.kept K0.out)
    clear ahl
    have HB0 := Lib.hid (HasCells.new w #[.int .u64 id.1, .int .u64 id.2] 29 (w.heap.size) (by simp))
    generalize (w.alloc (.cells #[.int .u64 id.1, .int .u64 id.2] 29)) = W0 at *
    generalize w.heap.size = z0 at *
    have KB0 := Lib.hid (Kept.refl W0)
    have HMov := Lib.hid (fun w' (kk : Kept W0 w') => movI_any aA ac a h70 ahc id y hy1 hy2 w' (HA.out.kept kk))
    have HMW := Lib.hid (fun e => move_w (a := a) (id := id) (y := y) e)
    have HMF := Lib.hid (fun e => movC_fail (a := a) (id := id) (y := y) e)
    generalize movC a id y = q at *
    refine (arrayAwake W0).mono ?_
    rintro e W1 ⟨rfl, k⟩
    have KB1 := Lib.hid (KB0.out.trans k)
    clear k
    obtain ⟨b00, b01⟩ := (HB0.out.kept KB1.out).two
    have bz0 := (HB0.out.kept KB1.out).1
    go_wp2_with fail
    clear b00 b01 bz0
    refine (HMov.out W1 KB1.out).mono ?_
    rintro e W2 ⟨A1, n1, rfl, hHX1, hn1, k⟩
    have KB2 := Lib.hid (KB1.out.trans k)
    clear k
    have HX1 := Lib.hid hHX1
    clear hHX1
    cases hc : (q.2 == 0) with
    | false =>
      have hc0 : ¬ q.2 = 0 := by simpa using hc
      have hq0 := HMF.out hc0
      rw [hq0]
      clear hq0
      obtain ⟨b00, b01⟩ := (HB0.out.kept KB2.out).two
      have bz0 := (HB0.out.kept KB2.out).1
      go_wp2_with fail
      clear b00 b01 bz0
      go_ret
      exact ⟨by first | rfl | (simp; done) | (simp [hc0]; done), K0.out.trans KB2.out⟩
    | true =>
      have hc0 : q.2 = 0 := by simpa using hc
      obtain ⟨hMa, hlq, t, ht, hx, hW⟩ := HMW.out hc0
      have HMa := Lib.hid hMa
      have HWk := Lib.hid hW
      have HLq := Lib.hid hlq
      clear hMa hW HMW HMF
      rw [hc0, hlq]
      have hmk := fun w => makeBools a.length (by omega) w
      clear hlq hc hc0
      obtain ⟨b00, b01⟩ := (HB0.out.kept KB2.out).two
      have bz0 := (HB0.out.kept KB2.out).1
      go_wp2_with fail
      clear b00 b01 bz0
      have hR0 : (W2.alloc (.cells (madeCells #[.bool false] a.length) 4)).rowIs W2.heap.size 4 a.length (fun j => .bool (markB a t a.length j)) := (World.rowIs_made _ _ _ _).congr fun i hi => by rw [mark_start hi]
      have KM := Lib.hid (Kept.alloc (Kept.refl W2) (.cells (madeCells #[.bool false] a.length) 4))
      have HR0 := Lib.hid hR0
      clear hR0 hmk
      generalize (W2.alloc (.cells (madeCells #[.bool false] a.length) 4)) = V0 at *
      have HAb := Lib.hid (HA.out.kept KB2.out)
      have HIb := Lib.hid (HB0.out.kept KB2.out)
      go_loopw [11] (fun i w' => ∃ m : Nat, m ≤ a.length ∧ i = .int .i64 ((m : Int) - 1) ∧ w'.rowIs W2.heap.size 4 a.length (fun j => .bool (markB a t m j)) ∧ Kept W2 w') (fun i _ => (intOf i + 1).toNat)
      case atStart => exact ⟨a.length, Nat.le_refl _, rfl, HR0.out, KM.out⟩
      case round =>
        obtain ⟨m, hm, rfl, hR, hK⟩ := hrel
        have HR := Lib.hid hR
        have HK := Lib.hid hK
        clear hR hK HR0 KM
        rcases m with _ | i
        · go_wp2_with fail
          go_ret
          exact ⟨by first | rfl | (simp; done), K0.out.trans (KB2.out.trans HK.out)⟩
        · have hi : i < a.length := hm
          have e1 : (((i + 1 : Nat) : Int) - 1) = (i : Int) := by omega
          rw [e1]
          clear e1
          have hi0 : (0 : Int) ≤ (i : Int) := by omega
          obtain ⟨zy, oy, rfl, hby, y0, y1, y2, -, y4, -, -⟩ := item_at HAb.out hi
          have hiq : i < q.1.length := by rw [HLq.out]; exact hi
          obtain ⟨zw, ow, rfl, hbw, u0, u1, u2, -, u4, -, -⟩ := item_at HX1.out hiq
          obtain ⟨d0, d1⟩ := HIb.out.two
          have hbd := HIb.out.1
          obtain ⟨g1, g2, g3, g4, g5⟩ := HWk.out i hi
          rw [itA_get hiq, itA_get hi] at g1 g2 g3
          rw [itA_get hiq] at g4 g5
          have hMH := mark_here HMa.out ht hi
          have HMU := Lib.hid (fun (hO : onB a t i = true) pn (hp : (itA a i).p = ((pn : Nat) : Int)) => mark_up HMa.out hi hO hp)
          have HMR := Lib.hid (fun (hO : onB a t i = true) (hp : ¬ 0 ≤ (itA a i).p) => mark_root HMa.out hi hO hp)
          have HMO := Lib.hid (fun (hO : onB a t i = false) => mark_off HMa.out hi hO)
          have HMI := Lib.hid (fun O (hO : onB a t i = O) => mark_own hO)
          have hrt := HMa.out.stand.right i hi
          rw [hx] at hMH
          rw [itA_get hi] at hMH HMU HMR hrt
          rw [g1] at u0 u1
          rw [g2] at u2
          rw [g3] at u4 g4 g5
          clear g1 g2 g3
          generalize a[i] = s at *
          obtain ⟨wv, hwv⟩ : ∃ wv, wv = s.w + (if onB a t i = true then y else 0) := ⟨_, rfl⟩
          rw [← hwv] at u4 g4 g5
          have HWT := Lib.hid (fun (hO : onB a t i = true) => (show wv = s.w + y by rw [hwv, if_pos hO]))
          have HWF := Lib.hid (fun (hO : onB a t i = false) => (show wv = s.w by rw [hwv, if_neg (fun h => by rw [hO] at h; cases h)]; omega))
          clear hwv
          have HY := Lib.hid (⟨y0, y1, y2, y4⟩ : _ ∧ _ ∧ _ ∧ _)
          have HU := Lib.hid (⟨u0, u1, u2, u4⟩ : _ ∧ _ ∧ _ ∧ _)
          have HD := Lib.hid (⟨d0, d1⟩ : _ ∧ _)
          clear y0 y1 y2 y4 u0 u1 u2 u4 d0 d1
          have hc := HR.out.cell hi
          have hz := HR.out.frozen i
          generalize hM : markB a t (i + 1) i = M at *
          generalize hO : onB a t i = O at *
          cases M with
          | true =>
            rw [Bool.true_or] at hMH
            subst hMH
            have HR1 := Lib.hid (HR.out.set i (.bool true)).drew
            have HK1 := Lib.hid (HK.out.setCell (p := ⟨W2.heap.size, i, none⟩) (Nat.le_refl _) (.bool true)).drew
            go_wp2_with fail
            refine wp_region_noPanic ?_
            refine wp_region_until 16 (fun w' => w'.cell? ⟨W2.heap.size, i, none⟩ = some (.bool true) ∧ Kept wr w') (by kernel_rfl) ?_ (fun hHeld => ?_)
            · exact ⟨hc, (Kept.refl _).drew⟩
            refine wpAnyU_take 0 ?_ (by simp only [List.getElem?_toArray, List.getElem?_cons_succ, List.getElem?_cons_zero]; rfl) (by kernel_rfl) (by kernel_rfl) (by kernel_rfl) (by kernel_rfl) (by kernel_rfl) (by kernel_rfl) (fun _ _ _ h => h) (Or.inl ⟨by rfl, ?_⟩) (by assumption) ?_
            rotate_left
            · intro w hSw
              (try dsimp only at hSw)
              go_simp
              (try with_reducible rfl)
            simp only [Act.put, List.setIfInBounds_toArray, List.set_cons_zero, List.set_cons_succ]
            refine wpAnyU_take 1 ?_ (by simp only [List.getElem?_toArray, List.getElem?_cons_succ, List.getElem?_cons_zero]; rfl) (by kernel_rfl) (by kernel_rfl) (by kernel_rfl) (by kernel_rfl) (by kernel_rfl) (by kernel_rfl) (fun _ _ _ h => h) (Or.inl ⟨by rfl, ?_⟩) (by assumption) ?_
            rotate_left
            · intro w hSw
              (try dsimp only at hSw)
              go_simp
              (try with_reducible rfl)
            simp only [Act.put, List.setIfInBounds_toArray, List.set_cons_zero, List.set_cons_succ]
            refine wpAnyU_take 2 ?_ (by simp only [List.getElem?_toArray, List.getElem?_cons_succ, List.getElem?_cons_zero]; rfl) (by kernel_rfl) (by kernel_rfl) (by kernel_rfl) (by kernel_rfl) (by kernel_rfl) (by kernel_rfl) (fun _ _ _ h => h) (Or.inl ⟨by rfl, ?_⟩) (by assumption) ?_
            rotate_left
            · intro w hSw
              (try dsimp only at hSw)
              go_simp
              (try with_reducible rfl)
            simp only [Act.put, List.setIfInBounds_toArray, List.set_cons_zero, List.set_cons_succ]
            refine wpAnyU_take 3 ?_ (by simp only [List.getElem?_toArray, List.getElem?_cons_succ, List.getElem?_cons_zero]; rfl) (by kernel_rfl) (by kernel_rfl) (by kernel_rfl) (by kernel_rfl) (by kernel_rfl) (by kernel_rfl) (fun _ _ _ h => h) (Or.inl ⟨by rfl, ?_⟩) (by assumption) ?_
            rotate_left
            · intro w hSw
              (try dsimp only at hSw)
              go_simp
              (try with_reducible rfl)
            simp only [Act.put, List.setIfInBounds_toArray, List.set_cons_zero, List.set_cons_succ]
            refine wpAnyU_take 4 ?_ (by simp only [List.getElem?_toArray, List.getElem?_cons_succ, List.getElem?_cons_zero]; rfl) (by kernel_rfl) (by kernel_rfl) (by kernel_rfl) (by kernel_rfl) (by kernel_rfl) (by kernel_rfl) (fun _ _ _ h => h) (Or.inl ⟨by rfl, ?_⟩) (by assumption) ?_
            rotate_left
            · intro w hSw
              (try dsimp only at hSw)
              go_simp
              (try with_reducible rfl)
            simp only [Act.put, List.setIfInBounds_toArray, List.set_cons_zero, List.set_cons_succ]
            refine wpAnyU_take 5 ?_ (by simp only [List.getElem?_toArray, List.getElem?_cons_succ, List.getElem?_cons_zero]; rfl) (by kernel_rfl) (by kernel_rfl) (by kernel_rfl) (by kernel_rfl) (by kernel_rfl) (by kernel_rfl) (fun _ _ _ h => h) (Or.inl ⟨by rfl, ?_⟩) (by assumption) ?_
            rotate_left
            · intro w hSw
              (try dsimp only at hSw)
              go_simp
              (try with_reducible rfl)
            simp only [Act.put, List.setIfInBounds_toArray, List.set_cons_zero, List.set_cons_succ]
            refine wpAnyU_take 6 ?_ (by simp only [List.getElem?_toArray, List.getElem?_cons_succ, List.getElem?_cons_zero]; rfl) (by kernel_rfl) (by kernel_rfl) (by kernel_rfl) (by kernel_rfl) (by kernel_rfl) (by kernel_rfl) (fun _ _ _ h => h) (Or.inl ⟨by rfl, ?_⟩) (by assumption) ?_
            rotate_left
            · intro w hSw
              (try dsimp only at hSw)
              go_simp
              (try with_reducible rfl)
            simp only [Act.put, List.setIfInBounds_toArray, List.set_cons_zero, List.set_cons_succ]
            refine wpAnyU_take 7 undef (by simp only [List.getElem?_toArray, List.getElem?_cons_succ, List.getElem?_cons_zero]; rfl) (by kernel_rfl) (by kernel_rfl) (by kernel_rfl) (by kernel_rfl) (by kernel_rfl) (by kernel_rfl) (fun _ _ _ h => h) (Or.inr ⟨by rfl, rfl⟩) (by assumption) ?_
            simp only [Act.put, List.setIfInBounds_toArray, List.set_cons_zero, List.set_cons_succ]
            refine wpAnyU_take 8 undef (by simp only [List.getElem?_toArray, List.getElem?_cons_succ, List.getElem?_cons_zero]; rfl) (by kernel_rfl) (by kernel_rfl) (by kernel_rfl) (by kernel_rfl) (by kernel_rfl) (by kernel_rfl) (fun _ _ _ h => h) (Or.inr ⟨by rfl, rfl⟩) (by assumption) ?_
            simp only [Act.put, List.setIfInBounds_toArray, List.set_cons_zero, List.set_cons_succ]
            refine wpAnyU_take 9 undef (by simp only [List.getElem?_toArray, List.getElem?_cons_succ, List.getElem?_cons_zero]; rfl) (by kernel_rfl) (by kernel_rfl) (by kernel_rfl) (by kernel_rfl) (by kernel_rfl) (by kernel_rfl) (fun _ _ _ h => h) (Or.inr ⟨by rfl, rfl⟩) (by assumption) ?_
            simp only [Act.put, List.setIfInBounds_toArray, List.set_cons_zero, List.set_cons_succ]
            refine wpAnyU_take 10 undef (by simp only [List.getElem?_toArray, List.getElem?_cons_succ, List.getElem?_cons_zero]; rfl) (by kernel_rfl) (by kernel_rfl) (by kernel_rfl) (by kernel_rfl) (by kernel_rfl) (by kernel_rfl) (fun _ _ _ h => h) (Or.inr ⟨by rfl, rfl⟩) (by assumption) ?_
            simp only [Act.put, List.setIfInBounds_toArray, List.set_cons_zero, List.set_cons_succ]
            refine wpAnyU_take 11 undef (by simp only [List.getElem?_toArray, List.getElem?_cons_succ, List.getElem?_cons_zero]; rfl) (by kernel_rfl) (by kernel_rfl) (by kernel_rfl) (by kernel_rfl) (by kernel_rfl) (by kernel_rfl) (fun _ _ _ h => h) (Or.inr ⟨by rfl, rfl⟩) (by assumption) ?_
            simp only [Act.put, List.setIfInBounds_toArray, List.set_cons_zero, List.set_cons_succ]
            refine wpAnyU_take 12 undef (by simp only [List.getElem?_toArray, List.getElem?_cons_succ, List.getElem?_cons_zero]; rfl) (by kernel_rfl) (by kernel_rfl) (by kernel_rfl) (by kernel_rfl) (by kernel_rfl) (by kernel_rfl) (fun _ _ _ h => h) (Or.inr ⟨by rfl, rfl⟩) (by assumption) ?_
            simp only [Act.put, List.setIfInBounds_toArray, List.set_cons_zero, List.set_cons_succ]
            refine wpAnyU_take 13 undef (by simp only [List.getElem?_toArray, List.getElem?_cons_succ, List.getElem?_cons_zero]; rfl) (by kernel_rfl) (by kernel_rfl) (by kernel_rfl) (by kernel_rfl) (by kernel_rfl) (by kernel_rfl) (fun _ _ _ h => h) (Or.inr ⟨by rfl, rfl⟩) (by assumption) ?_
            simp only [Act.put, List.setIfInBounds_toArray, List.set_cons_zero, List.set_cons_succ]
            refine wpAnyU_take 14 ?_ (by simp only [List.getElem?_toArray, List.getElem?_cons_succ, List.getElem?_cons_zero]; rfl) (by kernel_rfl) (by kernel_rfl) (by kernel_rfl) (by kernel_rfl) (by kernel_rfl) (by kernel_rfl) (fun _ _ _ h => h) (Or.inl ⟨by rfl, ?_⟩) (by assumption) ?_
            rotate_left
            · intro w hSw
              (try dsimp only at hSw)
              go_simp
              (try with_reducible rfl)
            simp only [Act.put, List.setIfInBounds_toArray, List.set_cons_zero, List.set_cons_succ]
            refine wpAnyU_take 15 ?_ (by simp only [List.getElem?_toArray, List.getElem?_cons_succ, List.getElem?_cons_zero]; rfl) (by kernel_rfl) (by kernel_rfl) (by kernel_rfl) (by kernel_rfl) (by kernel_rfl) (by kernel_rfl) (fun _ _ _ h => h) (Or.inl ⟨by rfl, ?_⟩) (by assumption) ?_
            rotate_left
            · intro w hSw
              (try dsimp only at hSw)
              go_simp
              (try with_reducible rfl)
            simp only [Act.put, List.setIfInBounds_toArray, List.set_cons_zero, List.set_cons_succ]
            refine wpAnyU_last (by kernel_rfl) (by simp only [List.getElem?_toArray, List.getElem?_cons_succ, List.getElem?_cons_zero]; rfl) (by kernel_rfl) (by kernel_rfl) (fun K hK => ?_)

            go_simp
            refine hK.out _ _ ?_
            clear hK K hHeld
            refine NoPanic.normal ?_
            generalize (wr.setCell ⟨W2.heap.size, i, none⟩ (.bool true)).drew = V1 at *
            clear hc hz HR HK
            have y0 := (HK1.out.cell (p := ⟨zy, oy + i * 7, none⟩) hby).trans HY.out.1
            have y1 := (HK1.out.cell (p := ⟨zy, oy + i * 7 + 1, none⟩) hby).trans HY.out.2.1
            have y2 := (HK1.out.cell (p := ⟨zy, oy + i * 7 + 2, none⟩) hby).trans HY.out.2.2.1
            have y4 := (HK1.out.cell (p := ⟨zy, oy + i * 7 + 4, none⟩) hby).trans HY.out.2.2.2
            have hc1 := HR1.out.cell hi
            rw [if_pos rfl] at hc1
            by_cases hp0 : 0 ≤ s.p
            · obtain ⟨pn, hpn⟩ : ∃ pn : Nat, s.p = (pn : Int) := ⟨s.p.toNat, by omega⟩
              have hpi : pn < i := by omega
              have hpl : pn < a.length := by omega
              rw [hpn] at y2
              have hp0 : (0 : Int) ≤ (pn : Int) := by omega
              have hz1 := HR1.out.frozen pn
              have hcp := HR1.out.cell hpl
              rw [if_neg (by omega)] at hcp
              have HR2 := Lib.hid ((HR1.out.set pn (.bool true)).congr (g := fun j => .bool (markB a t i j)) fun j hj => HMU.out (by first | rfl | trivial) pn hpn j)
              have HK2 := Lib.hid (HK1.out.setCell (p := ⟨W2.heap.size, pn, none⟩) (Nat.le_refl _) (.bool true))
              go_upto_region 14 with (fail)
              clear y0 y1 y2 y4 hc1 hz1 hcp
              generalize V1.setCell ⟨W2.heap.size, pn, none⟩ (.bool true) = V2 at *
              have y0 := (HK2.out.cell (p := ⟨zy, oy + i * 7, none⟩) hby).trans HY.out.1
              have y1 := (HK2.out.cell (p := ⟨zy, oy + i * 7 + 1, none⟩) hby).trans HY.out.2.1
              have y2 := (HK2.out.cell (p := ⟨zy, oy + i * 7 + 2, none⟩) hby).trans HY.out.2.2.1
              have y4 := (HK2.out.cell (p := ⟨zy, oy + i * 7 + 4, none⟩) hby).trans HY.out.2.2.2
              have u0 := (HK2.out.cell (p := ⟨zw, ow + i * 7, none⟩) hbw).trans HU.out.1
              have u1 := (HK2.out.cell (p := ⟨zw, ow + i * 7 + 1, none⟩) hbw).trans HU.out.2.1
              have u2 := (HK2.out.cell (p := ⟨zw, ow + i * 7 + 2, none⟩) hbw).trans HU.out.2.2.1
              have u4 := (HK2.out.cell (p := ⟨zw, ow + i * 7 + 4, none⟩) hbw).trans HU.out.2.2.2
              have hcf := HR2.out.cell hi
              rw [HMI.out true (by first | rfl | trivial)] at hcf
              have hwv := HWT.out (by first | rfl | trivial)
              subst hwv
              have hwr : IntKind.i64.wrap (s.w + y) = s.w + y := by rw [IntKind.wrap_i64]; omega
              have hs2 : sameI s.x s.x = true := sameI_yes rfl
              go_wp2_with fail
              go_quiet (fail)
              go_wp2_with fail
              go_roundw
              case rel => exact ⟨i, by omega, by go_num, rows_kept HR2.out ((Kept.refl _).drewN _), HK2.out.drewN _⟩
              case measure => first | (simp [intOf]; done) | (simp [intOf]; omega)
            · have HR2 := Lib.hid (HR1.out.congr (g := fun j => .bool (markB a t i j)) fun j hj => HMR.out (by first | rfl | trivial) (by omega) j)
              go_upto_region 14 with (fail)
              clear y0 y1 y2 y4 hc1
              have y0 := (HK1.out.cell (p := ⟨zy, oy + i * 7, none⟩) hby).trans HY.out.1
              have y1 := (HK1.out.cell (p := ⟨zy, oy + i * 7 + 1, none⟩) hby).trans HY.out.2.1
              have y2 := (HK1.out.cell (p := ⟨zy, oy + i * 7 + 2, none⟩) hby).trans HY.out.2.2.1
              have y4 := (HK1.out.cell (p := ⟨zy, oy + i * 7 + 4, none⟩) hby).trans HY.out.2.2.2
              have u0 := (HK1.out.cell (p := ⟨zw, ow + i * 7, none⟩) hbw).trans HU.out.1
              have u1 := (HK1.out.cell (p := ⟨zw, ow + i * 7 + 1, none⟩) hbw).trans HU.out.2.1
              have u2 := (HK1.out.cell (p := ⟨zw, ow + i * 7 + 2, none⟩) hbw).trans HU.out.2.2.1
              have u4 := (HK1.out.cell (p := ⟨zw, ow + i * 7 + 4, none⟩) hbw).trans HU.out.2.2.2
              have hcf := HR2.out.cell hi
              rw [HMI.out true (by first | rfl | trivial)] at hcf
              have hwv := HWT.out (by first | rfl | trivial)
              subst hwv
              have hwr : IntKind.i64.wrap (s.w + y) = s.w + y := by rw [IntKind.wrap_i64]; omega
              have hs2 : sameI s.x s.x = true := sameI_yes rfl
              go_wp2_with fail
              go_quiet (fail)
              go_wp2_with fail
              go_roundw
              case rel => exact ⟨i, by omega, by go_num, rows_kept HR2.out ((Kept.refl _).drewN _), HK1.out.drewN _⟩
              case measure => first | (simp [intOf]; done) | (simp [intOf]; omega)
          | false =>
            rw [Bool.false_or] at hMH
            cases O with
            | true =>
              have hsx : sameI s.x id = true := by simpa using hMH
              clear hMH
              have HR1 := Lib.hid (HR.out.set i (.bool true)).drew
              have HK1 := Lib.hid (HK.out.setCell (p := ⟨W2.heap.size, i, none⟩) (Nat.le_refl _) (.bool true)).drew
              have y0 := (HK.out.cell (p := ⟨zy, oy + i * 7, none⟩) hby).trans HY.out.1
              have y1 := (HK.out.cell (p := ⟨zy, oy + i * 7 + 1, none⟩) hby).trans HY.out.2.1
              have y2 := (HK.out.cell (p := ⟨zy, oy + i * 7 + 2, none⟩) hby).trans HY.out.2.2.1
              have y4 := (HK.out.cell (p := ⟨zy, oy + i * 7 + 4, none⟩) hby).trans HY.out.2.2.2
              have d0 := (HK.out.cell (p := ⟨z0, 0, none⟩) hbd).trans HD.out.1
              have d1 := (HK.out.cell (p := ⟨z0, 1, none⟩) hbd).trans HD.out.2
              have hbyr := Nat.lt_of_lt_of_le hby HK.out.size_le
              go_wp2_with fail
              refine wp_region_noPanic ?_
              refine wp_region_until 16 (fun w' => w'.cell? ⟨W2.heap.size, i, none⟩ = some (.bool false) ∧ w'.cell? ⟨zy, oy + i * 7, none⟩ = some (.int .u64 s.x.1) ∧ w'.cell? ⟨zy, oy + i * 7 + 1, none⟩ = some (.int .u64 s.x.2) ∧ w'.cell? ⟨z0, 0, none⟩ = some (.int .u64 id.1) ∧ w'.cell? ⟨z0, 1, none⟩ = some (.int .u64 id.2) ∧ Kept wr w') (by kernel_rfl) ?_ (fun hHeld => ?_)
              · exact ⟨hc, y0, y1, d0, d1, (Kept.refl _).drew⟩
              refine wpAnyU_take 0 ?_ (by simp only [List.getElem?_toArray, List.getElem?_cons_succ, List.getElem?_cons_zero]; rfl) (by kernel_rfl) (by kernel_rfl) (by kernel_rfl) (by kernel_rfl) (by kernel_rfl) (by kernel_rfl) (fun _ _ _ h => h) (Or.inl ⟨by rfl, ?_⟩) (by assumption) ?_
              rotate_left
              · intro w hSw
                (try dsimp only at hSw)
                go_simp
                (try with_reducible rfl)
              simp only [Act.put, List.setIfInBounds_toArray, List.set_cons_zero, List.set_cons_succ]
              refine wpAnyU_take 1 ?_ (by simp only [List.getElem?_toArray, List.getElem?_cons_succ, List.getElem?_cons_zero]; rfl) (by kernel_rfl) (by kernel_rfl) (by kernel_rfl) (by kernel_rfl) (by kernel_rfl) (by kernel_rfl) (fun _ _ _ h => h) (Or.inl ⟨by rfl, ?_⟩) (by assumption) ?_
              rotate_left
              · intro w hSw
                (try dsimp only at hSw)
                go_simp
                (try with_reducible rfl)
              simp only [Act.put, List.setIfInBounds_toArray, List.set_cons_zero, List.set_cons_succ]
              refine wpAnyU_take 2 ?_ (by simp only [List.getElem?_toArray, List.getElem?_cons_succ, List.getElem?_cons_zero]; rfl) (by kernel_rfl) (by kernel_rfl) (by kernel_rfl) (by kernel_rfl) (by kernel_rfl) (by kernel_rfl) (fun _ _ _ h => h) (Or.inl ⟨by rfl, ?_⟩) (by assumption) ?_
              rotate_left
              · intro w hSw
                (try dsimp only at hSw)
                go_simp
                (try with_reducible rfl)
              simp only [Act.put, List.setIfInBounds_toArray, List.set_cons_zero, List.set_cons_succ]
              refine wpAnyU_take 3 ?_ (by simp only [List.getElem?_toArray, List.getElem?_cons_succ, List.getElem?_cons_zero]; rfl) (by kernel_rfl) (by kernel_rfl) (by kernel_rfl) (by kernel_rfl) (by kernel_rfl) (by kernel_rfl) (fun _ _ _ h => h) (Or.inl ⟨by rfl, ?_⟩) (by assumption) ?_
              rotate_left
              · intro w hSw
                (try dsimp only at hSw)
                go_simp
                (try with_reducible rfl)
              simp only [Act.put, List.setIfInBounds_toArray, List.set_cons_zero, List.set_cons_succ]
              refine wpAnyU_take 4 ?_ (by simp only [List.getElem?_toArray, List.getElem?_cons_succ, List.getElem?_cons_zero]; rfl) (by kernel_rfl) (by kernel_rfl) (by kernel_rfl) (by kernel_rfl) (by kernel_rfl) (by kernel_rfl) (fun _ _ _ h => h) (Or.inl ⟨by rfl, ?_⟩) (by assumption) ?_
              rotate_left
              · intro w hSw
                (try dsimp only at hSw)
                go_simp
                (try with_reducible rfl)
              simp only [Act.put, List.setIfInBounds_toArray, List.set_cons_zero, List.set_cons_succ]
              refine wpAnyU_take 5 ?_ (by simp only [List.getElem?_toArray, List.getElem?_cons_succ, List.getElem?_cons_zero]; rfl) (by kernel_rfl) (by kernel_rfl) (by kernel_rfl) (by kernel_rfl) (by kernel_rfl) (by kernel_rfl) (fun _ _ _ h => h) (Or.inl ⟨by rfl, ?_⟩) (by assumption) ?_
              rotate_left
              · intro w hSw
                (try dsimp only at hSw)
                go_simp
                (try with_reducible rfl)
              simp only [Act.put, List.setIfInBounds_toArray, List.set_cons_zero, List.set_cons_succ]
              refine wpAnyU_take 6 ?_ (by simp only [List.getElem?_toArray, List.getElem?_cons_succ, List.getElem?_cons_zero]; rfl) (by kernel_rfl) (by kernel_rfl) (by kernel_rfl) (by kernel_rfl) (by kernel_rfl) (by kernel_rfl) (fun _ _ _ h => h) (Or.inl ⟨by rfl, ?_⟩) (by assumption) ?_
              rotate_left
              · intro w hSw
                (try dsimp only at hSw)
                go_simp
                (try with_reducible rfl)
              simp only [Act.put, List.setIfInBounds_toArray, List.set_cons_zero, List.set_cons_succ]
              refine wpAnyU_take 7 ?_ (by simp only [List.getElem?_toArray, List.getElem?_cons_succ, List.getElem?_cons_zero]; rfl) (by kernel_rfl) (by kernel_rfl) (by kernel_rfl) (by kernel_rfl) (by kernel_rfl) (by kernel_rfl) (fun _ _ _ h => h) (Or.inl ⟨by rfl, ?_⟩) (by assumption) ?_
              rotate_left
              · intro w hSw
                (try dsimp only at hSw)
                go_simp
                (try with_reducible rfl)
              simp only [Act.put, List.setIfInBounds_toArray, List.set_cons_zero, List.set_cons_succ]
              refine wpAnyU_take 8 ?_ (by simp only [List.getElem?_toArray, List.getElem?_cons_succ, List.getElem?_cons_zero]; rfl) (by kernel_rfl) (by kernel_rfl) (by kernel_rfl) (by kernel_rfl) (by kernel_rfl) (by kernel_rfl) (fun _ _ _ h => h) (Or.inl ⟨by rfl, ?_⟩) (by assumption) ?_
              rotate_left
              · intro w hSw
                (try dsimp only at hSw)
                go_simp
                (try with_reducible rfl)
              simp only [Act.put, List.setIfInBounds_toArray, List.set_cons_zero, List.set_cons_succ]
              refine wpAnyU_take 9 ?_ (by simp only [List.getElem?_toArray, List.getElem?_cons_succ, List.getElem?_cons_zero]; rfl) (by kernel_rfl) (by kernel_rfl) (by kernel_rfl) (by kernel_rfl) (by kernel_rfl) (by kernel_rfl) (fun _ _ _ h => h) (Or.inl ⟨by rfl, ?_⟩) (by assumption) ?_
              rotate_left
              · intro w hSw
                (try dsimp only at hSw)
                go_simp
                (try with_reducible rfl)
              simp only [Act.put, List.setIfInBounds_toArray, List.set_cons_zero, List.set_cons_succ]
              refine wpAnyU_take 10 ?_ (by simp only [List.getElem?_toArray, List.getElem?_cons_succ, List.getElem?_cons_zero]; rfl) (by kernel_rfl) (by kernel_rfl) (by kernel_rfl) (by kernel_rfl) (by kernel_rfl) (by kernel_rfl) (fun _ _ _ h => h) (Or.inl ⟨by rfl, ?_⟩) (by assumption) ?_
              rotate_left
              · intro w hSw
                (try dsimp only at hSw)
                go_simp
                (try with_reducible rfl)
              simp only [Act.put, List.setIfInBounds_toArray, List.set_cons_zero, List.set_cons_succ]
              refine wpAnyU_take 11 ?_ (by simp only [List.getElem?_toArray, List.getElem?_cons_succ, List.getElem?_cons_zero]; rfl) (by kernel_rfl) (by kernel_rfl) (by kernel_rfl) (by kernel_rfl) (by kernel_rfl) (by kernel_rfl) (fun _ _ _ h => h) (Or.inl ⟨by rfl, ?_⟩) (by assumption) ?_
              rotate_left
              · intro w hSw
                (try dsimp only at hSw)
                go_simp
                (try with_reducible rfl)
              simp only [Act.put, List.setIfInBounds_toArray, List.set_cons_zero, List.set_cons_succ]
              refine wpAnyU_take 12 ?_ (by simp only [List.getElem?_toArray, List.getElem?_cons_succ, List.getElem?_cons_zero]; rfl) (by kernel_rfl) (by kernel_rfl) (by kernel_rfl) (by kernel_rfl) (by kernel_rfl) (by kernel_rfl) (fun _ _ _ h => h) (Or.inl ⟨by rfl, ?_⟩) (by assumption) ?_
              rotate_left
              · intro w hSw
                (try dsimp only at hSw)
                go_simp
                (try with_reducible rfl)
              simp only [Act.put, List.setIfInBounds_toArray, List.set_cons_zero, List.set_cons_succ]
              refine wpAnyU_take 13 ?_ (by simp only [List.getElem?_toArray, List.getElem?_cons_succ, List.getElem?_cons_zero]; rfl) (by kernel_rfl) (by kernel_rfl) (by kernel_rfl) (by kernel_rfl) (by kernel_rfl) (by kernel_rfl) (fun _ _ _ h => h) (Or.inl ⟨by rfl, ?_⟩) (by assumption) ?_
              rotate_left
              · intro w hSw
                (try dsimp only at hSw)
                go_simp
                (try with_reducible rfl)
              simp only [Act.put, List.setIfInBounds_toArray, List.set_cons_zero, List.set_cons_succ]
              refine wpAnyU_take 14 ?_ (by simp only [List.getElem?_toArray, List.getElem?_cons_succ, List.getElem?_cons_zero]; rfl) (by kernel_rfl) (by kernel_rfl) (by kernel_rfl) (by kernel_rfl) (by kernel_rfl) (by kernel_rfl) (fun _ _ _ h => h) (Or.inl ⟨by rfl, ?_⟩) (by assumption) ?_
              rotate_left
              · intro w hSw
                (try dsimp only at hSw)
                go_simp
                (try with_reducible rfl)
              simp only [Act.put, List.setIfInBounds_toArray, List.set_cons_zero, List.set_cons_succ]
              refine wpAnyU_take 15 ?_ (by simp only [List.getElem?_toArray, List.getElem?_cons_succ, List.getElem?_cons_zero]; rfl) (by kernel_rfl) (by kernel_rfl) (by kernel_rfl) (by kernel_rfl) (by kernel_rfl) (by kernel_rfl) (fun _ _ _ h => h) (Or.inl ⟨by rfl, ?_⟩) (by assumption) ?_
              rotate_left
              · intro w hSw
                (try dsimp only at hSw)
                go_simp
                (try with_reducible rfl)
              simp only [Act.put, List.setIfInBounds_toArray, List.set_cons_zero, List.set_cons_succ]
              refine wpAnyU_last (by kernel_rfl) (by simp only [List.getElem?_toArray, List.getElem?_cons_succ, List.getElem?_cons_zero]; rfl) (by kernel_rfl) (by kernel_rfl) (fun K hK => ?_)

              go_simp
              refine hK.out _ _ ?_
              clear hK K hHeld
              refine NoPanic.normal ?_
              clear y0 y1 y2 y4 d0 d1 hbyr
              generalize (wr.setCell ⟨W2.heap.size, i, none⟩ (.bool true)).drew = V1 at *
              clear hc hz HR HK
              have y0 := (HK1.out.cell (p := ⟨zy, oy + i * 7, none⟩) hby).trans HY.out.1
              have y1 := (HK1.out.cell (p := ⟨zy, oy + i * 7 + 1, none⟩) hby).trans HY.out.2.1
              have y2 := (HK1.out.cell (p := ⟨zy, oy + i * 7 + 2, none⟩) hby).trans HY.out.2.2.1
              have y4 := (HK1.out.cell (p := ⟨zy, oy + i * 7 + 4, none⟩) hby).trans HY.out.2.2.2
              have hc1 := HR1.out.cell hi
              rw [if_pos rfl] at hc1
              by_cases hp0 : 0 ≤ s.p
              · obtain ⟨pn, hpn⟩ : ∃ pn : Nat, s.p = (pn : Int) := ⟨s.p.toNat, by omega⟩
                have hpi : pn < i := by omega
                have hpl : pn < a.length := by omega
                rw [hpn] at y2
                have hp0 : (0 : Int) ≤ (pn : Int) := by omega
                have hz1 := HR1.out.frozen pn
                have hcp := HR1.out.cell hpl
                rw [if_neg (by omega)] at hcp
                have HR2 := Lib.hid ((HR1.out.set pn (.bool true)).congr (g := fun j => .bool (markB a t i j)) fun j hj => HMU.out (by first | rfl | trivial) pn hpn j)
                have HK2 := Lib.hid (HK1.out.setCell (p := ⟨W2.heap.size, pn, none⟩) (Nat.le_refl _) (.bool true))
                go_upto_region 14 with (fail)
                clear y0 y1 y2 y4 hc1 hz1 hcp
                generalize V1.setCell ⟨W2.heap.size, pn, none⟩ (.bool true) = V2 at *
                have y0 := (HK2.out.cell (p := ⟨zy, oy + i * 7, none⟩) hby).trans HY.out.1
                have y1 := (HK2.out.cell (p := ⟨zy, oy + i * 7 + 1, none⟩) hby).trans HY.out.2.1
                have y2 := (HK2.out.cell (p := ⟨zy, oy + i * 7 + 2, none⟩) hby).trans HY.out.2.2.1
                have y4 := (HK2.out.cell (p := ⟨zy, oy + i * 7 + 4, none⟩) hby).trans HY.out.2.2.2
                have u0 := (HK2.out.cell (p := ⟨zw, ow + i * 7, none⟩) hbw).trans HU.out.1
                have u1 := (HK2.out.cell (p := ⟨zw, ow + i * 7 + 1, none⟩) hbw).trans HU.out.2.1
                have u2 := (HK2.out.cell (p := ⟨zw, ow + i * 7 + 2, none⟩) hbw).trans HU.out.2.2.1
                have u4 := (HK2.out.cell (p := ⟨zw, ow + i * 7 + 4, none⟩) hbw).trans HU.out.2.2.2
                have hcf := HR2.out.cell hi
                rw [HMI.out true (by first | rfl | trivial)] at hcf
                have hwv := HWT.out (by first | rfl | trivial)
                subst hwv
                have hwr : IntKind.i64.wrap (s.w + y) = s.w + y := by rw [IntKind.wrap_i64]; omega
                have hs2 : sameI s.x s.x = true := sameI_yes rfl
                go_wp2_with fail
                go_quiet (fail)
                go_wp2_with fail
                go_roundw
                case rel => exact ⟨i, by omega, by go_num, rows_kept HR2.out ((Kept.refl _).drewN _), HK2.out.drewN _⟩
                case measure => first | (simp [intOf]; done) | (simp [intOf]; omega)
              · have HR2 := Lib.hid (HR1.out.congr (g := fun j => .bool (markB a t i j)) fun j hj => HMR.out (by first | rfl | trivial) (by omega) j)
                go_upto_region 14 with (fail)
                clear y0 y1 y2 y4 hc1
                have y0 := (HK1.out.cell (p := ⟨zy, oy + i * 7, none⟩) hby).trans HY.out.1
                have y1 := (HK1.out.cell (p := ⟨zy, oy + i * 7 + 1, none⟩) hby).trans HY.out.2.1
                have y2 := (HK1.out.cell (p := ⟨zy, oy + i * 7 + 2, none⟩) hby).trans HY.out.2.2.1
                have y4 := (HK1.out.cell (p := ⟨zy, oy + i * 7 + 4, none⟩) hby).trans HY.out.2.2.2
                have u0 := (HK1.out.cell (p := ⟨zw, ow + i * 7, none⟩) hbw).trans HU.out.1
                have u1 := (HK1.out.cell (p := ⟨zw, ow + i * 7 + 1, none⟩) hbw).trans HU.out.2.1
                have u2 := (HK1.out.cell (p := ⟨zw, ow + i * 7 + 2, none⟩) hbw).trans HU.out.2.2.1
                have u4 := (HK1.out.cell (p := ⟨zw, ow + i * 7 + 4, none⟩) hbw).trans HU.out.2.2.2
                have hcf := HR2.out.cell hi
                rw [HMI.out true (by first | rfl | trivial)] at hcf
                have hwv := HWT.out (by first | rfl | trivial)
                subst hwv
                have hwr : IntKind.i64.wrap (s.w + y) = s.w + y := by rw [IntKind.wrap_i64]; omega
                have hs2 : sameI s.x s.x = true := sameI_yes rfl
                go_wp2_with fail
                go_quiet (fail)
                go_wp2_with fail
                go_roundw
                case rel => exact ⟨i, by omega, by go_num, rows_kept HR2.out ((Kept.refl _).drewN _), HK1.out.drewN _⟩
                case measure => first | (simp [intOf]; done) | (simp [intOf]; omega)
            | false =>
              have hsx : sameI s.x id = false := by simpa using hMH
              clear hMH
              have HR1 := Lib.hid (HR.out.set i (.bool false)).drew
              have HK1 := Lib.hid (HK.out.setCell (p := ⟨W2.heap.size, i, none⟩) (Nat.le_refl _) (.bool false)).drew
              have y0 := (HK.out.cell (p := ⟨zy, oy + i * 7, none⟩) hby).trans HY.out.1
              have y1 := (HK.out.cell (p := ⟨zy, oy + i * 7 + 1, none⟩) hby).trans HY.out.2.1
              have y2 := (HK.out.cell (p := ⟨zy, oy + i * 7 + 2, none⟩) hby).trans HY.out.2.2.1
              have y4 := (HK.out.cell (p := ⟨zy, oy + i * 7 + 4, none⟩) hby).trans HY.out.2.2.2
              have d0 := (HK.out.cell (p := ⟨z0, 0, none⟩) hbd).trans HD.out.1
              have d1 := (HK.out.cell (p := ⟨z0, 1, none⟩) hbd).trans HD.out.2
              have hbyr := Nat.lt_of_lt_of_le hby HK.out.size_le
              go_wp2_with fail
              refine wp_region_noPanic ?_
              refine wp_region_until 16 (fun w' => w'.cell? ⟨W2.heap.size, i, none⟩ = some (.bool false) ∧ w'.cell? ⟨zy, oy + i * 7, none⟩ = some (.int .u64 s.x.1) ∧ w'.cell? ⟨zy, oy + i * 7 + 1, none⟩ = some (.int .u64 s.x.2) ∧ w'.cell? ⟨z0, 0, none⟩ = some (.int .u64 id.1) ∧ w'.cell? ⟨z0, 1, none⟩ = some (.int .u64 id.2) ∧ Kept wr w') (by kernel_rfl) ?_ (fun hHeld => ?_)
              · exact ⟨hc, y0, y1, d0, d1, (Kept.refl _).drew⟩
              refine wpAnyU_take 0 ?_ (by simp only [List.getElem?_toArray, List.getElem?_cons_succ, List.getElem?_cons_zero]; rfl) (by kernel_rfl) (by kernel_rfl) (by kernel_rfl) (by kernel_rfl) (by kernel_rfl) (by kernel_rfl) (fun _ _ _ h => h) (Or.inl ⟨by rfl, ?_⟩) (by assumption) ?_
              rotate_left
              · intro w hSw
                (try dsimp only at hSw)
                go_simp
                (try with_reducible rfl)
              simp only [Act.put, List.setIfInBounds_toArray, List.set_cons_zero, List.set_cons_succ]
              refine wpAnyU_take 1 ?_ (by simp only [List.getElem?_toArray, List.getElem?_cons_succ, List.getElem?_cons_zero]; rfl) (by kernel_rfl) (by kernel_rfl) (by kernel_rfl) (by kernel_rfl) (by kernel_rfl) (by kernel_rfl) (fun _ _ _ h => h) (Or.inl ⟨by rfl, ?_⟩) (by assumption) ?_
              rotate_left
              · intro w hSw
                (try dsimp only at hSw)
                go_simp
                (try with_reducible rfl)
              simp only [Act.put, List.setIfInBounds_toArray, List.set_cons_zero, List.set_cons_succ]
              refine wpAnyU_take 2 ?_ (by simp only [List.getElem?_toArray, List.getElem?_cons_succ, List.getElem?_cons_zero]; rfl) (by kernel_rfl) (by kernel_rfl) (by kernel_rfl) (by kernel_rfl) (by kernel_rfl) (by kernel_rfl) (fun _ _ _ h => h) (Or.inl ⟨by rfl, ?_⟩) (by assumption) ?_
              rotate_left
              · intro w hSw
                (try dsimp only at hSw)
                go_simp
                (try with_reducible rfl)
              simp only [Act.put, List.setIfInBounds_toArray, List.set_cons_zero, List.set_cons_succ]
              refine wpAnyU_take 3 ?_ (by simp only [List.getElem?_toArray, List.getElem?_cons_succ, List.getElem?_cons_zero]; rfl) (by kernel_rfl) (by kernel_rfl) (by kernel_rfl) (by kernel_rfl) (by kernel_rfl) (by kernel_rfl) (fun _ _ _ h => h) (Or.inl ⟨by rfl, ?_⟩) (by assumption) ?_
              rotate_left
              · intro w hSw
                (try dsimp only at hSw)
                go_simp
                (try with_reducible rfl)
              simp only [Act.put, List.setIfInBounds_toArray, List.set_cons_zero, List.set_cons_succ]
              refine wpAnyU_take 4 ?_ (by simp only [List.getElem?_toArray, List.getElem?_cons_succ, List.getElem?_cons_zero]; rfl) (by kernel_rfl) (by kernel_rfl) (by kernel_rfl) (by kernel_rfl) (by kernel_rfl) (by kernel_rfl) (fun _ _ _ h => h) (Or.inl ⟨by rfl, ?_⟩) (by assumption) ?_
              rotate_left
              · intro w hSw
                (try dsimp only at hSw)
                go_simp
                (try with_reducible rfl)
              simp only [Act.put, List.setIfInBounds_toArray, List.set_cons_zero, List.set_cons_succ]
              refine wpAnyU_take 5 ?_ (by simp only [List.getElem?_toArray, List.getElem?_cons_succ, List.getElem?_cons_zero]; rfl) (by kernel_rfl) (by kernel_rfl) (by kernel_rfl) (by kernel_rfl) (by kernel_rfl) (by kernel_rfl) (fun _ _ _ h => h) (Or.inl ⟨by rfl, ?_⟩) (by assumption) ?_
              rotate_left
              · intro w hSw
                (try dsimp only at hSw)
                go_simp
                (try with_reducible rfl)
              simp only [Act.put, List.setIfInBounds_toArray, List.set_cons_zero, List.set_cons_succ]
              refine wpAnyU_take 6 ?_ (by simp only [List.getElem?_toArray, List.getElem?_cons_succ, List.getElem?_cons_zero]; rfl) (by kernel_rfl) (by kernel_rfl) (by kernel_rfl) (by kernel_rfl) (by kernel_rfl) (by kernel_rfl) (fun _ _ _ h => h) (Or.inl ⟨by rfl, ?_⟩) (by assumption) ?_
              rotate_left
              · intro w hSw
                (try dsimp only at hSw)
                go_simp
                (try with_reducible rfl)
              simp only [Act.put, List.setIfInBounds_toArray, List.set_cons_zero, List.set_cons_succ]
              refine wpAnyU_take 7 ?_ (by simp only [List.getElem?_toArray, List.getElem?_cons_succ, List.getElem?_cons_zero]; rfl) (by kernel_rfl) (by kernel_rfl) (by kernel_rfl) (by kernel_rfl) (by kernel_rfl) (by kernel_rfl) (fun _ _ _ h => h) (Or.inl ⟨by rfl, ?_⟩) (by assumption) ?_
              rotate_left
              · intro w hSw
                (try dsimp only at hSw)
                go_simp
                (try with_reducible rfl)
              simp only [Act.put, List.setIfInBounds_toArray, List.set_cons_zero, List.set_cons_succ]
              refine wpAnyU_take 8 ?_ (by simp only [List.getElem?_toArray, List.getElem?_cons_succ, List.getElem?_cons_zero]; rfl) (by kernel_rfl) (by kernel_rfl) (by kernel_rfl) (by kernel_rfl) (by kernel_rfl) (by kernel_rfl) (fun _ _ _ h => h) (Or.inl ⟨by rfl, ?_⟩) (by assumption) ?_
              rotate_left
              · intro w hSw
                (try dsimp only at hSw)
                go_simp
                (try with_reducible rfl)
              simp only [Act.put, List.setIfInBounds_toArray, List.set_cons_zero, List.set_cons_succ]
              refine wpAnyU_take 9 ?_ (by simp only [List.getElem?_toArray, List.getElem?_cons_succ, List.getElem?_cons_zero]; rfl) (by kernel_rfl) (by kernel_rfl) (by kernel_rfl) (by kernel_rfl) (by kernel_rfl) (by kernel_rfl) (fun _ _ _ h => h) (Or.inl ⟨by rfl, ?_⟩) (by assumption) ?_
              rotate_left
              · intro w hSw
                (try dsimp only at hSw)
                go_simp
                (try with_reducible rfl)
              simp only [Act.put, List.setIfInBounds_toArray, List.set_cons_zero, List.set_cons_succ]
              refine wpAnyU_take 10 ?_ (by simp only [List.getElem?_toArray, List.getElem?_cons_succ, List.getElem?_cons_zero]; rfl) (by kernel_rfl) (by kernel_rfl) (by kernel_rfl) (by kernel_rfl) (by kernel_rfl) (by kernel_rfl) (fun _ _ _ h => h) (Or.inl ⟨by rfl, ?_⟩) (by assumption) ?_
              rotate_left
              · intro w hSw
                (try dsimp only at hSw)
                go_simp
                (try with_reducible rfl)
              simp only [Act.put, List.setIfInBounds_toArray, List.set_cons_zero, List.set_cons_succ]
              refine wpAnyU_take 11 ?_ (by simp only [List.getElem?_toArray, List.getElem?_cons_succ, List.getElem?_cons_zero]; rfl) (by kernel_rfl) (by kernel_rfl) (by kernel_rfl) (by kernel_rfl) (by kernel_rfl) (by kernel_rfl) (fun _ _ _ h => h) (Or.inl ⟨by rfl, ?_⟩) (by assumption) ?_
              rotate_left
              · intro w hSw
                (try dsimp only at hSw)
                go_simp
                (try with_reducible rfl)
              simp only [Act.put, List.setIfInBounds_toArray, List.set_cons_zero, List.set_cons_succ]
              refine wpAnyU_take 12 ?_ (by simp only [List.getElem?_toArray, List.getElem?_cons_succ, List.getElem?_cons_zero]; rfl) (by kernel_rfl) (by kernel_rfl) (by kernel_rfl) (by kernel_rfl) (by kernel_rfl) (by kernel_rfl) (fun _ _ _ h => h) (Or.inl ⟨by rfl, ?_⟩) (by assumption) ?_
              rotate_left
              · intro w hSw
                (try dsimp only at hSw)
                go_simp
                (try with_reducible rfl)
              simp only [Act.put, List.setIfInBounds_toArray, List.set_cons_zero, List.set_cons_succ]
              refine wpAnyU_take 13 ?_ (by simp only [List.getElem?_toArray, List.getElem?_cons_succ, List.getElem?_cons_zero]; rfl) (by kernel_rfl) (by kernel_rfl) (by kernel_rfl) (by kernel_rfl) (by kernel_rfl) (by kernel_rfl) (fun _ _ _ h => h) (Or.inl ⟨by rfl, ?_⟩) (by assumption) ?_
              rotate_left
              · intro w hSw
                (try dsimp only at hSw)
                go_simp
                (try with_reducible rfl)
              simp only [Act.put, List.setIfInBounds_toArray, List.set_cons_zero, List.set_cons_succ]
              refine wpAnyU_take 14 ?_ (by simp only [List.getElem?_toArray, List.getElem?_cons_succ, List.getElem?_cons_zero]; rfl) (by kernel_rfl) (by kernel_rfl) (by kernel_rfl) (by kernel_rfl) (by kernel_rfl) (by kernel_rfl) (fun _ _ _ h => h) (Or.inl ⟨by rfl, ?_⟩) (by assumption) ?_
              rotate_left
              · intro w hSw
                (try dsimp only at hSw)
                go_simp
                (try with_reducible rfl)
              simp only [Act.put, List.setIfInBounds_toArray, List.set_cons_zero, List.set_cons_succ]
              refine wpAnyU_take 15 ?_ (by simp only [List.getElem?_toArray, List.getElem?_cons_succ, List.getElem?_cons_zero]; rfl) (by kernel_rfl) (by kernel_rfl) (by kernel_rfl) (by kernel_rfl) (by kernel_rfl) (by kernel_rfl) (fun _ _ _ h => h) (Or.inl ⟨by rfl, ?_⟩) (by assumption) ?_
              rotate_left
              · intro w hSw
                (try dsimp only at hSw)
                go_simp
                (try with_reducible rfl)
              simp only [Act.put, List.setIfInBounds_toArray, List.set_cons_zero, List.set_cons_succ]
              refine wpAnyU_last (by kernel_rfl) (by simp only [List.getElem?_toArray, List.getElem?_cons_succ, List.getElem?_cons_zero]; rfl) (by kernel_rfl) (by kernel_rfl) (fun K hK => ?_)

              go_simp
              refine hK.out _ _ ?_
              clear hK K hHeld
              refine NoPanic.normal ?_
              clear y0 y1 y2 y4 d0 d1 hbyr
              generalize (wr.setCell ⟨W2.heap.size, i, none⟩ (.bool false)).drew = V1 at *
              clear hc hz HR HK
              have y0 := (HK1.out.cell (p := ⟨zy, oy + i * 7, none⟩) hby).trans HY.out.1
              have y1 := (HK1.out.cell (p := ⟨zy, oy + i * 7 + 1, none⟩) hby).trans HY.out.2.1
              have y2 := (HK1.out.cell (p := ⟨zy, oy + i * 7 + 2, none⟩) hby).trans HY.out.2.2.1
              have y4 := (HK1.out.cell (p := ⟨zy, oy + i * 7 + 4, none⟩) hby).trans HY.out.2.2.2
              have hc1 := HR1.out.cell hi
              rw [if_pos rfl] at hc1
              have HR2 := Lib.hid (HR1.out.congr (g := fun j => .bool (markB a t i j)) fun j hj => HMO.out (by first | rfl | trivial) j)
              go_upto_region 14 with (fail)
              clear y0 y1 y2 y4 hc1
              have y0 := (HK1.out.cell (p := ⟨zy, oy + i * 7, none⟩) hby).trans HY.out.1
              have y1 := (HK1.out.cell (p := ⟨zy, oy + i * 7 + 1, none⟩) hby).trans HY.out.2.1
              have y2 := (HK1.out.cell (p := ⟨zy, oy + i * 7 + 2, none⟩) hby).trans HY.out.2.2.1
              have y4 := (HK1.out.cell (p := ⟨zy, oy + i * 7 + 4, none⟩) hby).trans HY.out.2.2.2
              have u0 := (HK1.out.cell (p := ⟨zw, ow + i * 7, none⟩) hbw).trans HU.out.1
              have u1 := (HK1.out.cell (p := ⟨zw, ow + i * 7 + 1, none⟩) hbw).trans HU.out.2.1
              have u2 := (HK1.out.cell (p := ⟨zw, ow + i * 7 + 2, none⟩) hbw).trans HU.out.2.2.1
              have u4 := (HK1.out.cell (p := ⟨zw, ow + i * 7 + 4, none⟩) hbw).trans HU.out.2.2.2
              have hcf := HR2.out.cell hi
              rw [HMI.out false (by first | rfl | trivial)] at hcf
              have hwv := HWF.out (by first | rfl | trivial)
              subst hwv
              have hs2 : sameI s.x s.x = true := sameI_yes rfl
              go_wp2_with fail
              go_quiet (fail)
              go_wp2_with fail
              go_roundw
              case rel => exact ⟨i, by omega, by go_num, rows_kept HR2.out ((Kept.refl _).drewN _), HK1.out.drewN _⟩
              case measure => first | (simp [intOf]; done) | (simp [intOf]; omega)
  · go_enter Try.func10, Try.ntmps10
    go_wp2_with fail
    have K0 := Lib.hid ((Kept.refl w).alloc (.cells #[.int .u64 id.1, .int .u64 id.2] 29))
    have HA := Lib.hid (ahl.kept K0.out)
    clear ahl
    have HB0 := Lib.hid (HasCells.new w #[.int .u64 id.1, .int .u64 id.2] 29 (w.heap.size) (by simp))
    generalize (w.alloc (.cells #[.int .u64 id.1, .int .u64 id.2] 29)) = W0 at *
    generalize w.heap.size = z0 at *
    have KB0 := Lib.hid (Kept.refl W0)
    refine (arrayAwake W0).mono ?_
    rintro e W1 ⟨rfl, k⟩
    have KB1 := Lib.hid (KB0.out.trans k)
    clear k
    obtain ⟨b00, b01⟩ := (HB0.out.kept KB1.out).two
    have bz0 := (HB0.out.kept KB1.out).1
    go_wp2_with fail
    clear b00 b01 bz0
    go_ret
    exact ⟨by first | rfl | (simp; done), K0.out.trans KB1.out⟩

/-! ### The row's step -/
set_option maxRecDepth 100000 in
theorem lifted (os : Os) (started : os.Started) (H : Type) (enc : TypeId × Value → H) :
    ReturnsInHanded {} Try.checked os 10 .any (Rows.arrayMovesSpec.pre6 enc Try.prog Try.f10 Rows.arrayMovesRow.domain false) (Rows.arrayMovesSpec.post enc Try.prog Try.f10 false true false false) := by
  refine returnsInHanded_of_change (C := Try.checked) own started (by kernel_rfl) Try.func10
    (ChangeSpec.witness6 (enc := enc) (C := Try.checked) false ⟨#[], #[.slice none 0 0, .agg #[.int .u64 0, .int .u64 0], .int .i64 0], []⟩ 8 (by kernel_rfl) (by kernel_rfl) (by kernel_rfl) (by kernel_rfl)) ?_
  intro W base args ds gs before hval0 hW hcnd _
  have hval : ∀ (j : Nat) t v, Try.f10.params[j]? = some t → args[j]? = some v → Value.okWide Try.prog W .any base t v := hval0
  have hW' := hW
  obtain ⟨p, q, hA0, hV, rfl, hfz, hnd⟩ := hW
  have hA : DataW.TrodAll enc Try.prog W 0 (fun _ => true) true Try.f10.params.toList args.toList ds p := hA0
  rw [Try.params10] at hA hval
  obtain ⟨v0, vs0, d0, ds0, p0, q0, hargs, rfl, rfl, h0, r0⟩ := trodAll_cons hA
  obtain ⟨v1, vs1, d1, ds1, p1, q1, rfl, rfl, rfl, h1, r1⟩ := trodAll_cons r0
  obtain ⟨v2, vs2, d2, ds2, p2, q2, rfl, rfl, rfl, h2, r2⟩ := trodAll_cons r1
  obtain ⟨rfl, rfl, rfl⟩ := trodAll_nil r2
  obtain rfl : args = #[v0, v1, v2] := by cases args; simp_all
  obtain ⟨rfl, rfl⟩ := trodVars_none hV
  obtain ⟨aA, ac, a, rfl, ahm, ahc, ahl⟩ := open_items (hval 0 _ v0 rfl rfl) h0
  obtain ⟨id, rfl, hid1, hid2⟩ := open_id (hval 1 _ v1 rfl rfl) h1
  obtain ⟨y, rfl, hy1, hy2⟩ := open_num (hval 2 _ v2 rfl rfl) h2
  clear hA0 hval0
  refine (walk W aA ac a ahm ahc ahl id hid1 hid2 y hy1 hy2).mono fun e W' ⟨he, hb⟩ => ?_
  subst he
  exact ⟨_, rfl, law_post rfl (by kernel_rfl) rfl hW' rfl hb⟩

theorem over : Rows.arrayMovesRow.holds Try.pinned (OpenSpec.ofChange Rows.arrayMovesSpec) :=
  OpenClaim.holds_of_wide 10 Try.f10 rfl rfl rfl rfl rfl rfl rfl ⟨rfl, rfl, rfl, rfl, rfl⟩ rfl rfl rfl rfl rfl (by kernel_rfl) Try.func10 (by kernel_rfl)
    (of_decide_eq_true (by kernel_rfl)) (by unfold Func.isWrapper; first | (rw [if_pos (by decide +kernel)]; kernel_rfl) | (rw [if_neg (by decide +kernel)]; exact ⟨rfl, rfl⟩))
    (fun os started H enc _ => lifted os started H enc)

/-- The statement. -/
theorem proved : Rows.ArrayMovesSaid :=
  over
#print axioms proved

end Go.Proofs.Ytabmdilhfiembaa.arrayMoves
