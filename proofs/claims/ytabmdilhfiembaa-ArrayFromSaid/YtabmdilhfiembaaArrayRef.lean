/-
  The contracts of Find, better, Same and Anew of the given package marigoldref10.
-/
import Derived.Test.YtabmdilhfiembaaArrayRefSet
import Derived.Test.YtabmdilhfiembaaArrayMay
import Derived.Test.YtabmdilhfiembaaArrayOps
import Derived.Test.YtabmdilhfiembaaMixRefLess
import Derived.Test.YtabmdilhfiembaaUntil
namespace Go.Proofs.Ytabmdilhfiembaa
set_option maxRecDepth 100000
set_option linter.unusedVariables false
set_option linter.unusedSimpArgs false
set_option linter.unusedVariables false
open Go.ChangeShapes Go.WideShapes Go.ChangeAt Go.RowKit

attribute [local go_sem high] eqIdN in
set_option maxRecDepth 100000 in
set_option maxHeartbeats 1600000 in
theorem refFindA_any (A : Option Addr) (c : Nat) (a : List It) (hl : a.length ≤ 100000) (x : Id2) (w : World) (hA : CellsAt w w.heap.size A (itemCells a)) :
    Calls Try.prog 40 #[.slice A a.length c, .agg #[.int .u64 x.1, .int .u64 x.2]] w fun e w' => e = .returned (.int .i64 (posI a x)) ∧ Kept w w' := by
  have HK := Lib.hid ((Kept.refl w).alloc (.cells #[.int .u64 x.1, .int .u64 x.2] 29))
  have HA := Lib.hid (hA.kept HK.out)
  have HC := Lib.hid (HasCells.new w #[.int .u64 x.1, .int .u64 x.2] 29 w.heap.size rfl)
  have HIl := Lib.hid (show (idsI a).length = a.length by simp [idsI])
  have HIg := Lib.hid (fun k (hk : k < a.length) (hn : k < (idsI a).length) => (show (idsI a)[k] = a[k].x by simp [idsI]))
  clear hA
  go_enter Try.func40, Try.ntmps40
  go_wp2_with fail
  generalize w.alloc (.cells #[.int .u64 x.1, .int .u64 x.2] 29) = W at *
  generalize w.heap.size = z at *
  go_loopw [5] (fun i w' => ∃ k : Nat, k ≤ a.length ∧ i = .int .i64 k ∧ x ∉ (idsI a).take k ∧ Kept W w') (fun i _ => a.length - (intOf i).toNat)
  case atStart => exact ⟨0, by omega, rfl, by simp, Kept.refl _⟩
  case round =>
    obtain ⟨k, hk, rfl, hx, hKr⟩ := hrel
    have HX := Lib.hid hx
    have HR := Lib.hid hKr
    clear hx hKr
    by_cases hlt : k < a.length
    · obtain ⟨zz, o, rfl, hb, c0, c1, _, _, _, _, _⟩ := item_at (HA.out.kept HR.out) hlt
      obtain ⟨d0, d1⟩ := (HC.out.kept HR.out).two
      have hkn : k < (idsI a).length := by rw [HIl.out]; exact hlt
      have HG := Lib.hid (HIg.out k hlt hkn)
      have HY := Lib.hid (posV_hit hkn HX.out)
      have HN := Lib.hid (not_in_step hkn HX.out)
      rw [HG.out] at HY HN
      generalize a[k] = y at *
      clear HG
      cases hs : sameI y.x x with
      | true =>
        have HP := Lib.hid (HY.out (of_decide_eq_true hs))
        go_wp2_with fail
        go_quiet (fail)
        go_wp2_with fail
        go_ret
        exact ⟨by unfold posI; rw [HP.out]; rfl, (HK.out.trans HR.out).drewN _⟩
      | false =>
        have HP := Lib.hid (HN.out (of_decide_eq_false hs))
        go_wp2_with fail
        go_quiet (fail)
        go_wp2_with fail
        go_roundw
        case rel => exact ⟨k + 1, by omega, by go_num, HP.out, HR.out.drewN _⟩
        case measure => simp [intOf]; omega
    · have hkl : k = a.length := by omega
      subst hkl
      have HV := Lib.hid (show posI a x = -1 from posV_none (show x ∉ idsI a by have := HX.out; rwa [← HIl.out, List.take_length] at this))
      go_wp2_with fail
      go_ret
      exact ⟨by rw [HV.out]; rfl, HK.out.trans HR.out⟩

set_option maxRecDepth 100000 in
set_option maxHeartbeats 1600000 in
theorem refBetter_any (s t : It) (w : World) :
    Calls Try.prog 50 #[.agg #[.int .u64 s.x.1, .int .u64 s.x.2, .int .i64 s.p, .int .i64 s.o, .int .i64 s.w, .int .i64 s.b, .int .i64 s.h], .agg #[.int .u64 t.x.1, .int .u64 t.x.2, .int .i64 t.p, .int .i64 t.o, .int .i64 t.w, .int .i64 t.b, .int .i64 t.h]] w fun e w' => e = .returned (.bool (moreI s.w t.w s.x t.x)) ∧ Kept w w' := by
  have K0 := Lib.hid (((Kept.refl w).alloc (.cells #[.int .u64 s.x.1, .int .u64 s.x.2, .int .i64 s.p, .int .i64 s.o, .int .i64 s.w, .int .i64 s.b, .int .i64 s.h] 50)).alloc (.cells #[.int .u64 t.x.1, .int .u64 t.x.2, .int .i64 t.p, .int .i64 t.o, .int .i64 t.w, .int .i64 t.b, .int .i64 t.h] 50))
  have HS := Lib.hid ((HasCells.new w #[.int .u64 s.x.1, .int .u64 s.x.2, .int .i64 s.p, .int .i64 s.o, .int .i64 s.w, .int .i64 s.b, .int .i64 s.h] 50 w.heap.size rfl).alloc (.cells #[.int .u64 t.x.1, .int .u64 t.x.2, .int .i64 t.p, .int .i64 t.o, .int .i64 t.w, .int .i64 t.b, .int .i64 t.h] 50))
  have HT := Lib.hid (HasCells.new (w.alloc (.cells #[.int .u64 s.x.1, .int .u64 s.x.2, .int .i64 s.p, .int .i64 s.o, .int .i64 s.w, .int .i64 s.b, .int .i64 s.h] 50)) #[.int .u64 t.x.1, .int .u64 t.x.2, .int .i64 t.p, .int .i64 t.o, .int .i64 t.w, .int .i64 t.b, .int .i64 t.h] 50 (w.heap.size + 1) (by simp))
  obtain ⟨sx, sp, so, sw, sb, sh⟩ := s
  obtain ⟨tx, tp, to, tw, tb, th⟩ := t
  dsimp only at *
  have HL := Lib.hid (moreI_same (n := sw) (m := tw) (x := sx) (y := tx))
  have HM := Lib.hid (moreI_more (n := sw) (m := tw) (x := sx) (y := tx))
  have HN := Lib.hid (moreI_less (n := sw) (m := tw) (x := sx) (y := tx))
  go_enter Try.func50, Try.ntmps50
  go_wp2_with fail
  refine (refLess_any tx sx _).mono ?_
  rintro e W1 ⟨rfl, k1⟩
  have K1 := Lib.hid (K0.out.trans k1)
  have HS1 := Lib.hid (HS.out.kept k1)
  have HT1 := Lib.hid (HT.out.kept k1)
  clear k1
  have s4 := HS1.out.at4
  have t4 := HT1.out.at4
  have hsl := HS1.out.1
  have htl := HT1.out.1
  by_cases h1 : tw < sw
  · have HE := Lib.hid (HM.out h1)
    go_wp2_with fail
    go_ret
    exact ⟨by rw [HE.out]; rfl, K1.out⟩
  · by_cases h2 : sw = tw
    · have HE := Lib.hid (HL.out h2)
      have hb : (sw == tw) = true := by rw [beq_iff_eq]; exact h2
      clear h2
      go_wp2_with fail
      go_ret
      exact ⟨by rw [HE.out]; first | rfl | (simp [h1]; done) | (simp; intro h; omega), K1.out⟩
    · have HE := Lib.hid (HN.out (by omega) h2)
      have hb : (sw == tw) = false := by rw [beq_eq_false_iff_ne]; exact h2
      clear h2
      go_wp2_with fail
      go_ret
      exact ⟨by rw [HE.out]; first | rfl | (simp [h1]; done) | (simp; intro h; omega), K1.out⟩

attribute [local go_sem high] eqItem in
set_option maxRecDepth 100000 in
set_option maxHeartbeats 1600000 in
theorem refSame_any (A : Option Addr) (c : Nat) (a : List It) (B : Option Addr) (d : Nat) (b : List It) (hl : a.length ≤ 100000) (hm : b.length ≤ 100000) (w : World) (hA : CellsAt w w.heap.size A (itemCells a)) (hB : CellsAt w w.heap.size B (itemCells b)) :
    Calls Try.prog 23 #[.slice A a.length c, .slice B b.length d] w fun e w' => e = .returned (.bool (sameL a b)) ∧ Kept w w' := by
  have HA := Lib.hid hA
  have HB := Lib.hid hB
  clear hA hB
  by_cases hn : a.length = b.length
  · have HN := Lib.hid hn
    rw [← hn]
    clear hn
    go_enter Try.func23, Try.ntmps23
    go_wp2_with fail
    go_loopw [5] (fun i w' => ∃ k : Nat, k ≤ a.length ∧ i = .int .i64 k ∧ (∀ j, j < k → sameIt (itA a j) (itA b j) = true) ∧ Kept w w') (fun i _ => a.length - (intOf i).toNat)
    case atStart => exact ⟨0, by omega, rfl, fun j h => by omega, Kept.refl _⟩
    case round =>
      obtain ⟨k, hk, rfl, hs, hK⟩ := hrel
      have HS := Lib.hid hs
      have HK := Lib.hid hK
      clear hs hK
      by_cases hlt : k < a.length
      · have hlb : k < b.length := by rw [← HN.out]; exact hlt
        obtain ⟨z, o, rfl, hb, c0, c1, c2, c3, c4, c5, c6⟩ := item_at (HA.out.kept HK.out) hlt
        obtain ⟨z2, o2, rfl, hb2, d0, d1, d2, d3, d4, d5, d6⟩ := item_at (HB.out.kept HK.out) hlb
        have HE1 := Lib.hid (itA_get hlt)
        have HE2 := Lib.hid (itA_get hlb)
        generalize a[k] = s at *
        generalize b[k] = t at *
        cases hst : sameIt s t with
        | true =>
          have HT := Lib.hid (show ∀ j, j < k + 1 → sameIt (itA a j) (itA b j) = true from fun j hj => by
            by_cases e : j = k
            · subst e; rw [HE1.out, HE2.out]; exact hst
            · exact HS.out j (by omega))
          go_wp2_with fail
          go_quiet (fail)
          go_wp2_with fail
          go_roundw
          case rel => exact ⟨k + 1, by omega, by go_num, HT.out, HK.out.drewN _⟩
          case measure => simp [intOf]; omega
        | false =>
          have HF := Lib.hid (show sameL a b = false from decide_eq_false (fun h => by have := h.2 k hlt; rw [HE1.out, HE2.out, hst] at this; cases this))
          go_wp2_with fail
          go_quiet (fail)
          go_wp2_with fail
          go_ret
          exact ⟨by rw [HF.out]; rfl, HK.out.drewN _⟩
      · have hkl : k = a.length := by omega
        subst hkl
        have HT := Lib.hid (show sameL a b = true from decide_eq_true ⟨HN.out, HS.out⟩)
        go_wp2_with fail
        go_ret
        exact ⟨by rw [HT.out]; rfl, HK.out⟩
  · have HF := Lib.hid (show sameL a b = false from decide_eq_false (fun h => hn h.1))
    have hb : ((a.length : Int) != (b.length : Int)) = true := by rw [bne_iff_ne]; omega
    clear hn
    go_enter Try.func23, Try.ntmps23
    go_wp2_with fail
    go_ret
    exact ⟨by rw [HF.out]; rfl, Kept.refl _⟩

/-! ### Anew -/
set_option maxRecDepth 100000 in
set_option maxHeartbeats 6400000 in
theorem refAnew_any (A : Option Addr) (c : Nat) (a : List It) (hl : a.length ≤ 70) (hr : AllRight a) (ho : ∀ i, i < a.length → 0 ≤ (itA a i).o ∧ (itA a i).o ≤ 1125899906842624) (w : World) (hA : CellsAt w w.heap.size A (itemCells a)) :
    Calls Try.prog 41 #[.slice A a.length c] w fun e w' => ∃ A' c', e = .returned (.slice A' a.length c') ∧ Its w (anewC a) (.slice A' a.length c') w' := by
  have HA := Lib.hid hA
  have HR := Lib.hid hr
  have HO := Lib.hid ho
  have hlen : ([] : List It).length + a.length ≤ 1000000 := by simp; omega
  clear hA hr ho
  go_enter Try.func41, Try.ntmps41
  go_wp2_with (refine wpList_its _ rfl 36 Try.underlying36 _ _ rfl w [] _ rfl (Its.nil w) _ A a.length c a rfl rfl HA.out hlen ?_; intro A' c' w' HI' _; rw [List.nil_append] at HI'; have HI := Lib.hid HI'; clear HI')
  have HI0 := Lib.hid (show Its w (partA a a.length) (.slice A' a.length c') w' by rw [partA_all]; exact HI.out)
  clear HI
  go_loopw [4] (fun i w' => ∃ k : Nat, k ≤ a.length ∧ i = .int .i64 ((k : Int) - 1) ∧ Its w (partA a k) (.slice A' a.length c') w') (fun i _ => (intOf i + 1).toNat)
  case atStart => exact ⟨a.length, Nat.le_refl _, by first | rfl | simp, HI0.out⟩
  case round =>
    obtain ⟨k, hk, rfl, hI⟩ := hrel
    have HI := Lib.hid hI
    clear hI HI0
    rcases k with _ | i
    · have HE := Lib.hid (show Its w (anewC a) (.slice A' a.length c') wr by rw [← partA_zero]; exact HI.out)
      go_wp2_with fail
      go_ret
      exact ⟨A', c', rfl, HE.out⟩
    · have hi : i < a.length := hk
      have e1 : (((i + 1 : Nat) : Int) - 1) = (i : Int) := by omega
      rw [e1]
      clear e1
      have HS := Lib.hid (show Its w (stepA a i (itA a i)) (.slice A' a.length c') wr by rw [stepA_first hi]; exact HI.out)
      obtain ⟨g, rfl, _⟩ := form0 HS.out (by rw [stepA_length]; omega)
      have hi0 : (0 : Int) ≤ (i : Int) := by omega
      have HSt := Lib.hid (nodeTo_start a i)
      have HSB := Lib.hid (fun m (h1 : i < m) (h2 : m ≤ a.length) => sumTo_bounds HR.out hl HO.out hi h1 h2)
      obtain ⟨_, _, _, s3, s4, s5, s6⟩ := HS.out.at (stepA_length _ _ _).symm (k := i) (by rw [stepA_length]; exact hi)
      rw [stepA_own hi] at s3 s4 s5 s6
      have f4 := HS.out.frozen (i * 7 + 4)
      have f5 := HS.out.frozen (i * 7 + 5)
      have f6 := HS.out.frozen (i * 7 + 6)
      go_wp2_with fail
      have HS1 := Lib.hid (show Its w (stepA a i (nodeTo a i (i + 1))) (.slice (some ⟨g, 0, none⟩) a.length c') (((wr.setCell ⟨g, i * 7 + 4, none⟩ (.int .i64 (itA a i).o)).setCell ⟨g, i * 7 + 5, none⟩ (.int .i64 (-1))).setCell ⟨g, i * 7 + 6, none⟩ (.int .i64 (i : Int))) by
        rw [HSt.out]
        exact ((HS.out.step hi (j := 4) (u := .int .i64 (itA a i).o) (t' := ⟨(itA a i).x, (itA a i).p, (itA a i).o, (itA a i).o, (itA a i).b, (itA a i).h⟩) (by omega) rfl).step hi (j := 5) (u := .int .i64 (-1)) (t' := ⟨(itA a i).x, (itA a i).p, (itA a i).o, (itA a i).o, -1, (itA a i).h⟩) (by omega) rfl).step hi (j := 6) (u := .int .i64 (i : Int)) (t' := ⟨(itA a i).x, (itA a i).p, (itA a i).o, (itA a i).o, -1, (i : Int)⟩) (by omega) rfl)
      clear s3 s4 s5 s6 f4 f5 f6 HS HI HSt
      generalize (((wr.setCell ⟨g, i * 7 + 4, none⟩ (.int .i64 (itA a i).o)).setCell ⟨g, i * 7 + 5, none⟩ (.int .i64 (-1))).setCell ⟨g, i * 7 + 6, none⟩ (.int .i64 (i : Int))) = V0 at *
      go_loopw [5] (fun k w' => ∃ m : Nat, i < m ∧ m ≤ a.length ∧ k = .int .i64 (m : Nat) ∧ Its w (stepA a i (nodeTo a i m)) (.slice (some ⟨g, 0, none⟩) a.length c') w') (fun k _ => a.length - (intOf k).toNat)
      case atStart => exact ⟨i + 1, by omega, by omega, by first | rfl | go_num, HS1.out⟩
      case round =>
        obtain ⟨m, hm1, hm2, rfl, hI⟩ := hrel
        have HI := Lib.hid hI
        clear hI HS1
        by_cases hlt : m < a.length
        · have HUp := Lib.hid (stepA_up hm1 hlt (nodeTo a i m))
          obtain ⟨x0, x1, x2, x3, x4, x5, x6⟩ := HI.out.at (stepA_length _ _ _).symm (k := m) (by rw [stepA_length]; exact hlt)
          rw [HUp.out] at x0 x1 x2 x3 x4 x5 x6
          have hgl := HI.out.ge.2
          have HGe := Lib.hid HI.out.ge.1
          by_cases hp : (itA a m).p = (i : Int)
          · have hpb : ((i : Int) != (i : Int)) = false := by simp
            obtain ⟨_, _, _, _, s4, s5, s6⟩ := HI.out.at (stepA_length _ _ _).symm (k := i) (by rw [stepA_length]; exact hi)
            rw [stepA_own hi] at s4 s5 s6
            have hb1 := HSB.out m hm1 hm2
            have hb2 := HSB.out (m + 1) (by omega) hlt
            rw [sumTo_hit hm1 hp, ← Int.add_assoc] at hb2
            have hw : IntKind.i64.wrap ((itA a i).o + sumTo a i m + wC a m) = (itA a i).o + sumTo a i m + wC a m := IntWalk.i64_in _ (by omega)
            have HNo := Lib.hid (fun q => nodeTo_none (a := a) (i := i) (k := m) q)
            have HSo := Lib.hid (fun y q => nodeTo_some (a := a) (i := i) (k := m) (y := y) q)
            have HFi := Lib.hid (fun q => nodeTo_first hm1 hp q)
            have HHi := Lib.hid (fun y q r => nodeTo_hit hm1 hp (y := y) q r)
            have HLe := Lib.hid (fun y q r => nodeTo_less hm1 hp (y := y) q r)
            have HUy := Lib.hid (fun y (h1 : i < y) (h2 : y < a.length) t => stepA_up h1 h2 t)
            have x2' : wr.cell? ⟨g, m * 7 + 2, none⟩ = some (.int .i64 (i : Int)) := by rw [x2]; show some (Value.int .i64 (itA a m).p) = _; rw [hp]
            clear hp hb1 hb2 x2
            have x4' : wr.cell? ⟨g, m * 7 + 4, none⟩ = some (.int .i64 (wC a m)) := x4
            have s4' : wr.cell? ⟨g, i * 7 + 4, none⟩ = some (.int .i64 ((itA a i).o + sumTo a i m)) := s4
            clear x0 x1 x3 x4 x5 x6 s4 s5 s6
            have f4 := HI.out.frozen (i * 7 + 4)
            have HI12 := Lib.hid (show Its w (stepA a i { nodeTo a i m with w := (itA a i).o + sumTo a i m + wC a m }) (.slice (some ⟨g, 0, none⟩) a.length c') (wr.setCell ⟨g, i * 7 + 4, none⟩ (.int .i64 ((itA a i).o + sumTo a i m + wC a m))) from
              HI.out.step hi (j := 4) (u := .int .i64 ((itA a i).o + sumTo a i m + wC a m)) (t' := { nodeTo a i m with w := (itA a i).o + sumTo a i m + wC a m }) (by omega) rfl)
            generalize hss : (itA a i).o + sumTo a i m = ss at *
            obtain ⟨sw, hsw⟩ : ∃ sw, sw = ss + wC a m := ⟨_, rfl⟩
            have hw2 : IntKind.i64.wrap (ss + wC a m) = sw := hw.trans hsw.symm
            clear hw
            rw [← hsw] at HI12 HFi
            have HHi2 := Lib.hid (fun y q r => (HHi.out y q r).trans (by rw [← hsw]))
            have HLe2 := Lib.hid (fun y q r => (HLe.out y q r).trans (by rw [← hsw]))
            clear hsw HHi HLe hss
            go_wp2_with fail
            refine wp_region_noPanic ?_
            refine wp_region_until 15 (fun w' => w'.cell? ⟨g, i * 7 + 4, none⟩ = some (.int .i64 ss) ∧ w'.cell? ⟨g, m * 7 + 4, none⟩ = some (.int .i64 (wC a m)) ∧ Kept wr w') (by kernel_rfl) ?_ (fun hHeld => ?_)
            · exact ⟨s4', x4', (Kept.refl _).drew⟩
            refine wpAnyU_take 0 ?_ (by simp only [List.getElem?_toArray, List.getElem?_cons_succ, List.getElem?_cons_zero]; rfl) (by kernel_rfl) (by kernel_rfl) (by kernel_rfl) (by kernel_rfl) (by kernel_rfl) (by kernel_rfl) (fun _ _ _ h => h) (Or.inl ⟨by rfl, ?_⟩) (by assumption) ?_
            rotate_left
            · intro w hSw
              (try dsimp only at hSw)
              go_simp
              (try with_reducible rfl)
            simp only [Act.put, List.setIfInBounds_toArray, List.set_cons_zero, List.set_cons_succ]
            refine wpAnyU_take 1 ?_ (by simp only [List.getElem?_toArray, List.getElem?_cons_succ, List.getElem?_cons_zero]; rfl) (by kernel_rfl) (by kernel_rfl) (by kernel_rfl) (by kernel_rfl) (by kernel_rfl) (by kernel_rfl) (fun _ _ _ h => h) (Or.inl ⟨by rfl, ?_⟩) (by assumption) ?_
            rotate_left
            · intro w hSw
              (try dsimp only at hSw)
              go_simp
              (try with_reducible rfl)
            simp only [Act.put, List.setIfInBounds_toArray, List.set_cons_zero, List.set_cons_succ]
            refine wpAnyU_take 2 ?_ (by simp only [List.getElem?_toArray, List.getElem?_cons_succ, List.getElem?_cons_zero]; rfl) (by kernel_rfl) (by kernel_rfl) (by kernel_rfl) (by kernel_rfl) (by kernel_rfl) (by kernel_rfl) (fun _ _ _ h => h) (Or.inl ⟨by rfl, ?_⟩) (by assumption) ?_
            rotate_left
            · intro w hSw
              (try dsimp only at hSw)
              go_simp
              (try with_reducible rfl)
            simp only [Act.put, List.setIfInBounds_toArray, List.set_cons_zero, List.set_cons_succ]
            refine wpAnyU_take 3 ?_ (by simp only [List.getElem?_toArray, List.getElem?_cons_succ, List.getElem?_cons_zero]; rfl) (by kernel_rfl) (by kernel_rfl) (by kernel_rfl) (by kernel_rfl) (by kernel_rfl) (by kernel_rfl) (fun _ _ _ h => h) (Or.inl ⟨by rfl, ?_⟩) (by assumption) ?_
            rotate_left
            · intro w hSw
              (try dsimp only at hSw)
              go_simp
              (try with_reducible rfl)
            simp only [Act.put, List.setIfInBounds_toArray, List.set_cons_zero, List.set_cons_succ]
            refine wpAnyU_take 4 ?_ (by simp only [List.getElem?_toArray, List.getElem?_cons_succ, List.getElem?_cons_zero]; rfl) (by kernel_rfl) (by kernel_rfl) (by kernel_rfl) (by kernel_rfl) (by kernel_rfl) (by kernel_rfl) (fun _ _ _ h => h) (Or.inl ⟨by rfl, ?_⟩) (by assumption) ?_
            rotate_left
            · intro w hSw
              (try dsimp only at hSw)
              go_simp
              (try with_reducible rfl)
            simp only [Act.put, List.setIfInBounds_toArray, List.set_cons_zero, List.set_cons_succ]
            refine wpAnyU_take 5 ?_ (by simp only [List.getElem?_toArray, List.getElem?_cons_succ, List.getElem?_cons_zero]; rfl) (by kernel_rfl) (by kernel_rfl) (by kernel_rfl) (by kernel_rfl) (by kernel_rfl) (by kernel_rfl) (fun _ _ _ h => h) (Or.inl ⟨by rfl, ?_⟩) (by assumption) ?_
            rotate_left
            · intro w hSw
              (try dsimp only at hSw)
              go_simp
              (try with_reducible rfl)
            simp only [Act.put, List.setIfInBounds_toArray, List.set_cons_zero, List.set_cons_succ]
            refine wpAnyU_take 6 ?_ (by simp only [List.getElem?_toArray, List.getElem?_cons_succ, List.getElem?_cons_zero]; rfl) (by kernel_rfl) (by kernel_rfl) (by kernel_rfl) (by kernel_rfl) (by kernel_rfl) (by kernel_rfl) (fun _ _ _ h => h) (Or.inl ⟨by rfl, ?_⟩) (by assumption) ?_
            rotate_left
            · intro w hSw
              (try dsimp only at hSw)
              go_simp
              (try with_reducible rfl)
            simp only [Act.put, List.setIfInBounds_toArray, List.set_cons_zero, List.set_cons_succ]
            refine wpAnyU_take 7 ?_ (by simp only [List.getElem?_toArray, List.getElem?_cons_succ, List.getElem?_cons_zero]; rfl) (by kernel_rfl) (by kernel_rfl) (by kernel_rfl) (by kernel_rfl) (by kernel_rfl) (by kernel_rfl) (fun _ _ _ h => h) (Or.inl ⟨by rfl, ?_⟩) (by assumption) ?_
            rotate_left
            · intro w hSw
              (try dsimp only at hSw)
              go_simp
              (try with_reducible rfl)
            simp only [Act.put, List.setIfInBounds_toArray, List.set_cons_zero, List.set_cons_succ]
            refine wpAnyU_take 8 ?_ (by simp only [List.getElem?_toArray, List.getElem?_cons_succ, List.getElem?_cons_zero]; rfl) (by kernel_rfl) (by kernel_rfl) (by kernel_rfl) (by kernel_rfl) (by kernel_rfl) (by kernel_rfl) (fun _ _ _ h => h) (Or.inl ⟨by rfl, ?_⟩) (by assumption) ?_
            rotate_left
            · intro w hSw
              (try dsimp only at hSw)
              go_simp
              (try with_reducible rfl)
            simp only [Act.put, List.setIfInBounds_toArray, List.set_cons_zero, List.set_cons_succ]
            refine wpAnyU_take 9 ?_ (by simp only [List.getElem?_toArray, List.getElem?_cons_succ, List.getElem?_cons_zero]; rfl) (by kernel_rfl) (by kernel_rfl) (by kernel_rfl) (by kernel_rfl) (by kernel_rfl) (by kernel_rfl) (fun _ _ _ h => h) (Or.inl ⟨by rfl, ?_⟩) (by assumption) ?_
            rotate_left
            · intro w hSw
              (try dsimp only at hSw)
              go_simp
              (try with_reducible rfl)
            simp only [Act.put, List.setIfInBounds_toArray, List.set_cons_zero, List.set_cons_succ]
            refine wpAnyU_take 10 ?_ (by simp only [List.getElem?_toArray, List.getElem?_cons_succ, List.getElem?_cons_zero]; rfl) (by kernel_rfl) (by kernel_rfl) (by kernel_rfl) (by kernel_rfl) (by kernel_rfl) (by kernel_rfl) (fun _ _ _ h => h) (Or.inl ⟨by rfl, ?_⟩) (by assumption) ?_
            rotate_left
            · intro w hSw
              (try dsimp only at hSw)
              go_simp
              (try with_reducible rfl)
            simp only [Act.put, List.setIfInBounds_toArray, List.set_cons_zero, List.set_cons_succ]
            refine wpAnyU_take 11 ?_ (by simp only [List.getElem?_toArray, List.getElem?_cons_succ, List.getElem?_cons_zero]; rfl) (by kernel_rfl) (by kernel_rfl) (by kernel_rfl) (by kernel_rfl) (by kernel_rfl) (by kernel_rfl) (fun _ _ _ h => h) (Or.inl ⟨by rfl, ?_⟩) (by assumption) ?_
            rotate_left
            · intro w hSw
              (try dsimp only at hSw)
              go_simp
              (try with_reducible rfl)
            simp only [Act.put, List.setIfInBounds_toArray, List.set_cons_zero, List.set_cons_succ]
            refine wpAnyU_take 12 ?_ (by simp only [List.getElem?_toArray, List.getElem?_cons_succ, List.getElem?_cons_zero]; rfl) (by kernel_rfl) (by kernel_rfl) (by kernel_rfl) (by kernel_rfl) (by kernel_rfl) (by kernel_rfl) (fun _ _ _ h => h) (Or.inl ⟨by rfl, ?_⟩) (by assumption) ?_
            rotate_left
            · intro w hSw
              (try dsimp only at hSw)
              go_simp
              (try with_reducible rfl)
            simp only [Act.put, List.setIfInBounds_toArray, List.set_cons_zero, List.set_cons_succ]
            refine wpAnyU_take 13 ?_ (by simp only [List.getElem?_toArray, List.getElem?_cons_succ, List.getElem?_cons_zero]; rfl) (by kernel_rfl) (by kernel_rfl) (by kernel_rfl) (by kernel_rfl) (by kernel_rfl) (by kernel_rfl) (fun _ _ _ h => h) (Or.inl ⟨by rfl, ?_⟩) (by assumption) ?_
            rotate_left
            · intro w hSw
              (try dsimp only at hSw)
              go_simp
              (try with_reducible rfl)
            simp only [Act.put, List.setIfInBounds_toArray, List.set_cons_zero, List.set_cons_succ]
            refine wpAnyU_take 14 ?_ (by simp only [List.getElem?_toArray, List.getElem?_cons_succ, List.getElem?_cons_zero]; rfl) (by kernel_rfl) (by kernel_rfl) (by kernel_rfl) (by kernel_rfl) (by kernel_rfl) (by kernel_rfl) (fun _ _ _ h => h) (Or.inl ⟨by rfl, ?_⟩) (by assumption) ?_
            rotate_left
            · intro w hSw
              (try dsimp only at hSw)
              go_simp
              (try with_reducible rfl)
            simp only [Act.put, List.setIfInBounds_toArray, List.set_cons_zero, List.set_cons_succ]
            refine wpAnyU_last (by kernel_rfl) (by simp only [List.getElem?_toArray, List.getElem?_cons_succ, List.getElem?_cons_zero]; rfl) (by kernel_rfl) (by kernel_rfl) (fun K hK => ?_)

            go_simp
            refine hK.out _ _ ?_
            clear hK K hHeld
            refine NoPanic.normal ?_
            have HI12d := Lib.hid HI12.out.drew
            clear s4' x4' x2' f4 hw2 HI HI12 hgl
            generalize (wr.setCell ⟨g, i * 7 + 4, none⟩ (.int .i64 sw)).drew = V1 at *
            have hgl := HI12d.out.ge.2
            cases hb : bestToI a i m with
            | none =>
              have HFX := Lib.hid (HFi.out hb)
              have HIw := Lib.hid (show Its w (stepA a i ⟨(itA a i).x, (itA a i).p, (itA a i).o, sw, -1, (i : Int)⟩) (.slice (some ⟨g, 0, none⟩) a.length c') V1 by have h := HI12d.out; rw [HNo.out hb] at h; exact h)
              clear hb HNo HSo HFi HHi2 HLe2 HI12d
              obtain ⟨_, _, _, _, _, s5, s6⟩ := HIw.out.at (stepA_length _ _ _).symm (k := i) (by rw [stepA_length]; exact hi)
              rw [stepA_own hi] at s5 s6
              dsimp only at s5 s6
              have f5 := HIw.out.frozen (i * 7 + 5)
              go_upto_region 18 with (fail)
              have HI3 := Lib.hid (HIw.out.step hi (j := 5) (u := .int .i64 (m : Int)) (t' := ⟨(itA a i).x, (itA a i).p, (itA a i).o, sw, (m : Int), (i : Int)⟩) (by omega) rfl)
              clear s5 s6 f5
              generalize V1.setCell ⟨g, i * 7 + 5, none⟩ (.int .i64 (m : Int)) = V3 at *
              obtain ⟨_, _, _, _, _, _, s6⟩ := HI3.out.at (stepA_length _ _ _).symm (k := i) (by rw [stepA_length]; exact hi)
              rw [stepA_own hi] at s6
              dsimp only at s6
              obtain ⟨_, _, _, _, _, _, x6⟩ := HI3.out.at (stepA_length _ _ _).symm (k := m) (by rw [stepA_length]; exact hlt)
              rw [HUy.out m hm1 hlt] at x6
              have x6' : V3.cell? ⟨g, m * 7 + 6, none⟩ = some (.int .i64 (hC a m : Int)) := x6
              clear x6
              have f6 := HI3.out.frozen (i * 7 + 6)
              generalize hC a m = hm at *
              go_wp2_with fail
              have HI4 := Lib.hid (HI3.out.step hi (j := 6) (u := .int .i64 (hm : Int)) (t' := ⟨(itA a i).x, (itA a i).p, (itA a i).o, sw, (m : Int), (hm : Int)⟩) (by omega) rfl)
              go_roundw
              case rel => exact ⟨m + 1, by omega, by omega, by go_num, by rw [HFX.out]; exact HI4.out⟩
              case measure => simp [intOf]; omega
            | some y =>
              obtain ⟨hny, hym, hiy⟩ := HSo.out y hb
              have HIw := Lib.hid (show Its w (stepA a i ⟨(itA a i).x, (itA a i).p, (itA a i).o, sw, (y : Int), (hC a y : Int)⟩) (.slice (some ⟨g, 0, none⟩) a.length c') V1 by have h := HI12d.out; rw [hny] at h; exact h)
              have HHt := Lib.hid (fun r => HHi2.out y hb r)
              have HLt := Lib.hid (fun r => HLe2.out y hb r)
              clear hb HNo HSo HFi HHi2 HLe2 HI12d hny
              have hyl : y < a.length := by omega
              have hy0 : ¬ (y : Int) < 0 := by omega
              obtain ⟨x0, x1, x2, x3, x4, x5, x6⟩ := HIw.out.at (stepA_length _ _ _).symm (k := m) (by rw [stepA_length]; exact hlt)
              rw [HUy.out m hm1 hlt] at x0 x1 x2 x3 x4 x5 x6
              obtain ⟨y0, y1, y2, y3, y4, y5, y6⟩ := HIw.out.at (stepA_length _ _ _).symm (k := y) (by rw [stepA_length]; exact hyl)
              rw [HUy.out y hiy hyl] at y0 y1 y2 y3 y4 y5 y6
              obtain ⟨_, _, _, _, _, s5, _⟩ := HIw.out.at (stepA_length _ _ _).symm (k := i) (by rw [stepA_length]; exact hi)
              rw [stepA_own hi] at s5
              dsimp only at s5
              have HHt2 := Lib.hid (fun (r : moreI (nodeC a m).w (nodeC a y).w (nodeC a m).x (nodeC a y).x = true) => HHt.out r)
              have HLt2 := Lib.hid (fun (r : moreI (nodeC a m).w (nodeC a y).w (nodeC a m).x (nodeC a y).x = false) => HLt.out r)
              clear HHt HLt
              have HUm := Lib.hid (fun t => HUy.out m hm1 hlt t)
              generalize hsm : nodeC a m = sm at x0 x1 x2 x3 x4 x5 x6 HHt2 HLt2
              generalize hsy : nodeC a y = sy at y0 y1 y2 y3 y4 y5 y6 HHt2 HLt2
              have HSm := Lib.hid hsm
              clear hsm hsy
              go_wp2_with fail
              go_region_held3 (fun w' => w'.cell? ⟨g, m * 7, none⟩ = some (.int .u64 sm.x.1) ∧ w'.cell? ⟨g, m * 7 + 1, none⟩ = some (.int .u64 sm.x.2) ∧ w'.cell? ⟨g, m * 7 + 2, none⟩ = some (.int .i64 sm.p) ∧ w'.cell? ⟨g, m * 7 + 3, none⟩ = some (.int .i64 sm.o) ∧ w'.cell? ⟨g, m * 7 + 4, none⟩ = some (.int .i64 sm.w) ∧ w'.cell? ⟨g, m * 7 + 5, none⟩ = some (.int .i64 sm.b) ∧ w'.cell? ⟨g, m * 7 + 6, none⟩ = some (.int .i64 sm.h) ∧ w'.cell? ⟨g, i * 7 + 5, none⟩ = some (.int .i64 (y : Int)) ∧ w'.cell? ⟨g, y * 7, none⟩ = some (.int .u64 sy.x.1) ∧ w'.cell? ⟨g, y * 7 + 1, none⟩ = some (.int .u64 sy.x.2) ∧ w'.cell? ⟨g, y * 7 + 2, none⟩ = some (.int .i64 sy.p) ∧ w'.cell? ⟨g, y * 7 + 3, none⟩ = some (.int .i64 sy.o) ∧ w'.cell? ⟨g, y * 7 + 4, none⟩ = some (.int .i64 sy.w) ∧ w'.cell? ⟨g, y * 7 + 5, none⟩ = some (.int .i64 sy.b) ∧ w'.cell? ⟨g, y * 7 + 6, none⟩ = some (.int .i64 sy.h) ∧ Kept V1 w')
                (first | exact ⟨x0, x1, x2, x3, x4, x5, x6, s5, y0, y1, y2, y3, y4, y5, y6, Kept.refl _⟩ | exact ⟨x0, x1, x2, x3, x4, x5, x6, s5, y0, y1, y2, y3, y4, y5, y6, (Kept.refl _).drew⟩ | assumption | exact keepP15 hgl hgl hgl hgl hgl hgl hgl hgl hgl hgl hgl hgl hgl hgl hgl (by assumption) (by assumption))
                (first
                  | (go_at_call 50; ((with_reducible refine (refBetter_any sm sy _).mono ?_); rintro e w' ⟨rfl, kk⟩)))
              rename_i hh
              have k2 := hh.2.2.2.2.2.2.2.2.2.2.2.2.2.2.2
              have HI2 := Lib.hid (HIw.out.kept k2)
              clear hh kk k2 x0 x1 x2 x3 x4 x5 x6 s5 y0 y1 y2 y3 y4 y5 y6
              generalize w' = V2 at *
              cases hmo : moreI sm.w sy.w sm.x sy.x with
              | true =>
                have HFX := Lib.hid (HHt2.out hmo)
                clear hmo HHt2 HLt2
                obtain ⟨_, _, _, _, _, s5, s6⟩ := HI2.out.at (stepA_length _ _ _).symm (k := i) (by rw [stepA_length]; exact hi)
                rw [stepA_own hi] at s5 s6
                dsimp only at s5 s6
                have f5 := HI2.out.frozen (i * 7 + 5)
                go_upto_region 18 with (fail)
                have HI3 := Lib.hid (HI2.out.step hi (j := 5) (u := .int .i64 (m : Int)) (t' := ⟨(itA a i).x, (itA a i).p, (itA a i).o, sw, (m : Int), (hC a y : Int)⟩) (by omega) rfl)
                clear s5 s6 f5
                generalize V2.setCell ⟨g, i * 7 + 5, none⟩ (.int .i64 (m : Int)) = V3 at *
                obtain ⟨_, _, _, _, _, _, s6⟩ := HI3.out.at (stepA_length _ _ _).symm (k := i) (by rw [stepA_length]; exact hi)
                rw [stepA_own hi] at s6
                dsimp only at s6
                obtain ⟨_, _, _, _, _, _, x6⟩ := HI3.out.at (stepA_length _ _ _).symm (k := m) (by rw [stepA_length]; exact hlt)
                rw [HUy.out m hm1 hlt] at x6
                have x6' : V3.cell? ⟨g, m * 7 + 6, none⟩ = some (.int .i64 (hC a m : Int)) := x6
                clear x6
                have f6 := HI3.out.frozen (i * 7 + 6)
                generalize hC a m = hm at *
                go_wp2_with fail
                have HI4 := Lib.hid (HI3.out.step hi (j := 6) (u := .int .i64 (hm : Int)) (t' := ⟨(itA a i).x, (itA a i).p, (itA a i).o, sw, (m : Int), (hm : Int)⟩) (by omega) rfl)
                go_roundw
                case rel => exact ⟨m + 1, by omega, by omega, by go_num, by rw [HFX.out]; exact HI4.out⟩
                case measure => simp [intOf]; omega
              | false =>
                have HFX := Lib.hid (HLt2.out hmo)
                clear hmo HHt2 HLt2
                go_wp2_with fail
                go_roundw
                case rel => exact ⟨m + 1, by omega, by omega, by go_num, by rw [HFX.out]; exact HI2.out⟩
                case measure => simp [intOf]; omega
          · have hpb : ((itA a m).p != (i : Int)) = true := by rw [bne_iff_ne]; exact hp
            have HMi := Lib.hid (show Its w (stepA a i (nodeTo a i (m + 1))) (.slice (some ⟨g, 0, none⟩) a.length c') wr by rw [nodeTo_miss hm1 hp]; exact HI.out)
            have x2' : wr.cell? ⟨g, m * 7 + 2, none⟩ = some (.int .i64 (itA a m).p) := x2
            clear x0 x1 x2 x3 x4 x5 x6
            generalize (itA a m).p = pm at *
            clear hp
            go_wp2_with fail
            go_roundw
            case rel => exact ⟨m + 1, by omega, by omega, by go_num, HMi.out⟩
            case measure => simp [intOf]; omega
        · have hml : m = a.length := by omega
          subst hml
          have HE := Lib.hid (show Its w (partA a i) (.slice (some ⟨g, 0, none⟩) a.length c') wr by rw [← stepA_last hi, ← nodeTo_end]; exact HI.out)
          go_wp2_with fail
          go_roundw
          case rel => exact ⟨i, by omega, rfl, HE.out⟩
          case measure => first | (simp [intOf]; done) | (simp [intOf]; omega)

end Go.Proofs.Ytabmdilhfiembaa
