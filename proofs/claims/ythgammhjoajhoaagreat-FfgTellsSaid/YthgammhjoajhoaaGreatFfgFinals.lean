/-
  The contract of Final of the given package marigoldref11.
-/
import Derived.Test.YthgammhjoajhoaaGreatFfgFinal
namespace Go.Proofs.YthgammhjoajhoaaGreat
set_option maxRecDepth 100000
set_option linter.unusedVariables false
set_option linter.unusedSimpArgs false
set_option linter.unusedSimpArgs false
set_option linter.unusedVariables false
open Go.ChangeShapes Go.WideShapes Go.ChangeAt Go.RowKit

def FinalNew (k : Cf) (l : List Bk) (v : List Lk) (w : World) (e : Ending) (w' : World) : Prop := ∃ F A' c', Finals k l v F ∧ F.length ≤ v.length + 1 ∧ e = .returned (.slice A' F.length c') ∧ CellsAt w' w'.heap.size A' (cksCells F) ∧ F.length ≤ c' ∧ Kept w w'
theorem filter_hit {p : Ck → Bool} {R : List Ck} {j : Nat} (hj : j < R.length) (h : p R[j] = true) : (R.take (j + 1)).filter p = (R.take j).filter p ++ [R[j]] := by
  rw [List.take_succ_eq_append_getElem hj, List.filter_append]; simp [h]
theorem filter_miss {p : Ck → Bool} {R : List Ck} {j : Nat} (hj : j < R.length) (h : p R[j] = false) : (R.take (j + 1)).filter p = (R.take j).filter p := by
  rw [List.take_succ_eq_append_getElem hj, List.filter_append, List.filter_cons_of_neg (by simp [h])]; simp
theorem filter_le (p : Ck → Bool) (R : List Ck) (j : Nat) : ((R.take j).filter p).length ≤ j := Nat.le_trans (List.length_filter_le _ _) (by rw [List.length_take]; omega)
set_option maxRecDepth 100000 in
set_option maxHeartbeats 6400000 in
theorem refFinal_any (A : Option Addr) (c : Nat) (k : Cf) (L : Option Addr) (cl : Nat) (l : List Bk) (V : Option Addr) (cv : Nat) (v : List Lk) (w : World)
    (hk : k.ws.length ≤ 1000) (hl : l.length ≤ 1000000) (hv : v.length ≤ 10000) (hwl : WfL l) (hA : CellsAt w w.heap.size A (intCells k.ws)) (hL : CellsAt w w.heap.size L (blockCells l)) (hV : CellsAt w w.heap.size V (lksCells v)) :
    Calls Tryz.prog 12 #[.agg #[.slice A k.ws.length c, .int .u64 k.seed, .int .i64 k.ep, .int .i64 k.nu, .int .i64 k.de], .slice L l.length cl, .slice V v.length cv] w (FinalNew k l v w) := by
  have K0 := Lib.hid ((Kept.refl w).alloc (.cells #[.slice A k.ws.length c, .int .u64 k.seed, .int .i64 k.ep, .int .i64 k.nu, .int .i64 k.de] 25))
  have HC := Lib.hid (HasCells.new w #[.slice A k.ws.length c, .int .u64 k.seed, .int .i64 k.ep, .int .i64 k.nu, .int .i64 k.de] 25 w.heap.size rfl)
  have HA := Lib.hid (hA.kept K0.out)
  have HL := Lib.hid (hL.kept K0.out)
  have HV := Lib.hid (hV.kept K0.out)
  have HWL := Lib.hid hwl
  clear hA hL hV hwl
  go_enter Tryz.func12, Tryz.ntmps12
  obtain ⟨c0, c1, c2, c3, c4⟩ := HC.out.five
  go_wp2_with fail
  clear c0 c1 c2 c3 c4
  generalize w.alloc (.cells #[.slice A k.ws.length c, .int .u64 k.seed, .int .i64 k.ep, .int .i64 k.nu, .int .i64 k.de] 25) = W at *
  generalize w.heap.size = z at *
  refine (refJust_any A c k L cl l V cv v W hk hl hv HWL.out HA.out HL.out HV.out).mono ?_
  rintro e W1 ⟨R, J, cj, hJu, hRl, rfl, hJ, _, k1⟩
  have HJu := Lib.hid hJu
  have HJ := Lib.hid hJ
  have K1 := Lib.hid k1
  clear hJu hJ k1
  obtain ⟨c0, c1, c2, c3, c4⟩ := (HC.out.kept K1.out).five
  go_wp2_with fail
  clear c0 c1 c2 c3 c4
  refine (refFine_any A c k L cl l V cv v W1 hk hl (by omega) HWL.out (HA.out.kept K1.out) (HL.out.kept K1.out) (HV.out.kept K1.out)).mono ?_
  rintro e W2 ⟨VX, cx, rfl, hX⟩
  have HX := Lib.hid (hX.cells rfl)
  have K2 := Lib.hid (K1.out.trans hX.2)
  have HJ2 := Lib.hid (HJ.out.kept hX.2)
  clear hX HJ
  have HXl := Lib.hid (fineC_length k l v)
  have HUp := Lib.hid (fine_up (k := k) (l := l) (v := v))
  have HRg := Lib.hid (just_range HJu.out)
  have HEq := Lib.hid (fun x hx => finB_eq HJu.out (x := x) hx)
  have HFin := Lib.hid (show Finals k l v (R.filter (finalB k l v)) from ⟨R, HJu.out, rfl⟩)
  generalize finalB k l v = p at *
  generalize fineC k l v = X at *
  have hXl : X.length ≤ 10000 := by have := HXl.out; omega
  have hR2 : R.length ≤ 100000 := by omega
  go_wp2_with fail
  go_loopw [7, 9] (fun u i w' => ∃ j : Nat, j ≤ R.length ∧ i = .int .i64 j ∧ ∃ B cb, u = .slice B ((R.take j).filter p).length cb ∧ Cks W2 ((R.take j).filter p) (.slice B ((R.take j).filter p).length cb) w') (fun _ i _ => R.length - (intOf i).toNat)
  case atStart => exact ⟨0, by omega, rfl, none, 0, rfl, Cks.nil W2⟩
  case round =>
    obtain ⟨j, hj, rfl, B, cb, rfl, hI⟩ := hrel
    have HI := Lib.hid hI
    clear hI
    by_cases hlt : j < R.length
    · obtain ⟨zj, oj, rfl, hbj, e0, e1, e2⟩ := ck_at (HJ2.out.kept HI.out.2) hlt
      have HT1 := Lib.hid (filter_hit (p := p) hlt)
      have HT0 := Lib.hid (filter_miss (p := p) hlt)
      have HLe := Lib.hid (filter_le p R j)
      have HMe := Lib.hid (HEq.out R[j] (List.getElem_mem hlt))
      have hxr := HRg.out R[j] (List.getElem_mem hlt)
      have HFi := Lib.hid (fun w' (kk : Kept wr w') => refFinalIn_any A c k L cl l VX cx X (some ⟨zj, oj, none⟩) cj R R[j] w' hk hl hXl hR2 HUp.out hxr HWL.out ((HA.out.kept (K2.out.trans HI.out.2)).kept kk) ((HL.out.kept (K2.out.trans HI.out.2)).kept kk) ((HX.out.kept HI.out.2).kept kk) ((HJ2.out.kept HI.out.2).kept kk))
      rw [HMe.out] at HFi
      generalize hF : (R.take j).filter p = F at *
      clear hF HMe
      obtain ⟨c0, c1, c2, c3, c4⟩ := (HC.out.kept (K2.out.trans HI.out.2)).five
      have hzl := (HC.out.kept (K2.out.trans HI.out.2)).1
      generalize R[j] = x at *
      generalize hmm : p x = mm at *
      clear hmm
      go_wp2_with fail
      go_region_held3 (fun w' => w'.cell? ⟨z, 0, none⟩ = some (.slice A k.ws.length c) ∧ w'.cell? ⟨z, 1, none⟩ = some (.int .u64 k.seed) ∧ w'.cell? ⟨z, 2, none⟩ = some (.int .i64 k.ep) ∧ w'.cell? ⟨z, 3, none⟩ = some (.int .i64 k.nu) ∧ w'.cell? ⟨z, 4, none⟩ = some (.int .i64 k.de) ∧ w'.cell? ⟨zj, oj + j * 3, none⟩ = some (.int .i64 x.e) ∧ w'.cell? ⟨zj, oj + j * 3 + 1, none⟩ = some (.int .u64 x.r.1) ∧ w'.cell? ⟨zj, oj + j * 3 + 2, none⟩ = some (.int .u64 x.r.2) ∧ Kept wr w')
        (first | exact ⟨c0, c1, c2, c3, c4, e0, e1, e2, Kept.refl _⟩ | exact ⟨c0, c1, c2, c3, c4, e0, e1, e2, (Kept.refl _).drew⟩ | assumption | exact keepP8 hzl hzl hzl hzl hzl hbj hbj hbj (by assumption) (by assumption))
        (first
          | (go_at_call 32; ((first | (with_reducible refine (HFi.out _ (by assumption : _ ∧ _ ∧ _ ∧ _ ∧ _ ∧ _ ∧ _ ∧ _ ∧ Kept wr _).2.2.2.2.2.2.2.2).mono ?_)); rintro e w' ⟨rfl, kk⟩)))
      rename_i hh
      have k := hh.2.2.2.2.2.2.2.2
      clear hh
      generalize w' = V1 at *
      have HI1 := Lib.hid (HI.out.kept k)
      have f0 := (k.cell (p := ⟨zj, oj + j * 3, none⟩) hbj).trans e0
      have f1 := (k.cell (p := ⟨zj, oj + j * 3 + 1, none⟩) hbj).trans e1
      have f2 := (k.cell (p := ⟨zj, oj + j * 3 + 2, none⟩) hbj).trans e2
      clear k e0 e1 e2 c0 c1 c2 c3 c4 hzl HFi
      cases mm with
      | true =>
        have HT := Lib.hid (HT1.out (by first | rfl | trivial))
        have hll : F.length + 1 ≤ 1000000 := by have := HLe.out; omega
        clear HT1 HT0
        go_wp2_with (refine wpList_cks _ rfl 39 Tryz.underlying39 _ _ rfl W2 F _ rfl (HI1.out.alloc _) _ _ 1 1 [x] rfl rfl (cks_new _ rfl _) hll ?_; intro A' c' w' HI' _; rw [← HT.out] at HI' ⊢)
        go_roundw
        case rel => exact ⟨j + 1, by omega, by go_num, A', c', rfl, HI'⟩
        case measure => simp [intOf]; omega
      | false =>
        have HT := Lib.hid (HT0.out (by first | rfl | trivial))
        clear HT1 HT0
        go_wp2_with fail
        go_roundw
        case rel => exact ⟨j + 1, by omega, by go_num, B, cb, by rw [HT.out], by rw [HT.out]; exact HI1.out⟩
        case measure => simp [intOf]; omega
    · have hjl : j = R.length := by omega
      subst hjl
      have HT := Lib.hid (show R.take R.length = R from List.take_length)
      have HLf := Lib.hid (show (R.filter p).length ≤ v.length + 1 from Nat.le_trans (List.length_filter_le _ _) hRl)
      rw [HT.out] at HI ⊢
      go_wp2_with fail
      go_ret
      exact ⟨R.filter p, B, cb, HFin.out, HLf.out, rfl, HI.out.cells rfl, HI.out.cap, K0.out.trans (K2.out.trans HI.out.2)⟩

end Go.Proofs.YthgammhjoajhoaaGreat
