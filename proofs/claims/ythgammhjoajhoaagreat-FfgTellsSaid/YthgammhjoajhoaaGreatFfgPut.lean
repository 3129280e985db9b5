/-
  The contract of put of the given package marigoldref11: a checkpoint put into its place.
-/
import Derived.Test.YthgammhjoajhoaaGreatFfgStrong
namespace Go.Proofs.YthgammhjoajhoaaGreat
set_option maxRecDepth 100000
set_option linter.unusedVariables false
set_option linter.unusedSimpArgs false
set_option linter.unusedSimpArgs false
set_option linter.unusedVariables false
open Go.ChangeShapes Go.WideShapes Go.ChangeAt Go.RowKit

theorem Cks.cap {W w : World} {l : List Ck} {A : Option Addr} {n c : Nat} (h : Cks W l (.slice A n c) w) : n ≤ c := by
  rcases h.1.2 with ⟨hv, _⟩ | ⟨g, cap, cur, hv, _, _, hn, _⟩
  · injection hv with _ h1 h2; omega
  · injection hv with _ h1 h2; omega
theorem Lks.cap {W w : World} {l : List Lk} {A : Option Addr} {n c : Nat} (h : Lks W l (.slice A n c) w) : n ≤ c := by
  rcases h.1.2 with ⟨hv, _⟩ | ⟨g, cap, cur, hv, _, _, hn, _⟩
  · injection hv with _ h1 h2; omega
  · injection hv with _ h1 h2; omega
theorem upto_cks (A : Option Addr) (n c k : Nat) (hk : k ≤ c) (w : World) : (Instr.slice 39 (.slice A n c) none (some (.int .i64 (k : Int))) none).run Tryz.prog w = .ok (.slice A k c) w := by
  obtain ⟨i, hi, _⟩ := info_of Tryz.infoCk
  exact run_upto _ _ i Tryz.underlying39 hi A n c k hk w
theorem cells_cks_take {w : World} {B : Nat} {A : Option Addr} {l : List Ck} (h : CellsAt w B A (cksCells l)) (k : Nat) : CellsAt w B A (cksCells (l.take k)) := by
  have e : cksCells l = cksCells (l.take k) ++ cksCells (l.drop k) := by rw [cksCells_append, List.take_append_drop]
  rw [e] at h
  exact cells_prefix h
theorem from_cks {w : World} {B : Nat} {A : Option Addr} {l : List Ck} (h : CellsAt w B A (cksCells l)) (c k : Nat) (hk : k ≤ l.length) (hc : l.length ≤ c) :
    ∃ A', (∀ w', (Instr.slice 39 (.slice A l.length c) (some (.int .i64 (k : Int))) none none).run Tryz.prog w' = .ok (.slice A' (l.length - k) (c - k)) w') ∧ CellsAt w B A' (cksCells (l.drop k)) := by
  obtain ⟨i, hi, _, hs, _⟩ := info_of Tryz.infoCk
  refine ⟨_, fun w' => run_from _ _ i Tryz.underlying39 hi A l.length c k hk w', ?_⟩
  have e : cksCells l = cksCells (l.take k) ++ cksCells (l.drop k) := by rw [cksCells_append, List.take_append_drop]
  by_cases q : c = k
  · have : l.drop k = [] := List.drop_eq_nil_of_le (by omega)
    rw [this]
    exact CellsAt.nil
  · rw [if_neg q, hs]
    rw [e] at h
    have := cells_from h
    rw [cksCells_length, List.length_take, Nat.min_eq_left hk] at this
    exact this
def Putted (R : List Ck) (x : Ck) (w : World) (e : Ending) (w' : World) : Prop := ∃ S A' c', Put R x S ∧ e = .returned (.slice A' S.length c') ∧ Cks w S (.slice A' S.length c') w'
set_option maxRecDepth 100000 in
set_option maxHeartbeats 6400000 in
theorem refPutK_any (A : Option Addr) (c : Nat) (R : List Ck) (hl : R.length ≤ 100000) (hlc : R.length ≤ c) (hR : Rise R) (x : Ck) (hx : x ∉ R) (w : World) (hA : CellsAt w w.heap.size A (cksCells R)) :
    Calls Tryz.prog 27 #[.slice A R.length c, .agg #[.int .i64 x.e, .int .u64 x.r.1, .int .u64 x.r.2]] w (Putted R x w) := by
  have K0 := Lib.hid ((Kept.refl w).alloc (.cells #[.int .i64 x.e, .int .u64 x.r.1, .int .u64 x.r.2] 31))
  have HA := Lib.hid (hA.kept K0.out)
  have HC := Lib.hid (HasCells.new w #[.int .i64 x.e, .int .u64 x.r.1, .int .u64 x.r.2] 31 w.heap.size rfl)
  have HPc := Lib.hid (fun n hn h1 h2 => put_cut hR hx (n := n) hn h1 h2)
  clear hA hR hx
  go_enter Tryz.func27, Tryz.ntmps27
  go_wp2_with fail
  generalize w.alloc (.cells #[.int .i64 x.e, .int .u64 x.r.1, .int .u64 x.r.2] 31) = W at *
  generalize w.heap.size = z at *
  go_loopw [5] (fun i w' => ∃ n : Nat, n ≤ R.length ∧ i = .int .i64 n ∧ (∀ j (hj : j < R.length), n ≤ j → lessK x R[j] = true) ∧ Kept W w') (fun i _ => (intOf i).toNat)
  case atStart => exact ⟨R.length, by omega, rfl, fun j h1 h2 => by omega, Kept.refl _⟩
  case round =>
    obtain ⟨n, hn, rfl, hN, hK⟩ := hrel
    have HN := Lib.hid hN
    have HK := Lib.hid hK
    clear hN hK
    have HLt := Lib.hid (show (R.take n).length = n by rw [List.length_take]; omega)
    have HLd := Lib.hid (show (R.drop n).length = R.length - n from List.length_drop)
    have hup : ∀ w', (Instr.slice 39 (.slice A R.length c) none (some (.int .i64 (n : Int))) none).run Tryz.prog w' = .ok (.slice A n c) w' := fun w' => upto_cks A R.length c n (by omega) w'
    obtain ⟨A', hfr, hA'⟩ := from_cks HA.out c n hn hlc
    have HD := Lib.hid hA'
    have HTk := Lib.hid (cells_cks_take HA.out n)
    clear hA'
    by_cases h0 : n = 0
    · have HP := Lib.hid (HPc.out n hn HN.out (Or.inl h0))
      have hq : ¬ 0 < n := by omega
      have hq2 : decide (0 < n) = false := decide_eq_false hq
      have hq3 : decide ((0 : Int) < (n : Int)) = false := decide_eq_false (by omega)
      have HKV := Lib.hid HK.out
      clear h0
      have hl1 : ([] ++ R.take n).length = n := by rw [List.nil_append, HLt.out]
      have hl2 : ([] ++ R.take n ++ [x]).length = n + 1 := by rw [List.length_append, hl1]; rfl
      have hl3 : ([] ++ R.take n ++ [x] ++ R.drop n).length = R.length + 1 := by rw [List.length_append, hl2, HLd.out]; omega
      have hb1 : ([] : List Ck).length + n ≤ 1000000 := by simp <;> omega
      have hb2 : ([] ++ R.take n).length + 1 ≤ 1000000 := by rw [hl1]; omega
      have hb3 : ([] ++ R.take n ++ [x]).length + (R.length - n) ≤ 1000000 := by rw [hl2]; omega
      have HL1 := Lib.hid hl1
      have HL2 := Lib.hid hl2
      have HL3 := Lib.hid hl3
      clear hl1 hl2 hl3
      go_wp2_with (first | (refine wpList_cks _ rfl 39 Tryz.underlying39 _ _ rfl wr ([] ++ R.take n ++ [x]) _ rfl HV2 _ _ _ _ (R.drop n) rfl HLd.out (HD.out.kept (HKV.out.trans HV2.2)) hb3 ?_; intro A3 c3 w3 HV3 _; rw [HL3.out] at HV3 ⊢) | (refine wpList_cks _ rfl 39 Tryz.underlying39 _ _ rfl wr ([] ++ R.take n) _ rfl (HV1.alloc _) _ _ 1 1 [x] rfl rfl (cks_new _ rfl _) hb2 ?_; intro A2 c2 w2 HV2 _; rw [HL2.out] at HV2 ⊢) | (refine wpList_cks _ rfl 39 Tryz.underlying39 _ _ rfl wr [] _ rfl (Cks.nil wr) _ _ _ _ (R.take n) rfl HLt.out (HTk.out.kept HKV.out) hb1 ?_; intro A1 c1 w1 HV1 _; rw [HL1.out] at HV1 ⊢; obtain ⟨d0, d1, d2⟩ := (HC.out.kept (HKV.out.trans HV1.2)).three))
      go_ret
      exact ⟨[] ++ R.take n ++ [x] ++ R.drop n, A3, c3, by have h := HP.out; rw [show R.take n ++ x :: R.drop n = [] ++ R.take n ++ [x] ++ R.drop n from by simp] at h; exact h, by rw [HL3.out]; rfl, by rw [HL3.out]; exact HV3.mono (K0.out.trans HKV.out)⟩
    · obtain ⟨m, hm⟩ : ∃ m, n = m + 1 := ⟨n - 1, by omega⟩
      have hml : m < R.length := by omega
      obtain ⟨zz, oo, hAe, hb, e0, e1, e2⟩ := ck_at (HA.out.kept HK.out) hml
      have HLs := Lib.hid (fun w' (kk : Kept wr w') => refLessK_any x R[m] w')
      have HNx := Lib.hid (fun (hs : lessK x R[m] = true) => (show ∀ j (hj : j < R.length), m ≤ j → lessK x R[j] = true from fun j hj hmj => by
        by_cases e : j = m
        · subst e; exact hs
        · exact HN.out j hj (by omega)))
      have HPb := Lib.hid (fun (hs : lessK x R[m] = false) => HPc.out n hn HN.out (Or.inr ⟨by omega, by rw [show R[n - 1]'(by omega) = R[m] from by congr 1; omega]; exact hs⟩))
      obtain ⟨d0, d1, d2⟩ := (HC.out.kept HK.out).three
      have hzl := (HC.out.kept HK.out).1
      generalize R[m] = y at *
      generalize hmm : lessK x y = mm at *
      clear hmm
      have hw : IntKind.i64.wrap ((n : Int) - 1) = (m : Int) := by rw [IntKind.wrap_i64]; omega
      have hq : 0 < n := by omega
      have hq2 : decide (0 < n) = true := decide_eq_true hq
      have hq3 : decide ((0 : Int) < (n : Int)) = true := decide_eq_true (by omega)
      have HM := Lib.hid hm
      clear hm h0
      subst hAe
      go_wp2_with fail
      refine wp_region_noPanic ?_
      refine wp_region_held_drew (S := (fun w' => w'.cell? ⟨z, 0, none⟩ = some (.int .i64 x.e) ∧ w'.cell? ⟨z, 1, none⟩ = some (.int .u64 x.r.1) ∧ w'.cell? ⟨z, 2, none⟩ = some (.int .u64 x.r.2) ∧ w'.cell? ⟨zz, oo + m * 3, none⟩ = some (.int .i64 y.e) ∧ w'.cell? ⟨zz, oo + m * 3 + 1, none⟩ = some (.int .u64 y.r.1) ∧ w'.cell? ⟨zz, oo + m * 3 + 2, none⟩ = some (.int .u64 y.r.2) ∧ Kept wr w')) (by kernel_rfl) ?_ (fun hHeld => ?_)
      · exact ⟨d0, d1, d2, e0, e1, e2, (Kept.refl _).drew⟩
      refine wpAnyH_take (i := 0) (v := ?_) (by simp only [List.getElem?_toArray, List.getElem?_cons_succ, List.getElem?_cons_zero]; rfl) (by kernel_rfl) (by kernel_rfl) (by kernel_rfl) (fun _ _ _ h => h) (Or.inl ⟨by rfl, ?_⟩) (by assumption) ?_
      rotate_left
      · intro w hSw
        (try dsimp only at hSw)
        go_simp
        (try with_reducible rfl)
      simp only [Act.put, List.setIfInBounds_toArray, List.set_cons_zero, List.set_cons_succ]
      refine wpAnyH_take (i := 1) (v := ?_) (by simp only [List.getElem?_toArray, List.getElem?_cons_succ, List.getElem?_cons_zero]; rfl) (by kernel_rfl) (by kernel_rfl) (by kernel_rfl) (fun _ _ _ h => h) (Or.inl ⟨by rfl, ?_⟩) (by assumption) ?_
      rotate_left
      · intro w hSw
        (try dsimp only at hSw)
        go_simp
        (try with_reducible rfl)
      simp only [Act.put, List.setIfInBounds_toArray, List.set_cons_zero, List.set_cons_succ]
      refine wpAnyH_take (i := 2) (v := ?_) (by simp only [List.getElem?_toArray, List.getElem?_cons_succ, List.getElem?_cons_zero]; rfl) (by kernel_rfl) (by kernel_rfl) (by kernel_rfl) (fun _ _ _ h => h) (Or.inl ⟨by rfl, ?_⟩) (by assumption) ?_
      rotate_left
      · intro w hSw
        (try dsimp only at hSw)
        go_simp
        (try with_reducible rfl)
      simp only [Act.put, List.setIfInBounds_toArray, List.set_cons_zero, List.set_cons_succ]
      refine wpAnyH_take (i := 3) (v := ?_) (by simp only [List.getElem?_toArray, List.getElem?_cons_succ, List.getElem?_cons_zero]; rfl) (by kernel_rfl) (by kernel_rfl) (by kernel_rfl) (fun _ _ _ h => h) (Or.inl ⟨by rfl, ?_⟩) (by assumption) ?_
      rotate_left
      · intro w hSw
        (try dsimp only at hSw)
        go_simp
        (try with_reducible rfl)
      simp only [Act.put, List.setIfInBounds_toArray, List.set_cons_zero, List.set_cons_succ]
      try simp only [hw]
      refine wpAnyH_take (i := 4) (v := ?_) (by simp only [List.getElem?_toArray, List.getElem?_cons_succ, List.getElem?_cons_zero]; rfl) (by kernel_rfl) (by kernel_rfl) (by kernel_rfl) (fun _ _ _ h => h) (Or.inl ⟨by rfl, ?_⟩) (by assumption) ?_
      rotate_left
      · intro w hSw
        (try dsimp only at hSw)
        go_simp
        (try with_reducible rfl)
      simp only [Act.put, List.setIfInBounds_toArray, List.set_cons_zero, List.set_cons_succ]
      refine wpAnyH_take (i := 5) (v := ?_) (by simp only [List.getElem?_toArray, List.getElem?_cons_succ, List.getElem?_cons_zero]; rfl) (by kernel_rfl) (by kernel_rfl) (by kernel_rfl) (fun _ _ _ h => h) (Or.inl ⟨by rfl, ?_⟩) (by assumption) ?_
      rotate_left
      · intro w hSw
        (try dsimp only at hSw)
        go_simp
        (try with_reducible rfl)
      simp only [Act.put, List.setIfInBounds_toArray, List.set_cons_zero, List.set_cons_succ]
      refine wpAnyH_ready (rs := [6]) (by kernel_rfl) (by simp) ?_
      refine AllReadyH.cons (by simp only [List.getElem?_toArray, List.getElem?_cons_succ, List.getElem?_cons_zero]; rfl) (fun K hK => ?_) AllReadyH.nil
      go_simp
      go_at_call 51; with_reducible refine (HLs.out _ hHeld.2.2.2.2.2.2).mono ?_
      rintro e w' ⟨rfl, kk⟩
      try go_wp2_with fail
      refine hK.out _ _ ?_ (fun hHeld2 => ?_)
      · exact keepP6 hzl hzl hzl hb hb hb hHeld kk
      clear hK K hHeld
      have hHeld := hHeld2
      clear hHeld2
      try simp only [Act.put, List.setIfInBounds_toArray, List.set_cons_zero, List.set_cons_succ]
      refine wpAnyH_take (i := 7) (v := ?_) (by simp only [List.getElem?_toArray, List.getElem?_cons_succ, List.getElem?_cons_zero]; rfl) (by kernel_rfl) (by kernel_rfl) (by kernel_rfl) (fun _ _ _ h => h) (Or.inl ⟨by rfl, ?_⟩) (by assumption) ?_
      rotate_left
      · intro w hSw
        (try dsimp only at hSw)
        go_simp
        (try with_reducible rfl)
      simp only [Act.put, List.setIfInBounds_toArray, List.set_cons_zero, List.set_cons_succ]
      refine wpAnyH_done (by kernel_rfl) ?_ _
      refine NoPanic.normal ?_
      have k := hHeld.2.2.2.2.2.2
      clear hHeld
      generalize w' = V1 at *
      have HKV := Lib.hid (HK.out.trans k)
      clear k e0 e1 e2 d0 d1 d2 hzl HLs
      cases mm with
      | true =>
        have HX := Lib.hid (HNx.out (by first | rfl | trivial))
        clear HNx HPb HPc HN
        go_wp2_with fail
        go_roundw
        case rel => exact ⟨m, by have := HM.out; omega, by first | rw [hw] | go_num, HX.out, HKV.out⟩
        case measure => have := HM.out; first | (simp [intOf, hw]; omega) | (simp only [hw]; simp [intOf]; omega) | (simp [intOf]; omega)
      | false =>
        have HP := Lib.hid (HPb.out (by first | rfl | trivial))
        clear HNx HPb HPc HN
        have hl1 : ([] ++ R.take n).length = n := by rw [List.nil_append, HLt.out]
        have hl2 : ([] ++ R.take n ++ [x]).length = n + 1 := by rw [List.length_append, hl1]; rfl
        have hl3 : ([] ++ R.take n ++ [x] ++ R.drop n).length = R.length + 1 := by rw [List.length_append, hl2, HLd.out]; omega
        have hb1 : ([] : List Ck).length + n ≤ 1000000 := by simp <;> omega
        have hb2 : ([] ++ R.take n).length + 1 ≤ 1000000 := by rw [hl1]; omega
        have hb3 : ([] ++ R.take n ++ [x]).length + (R.length - n) ≤ 1000000 := by rw [hl2]; omega
        have HL1 := Lib.hid hl1
        have HL2 := Lib.hid hl2
        have HL3 := Lib.hid hl3
        clear hl1 hl2 hl3
        go_wp2_with (first | (refine wpList_cks _ rfl 39 Tryz.underlying39 _ _ rfl V1 ([] ++ R.take n ++ [x]) _ rfl HV2 _ _ _ _ (R.drop n) rfl HLd.out (HD.out.kept (HKV.out.trans HV2.2)) hb3 ?_; intro A3 c3 w3 HV3 _; rw [HL3.out] at HV3 ⊢) | (refine wpList_cks _ rfl 39 Tryz.underlying39 _ _ rfl V1 ([] ++ R.take n) _ rfl (HV1.alloc _) _ _ 1 1 [x] rfl rfl (cks_new _ rfl _) hb2 ?_; intro A2 c2 w2 HV2 _; rw [HL2.out] at HV2 ⊢) | (refine wpList_cks _ rfl 39 Tryz.underlying39 _ _ rfl V1 [] _ rfl (Cks.nil V1) _ _ _ _ (R.take n) rfl HLt.out (HTk.out.kept HKV.out) hb1 ?_; intro A1 c1 w1 HV1 _; rw [HL1.out] at HV1 ⊢; obtain ⟨d0, d1, d2⟩ := (HC.out.kept (HKV.out.trans HV1.2)).three))
        go_ret
        exact ⟨[] ++ R.take n ++ [x] ++ R.drop n, A3, c3, by have h := HP.out; rw [show R.take n ++ x :: R.drop n = [] ++ R.take n ++ [x] ++ R.drop n from by simp] at h; exact h, by rw [HL3.out]; rfl, by rw [HL3.out]; exact HV3.mono (K0.out.trans HKV.out)⟩

end Go.Proofs.YthgammhjoajhoaaGreat
