/-
  For every conf and every number marigoldlaw05.DutyOnce returns true and leaves its arguments as they were: no further condition.
-/
import Derived.Test.YtdidmgmfjfnliaaDutyEpoch
namespace Go.Proofs.Ytdidmgmfjfnliaa.dutyOnce
open Go.ChangeShapes Go.WideShapes Go.ChangeAt Go.RowKit
set_option linter.unusedVariables false

set_option maxRecDepth 100000 in
set_option maxHeartbeats 6400000 in
theorem once_main (w : World) (kA : Option Addr) (kc : Nat) (k : Cf) (khm : k.ws.length ≤ maxLen) (khs : k.seed < 18446744073709551616) (khl : CellsAt w w.heap.size kA (intCells k.ws)) (epoch : Int)
    (hn : ¬ k.ws.length > 40) (hm : mayC k = true) (he1 : ¬ epoch < 1) (he2 : ¬ epoch > 100000) :
    Calls Try.prog 4 #[.agg #[.slice kA k.ws.length kc, .int .u64 k.seed, .int .i64 k.ep, .int .i64 k.nu, .int .i64 k.de], .int .i64 epoch] w fun e w' => e = .returned (.bool true) ∧ Kept w w' := by
  have HM := Lib.hid hm
  obtain ⟨E, hE⟩ : ∃ E : Nat, k.ep = (E : Int) := ⟨k.ep.toNat, by have := (mayC_yes hm).2.2.2.1; omega⟩
  obtain ⟨e, he⟩ : ∃ e : Nat, epoch = (e : Int) := ⟨epoch.toNat, by omega⟩
  have hE1 : 1 ≤ E := by have := (mayC_yes hm).2.2.2.1; omega
  have hE8 : E ≤ 8 := by have := (mayC_yes hm).2.2.2.2.1; omega
  have hn12 := (mayC_yes hm).2.1
  have HF := Lib.hid (mayC_yes hm).2.2.1
  have hP : e * E ≤ 800000 := Nat.le_trans (Nat.mul_le_mul (show e ≤ 100000 by omega) hE8) (by decide)
  have hP1 : 1 ≤ e * E := Nat.mul_le_mul (show 1 ≤ e by omega) hE1
  have hmul : epoch * k.ep = ((e * E : Nat) : Int) := by rw [he, hE, Int.natCast_mul]
  have hadd : ((e * E : Nat) : Int) + k.ep = ((e * E + E : Nat) : Int) := by rw [hE]; omega
  have HDu := Lib.hid (fun r (hr : r < E) => show dutyC k ((e * E + r : Nat) : Int) = true by rw [dutyC_slot hm]; exact decide_eq_true (by omega))
  have HMe := Lib.hid (fun r (hr : r < E) => show memC k ((e * E + r : Nat) : Int) = fun j => decide (gAt k.seed k.ws.length E e j = r) from by
    funext j
    unfold memC
    rw [show k.ep.toNat = E by omega, Int.toNat_natCast, mem_slot hr])
  have HCo := Lib.hid (fun r (hr : r < E) => show commC k ((e * E + r : Nat) : Int) = commTo (fun j => decide (gAt k.seed k.ws.length E e j = r)) k.ws.length by rw [commC_yes (HDu.out r hr), HMe.out r hr])
  have HIn := Lib.hid (fun r (hr : r < E) (y : Nat) (hy : y < k.ws.length) (hg : gAt k.seed k.ws.length E e y = r) => show inC k ((e * E + r : Nat) : Int) (y : Int) = true by
    rw [inC_yes (HDu.out r hr) (decide_eq_true (by omega)), HMe.out r hr, Int.toNat_natCast]
    exact decide_eq_true hg)
  have HWt := Lib.hid (fun r => weight_comm hm (fun j => decide (gAt k.seed k.ws.length E e j = r)))
  have hgE : ∀ j, gAt k.seed k.ws.length E e j < E := fun j => Nat.mod_lt _ (by omega)
  have HTo := Lib.hid (show totalC k = weighTo (fun j => decide (gAt k.seed k.ws.length E e j < E)) k.ws k.ws.length by
    rw [totalC_yes hm]
    exact weighTo_congr fun j _ => (decide_eq_true (hgE j)).symm)
  have HG := Lib.hid hgE
  generalize gAt k.seed k.ws.length E e = g at *
  generalize e * E = P at *
  have HE := Lib.hid hE
  have HP := Lib.hid hP
  have HP1 := Lib.hid hP1
  have hep1 : 1 ≤ k.ep := by omega
  have hep8 : k.ep ≤ 8 := by omega
  have hmk := makeNums k.ws.length (by omega)
  clear HMe hm hE he hP1 hgE
  obtain ⟨hC, hA, hK⟩ := conf_box (c := kc) khl
  have HC0 := Lib.hid hC
  have HA0 := Lib.hid hA
  have HK0 := Lib.hid hK
  clear hC hA hK khl
  go_enter Try.func4, Try.ntmps4
  go_wp2_with fail
  generalize w.alloc (.cells #[.slice kA k.ws.length kc, .int .u64 k.seed, .int .i64 k.ep, .int .i64 k.nu, .int .i64 k.de] 25) = W0 at *
  generalize w.heap.size = z at *
  refine (dutyAwake _).mono ?_
  rintro e W1 ⟨rfl, k1⟩
  have HC1 := Lib.hid (HC0.out.kept k1)
  have HA1 := Lib.hid (HA0.out.kept k1)
  have HK1 := Lib.hid (HK0.out.trans k1)
  clear k1 HC0 HA0 HK0
  obtain ⟨c0, c1, c2, c3, c4⟩ := HC1.out.five
  have hz := HC1.out.1
  go_wp2_with fail
  clear c0 c1 c2 c3 c4 hz
  refine (may_any kA kc k _ HA1.out).mono ?_
  rintro e W2 ⟨rfl, k1⟩
  rw [HM.out]
  have HC2 := Lib.hid (HC1.out.kept k1)
  have HA2 := Lib.hid (HA1.out.kept k1)
  have HK2 := Lib.hid (HK1.out.trans k1)
  clear k1 HC1 HA1 HK1
  obtain ⟨c0, c1, c2, c3, c4⟩ := HC2.out.five
  have hz := HC2.out.1
  go_wp2_with fail
  clear c0 c1 c2 c3 c4 hz
  have HT0 := Lib.hid ((World.rowIs_made W2 (.int .i64 0) k.ws.length 3).congr (g := timesV g 0 []) (fun i _ => (times_zero g i).symm))
  have HK3 := Lib.hid (show Kept W2 (W2.alloc (.cells (madeCells #[.int .i64 0] k.ws.length) 3)) from (Kept.refl W2).alloc _)
  generalize W2.alloc (.cells (madeCells #[.int .i64 0] k.ws.length) 3) = W3 at *
  have HTz := Lib.hid (Nat.le_refl W2.heap.size)
  generalize hZ : W2.heap.size = tz at HT0 HTz ⊢
  clear hmk
  go_loopw [6, 8] (fun a s w' => ∃ r : Nat, r ≤ E ∧ a = .int .i64 (weighTo (fun j => decide (g j < r)) k.ws k.ws.length) ∧ s = .int .i64 ((P + r : Nat) : Int) ∧ w'.rowIs tz 3 k.ws.length (timesV g r []) ∧ Kept W2 w') (fun _ s _ => P + E - (intOf s).toNat)
  case atStart => exact ⟨0, by omega, by rw [weighTo_none fun j _ => by simp], rfl, HT0.out, HK3.out⟩
  case round =>
    obtain ⟨r, hr, rfl, rfl, hRow, hKr⟩ := hrel
    have HRow := Lib.hid hRow
    have HKr := Lib.hid hKr
    clear hRow hKr HT0 HK3
    obtain ⟨c0, c1, c2, c3, c4⟩ := (HC2.out.kept HKr.out).five
    have hb0 := weighTo_bounds (p := fun j => decide (g j < r)) HF.out k.ws.length
    by_cases hlt : r < E
    · have HNx := Lib.hid (weigh_next g k.ws r k.ws.length)
      have HWr := Lib.hid (HWt.out r)
      have hb1 := weighTo_bounds (p := fun j => decide (g j = r)) HF.out k.ws.length
      have HCM := Lib.hid (comm_new kA kc k ((P + r : Nat) : Int) wr (HA2.out.kept HKr.out) khs)
      rw [HCo.out r hlt] at HCM
      have HLn := Lib.hid (commTo_length (fun j => decide (g j = r)) k.ws.length)
      have HLa := Lib.hid (fun i (hi : i < (commTo (fun j => decide (g j = r)) k.ws.length).length) => comm_at hi)
      have HEn := Lib.hid (times_end g r k.ws.length)
      have HIr := Lib.hid (HIn.out r hlt)
      have HSu := Lib.hid (show P + (r + 1) = P + r + 1 by omega)
      have HRe := Lib.hid (show P + E - (P + r + 1) < P + E - (P + r) by omega)
      have hcond : ((P + r : Nat) : Int) < ((P + E : Nat) : Int) := by omega
      have hsb : P + r ≤ 800008 := by have := HP.out; omega
      generalize commTo (fun j => decide (g j = r)) k.ws.length = l at *
      generalize weighTo (fun j => decide (g j < r)) k.ws k.ws.length = a0 at *
      generalize weighTo (fun j => decide (g j = r)) k.ws k.ws.length = a1 at *
      generalize P + r = sN at *
      generalize P + E = eN at *
      go_wp2_with fail
      refine HCM.out.mono ?_
      rintro e W4 ⟨A', c', rfl, hcl, hfr, k4⟩
      have HK4 := Lib.hid (HKr.out.trans k4)
      have HR4 := Lib.hid (rowIs_kept' HRow.out k4)
      have HCl := Lib.hid hcl
      have HFr := Lib.hid (show ∀ ad, A' = some ad → ¬ ad.block = tz from fun ad hA => by have := hfr ad hA; have := HRow.out.lt; omega)
      clear c0 c1 c2 c3 c4 hcl hfr k4 HCM
      obtain ⟨c0, c1, c2, c3, c4⟩ := (HC2.out.kept HK4.out).five
      go_wp2_with fail
      refine (weight_any kA kc k A' l c' _ (HA2.out.kept HK4.out) (by have := HLn.out; omega) HCl.out).mono ?_
      rintro e W5 ⟨rfl, k5⟩
      rw [HWr.out]
      have HK5 := Lib.hid (HK4.out.trans k5)
      have HR5 := Lib.hid (rowIs_kept' HR4.out k5)
      have HC5 := Lib.hid (HCl.out.kept k5)
      clear c0 c1 c2 c3 c4 k5 HK4 HR4 HCl
      obtain ⟨c0, c1, c2, c3, c4⟩ := (HC2.out.kept HK5.out).five
      go_wp2_with fail
      clear c0 c1 c2 c3 c4
      go_loopw [10] (fun i w' => ∃ m : Nat, m ≤ l.length ∧ i = .int .i64 (m : Nat) ∧ w'.rowIs tz 3 k.ws.length (timesV g r (l.take m)) ∧ But tz W5 w') (fun i _ => l.length - (intOf i).toNat)
      case atStart => exact ⟨0, by omega, rfl, HR5.out, But.refl _ _⟩
      case round =>
        obtain ⟨m, hm, rfl, hRo, hBu⟩ := hrel
        have HRo := Lib.hid hRo
        have HBu := Lib.hid hBu
        have HKw := Lib.hid (hBu.kept HK5.out (by rw [hZ]; exact Nat.le_refl _))
        clear hRo hBu
        obtain ⟨c0, c1, c2, c3, c4⟩ := (HC2.out.kept HKw.out).five
        have hzw := (HC2.out.kept HKw.out).1
        by_cases hlm : m < l.length
        · have hll : l.length ≤ 12 := by have := HLn.out; omega
          obtain ⟨y, hy, hyn, hpy, hnt, hls⟩ := HLa.out m hlm
          obtain ⟨ad, rfl, hb, hcell⟩ := ints_cell HC5.out hlm
          have hbt := HFr.out ad rfl
          have hpb : ∀ j, (ad.add j).block < wr.heap.size := fun j => by rw [block_add]; exact Nat.lt_of_lt_of_le hb HBu.out.size
          have hcx : wr.cell? (ad.add m) = some (.int .i64 (wAt l m)) := (HBu.out.cell (by rw [block_add]; exact hb) (by rw [block_add]; exact hbt)).trans hcell
          have hct : wr.cell? ⟨tz, y, none⟩ = some (.int .i64 0) := by rw [HRo.out.cell hyn, times_old (of_decide_eq_true hpy) hnt]
          have hfz : wr.frozen? ⟨tz, y, none⟩ = false := HRo.out.frozen y
          have HTk := Lib.hid (show l.take (m + 1) = l.take m ++ [(y : Int)] by rw [take_snoc hlm, hy])
          have HInM := Lib.hid (fun w' (hk : Kept wr w') => in_any kA kc k (sN : Int) (y : Int) w' (HA2.out.kept (HKw.out.trans hk)) khs)
          rw [HIr.out y hyn (of_decide_eq_true hpy)] at HInM
          have HLs := Lib.hid hls
          have HPb := Lib.hid hpb
          have HY := Lib.hid hy
          rw [hy] at hcx
          obtain ⟨X, hX⟩ : ∃ X : Int, (y : Int) = X := ⟨_, rfl⟩
          have hX0 : 0 ≤ X := by omega
          have hX1 : X < (k.ws.length : Int) := by omega
          have HyX := Lib.hid (show y = X.toNat by omega)
          have HXy := Lib.hid hX
          rw [hX] at hcx HInM
          rw [HyX.out] at hct hfz
          obtain ⟨I, hI⟩ : ∃ I : Int, (m : Int) = I := ⟨_, rfl⟩
          have hI0 : 0 ≤ I := by omega
          have hI1 : I < (l.length : Int) := by omega
          have HmI := Lib.hid (show m = I.toNat by omega)
          have HIm := Lib.hid hI
          rw [HmI.out] at hcx
          rw [hI]
          by_cases hm0 : m = 0
          · have HI0 := Lib.hid (show I = 0 by omega)
            clear hm hls hpb hy hX hI hlm hnt hpy hcell hb hbt hm0 hyn
            go_wp2_with fail
            have hXa : decide (X < 0) = false := decide_eq_false (by omega)
            have hXb : decide (X ≥ (k.ws.length : Int)) = false := decide_eq_false (by omega)
            have hXc : decide ((k.ws.length : Int) ≤ X) = false := decide_eq_false (by omega)
            have hIa : decide (I > 0) = false := decide_eq_false (by have := HI0.out; omega)
            have hIb : decide (0 < I) = false := decide_eq_false (by have := HI0.out; omega)
            refine wp_region_noPanic ?_
            refine wp_region_held_drew (S := (fun w' => w'.cell? (ad.add I.toNat) = some (.int .i64 X) ∧ w'.cell? ⟨z, 0, none⟩ = some (.slice kA k.ws.length kc) ∧ w'.cell? ⟨z, 1, none⟩ = some (.int .u64 k.seed) ∧ w'.cell? ⟨z, 2, none⟩ = some (.int .i64 k.ep) ∧ w'.cell? ⟨z, 3, none⟩ = some (.int .i64 k.nu) ∧ w'.cell? ⟨z, 4, none⟩ = some (.int .i64 k.de) ∧ Kept wr w')) (by kernel_rfl) ?_ (fun hHeld => ?_)
            · exact ⟨hcx, c0, c1, c2, c3, c4, (Kept.refl _).drew⟩
            refine wpAnyH_take (i := 0) (v := ?_) (by simp only [List.getElem?_toArray, List.getElem?_cons_succ, List.getElem?_cons_zero]; rfl) (by kernel_rfl) (by kernel_rfl) (by kernel_rfl) (fun _ _ _ h => h) (Or.inl ⟨by rfl, ?_⟩) (by assumption) ?_
            rotate_left
            · intro w hSw
              (try dsimp only at hSw)
              go_simp
              (try with_reducible rfl)
            simp only [Act.put, List.setIfInBounds_toArray, List.set_cons_zero, List.set_cons_succ]
            refine wpAnyH_take (i := 1) (v := ?_) (by simp only [List.getElem?_toArray, List.getElem?_cons_succ, List.getElem?_cons_zero]; rfl) (by kernel_rfl) (by kernel_rfl) (by kernel_rfl) (fun _ _ _ h => h) (Or.inl ⟨by rfl, ?_⟩) (by assumption) ?_
            rotate_left
            · intro w hSw
              (try dsimp only at hSw)
              go_simp
              (try with_reducible rfl)
            simp only [Act.put, List.setIfInBounds_toArray, List.set_cons_zero, List.set_cons_succ]
            refine wpAnyH_take (i := 2) (v := ?_) (by simp only [List.getElem?_toArray, List.getElem?_cons_succ, List.getElem?_cons_zero]; rfl) (by kernel_rfl) (by kernel_rfl) (by kernel_rfl) (fun _ _ _ h => h) (Or.inl ⟨by rfl, ?_⟩) (by assumption) ?_
            rotate_left
            · intro w hSw
              (try dsimp only at hSw)
              go_simp
              (try with_reducible rfl)
            simp only [Act.put, List.setIfInBounds_toArray, List.set_cons_zero, List.set_cons_succ]
            refine wpAnyH_take (i := 3) (v := ?_) (by simp only [List.getElem?_toArray, List.getElem?_cons_succ, List.getElem?_cons_zero]; rfl) (by kernel_rfl) (by kernel_rfl) (by kernel_rfl) (fun _ _ _ h => h) (Or.inl ⟨by rfl, ?_⟩) (by assumption) ?_
            rotate_left
            · intro w hSw
              (try dsimp only at hSw)
              go_simp
              (try with_reducible rfl)
            simp only [Act.put, List.setIfInBounds_toArray, List.set_cons_zero, List.set_cons_succ]
            refine wpAnyH_take (i := 4) (v := ?_) (by simp only [List.getElem?_toArray, List.getElem?_cons_succ, List.getElem?_cons_zero]; rfl) (by kernel_rfl) (by kernel_rfl) (by kernel_rfl) (fun _ _ _ h => h) (Or.inl ⟨by rfl, ?_⟩) (by assumption) ?_
            rotate_left
            · intro w hSw
              (try dsimp only at hSw)
              go_simp
              (try with_reducible rfl)
            simp only [Act.put, List.setIfInBounds_toArray, List.set_cons_zero, List.set_cons_succ]
            try simp only [hXa]
            refine wpAnyH_take (i := 5) (v := ?_) (by simp only [List.getElem?_toArray, List.getElem?_cons_succ, List.getElem?_cons_zero]; rfl) (by kernel_rfl) (by kernel_rfl) (by kernel_rfl) (fun _ _ _ h => h) (Or.inl ⟨by rfl, ?_⟩) (by assumption) ?_
            rotate_left
            · intro w hSw
              (try dsimp only at hSw)
              go_simp
              (try with_reducible rfl)
            simp only [Act.put, List.setIfInBounds_toArray, List.set_cons_zero, List.set_cons_succ]
            refine wpAnyH_take (i := 6) (v := ?_) (by simp only [List.getElem?_toArray, List.getElem?_cons_succ, List.getElem?_cons_zero]; rfl) (by kernel_rfl) (by kernel_rfl) (by kernel_rfl) (fun _ _ _ h => h) (Or.inl ⟨by rfl, ?_⟩) (by assumption) ?_
            rotate_left
            · intro w hSw
              (try dsimp only at hSw)
              go_simp
              (try with_reducible rfl)
            simp only [Act.put, List.setIfInBounds_toArray, List.set_cons_zero, List.set_cons_succ]
            refine wpAnyH_take (i := 7) (v := ?_) (by simp only [List.getElem?_toArray, List.getElem?_cons_succ, List.getElem?_cons_zero]; rfl) (by kernel_rfl) (by kernel_rfl) (by kernel_rfl) (fun _ _ _ h => h) (Or.inl ⟨by rfl, ?_⟩) (by assumption) ?_
            rotate_left
            · intro w hSw
              (try dsimp only at hSw)
              go_simp
              (try with_reducible rfl)
            simp only [Act.put, List.setIfInBounds_toArray, List.set_cons_zero, List.set_cons_succ]
            refine wpAnyH_take (i := 8) (v := ?_) (by simp only [List.getElem?_toArray, List.getElem?_cons_succ, List.getElem?_cons_zero]; rfl) (by kernel_rfl) (by kernel_rfl) (by kernel_rfl) (fun _ _ _ h => h) (Or.inl ⟨by rfl, ?_⟩) (by assumption) ?_
            rotate_left
            · intro w hSw
              (try dsimp only at hSw)
              go_simp
              (try with_reducible rfl)
            simp only [Act.put, List.setIfInBounds_toArray, List.set_cons_zero, List.set_cons_succ]
            refine wpAnyH_take (i := 9) (v := ?_) (by simp only [List.getElem?_toArray, List.getElem?_cons_succ, List.getElem?_cons_zero]; rfl) (by kernel_rfl) (by kernel_rfl) (by kernel_rfl) (fun _ _ _ h => h) (Or.inl ⟨by rfl, ?_⟩) (by assumption) ?_
            rotate_left
            · intro w hSw
              (try dsimp only at hSw)
              go_simp
              (try with_reducible rfl)
            simp only [Act.put, List.setIfInBounds_toArray, List.set_cons_zero, List.set_cons_succ]
            refine wpAnyH_take (i := 10) (v := ?_) (by simp only [List.getElem?_toArray, List.getElem?_cons_succ, List.getElem?_cons_zero]; rfl) (by kernel_rfl) (by kernel_rfl) (by kernel_rfl) (fun _ _ _ h => h) (Or.inl ⟨by rfl, ?_⟩) (by assumption) ?_
            rotate_left
            · intro w hSw
              (try dsimp only at hSw)
              go_simp
              (try with_reducible rfl)
            simp only [Act.put, List.setIfInBounds_toArray, List.set_cons_zero, List.set_cons_succ]
            refine wpAnyH_take (i := 11) (v := ?_) (by simp only [List.getElem?_toArray, List.getElem?_cons_succ, List.getElem?_cons_zero]; rfl) (by kernel_rfl) (by kernel_rfl) (by kernel_rfl) (fun _ _ _ h => h) (Or.inl ⟨by rfl, ?_⟩) (by assumption) ?_
            rotate_left
            · intro w hSw
              (try dsimp only at hSw)
              go_simp
              (try with_reducible rfl)
            simp only [Act.put, List.setIfInBounds_toArray, List.set_cons_zero, List.set_cons_succ]
            refine wpAnyH_take (i := 12) (v := ?_) (by simp only [List.getElem?_toArray, List.getElem?_cons_succ, List.getElem?_cons_zero]; rfl) (by kernel_rfl) (by kernel_rfl) (by kernel_rfl) (fun _ _ _ h => h) (Or.inl ⟨by rfl, ?_⟩) (by assumption) ?_
            rotate_left
            · intro w hSw
              (try dsimp only at hSw)
              go_simp
              (try with_reducible rfl)
            simp only [Act.put, List.setIfInBounds_toArray, List.set_cons_zero, List.set_cons_succ]
            refine wpAnyH_take (i := 13) (v := ?_) (by simp only [List.getElem?_toArray, List.getElem?_cons_succ, List.getElem?_cons_zero]; rfl) (by kernel_rfl) (by kernel_rfl) (by kernel_rfl) (fun _ _ _ h => h) (Or.inl ⟨by rfl, ?_⟩) (by assumption) ?_
            rotate_left
            · intro w hSw
              (try dsimp only at hSw)
              go_simp
              (try with_reducible rfl)
            simp only [Act.put, List.setIfInBounds_toArray, List.set_cons_zero, List.set_cons_succ]
            try simp only [hXb, hXc]
            refine wpAnyH_take (i := 14) (v := ?_) (by simp only [List.getElem?_toArray, List.getElem?_cons_succ, List.getElem?_cons_zero]; rfl) (by kernel_rfl) (by kernel_rfl) (by kernel_rfl) (fun _ _ _ h => h) (Or.inl ⟨by rfl, ?_⟩) (by assumption) ?_
            rotate_left
            · intro w hSw
              (try dsimp only at hSw)
              go_simp
              (try with_reducible rfl)
            simp only [Act.put, List.setIfInBounds_toArray, List.set_cons_zero, List.set_cons_succ]
            refine wpAnyH_take (i := 15) (v := ?_) (by simp only [List.getElem?_toArray, List.getElem?_cons_succ, List.getElem?_cons_zero]; rfl) (by kernel_rfl) (by kernel_rfl) (by kernel_rfl) (fun _ _ _ h => h) (Or.inl ⟨by rfl, ?_⟩) (by assumption) ?_
            rotate_left
            · intro w hSw
              (try dsimp only at hSw)
              go_simp
              (try with_reducible rfl)
            simp only [Act.put, List.setIfInBounds_toArray, List.set_cons_zero, List.set_cons_succ]
            refine wpAnyH_take (i := 16) (v := ?_) (by simp only [List.getElem?_toArray, List.getElem?_cons_succ, List.getElem?_cons_zero]; rfl) (by kernel_rfl) (by kernel_rfl) (by kernel_rfl) (fun _ _ _ h => h) (Or.inl ⟨by rfl, ?_⟩) (by assumption) ?_
            rotate_left
            · intro w hSw
              (try dsimp only at hSw)
              go_simp
              (try with_reducible rfl)
            simp only [Act.put, List.setIfInBounds_toArray, List.set_cons_zero, List.set_cons_succ]
            refine wpAnyH_take (i := 17) (v := ?_) (by simp only [List.getElem?_toArray, List.getElem?_cons_succ, List.getElem?_cons_zero]; rfl) (by kernel_rfl) (by kernel_rfl) (by kernel_rfl) (fun _ _ _ h => h) (Or.inl ⟨by rfl, ?_⟩) (by assumption) ?_
            rotate_left
            · intro w hSw
              (try dsimp only at hSw)
              go_simp
              (try with_reducible rfl)
            simp only [Act.put, List.setIfInBounds_toArray, List.set_cons_zero, List.set_cons_succ]
            try simp only [hIa, hIb]
            refine wpAnyH_take (i := 18) (v := ?_) (by simp only [List.getElem?_toArray, List.getElem?_cons_succ, List.getElem?_cons_zero]; rfl) (by kernel_rfl) (by kernel_rfl) (by kernel_rfl) (fun _ _ _ h => h) (Or.inl ⟨by rfl, ?_⟩) (by assumption) ?_
            rotate_left
            · intro w hSw
              (try dsimp only at hSw)
              go_simp
              (try with_reducible rfl)
            simp only [Act.put, List.setIfInBounds_toArray, List.set_cons_zero, List.set_cons_succ]
            refine wpAnyH_take (i := 19) (v := undef) (by simp only [List.getElem?_toArray, List.getElem?_cons_succ, List.getElem?_cons_zero]; rfl) (by kernel_rfl) (by kernel_rfl) (by kernel_rfl) (fun _ _ _ h => h) (Or.inr ⟨by rfl, rfl⟩) (by assumption) ?_
            simp only [Act.put, List.setIfInBounds_toArray, List.set_cons_zero, List.set_cons_succ]
            refine wpAnyH_take (i := 20) (v := undef) (by simp only [List.getElem?_toArray, List.getElem?_cons_succ, List.getElem?_cons_zero]; rfl) (by kernel_rfl) (by kernel_rfl) (by kernel_rfl) (fun _ _ _ h => h) (Or.inr ⟨by rfl, rfl⟩) (by assumption) ?_
            simp only [Act.put, List.setIfInBounds_toArray, List.set_cons_zero, List.set_cons_succ]
            refine wpAnyH_take (i := 21) (v := undef) (by simp only [List.getElem?_toArray, List.getElem?_cons_succ, List.getElem?_cons_zero]; rfl) (by kernel_rfl) (by kernel_rfl) (by kernel_rfl) (fun _ _ _ h => h) (Or.inr ⟨by rfl, rfl⟩) (by assumption) ?_
            simp only [Act.put, List.setIfInBounds_toArray, List.set_cons_zero, List.set_cons_succ]
            refine wpAnyH_take (i := 22) (v := undef) (by simp only [List.getElem?_toArray, List.getElem?_cons_succ, List.getElem?_cons_zero]; rfl) (by kernel_rfl) (by kernel_rfl) (by kernel_rfl) (fun _ _ _ h => h) (Or.inr ⟨by rfl, rfl⟩) (by assumption) ?_
            simp only [Act.put, List.setIfInBounds_toArray, List.set_cons_zero, List.set_cons_succ]
            refine wpAnyH_take (i := 23) (v := undef) (by simp only [List.getElem?_toArray, List.getElem?_cons_succ, List.getElem?_cons_zero]; rfl) (by kernel_rfl) (by kernel_rfl) (by kernel_rfl) (fun _ _ _ h => h) (Or.inr ⟨by rfl, rfl⟩) (by assumption) ?_
            simp only [Act.put, List.setIfInBounds_toArray, List.set_cons_zero, List.set_cons_succ]
            refine wpAnyH_take (i := 24) (v := undef) (by simp only [List.getElem?_toArray, List.getElem?_cons_succ, List.getElem?_cons_zero]; rfl) (by kernel_rfl) (by kernel_rfl) (by kernel_rfl) (fun _ _ _ h => h) (Or.inr ⟨by rfl, rfl⟩) (by assumption) ?_
            simp only [Act.put, List.setIfInBounds_toArray, List.set_cons_zero, List.set_cons_succ]
            refine wpAnyH_take (i := 25) (v := undef) (by simp only [List.getElem?_toArray, List.getElem?_cons_succ, List.getElem?_cons_zero]; rfl) (by kernel_rfl) (by kernel_rfl) (by kernel_rfl) (fun _ _ _ h => h) (Or.inr ⟨by rfl, rfl⟩) (by assumption) ?_
            simp only [Act.put, List.setIfInBounds_toArray, List.set_cons_zero, List.set_cons_succ]
            refine wpAnyH_take (i := 26) (v := undef) (by simp only [List.getElem?_toArray, List.getElem?_cons_succ, List.getElem?_cons_zero]; rfl) (by kernel_rfl) (by kernel_rfl) (by kernel_rfl) (fun _ _ _ h => h) (Or.inr ⟨by rfl, rfl⟩) (by assumption) ?_
            simp only [Act.put, List.setIfInBounds_toArray, List.set_cons_zero, List.set_cons_succ]
            refine wpAnyH_take (i := 27) (v := undef) (by simp only [List.getElem?_toArray, List.getElem?_cons_succ, List.getElem?_cons_zero]; rfl) (by kernel_rfl) (by kernel_rfl) (by kernel_rfl) (fun _ _ _ h => h) (Or.inr ⟨by rfl, rfl⟩) (by assumption) ?_
            simp only [Act.put, List.setIfInBounds_toArray, List.set_cons_zero, List.set_cons_succ]
            refine wpAnyH_take (i := 28) (v := undef) (by simp only [List.getElem?_toArray, List.getElem?_cons_succ, List.getElem?_cons_zero]; rfl) (by kernel_rfl) (by kernel_rfl) (by kernel_rfl) (fun _ _ _ h => h) (Or.inr ⟨by rfl, rfl⟩) (by assumption) ?_
            simp only [Act.put, List.setIfInBounds_toArray, List.set_cons_zero, List.set_cons_succ]
            refine wpAnyH_take (i := 29) (v := ?_) (by simp only [List.getElem?_toArray, List.getElem?_cons_succ, List.getElem?_cons_zero]; rfl) (by kernel_rfl) (by kernel_rfl) (by kernel_rfl) (fun _ _ _ h => h) (Or.inl ⟨by rfl, ?_⟩) (by assumption) ?_
            rotate_left
            · intro w hSw
              (try dsimp only at hSw)
              go_simp
              (try with_reducible rfl)
            simp only [Act.put, List.setIfInBounds_toArray, List.set_cons_zero, List.set_cons_succ]
            refine wpAnyH_take (i := 30) (v := ?_) (by simp only [List.getElem?_toArray, List.getElem?_cons_succ, List.getElem?_cons_zero]; rfl) (by kernel_rfl) (by kernel_rfl) (by kernel_rfl) (fun _ _ _ h => h) (Or.inl ⟨by rfl, ?_⟩) (by assumption) ?_
            rotate_left
            · intro w hSw
              (try dsimp only at hSw)
              go_simp
              (try with_reducible rfl)
            simp only [Act.put, List.setIfInBounds_toArray, List.set_cons_zero, List.set_cons_succ]
            refine wpAnyH_take (i := 31) (v := ?_) (by simp only [List.getElem?_toArray, List.getElem?_cons_succ, List.getElem?_cons_zero]; rfl) (by kernel_rfl) (by kernel_rfl) (by kernel_rfl) (fun _ _ _ h => h) (Or.inl ⟨by rfl, ?_⟩) (by assumption) ?_
            rotate_left
            · intro w hSw
              (try dsimp only at hSw)
              go_simp
              (try with_reducible rfl)
            simp only [Act.put, List.setIfInBounds_toArray, List.set_cons_zero, List.set_cons_succ]
            refine wpAnyH_take (i := 32) (v := ?_) (by simp only [List.getElem?_toArray, List.getElem?_cons_succ, List.getElem?_cons_zero]; rfl) (by kernel_rfl) (by kernel_rfl) (by kernel_rfl) (fun _ _ _ h => h) (Or.inl ⟨by rfl, ?_⟩) (by assumption) ?_
            rotate_left
            · intro w hSw
              (try dsimp only at hSw)
              go_simp
              (try with_reducible rfl)
            simp only [Act.put, List.setIfInBounds_toArray, List.set_cons_zero, List.set_cons_succ]
            refine wpAnyH_take (i := 33) (v := ?_) (by simp only [List.getElem?_toArray, List.getElem?_cons_succ, List.getElem?_cons_zero]; rfl) (by kernel_rfl) (by kernel_rfl) (by kernel_rfl) (fun _ _ _ h => h) (Or.inl ⟨by rfl, ?_⟩) (by assumption) ?_
            rotate_left
            · intro w hSw
              (try dsimp only at hSw)
              go_simp
              (try with_reducible rfl)
            simp only [Act.put, List.setIfInBounds_toArray, List.set_cons_zero, List.set_cons_succ]
            refine wpAnyH_take (i := 34) (v := ?_) (by simp only [List.getElem?_toArray, List.getElem?_cons_succ, List.getElem?_cons_zero]; rfl) (by kernel_rfl) (by kernel_rfl) (by kernel_rfl) (fun _ _ _ h => h) (Or.inl ⟨by rfl, ?_⟩) (by assumption) ?_
            rotate_left
            · intro w hSw
              (try dsimp only at hSw)
              go_simp
              (try with_reducible rfl)
            simp only [Act.put, List.setIfInBounds_toArray, List.set_cons_zero, List.set_cons_succ]
            refine wpAnyH_take (i := 35) (v := ?_) (by simp only [List.getElem?_toArray, List.getElem?_cons_succ, List.getElem?_cons_zero]; rfl) (by kernel_rfl) (by kernel_rfl) (by kernel_rfl) (fun _ _ _ h => h) (Or.inl ⟨by rfl, ?_⟩) (by assumption) ?_
            rotate_left
            · intro w hSw
              (try dsimp only at hSw)
              go_simp
              (try with_reducible rfl)
            simp only [Act.put, List.setIfInBounds_toArray, List.set_cons_zero, List.set_cons_succ]
            refine wpAnyH_take (i := 36) (v := ?_) (by simp only [List.getElem?_toArray, List.getElem?_cons_succ, List.getElem?_cons_zero]; rfl) (by kernel_rfl) (by kernel_rfl) (by kernel_rfl) (fun _ _ _ h => h) (Or.inl ⟨by rfl, ?_⟩) (by assumption) ?_
            rotate_left
            · intro w hSw
              (try dsimp only at hSw)
              go_simp
              (try with_reducible rfl)
            simp only [Act.put, List.setIfInBounds_toArray, List.set_cons_zero, List.set_cons_succ]
            refine wpAnyH_take (i := 37) (v := ?_) (by simp only [List.getElem?_toArray, List.getElem?_cons_succ, List.getElem?_cons_zero]; rfl) (by kernel_rfl) (by kernel_rfl) (by kernel_rfl) (fun _ _ _ h => h) (Or.inl ⟨by rfl, ?_⟩) (by assumption) ?_
            rotate_left
            · intro w hSw
              (try dsimp only at hSw)
              go_simp
              (try with_reducible rfl)
            simp only [Act.put, List.setIfInBounds_toArray, List.set_cons_zero, List.set_cons_succ]
            refine wpAnyH_ready (rs := [38]) (by kernel_rfl) (by simp) ?_
            refine AllReadyH.cons (by simp only [List.getElem?_toArray, List.getElem?_cons_succ, List.getElem?_cons_zero]; rfl) (fun K hK => ?_) AllReadyH.nil
            go_simp
            go_at_call 21; with_reducible refine (HInM.out _ hHeld.2.2.2.2.2.2).mono ?_
            rintro e w' ⟨rfl, kk⟩
            try go_wp2_with fail
            refine hK.out _ _ ?_ (fun hHeld2 => ?_)
            · exact once_keep hzw (HPb.out _) hHeld kk
            clear hK K hHeld
            have hHeld := hHeld2
            clear hHeld2
            try simp only [Act.put, List.setIfInBounds_toArray, List.set_cons_zero, List.set_cons_succ]
            refine wpAnyH_take (i := 39) (v := ?_) (by simp only [List.getElem?_toArray, List.getElem?_cons_succ, List.getElem?_cons_zero]; rfl) (by kernel_rfl) (by kernel_rfl) (by kernel_rfl) (fun _ _ _ h => h) (Or.inl ⟨by rfl, ?_⟩) (by assumption) ?_
            rotate_left
            · intro w hSw
              (try dsimp only at hSw)
              go_simp
              (try with_reducible rfl)
            simp only [Act.put, List.setIfInBounds_toArray, List.set_cons_zero, List.set_cons_succ]
            refine wpAnyH_take (i := 40) (v := ?_) (by simp only [List.getElem?_toArray, List.getElem?_cons_succ, List.getElem?_cons_zero]; rfl) (by kernel_rfl) (by kernel_rfl) (by kernel_rfl) (fun _ _ _ h => h) (Or.inl ⟨by rfl, ?_⟩) (by assumption) ?_
            rotate_left
            · intro w hSw
              (try dsimp only at hSw)
              go_simp
              (try with_reducible rfl)
            simp only [Act.put, List.setIfInBounds_toArray, List.set_cons_zero, List.set_cons_succ]
            refine wpAnyH_done (by kernel_rfl) ?_ _
            refine NoPanic.normal ?_
            obtain ⟨x0, e0, e1, e2, e3, e4, ek⟩ := hHeld
            have hct2 : w'.cell? ⟨tz, X.toNat, none⟩ = some (.int .i64 0) := (ek.cell (p := ⟨tz, X.toNat, none⟩) HRo.out.lt).trans hct
            have hfz2 : w'.frozen? ⟨tz, X.toNat, none⟩ = false := (ek.frozen (p := ⟨tz, X.toNat, none⟩) HRo.out.lt).trans hfz
            have HBw := Lib.hid (HBu.out.trans (But.of_kept ek))
            have HRw := Lib.hid (rowIs_kept' HRo.out ek)
            clear hct hfz hcx c0 c1 c2 c3 c4 e0 e1 e2 e3 e4 ek kk
            go_wp2_with fail
            go_roundw
            case rel => exact ⟨m + 1, by have := HIm.out; omega, by rw [← HIm.out]; go_num, (HRw.out.set X.toNat (.int .i64 1)).congr (fun i _ => by rw [HTk.out, ← HyX.out]; exact times_next g r _ y i), HBw.out.setCell _ _⟩
            case measure => have := HIm.out; simp [intOf]; omega
          · obtain ⟨J, hJ⟩ : ∃ J : Int, ((m - 1 : Nat) : Int) = J := ⟨_, rfl⟩
            obtain ⟨ad', hA', hb', hcell'⟩ := ints_cell HC5.out (show m - 1 < l.length by omega)
            cases hA'
            have hcy : wr.cell? (ad.add (m - 1)) = some (.int .i64 (wAt l (m - 1))) := (HBu.out.cell (by rw [block_add]; exact hb) (by rw [block_add]; exact hbt)).trans hcell'
            have hlt2 : wAt l (m - 1) < X := by rw [← hX, ← hy]; exact hls (m - 1) (by omega)
            have hJ0 : 0 ≤ J := by omega
            have hJ1 : J < (l.length : Int) := by omega
            have hJw : IntKind.i64.wrap (I - 1) = J := by rw [IntKind.wrap_i64]; omega
            have HI0 := Lib.hid (show 0 < I by omega)
            have HJm := Lib.hid (show m - 1 = J.toNat by omega)
            rw [HJm.out] at hcy
            clear hm hls hpb hy hX hI hlm hnt hpy hcell hb hbt hm0 hyn hcell' hb' hJ
            rw [HJm.out] at hlt2
            generalize wAt l J.toNat = Y at *
            go_wp2_with fail
            have hXa : decide (X < 0) = false := decide_eq_false (by omega)
            have hXb : decide (X ≥ (k.ws.length : Int)) = false := decide_eq_false (by omega)
            have hXc : decide ((k.ws.length : Int) ≤ X) = false := decide_eq_false (by omega)
            have hIa : decide (I > 0) = true := decide_eq_true HI0.out
            have hIb : decide (0 < I) = true := decide_eq_true HI0.out
            have hXY : decide (X ≤ Y) = false := decide_eq_false (by omega)
            refine wp_region_noPanic ?_
            refine wp_region_held_drew (S := (fun w' => w'.cell? (ad.add J.toNat) = some (.int .i64 Y) ∧ w'.cell? (ad.add I.toNat) = some (.int .i64 X) ∧ w'.cell? ⟨z, 0, none⟩ = some (.slice kA k.ws.length kc) ∧ w'.cell? ⟨z, 1, none⟩ = some (.int .u64 k.seed) ∧ w'.cell? ⟨z, 2, none⟩ = some (.int .i64 k.ep) ∧ w'.cell? ⟨z, 3, none⟩ = some (.int .i64 k.nu) ∧ w'.cell? ⟨z, 4, none⟩ = some (.int .i64 k.de) ∧ Kept wr w')) (by kernel_rfl) ?_ (fun hHeld => ?_)
            · exact ⟨hcy, hcx, c0, c1, c2, c3, c4, (Kept.refl _).drew⟩
            refine wpAnyH_take (i := 0) (v := ?_) (by simp only [List.getElem?_toArray, List.getElem?_cons_succ, List.getElem?_cons_zero]; rfl) (by kernel_rfl) (by kernel_rfl) (by kernel_rfl) (fun _ _ _ h => h) (Or.inl ⟨by rfl, ?_⟩) (by assumption) ?_
            rotate_left
            · intro w hSw
              (try dsimp only at hSw)
              go_simp
              (try with_reducible rfl)
            simp only [Act.put, List.setIfInBounds_toArray, List.set_cons_zero, List.set_cons_succ]
            refine wpAnyH_take (i := 1) (v := ?_) (by simp only [List.getElem?_toArray, List.getElem?_cons_succ, List.getElem?_cons_zero]; rfl) (by kernel_rfl) (by kernel_rfl) (by kernel_rfl) (fun _ _ _ h => h) (Or.inl ⟨by rfl, ?_⟩) (by assumption) ?_
            rotate_left
            · intro w hSw
              (try dsimp only at hSw)
              go_simp
              (try with_reducible rfl)
            simp only [Act.put, List.setIfInBounds_toArray, List.set_cons_zero, List.set_cons_succ]
            refine wpAnyH_take (i := 2) (v := ?_) (by simp only [List.getElem?_toArray, List.getElem?_cons_succ, List.getElem?_cons_zero]; rfl) (by kernel_rfl) (by kernel_rfl) (by kernel_rfl) (fun _ _ _ h => h) (Or.inl ⟨by rfl, ?_⟩) (by assumption) ?_
            rotate_left
            · intro w hSw
              (try dsimp only at hSw)
              go_simp
              (try with_reducible rfl)
            simp only [Act.put, List.setIfInBounds_toArray, List.set_cons_zero, List.set_cons_succ]
            refine wpAnyH_take (i := 3) (v := ?_) (by simp only [List.getElem?_toArray, List.getElem?_cons_succ, List.getElem?_cons_zero]; rfl) (by kernel_rfl) (by kernel_rfl) (by kernel_rfl) (fun _ _ _ h => h) (Or.inl ⟨by rfl, ?_⟩) (by assumption) ?_
            rotate_left
            · intro w hSw
              (try dsimp only at hSw)
              go_simp
              (try with_reducible rfl)
            simp only [Act.put, List.setIfInBounds_toArray, List.set_cons_zero, List.set_cons_succ]
            refine wpAnyH_take (i := 4) (v := ?_) (by simp only [List.getElem?_toArray, List.getElem?_cons_succ, List.getElem?_cons_zero]; rfl) (by kernel_rfl) (by kernel_rfl) (by kernel_rfl) (fun _ _ _ h => h) (Or.inl ⟨by rfl, ?_⟩) (by assumption) ?_
            rotate_left
            · intro w hSw
              (try dsimp only at hSw)
              go_simp
              (try with_reducible rfl)
            simp only [Act.put, List.setIfInBounds_toArray, List.set_cons_zero, List.set_cons_succ]
            try simp only [hXa]
            refine wpAnyH_take (i := 5) (v := ?_) (by simp only [List.getElem?_toArray, List.getElem?_cons_succ, List.getElem?_cons_zero]; rfl) (by kernel_rfl) (by kernel_rfl) (by kernel_rfl) (fun _ _ _ h => h) (Or.inl ⟨by rfl, ?_⟩) (by assumption) ?_
            rotate_left
            · intro w hSw
              (try dsimp only at hSw)
              go_simp
              (try with_reducible rfl)
            simp only [Act.put, List.setIfInBounds_toArray, List.set_cons_zero, List.set_cons_succ]
            refine wpAnyH_take (i := 6) (v := ?_) (by simp only [List.getElem?_toArray, List.getElem?_cons_succ, List.getElem?_cons_zero]; rfl) (by kernel_rfl) (by kernel_rfl) (by kernel_rfl) (fun _ _ _ h => h) (Or.inl ⟨by rfl, ?_⟩) (by assumption) ?_
            rotate_left
            · intro w hSw
              (try dsimp only at hSw)
              go_simp
              (try with_reducible rfl)
            simp only [Act.put, List.setIfInBounds_toArray, List.set_cons_zero, List.set_cons_succ]
            refine wpAnyH_take (i := 7) (v := ?_) (by simp only [List.getElem?_toArray, List.getElem?_cons_succ, List.getElem?_cons_zero]; rfl) (by kernel_rfl) (by kernel_rfl) (by kernel_rfl) (fun _ _ _ h => h) (Or.inl ⟨by rfl, ?_⟩) (by assumption) ?_
            rotate_left
            · intro w hSw
              (try dsimp only at hSw)
              go_simp
              (try with_reducible rfl)
            simp only [Act.put, List.setIfInBounds_toArray, List.set_cons_zero, List.set_cons_succ]
            refine wpAnyH_take (i := 8) (v := ?_) (by simp only [List.getElem?_toArray, List.getElem?_cons_succ, List.getElem?_cons_zero]; rfl) (by kernel_rfl) (by kernel_rfl) (by kernel_rfl) (fun _ _ _ h => h) (Or.inl ⟨by rfl, ?_⟩) (by assumption) ?_
            rotate_left
            · intro w hSw
              (try dsimp only at hSw)
              go_simp
              (try with_reducible rfl)
            simp only [Act.put, List.setIfInBounds_toArray, List.set_cons_zero, List.set_cons_succ]
            refine wpAnyH_take (i := 9) (v := ?_) (by simp only [List.getElem?_toArray, List.getElem?_cons_succ, List.getElem?_cons_zero]; rfl) (by kernel_rfl) (by kernel_rfl) (by kernel_rfl) (fun _ _ _ h => h) (Or.inl ⟨by rfl, ?_⟩) (by assumption) ?_
            rotate_left
            · intro w hSw
              (try dsimp only at hSw)
              go_simp
              (try with_reducible rfl)
            simp only [Act.put, List.setIfInBounds_toArray, List.set_cons_zero, List.set_cons_succ]
            refine wpAnyH_take (i := 10) (v := ?_) (by simp only [List.getElem?_toArray, List.getElem?_cons_succ, List.getElem?_cons_zero]; rfl) (by kernel_rfl) (by kernel_rfl) (by kernel_rfl) (fun _ _ _ h => h) (Or.inl ⟨by rfl, ?_⟩) (by assumption) ?_
            rotate_left
            · intro w hSw
              (try dsimp only at hSw)
              go_simp
              (try with_reducible rfl)
            simp only [Act.put, List.setIfInBounds_toArray, List.set_cons_zero, List.set_cons_succ]
            refine wpAnyH_take (i := 11) (v := ?_) (by simp only [List.getElem?_toArray, List.getElem?_cons_succ, List.getElem?_cons_zero]; rfl) (by kernel_rfl) (by kernel_rfl) (by kernel_rfl) (fun _ _ _ h => h) (Or.inl ⟨by rfl, ?_⟩) (by assumption) ?_
            rotate_left
            · intro w hSw
              (try dsimp only at hSw)
              go_simp
              (try with_reducible rfl)
            simp only [Act.put, List.setIfInBounds_toArray, List.set_cons_zero, List.set_cons_succ]
            refine wpAnyH_take (i := 12) (v := ?_) (by simp only [List.getElem?_toArray, List.getElem?_cons_succ, List.getElem?_cons_zero]; rfl) (by kernel_rfl) (by kernel_rfl) (by kernel_rfl) (fun _ _ _ h => h) (Or.inl ⟨by rfl, ?_⟩) (by assumption) ?_
            rotate_left
            · intro w hSw
              (try dsimp only at hSw)
              go_simp
              (try with_reducible rfl)
            simp only [Act.put, List.setIfInBounds_toArray, List.set_cons_zero, List.set_cons_succ]
            refine wpAnyH_take (i := 13) (v := ?_) (by simp only [List.getElem?_toArray, List.getElem?_cons_succ, List.getElem?_cons_zero]; rfl) (by kernel_rfl) (by kernel_rfl) (by kernel_rfl) (fun _ _ _ h => h) (Or.inl ⟨by rfl, ?_⟩) (by assumption) ?_
            rotate_left
            · intro w hSw
              (try dsimp only at hSw)
              go_simp
              (try with_reducible rfl)
            simp only [Act.put, List.setIfInBounds_toArray, List.set_cons_zero, List.set_cons_succ]
            try simp only [hXb, hXc]
            refine wpAnyH_take (i := 14) (v := ?_) (by simp only [List.getElem?_toArray, List.getElem?_cons_succ, List.getElem?_cons_zero]; rfl) (by kernel_rfl) (by kernel_rfl) (by kernel_rfl) (fun _ _ _ h => h) (Or.inl ⟨by rfl, ?_⟩) (by assumption) ?_
            rotate_left
            · intro w hSw
              (try dsimp only at hSw)
              go_simp
              (try with_reducible rfl)
            simp only [Act.put, List.setIfInBounds_toArray, List.set_cons_zero, List.set_cons_succ]
            refine wpAnyH_take (i := 15) (v := ?_) (by simp only [List.getElem?_toArray, List.getElem?_cons_succ, List.getElem?_cons_zero]; rfl) (by kernel_rfl) (by kernel_rfl) (by kernel_rfl) (fun _ _ _ h => h) (Or.inl ⟨by rfl, ?_⟩) (by assumption) ?_
            rotate_left
            · intro w hSw
              (try dsimp only at hSw)
              go_simp
              (try with_reducible rfl)
            simp only [Act.put, List.setIfInBounds_toArray, List.set_cons_zero, List.set_cons_succ]
            refine wpAnyH_take (i := 16) (v := ?_) (by simp only [List.getElem?_toArray, List.getElem?_cons_succ, List.getElem?_cons_zero]; rfl) (by kernel_rfl) (by kernel_rfl) (by kernel_rfl) (fun _ _ _ h => h) (Or.inl ⟨by rfl, ?_⟩) (by assumption) ?_
            rotate_left
            · intro w hSw
              (try dsimp only at hSw)
              go_simp
              (try with_reducible rfl)
            simp only [Act.put, List.setIfInBounds_toArray, List.set_cons_zero, List.set_cons_succ]
            refine wpAnyH_take (i := 17) (v := ?_) (by simp only [List.getElem?_toArray, List.getElem?_cons_succ, List.getElem?_cons_zero]; rfl) (by kernel_rfl) (by kernel_rfl) (by kernel_rfl) (fun _ _ _ h => h) (Or.inl ⟨by rfl, ?_⟩) (by assumption) ?_
            rotate_left
            · intro w hSw
              (try dsimp only at hSw)
              go_simp
              (try with_reducible rfl)
            simp only [Act.put, List.setIfInBounds_toArray, List.set_cons_zero, List.set_cons_succ]
            try simp only [hIa, hIb]
            refine wpAnyH_take (i := 18) (v := ?_) (by simp only [List.getElem?_toArray, List.getElem?_cons_succ, List.getElem?_cons_zero]; rfl) (by kernel_rfl) (by kernel_rfl) (by kernel_rfl) (fun _ _ _ h => h) (Or.inl ⟨by rfl, ?_⟩) (by assumption) ?_
            rotate_left
            · intro w hSw
              (try dsimp only at hSw)
              go_simp
              (try with_reducible rfl)
            simp only [Act.put, List.setIfInBounds_toArray, List.set_cons_zero, List.set_cons_succ]
            refine wpAnyH_take (i := 19) (v := ?_) (by simp only [List.getElem?_toArray, List.getElem?_cons_succ, List.getElem?_cons_zero]; rfl) (by kernel_rfl) (by kernel_rfl) (by kernel_rfl) (fun _ _ _ h => h) (Or.inl ⟨by rfl, ?_⟩) (by assumption) ?_
            rotate_left
            · intro w hSw
              (try dsimp only at hSw)
              go_simp
              (try with_reducible rfl)
            simp only [Act.put, List.setIfInBounds_toArray, List.set_cons_zero, List.set_cons_succ]
            refine wpAnyH_take (i := 20) (v := ?_) (by simp only [List.getElem?_toArray, List.getElem?_cons_succ, List.getElem?_cons_zero]; rfl) (by kernel_rfl) (by kernel_rfl) (by kernel_rfl) (fun _ _ _ h => h) (Or.inl ⟨by rfl, ?_⟩) (by assumption) ?_
            rotate_left
            · intro w hSw
              (try dsimp only at hSw)
              go_simp
              (try with_reducible rfl)
            simp only [Act.put, List.setIfInBounds_toArray, List.set_cons_zero, List.set_cons_succ]
            refine wpAnyH_take (i := 21) (v := ?_) (by simp only [List.getElem?_toArray, List.getElem?_cons_succ, List.getElem?_cons_zero]; rfl) (by kernel_rfl) (by kernel_rfl) (by kernel_rfl) (fun _ _ _ h => h) (Or.inl ⟨by rfl, ?_⟩) (by assumption) ?_
            rotate_left
            · intro w hSw
              (try dsimp only at hSw)
              go_simp
              (try with_reducible rfl)
            simp only [Act.put, List.setIfInBounds_toArray, List.set_cons_zero, List.set_cons_succ]
            refine wpAnyH_take (i := 22) (v := ?_) (by simp only [List.getElem?_toArray, List.getElem?_cons_succ, List.getElem?_cons_zero]; rfl) (by kernel_rfl) (by kernel_rfl) (by kernel_rfl) (fun _ _ _ h => h) (Or.inl ⟨by rfl, ?_⟩) (by assumption) ?_
            rotate_left
            · intro w hSw
              (try dsimp only at hSw)
              go_simp
              (try with_reducible rfl)
            simp only [Act.put, List.setIfInBounds_toArray, List.set_cons_zero, List.set_cons_succ]
            refine wpAnyH_take (i := 23) (v := ?_) (by simp only [List.getElem?_toArray, List.getElem?_cons_succ, List.getElem?_cons_zero]; rfl) (by kernel_rfl) (by kernel_rfl) (by kernel_rfl) (fun _ _ _ h => h) (Or.inl ⟨by rfl, ?_⟩) (by assumption) ?_
            rotate_left
            · intro w hSw
              (try dsimp only at hSw)
              go_simp
              (try with_reducible rfl)
            simp only [Act.put, List.setIfInBounds_toArray, List.set_cons_zero, List.set_cons_succ]
            refine wpAnyH_take (i := 24) (v := ?_) (by simp only [List.getElem?_toArray, List.getElem?_cons_succ, List.getElem?_cons_zero]; rfl) (by kernel_rfl) (by kernel_rfl) (by kernel_rfl) (fun _ _ _ h => h) (Or.inl ⟨by rfl, ?_⟩) (by assumption) ?_
            rotate_left
            · intro w hSw
              (try dsimp only at hSw)
              go_simp
              (try with_reducible rfl)
            simp only [Act.put, List.setIfInBounds_toArray, List.set_cons_zero, List.set_cons_succ]
            refine wpAnyH_take (i := 25) (v := ?_) (by simp only [List.getElem?_toArray, List.getElem?_cons_succ, List.getElem?_cons_zero]; rfl) (by kernel_rfl) (by kernel_rfl) (by kernel_rfl) (fun _ _ _ h => h) (Or.inl ⟨by rfl, ?_⟩) (by assumption) ?_
            rotate_left
            · intro w hSw
              (try dsimp only at hSw)
              go_simp
              (try with_reducible rfl)
            simp only [Act.put, List.setIfInBounds_toArray, List.set_cons_zero, List.set_cons_succ]
            try simp only [hJw]
            refine wpAnyH_take (i := 26) (v := ?_) (by simp only [List.getElem?_toArray, List.getElem?_cons_succ, List.getElem?_cons_zero]; rfl) (by kernel_rfl) (by kernel_rfl) (by kernel_rfl) (fun _ _ _ h => h) (Or.inl ⟨by rfl, ?_⟩) (by assumption) ?_
            rotate_left
            · intro w hSw
              (try dsimp only at hSw)
              go_simp
              (try with_reducible rfl)
            simp only [Act.put, List.setIfInBounds_toArray, List.set_cons_zero, List.set_cons_succ]
            refine wpAnyH_take (i := 27) (v := ?_) (by simp only [List.getElem?_toArray, List.getElem?_cons_succ, List.getElem?_cons_zero]; rfl) (by kernel_rfl) (by kernel_rfl) (by kernel_rfl) (fun _ _ _ h => h) (Or.inl ⟨by rfl, ?_⟩) (by assumption) ?_
            rotate_left
            · intro w hSw
              (try dsimp only at hSw)
              go_simp
              (try with_reducible rfl)
            simp only [Act.put, List.setIfInBounds_toArray, List.set_cons_zero, List.set_cons_succ]
            refine wpAnyH_take (i := 28) (v := ?_) (by simp only [List.getElem?_toArray, List.getElem?_cons_succ, List.getElem?_cons_zero]; rfl) (by kernel_rfl) (by kernel_rfl) (by kernel_rfl) (fun _ _ _ h => h) (Or.inl ⟨by rfl, ?_⟩) (by assumption) ?_
            rotate_left
            · intro w hSw
              (try dsimp only at hSw)
              go_simp
              (try with_reducible rfl)
            simp only [Act.put, List.setIfInBounds_toArray, List.set_cons_zero, List.set_cons_succ]
            try simp only [hXY]
            refine wpAnyH_take (i := 29) (v := ?_) (by simp only [List.getElem?_toArray, List.getElem?_cons_succ, List.getElem?_cons_zero]; rfl) (by kernel_rfl) (by kernel_rfl) (by kernel_rfl) (fun _ _ _ h => h) (Or.inl ⟨by rfl, ?_⟩) (by assumption) ?_
            rotate_left
            · intro w hSw
              (try dsimp only at hSw)
              go_simp
              (try with_reducible rfl)
            simp only [Act.put, List.setIfInBounds_toArray, List.set_cons_zero, List.set_cons_succ]
            refine wpAnyH_take (i := 30) (v := ?_) (by simp only [List.getElem?_toArray, List.getElem?_cons_succ, List.getElem?_cons_zero]; rfl) (by kernel_rfl) (by kernel_rfl) (by kernel_rfl) (fun _ _ _ h => h) (Or.inl ⟨by rfl, ?_⟩) (by assumption) ?_
            rotate_left
            · intro w hSw
              (try dsimp only at hSw)
              go_simp
              (try with_reducible rfl)
            simp only [Act.put, List.setIfInBounds_toArray, List.set_cons_zero, List.set_cons_succ]
            refine wpAnyH_take (i := 31) (v := ?_) (by simp only [List.getElem?_toArray, List.getElem?_cons_succ, List.getElem?_cons_zero]; rfl) (by kernel_rfl) (by kernel_rfl) (by kernel_rfl) (fun _ _ _ h => h) (Or.inl ⟨by rfl, ?_⟩) (by assumption) ?_
            rotate_left
            · intro w hSw
              (try dsimp only at hSw)
              go_simp
              (try with_reducible rfl)
            simp only [Act.put, List.setIfInBounds_toArray, List.set_cons_zero, List.set_cons_succ]
            refine wpAnyH_take (i := 32) (v := ?_) (by simp only [List.getElem?_toArray, List.getElem?_cons_succ, List.getElem?_cons_zero]; rfl) (by kernel_rfl) (by kernel_rfl) (by kernel_rfl) (fun _ _ _ h => h) (Or.inl ⟨by rfl, ?_⟩) (by assumption) ?_
            rotate_left
            · intro w hSw
              (try dsimp only at hSw)
              go_simp
              (try with_reducible rfl)
            simp only [Act.put, List.setIfInBounds_toArray, List.set_cons_zero, List.set_cons_succ]
            refine wpAnyH_take (i := 33) (v := ?_) (by simp only [List.getElem?_toArray, List.getElem?_cons_succ, List.getElem?_cons_zero]; rfl) (by kernel_rfl) (by kernel_rfl) (by kernel_rfl) (fun _ _ _ h => h) (Or.inl ⟨by rfl, ?_⟩) (by assumption) ?_
            rotate_left
            · intro w hSw
              (try dsimp only at hSw)
              go_simp
              (try with_reducible rfl)
            simp only [Act.put, List.setIfInBounds_toArray, List.set_cons_zero, List.set_cons_succ]
            refine wpAnyH_take (i := 34) (v := ?_) (by simp only [List.getElem?_toArray, List.getElem?_cons_succ, List.getElem?_cons_zero]; rfl) (by kernel_rfl) (by kernel_rfl) (by kernel_rfl) (fun _ _ _ h => h) (Or.inl ⟨by rfl, ?_⟩) (by assumption) ?_
            rotate_left
            · intro w hSw
              (try dsimp only at hSw)
              go_simp
              (try with_reducible rfl)
            simp only [Act.put, List.setIfInBounds_toArray, List.set_cons_zero, List.set_cons_succ]
            refine wpAnyH_take (i := 35) (v := ?_) (by simp only [List.getElem?_toArray, List.getElem?_cons_succ, List.getElem?_cons_zero]; rfl) (by kernel_rfl) (by kernel_rfl) (by kernel_rfl) (fun _ _ _ h => h) (Or.inl ⟨by rfl, ?_⟩) (by assumption) ?_
            rotate_left
            · intro w hSw
              (try dsimp only at hSw)
              go_simp
              (try with_reducible rfl)
            simp only [Act.put, List.setIfInBounds_toArray, List.set_cons_zero, List.set_cons_succ]
            refine wpAnyH_take (i := 36) (v := ?_) (by simp only [List.getElem?_toArray, List.getElem?_cons_succ, List.getElem?_cons_zero]; rfl) (by kernel_rfl) (by kernel_rfl) (by kernel_rfl) (fun _ _ _ h => h) (Or.inl ⟨by rfl, ?_⟩) (by assumption) ?_
            rotate_left
            · intro w hSw
              (try dsimp only at hSw)
              go_simp
              (try with_reducible rfl)
            simp only [Act.put, List.setIfInBounds_toArray, List.set_cons_zero, List.set_cons_succ]
            refine wpAnyH_take (i := 37) (v := ?_) (by simp only [List.getElem?_toArray, List.getElem?_cons_succ, List.getElem?_cons_zero]; rfl) (by kernel_rfl) (by kernel_rfl) (by kernel_rfl) (fun _ _ _ h => h) (Or.inl ⟨by rfl, ?_⟩) (by assumption) ?_
            rotate_left
            · intro w hSw
              (try dsimp only at hSw)
              go_simp
              (try with_reducible rfl)
            simp only [Act.put, List.setIfInBounds_toArray, List.set_cons_zero, List.set_cons_succ]
            refine wpAnyH_ready (rs := [38]) (by kernel_rfl) (by simp) ?_
            refine AllReadyH.cons (by simp only [List.getElem?_toArray, List.getElem?_cons_succ, List.getElem?_cons_zero]; rfl) (fun K hK => ?_) AllReadyH.nil
            go_simp
            go_at_call 21; with_reducible refine (HInM.out _ hHeld.2.2.2.2.2.2.2).mono ?_
            rintro e w' ⟨rfl, kk⟩
            try go_wp2_with fail
            refine hK.out _ _ ?_ (fun hHeld2 => ?_)
            · exact once_keep2 hzw (HPb.out _) (HPb.out _) hHeld kk
            clear hK K hHeld
            have hHeld := hHeld2
            clear hHeld2
            try simp only [Act.put, List.setIfInBounds_toArray, List.set_cons_zero, List.set_cons_succ]
            refine wpAnyH_take (i := 39) (v := ?_) (by simp only [List.getElem?_toArray, List.getElem?_cons_succ, List.getElem?_cons_zero]; rfl) (by kernel_rfl) (by kernel_rfl) (by kernel_rfl) (fun _ _ _ h => h) (Or.inl ⟨by rfl, ?_⟩) (by assumption) ?_
            rotate_left
            · intro w hSw
              (try dsimp only at hSw)
              go_simp
              (try with_reducible rfl)
            simp only [Act.put, List.setIfInBounds_toArray, List.set_cons_zero, List.set_cons_succ]
            refine wpAnyH_take (i := 40) (v := ?_) (by simp only [List.getElem?_toArray, List.getElem?_cons_succ, List.getElem?_cons_zero]; rfl) (by kernel_rfl) (by kernel_rfl) (by kernel_rfl) (fun _ _ _ h => h) (Or.inl ⟨by rfl, ?_⟩) (by assumption) ?_
            rotate_left
            · intro w hSw
              (try dsimp only at hSw)
              go_simp
              (try with_reducible rfl)
            simp only [Act.put, List.setIfInBounds_toArray, List.set_cons_zero, List.set_cons_succ]
            refine wpAnyH_done (by kernel_rfl) ?_ _
            refine NoPanic.normal ?_
            obtain ⟨y0, x0, e0, e1, e2, e3, e4, ek⟩ := hHeld
            have hct2 : w'.cell? ⟨tz, X.toNat, none⟩ = some (.int .i64 0) := (ek.cell (p := ⟨tz, X.toNat, none⟩) HRo.out.lt).trans hct
            have hfz2 : w'.frozen? ⟨tz, X.toNat, none⟩ = false := (ek.frozen (p := ⟨tz, X.toNat, none⟩) HRo.out.lt).trans hfz
            have HBw := Lib.hid (HBu.out.trans (But.of_kept ek))
            have HRw := Lib.hid (rowIs_kept' HRo.out ek)
            clear hct hfz hcx hcy y0 c0 c1 c2 c3 c4 e0 e1 e2 e3 e4 ek kk
            go_wp2_with fail
            go_roundw
            case rel => exact ⟨m + 1, by have := HIm.out; omega, by rw [← HIm.out]; go_num, (HRw.out.set X.toNat (.int .i64 1)).congr (fun i _ => by rw [HTk.out, ← HyX.out]; exact times_next g r _ y i), HBw.out.setCell _ _⟩
            case measure => have := HIm.out; simp [intOf]; omega
        · have hml : m = l.length := by omega
          subst hml
          have HR6 := Lib.hid (HRo.out.congr (g := timesV g (r + 1) []) (fun i hi => by rw [List.take_length]; exact HEn.out i hi))
          go_wp2_with fail
          go_roundw
          case rel => exact ⟨r + 1, by omega, by rw [← HNx.out], by rw [HSu.out]; go_num, HR6.out, HKw.out⟩
          case measure => have := HRe.out; simp [intOf]; omega
    · have hre : r = E := by omega
      subst hre
      have HTo' := HTo
      generalize P + r = sN at *
      generalize weighTo (fun j => decide (g j < r)) k.ws k.ws.length = a0 at *
      go_wp2_with fail
      go_loop [11] (fun i => ∃ j : Nat, j ≤ k.ws.length ∧ i = .int .i64 (j : Nat)) (fun i => k.ws.length - (intOf i).toNat)
      case atStart => exact ⟨0, by omega, rfl⟩
      case round =>
        obtain ⟨j, hj, rfl⟩ := hrel
        by_cases hlj : j < k.ws.length
        · have hct : wr.cell? ⟨tz, j, none⟩ = some (.int .i64 1) := by rw [HRow.out.cell hlj, times_all (HG.out j)]
          go_wp2_with fail
          go_round
          case rel => exact ⟨j + 1, by omega, by go_num⟩
          case measure => simp [intOf]; omega
        · have hjl : j = k.ws.length := by omega
          subst hjl
          go_wp2_with fail
          refine (total_any kA kc k _ (HA2.out.kept HKr.out)).mono ?_
          rintro e W4 ⟨rfl, k4⟩
          rw [HTo.out]
          have hk := Lib.hid (HK2.out.trans (HKr.out.trans k4))
          clear k4
          go_wp2_with fail
          go_ret
          exact ⟨by first | rfl | (simp; done), hk.out⟩

/-! ### The walk: the call returns true, and of what was there nothing has changed. -/
set_option maxHeartbeats 1600000 in
theorem walk (w : World) (kA : Option Addr) (kc : Nat) (k : Cf) (khm : k.ws.length ≤ maxLen) (khs : k.seed < 18446744073709551616) (khl : CellsAt w w.heap.size kA (intCells k.ws)) (epoch : Int) (hepoch1 : -9223372036854775808 ≤ epoch) (hepoch2 : epoch ≤ 9223372036854775807) :
    Calls Try.prog 4 #[.agg #[.slice kA k.ws.length kc, .int .u64 k.seed, .int .i64 k.ep, .int .i64 k.nu, .int .i64 k.de], .int .i64 epoch] w fun e w' => e = .returned (.bool true) ∧ Kept w w' := by
  by_cases hn : k.ws.length > 40
  · obtain ⟨hC, hA, hK⟩ := conf_box (c := kc) khl
    have HC0 := Lib.hid hC
    have HA0 := Lib.hid hA
    have HK0 := Lib.hid hK
    clear hC hA hK khl
    go_enter Try.func4, Try.ntmps4
    go_wp2_with fail
    generalize w.alloc (.cells #[.slice kA k.ws.length kc, .int .u64 k.seed, .int .i64 k.ep, .int .i64 k.nu, .int .i64 k.de] 25) = W0 at *
    generalize w.heap.size = z at *
    refine (dutyAwake _).mono ?_
    rintro e W1 ⟨rfl, k1⟩
    have HC1 := Lib.hid (HC0.out.kept k1)
    have HA1 := Lib.hid (HA0.out.kept k1)
    have HK1 := Lib.hid (HK0.out.trans k1)
    clear k1 HC0 HA0 HK0
    obtain ⟨c0, c1, c2, c3, c4⟩ := HC1.out.five
    have hz := HC1.out.1
    go_wp2_with fail
    clear c0 c1 c2 c3 c4 hz
    go_ret
    exact ⟨rfl, HK1.out⟩
  · cases hm : mayC k with
    | false =>
      have HM := Lib.hid hm
      clear hm
      obtain ⟨hC, hA, hK⟩ := conf_box (c := kc) khl
      have HC0 := Lib.hid hC
      have HA0 := Lib.hid hA
      have HK0 := Lib.hid hK
      clear hC hA hK khl
      go_enter Try.func4, Try.ntmps4
      go_wp2_with fail
      generalize w.alloc (.cells #[.slice kA k.ws.length kc, .int .u64 k.seed, .int .i64 k.ep, .int .i64 k.nu, .int .i64 k.de] 25) = W0 at *
      generalize w.heap.size = z at *
      refine (dutyAwake _).mono ?_
      rintro e W1 ⟨rfl, k1⟩
      have HC1 := Lib.hid (HC0.out.kept k1)
      have HA1 := Lib.hid (HA0.out.kept k1)
      have HK1 := Lib.hid (HK0.out.trans k1)
      clear k1 HC0 HA0 HK0
      obtain ⟨c0, c1, c2, c3, c4⟩ := HC1.out.five
      have hz := HC1.out.1
      go_wp2_with fail
      clear c0 c1 c2 c3 c4 hz
      refine (may_any kA kc k _ HA1.out).mono ?_
      rintro e W2 ⟨rfl, k1⟩
      rw [HM.out]
      have HC2 := Lib.hid (HC1.out.kept k1)
      have HA2 := Lib.hid (HA1.out.kept k1)
      have HK2 := Lib.hid (HK1.out.trans k1)
      clear k1 HC1 HA1 HK1
      obtain ⟨c0, c1, c2, c3, c4⟩ := HC2.out.five
      have hz := HC2.out.1
      go_wp2_with fail
      clear c0 c1 c2 c3 c4 hz
      go_ret
      exact ⟨rfl, HK2.out⟩
    | true =>
      by_cases he1 : epoch < 1
      · have HM := Lib.hid hm
        clear hm
        obtain ⟨hC, hA, hK⟩ := conf_box (c := kc) khl
        have HC0 := Lib.hid hC
        have HA0 := Lib.hid hA
        have HK0 := Lib.hid hK
        clear hC hA hK khl
        go_enter Try.func4, Try.ntmps4
        go_wp2_with fail
        generalize w.alloc (.cells #[.slice kA k.ws.length kc, .int .u64 k.seed, .int .i64 k.ep, .int .i64 k.nu, .int .i64 k.de] 25) = W0 at *
        generalize w.heap.size = z at *
        refine (dutyAwake _).mono ?_
        rintro e W1 ⟨rfl, k1⟩
        have HC1 := Lib.hid (HC0.out.kept k1)
        have HA1 := Lib.hid (HA0.out.kept k1)
        have HK1 := Lib.hid (HK0.out.trans k1)
        clear k1 HC0 HA0 HK0
        obtain ⟨c0, c1, c2, c3, c4⟩ := HC1.out.five
        have hz := HC1.out.1
        go_wp2_with fail
        clear c0 c1 c2 c3 c4 hz
        refine (may_any kA kc k _ HA1.out).mono ?_
        rintro e W2 ⟨rfl, k1⟩
        rw [HM.out]
        have HC2 := Lib.hid (HC1.out.kept k1)
        have HA2 := Lib.hid (HA1.out.kept k1)
        have HK2 := Lib.hid (HK1.out.trans k1)
        clear k1 HC1 HA1 HK1
        obtain ⟨c0, c1, c2, c3, c4⟩ := HC2.out.five
        have hz := HC2.out.1
        go_wp2_with fail
        clear c0 c1 c2 c3 c4 hz
        go_ret
        exact ⟨rfl, HK2.out⟩
      · by_cases he2 : epoch > 100000
        · have HM := Lib.hid hm
          clear hm
          obtain ⟨hC, hA, hK⟩ := conf_box (c := kc) khl
          have HC0 := Lib.hid hC
          have HA0 := Lib.hid hA
          have HK0 := Lib.hid hK
          clear hC hA hK khl
          go_enter Try.func4, Try.ntmps4
          go_wp2_with fail
          generalize w.alloc (.cells #[.slice kA k.ws.length kc, .int .u64 k.seed, .int .i64 k.ep, .int .i64 k.nu, .int .i64 k.de] 25) = W0 at *
          generalize w.heap.size = z at *
          refine (dutyAwake _).mono ?_
          rintro e W1 ⟨rfl, k1⟩
          have HC1 := Lib.hid (HC0.out.kept k1)
          have HA1 := Lib.hid (HA0.out.kept k1)
          have HK1 := Lib.hid (HK0.out.trans k1)
          clear k1 HC0 HA0 HK0
          obtain ⟨c0, c1, c2, c3, c4⟩ := HC1.out.five
          have hz := HC1.out.1
          go_wp2_with fail
          clear c0 c1 c2 c3 c4 hz
          refine (may_any kA kc k _ HA1.out).mono ?_
          rintro e W2 ⟨rfl, k1⟩
          rw [HM.out]
          have HC2 := Lib.hid (HC1.out.kept k1)
          have HA2 := Lib.hid (HA1.out.kept k1)
          have HK2 := Lib.hid (HK1.out.trans k1)
          clear k1 HC1 HA1 HK1
          obtain ⟨c0, c1, c2, c3, c4⟩ := HC2.out.five
          have hz := HC2.out.1
          go_wp2_with fail
          clear c0 c1 c2 c3 c4 hz
          go_ret
          exact ⟨rfl, HK2.out⟩
        · exact once_main w kA kc k khm khs khl epoch hn hm he1 he2

/-! ### The row's step -/
set_option maxRecDepth 100000 in
theorem lifted (os : Os) (started : os.Started) (H : Type) (enc : TypeId × Value → H) :
    ReturnsInHanded {} Try.checked os 4 .any (Rows.dutyOnceSpec.pre6 enc Try.prog Try.f4 Rows.dutyOnceRow.domain false) (Rows.dutyOnceSpec.post enc Try.prog Try.f4 false true false false) := by
  refine returnsInHanded_of_change (C := Try.checked) own started (by kernel_rfl) Try.func4
    (ChangeSpec.witness6 (enc := enc) (C := Try.checked) false ⟨#[], #[.agg #[.slice none 0 0, .int .u64 0, .int .i64 0, .int .i64 0, .int .i64 0], .int .i64 0], []⟩ 8 (by kernel_rfl) (by kernel_rfl) (by kernel_rfl) (by kernel_rfl)) ?_
  intro W base args ds gs before hval0 hW hcnd _
  have hval : ∀ (j : Nat) t v, Try.f4.params[j]? = some t → args[j]? = some v → Value.okWide Try.prog W .any base t v := hval0
  have hW' := hW
  obtain ⟨p, q, hA0, hV, rfl, hfz, hnd⟩ := hW
  have hA : DataW.TrodAll enc Try.prog W 0 (fun _ => true) true Try.f4.params.toList args.toList ds p := hA0
  rw [Try.params4] at hA hval
  obtain ⟨v0, vs0, d0, ds0, p0, q0, hargs, rfl, rfl, h0, r0⟩ := trodAll_cons hA
  obtain ⟨v1, vs1, d1, ds1, p1, q1, rfl, rfl, rfl, h1, r1⟩ := trodAll_cons r0
  obtain ⟨rfl, rfl, rfl⟩ := trodAll_nil r1
  obtain rfl : args = #[v0, v1] := by cases args; simp_all
  obtain ⟨rfl, rfl⟩ := trodVars_none hV
  obtain ⟨kA, kc, k, rfl, khm, khs, khl⟩ := open_conf (hval 0 _ v0 rfl rfl) h0
  obtain ⟨epoch, rfl, hepoch1, hepoch2⟩ := open_num (hval 1 _ v1 rfl rfl) h1
  clear hA0 hval0
  refine (walk W kA kc k khm khs khl epoch hepoch1 hepoch2).mono fun e W' ⟨he, hb⟩ => ?_
  subst he
  exact ⟨_, rfl, law_post rfl (by kernel_rfl) rfl hW' rfl hb⟩

theorem over : Rows.dutyOnceRow.holds Try.pinned (OpenSpec.ofChange Rows.dutyOnceSpec) :=
  OpenClaim.holds_of_wide 4 Try.f4 rfl rfl rfl rfl rfl rfl rfl ⟨rfl, rfl, rfl, rfl, rfl⟩ rfl rfl rfl rfl rfl (by kernel_rfl) Try.func4 (by kernel_rfl)
    (of_decide_eq_true (by kernel_rfl)) (by unfold Func.isWrapper; first | (rw [if_pos (by decide +kernel)]; kernel_rfl) | (rw [if_neg (by decide +kernel)]; exact ⟨rfl, rfl⟩))
    (fun os started H enc _ => lifted os started H enc)

/-- The statement. -/
theorem proved : Rows.DutyOnceSaid :=
  over
#print axioms proved
end Go.Proofs.Ytdidmgmfjfnliaa.dutyOnce
