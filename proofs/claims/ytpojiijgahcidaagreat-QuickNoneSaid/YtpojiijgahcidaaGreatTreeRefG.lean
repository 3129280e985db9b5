/-
  The contracts of the calls Name, at, Names and IDs of the given package marigoldref06.
  The contract of the call may of the given package marigoldref06.
  The contracts of the calls May, Find, Slot and Kids of the given package marigoldref06.
  The contracts of the calls Chain and Under of the given package marigoldref06.
-/
import Derived.Test.YtpojiijgahcidaaGreatTreeG
import Derived.Test.YtpojiijgahcidaaGreatMixRefG
namespace Go.Proofs.YtpojiijgahcidaaGreat
set_option maxRecDepth 100000
set_option linter.unusedVariables false
set_option linter.unusedSimpArgs false
section
open Go.ChangeShapes Go.WideShapes Go.ChangeAt Go.RowKit

set_option maxRecDepth 100000 in
set_option maxHeartbeats 1600000 in
theorem refName_any (b : Bk) (hb : WfB b) (w : World) :
    Calls Tryz.prog 87 #[.agg #[.int .i64 b.s, .int .i64 b.f, .int .u64 b.p.1, .int .u64 b.p.2, .int .u64 b.t]] w fun e w' => e = .returned (.agg #[.int .u64 (nameB b).1, .int .u64 (nameB b).2]) ∧ Kept w w' := by
  have HX := Lib.hid (nameL_lt hb)
  have HS := Lib.hid (wd_int b.s)
  have HF := Lib.hid (wd_int b.f)
  clear hb
  go_enter Tryz.func87, Tryz.ntmps87
  go_wp2_with fail
  rw [HS.out, HF.out]
  have H6 := Lib.hid (HasCells.new ((w.alloc (.cells #[.int .i64 b.s, .int .i64 b.f, .int .u64 b.p.1, .int .u64 b.p.2, .int .u64 b.t] 54)).alloc (.cells #[.int .u64 0, .int .u64 0] 31)) #[.int .u64 1, .int .u64 (wd b.s : Nat), .int .u64 (wd b.f : Nat), .int .u64 b.p.1, .int .u64 b.p.2, .int .u64 b.t] 23 (w.heap.size + 1 + 1) (by simp))
  have H2 := Lib.hid ((HasCells.new (w.alloc (.cells #[.int .i64 b.s, .int .i64 b.f, .int .u64 b.p.1, .int .u64 b.p.2, .int .u64 b.t] 54)) #[.int .u64 0, .int .u64 0] 31 (w.heap.size + 1) (by simp)).alloc (.cells #[.int .u64 1, .int .u64 (wd b.s : Nat), .int .u64 (wd b.f : Nat), .int .u64 b.p.1, .int .u64 b.p.2, .int .u64 b.t] 23))
  have HK := Lib.hid ((((Kept.refl w).alloc (.cells #[.int .i64 b.s, .int .i64 b.f, .int .u64 b.p.1, .int .u64 b.p.2, .int .u64 b.t] 54)).alloc (.cells #[.int .u64 0, .int .u64 0] 31)).alloc (.cells #[.int .u64 1, .int .u64 (wd b.s : Nat), .int .u64 (wd b.f : Nat), .int .u64 b.p.1, .int .u64 b.p.2, .int .u64 b.t] 23))
  have HZ := Lib.hid (show ∀ j, (((w.alloc (.cells #[.int .i64 b.s, .int .i64 b.f, .int .u64 b.p.1, .int .u64 b.p.2, .int .u64 b.t] 54)).alloc (.cells #[.int .u64 0, .int .u64 0] 31)).alloc (.cells #[.int .u64 1, .int .u64 (wd b.s : Nat), .int .u64 (wd b.f : Nat), .int .u64 b.p.1, .int .u64 b.p.2, .int .u64 b.t] 23)).frozen? ⟨w.heap.size + 1, j, none⟩ = false by intro j; simp [go_sem])
  generalize ((w.alloc (.cells #[.int .i64 b.s, .int .i64 b.f, .int .u64 b.p.1, .int .u64 b.p.2, .int .u64 b.t] 54)).alloc (.cells #[.int .u64 0, .int .u64 0] 31)).alloc (.cells #[.int .u64 1, .int .u64 (wd b.s : Nat), .int .u64 (wd b.f : Nat), .int .u64 b.p.1, .int .u64 b.p.2, .int .u64 b.t] 23) = W at *
  refine (refOf_any _ 6 6 (nameL b) rfl (by omega) W HX.out (words_six H6.out)).mono ?_
  rintro e W1 ⟨rfl, k1⟩
  have d0 := (H2.out.kept k1).at0
  have d1 := (H2.out.kept k1).at1
  have e0 : W1.frozen? ⟨w.heap.size + 1, 0, none⟩ = false := (k1.frozen H2.out.1).trans (HZ.out 0)
  have e1 : W1.frozen? ⟨w.heap.size + 1, 1, none⟩ = false := (k1.frozen H2.out.1).trans (HZ.out 1)
  have hz : w.heap.size + 1 < W1.heap.size := (H2.out.kept k1).1
  have K1 := Lib.hid (HK.out.trans k1)
  have HP := Lib.hid (show nameB b = idOf (nameL b) from rfl)
  clear k1 HZ H2 H6 HK
  generalize idOf (nameL b) = p at *
  go_wp2_with fail
  refine bodyPost_ret (v := .agg #[.int .u64 p.1, .int .u64 p.2]) (by simp [results, Tryz.results87, go_sem, d0, d1]) rfl ⟨by rw [HP.out], ?_⟩
  exact (K1.out.setCell (p := ⟨w.heap.size + 1, 0, none⟩) (by simp) _).setCell (p := ⟨w.heap.size + 1, 1, none⟩) (by simp) _

/-! ### at -/
attribute [local go_sem high] eqIdN in
set_option maxRecDepth 100000 in
set_option maxHeartbeats 1600000 in
theorem refAtT_any (A : Option Addr) (c : Nat) (ns : List Id2) (hn : ns.length ≤ 10000000) (x : Id2) (w : World) (hA : CellsAt w w.heap.size A (idsCells ns)) :
    Calls Tryz.prog 61 #[.slice A ns.length c, .agg #[.int .u64 x.1, .int .u64 x.2]] w fun e w' => e = .returned (.int .i64 (posV ns x)) ∧ Kept w w' := by
  have HA := Lib.hid (hA.kept ((Kept.refl w).alloc (.cells #[.int .u64 x.1, .int .u64 x.2] 31)))
  have HC := Lib.hid (HasCells.new w #[.int .u64 x.1, .int .u64 x.2] 31 w.heap.size rfl)
  have HK := Lib.hid ((Kept.refl w).alloc (.cells #[.int .u64 x.1, .int .u64 x.2] 31))
  clear hA
  go_enter Tryz.func61, Tryz.ntmps61
  go_wp2_with fail
  generalize w.alloc (.cells #[.int .u64 x.1, .int .u64 x.2] 31) = W at *
  go_loopw [5] (fun i w' => ∃ k : Nat, k ≤ ns.length ∧ i = .int .i64 k ∧ x ∉ ns.take k ∧ Kept W w') (fun i _ => ns.length - (intOf i).toNat)
  case atStart => exact ⟨0, by omega, rfl, by simp, Kept.refl _⟩
  case round =>
    obtain ⟨k, hk, rfl, hx, hKr⟩ := hrel
    have HX := Lib.hid hx
    have HR := Lib.hid hKr
    clear hx hKr
    by_cases hlt : k < ns.length
    · obtain ⟨z, o, rfl, hb, c0, c1⟩ := id_at (HA.out.kept HR.out) hlt
      obtain ⟨d0, d1⟩ := (HC.out.kept HR.out).two
      by_cases he : ns[k] = x
      · have hs := sameI_yes he
        have HV := Lib.hid (posV_hit hlt HX.out he)
        clear he
        generalize ns[k] = y at *
        go_wp2_with fail
        go_quiet (fail)
        go_wp2_with fail
        go_ret
        exact ⟨by rw [HV.out]; rfl, (HK.out.trans HR.out).drewN _⟩
      · have hs := sameI_no he
        have HV := Lib.hid (not_in_step hlt HX.out he)
        clear he
        generalize ns[k] = y at *
        go_wp2_with fail
        go_quiet (fail)
        go_wp2_with fail
        go_roundw
        case rel => exact ⟨k + 1, by omega, by go_num, HV.out, HR.out.drewN _⟩
        case measure => simp [intOf]; omega
    · have hkl : k = ns.length := by omega
      subst hkl
      have HV := Lib.hid (posV_none (show x ∉ ns by have := HX.out; rwa [List.take_length] at this))
      go_wp2_with fail
      go_ret
      exact ⟨by rw [HV.out]; rfl, HK.out.trans HR.out⟩

/-! ### Names -/
theorem Ids.cap {W w : World} {l : List Id2} {A : Option Addr} {c : Nat} (h : Ids W l (.slice A l.length c) w) : l.length ≤ c := by
  rcases h.1.2 with ⟨hv, h0⟩ | ⟨g, cap, cur, hv, _, _, hnc, _⟩
  · rw [h0]; exact Nat.zero_le _
  · cases hv; exact hnc
theorem refAt_take (A : Option Addr) (c : Nat) (ns : List Id2) (k : Nat) (hk : k ≤ ns.length) (hn : ns.length ≤ 10000000) (x : Id2) (w : World) (hA : CellsAt w w.heap.size A (idsCells ns)) :
    Calls Tryz.prog 61 #[.slice A k c, .agg #[.int .u64 x.1, .int .u64 x.2]] w fun e w' => e = .returned (.int .i64 (posV (ns.take k) x)) ∧ Kept w w' := by
  have h := refAtT_any A c (ns.take k) (by rw [List.length_take]; omega) x w (cells_ids_take hA k)
  rw [List.length_take, Nat.min_eq_left hk] at h
  exact h
set_option maxRecDepth 100000 in
set_option maxHeartbeats 1600000 in
theorem refNames_any (A : Option Addr) (c : Nat) (l : List Bk) (hl : l.length ≤ 1000000) (hw : WfL l) (w : World) (hA : CellsAt w w.heap.size A (blockCells l)) :
    Calls Tryz.prog 59 #[.slice A l.length c] w fun e w' => ∃ A' c', e = .returned (.slice A' (namesB l).length c') ∧ CellsAt w' w'.heap.size A' (idsCells (namesB l)) ∧ (namesB l).length ≤ c' ∧ (∀ ad, A' = some ad → w.heap.size ≤ ad.block) ∧ Kept w w' := by
  have HA := Lib.hid hA
  have HW := Lib.hid hw
  clear hA hw
  go_enter Tryz.func59, Tryz.ntmps59
  go_wp2_with fail
  go_loopw [3, 4] (fun v i w' => ∃ k : Nat, k ≤ l.length ∧ i = .int .i64 k ∧ Ids w (namesB (l.take k)) v w') (fun _ i _ => l.length - (intOf i).toNat)
  case atStart => exact ⟨0, by omega, rfl, Ids.nil w⟩
  case round =>
    obtain ⟨k, hk, rfl, hI⟩ := hrel
    have HI := Lib.hid hI
    clear hI
    by_cases hlt : k < l.length
    · obtain ⟨z, o, rfl, hb, c0, c1, c2, c3, c4⟩ := block_at (HA.out.kept HI.out.2) hlt
      have HX := Lib.hid (HW.out l[k] (List.getElem_mem hlt))
      have HN := Lib.hid (names_step hlt)
      have HL := Lib.hid (show (namesB (l.take k)).length = k by rw [namesB_length, List.length_take]; omega)
      generalize l[k] = y at *
      go_wp2_with fail
      refine (refName_any y HX.out _).mono ?_
      rintro e W1 ⟨rfl, k2⟩
      have HI1 := Lib.hid (HI.out.kept k2)
      have hll : (namesB (l.take k)).length + 1 ≤ 10000000 := by have := HL.out; omega
      clear c0 c1 c2 c3 c4 k2
      generalize nameB y = n at *
      go_wp2_with (refine wpList_ids _ rfl _ _ rfl w (namesB (l.take k)) _ rfl (HI1.out.alloc _) _ _ 1 1 [n] rfl rfl (ids_one_at (HasCells.new _ _ _ _ rfl)) hll ?_; intro v' w' HI' _; rw [← HN.out] at HI')
      go_roundw
      case rel => exact ⟨k + 1, by omega, by go_num, HI'⟩
      case measure => simp [intOf]; omega
    · have hkl : k = l.length := by omega
      subst hkl
      have HT := Lib.hid (show l.take l.length = l from List.take_length)
      rw [HT.out] at HI
      obtain ⟨A', c', rfl⟩ := HI.out.slice
      go_wp2_with fail
      go_ret
      exact ⟨A', c', rfl, CellsAt.of_own HI.out.1, HI.out.cap, fun ad h => row_new' HI.out.1 h, HI.out.2⟩

/-! ### IDs -/
end

section
open Go.ChangeShapes Go.WideShapes Go.ChangeAt Go.RowKit

theorem pre_names {l : List Bk} {ns : List Id2} (h : ns = namesB l) (k : Nat) : namesB (l.take k) = ns.take k := by rw [h, namesB_take]
theorem ref_step {l : List Bk} {ns : List Id2} (h : ns = namesB l) {k : Nat} (hk : k < l.length) (hy : mayTo l k = true) : mayTo l (k + 1) = (!standsN (ns.take k) (ns[k]'(by rw [h, namesB_length]; exact hk)) && rightB (l.take k) l[k]) := by
  subst h
  rw [may_step hk hy, namesB_take]
  congr 3
  simp [namesB]
theorem pre_may {l : List Bk} {k : Nat} (hk : k ≤ l.length) (hy : mayTo l k = true) : mayB (l.take k) = true := by
  unfold mayB
  rw [List.length_take, Nat.min_eq_left hk, mayTo_take _ _ _ (Nat.le_refl _)]
  exact hy
theorem may_slot {l : List Bk} (h : mayB l = true) : ∀ (n i : Nat) (hi : i < l.length), i ≤ n → 0 < l[i].s := by
  intro n
  induction n with
  | zero =>
    intro i hi h0
    rcases may_parent h hi with ⟨j, hj, _⟩ | ⟨_, q⟩
    · omega
    · exact q
  | succ n ih =>
    intro i hi h0
    rcases may_parent h hi with ⟨j, hj, _, q⟩ | ⟨_, q⟩
    · have := ih j (by omega) (by omega); omega
    · exact q
/-- No block ahead stands in a slot below 1. -/
theorem pre_slot {l : List Bk} {k j : Nat} (hk : k ≤ l.length) (hy : mayTo l k = true) (hj : j < (l.take k).length) : 0 < (l.take k)[j].s := may_slot (pre_may hk hy) j j hj (Nat.le_refl _)
theorem pre_zero {l : List Bk} {ns : List Id2} (_ : ns = namesB l) {k : Nat} (hk : k ≤ l.length) (hy : mayTo l k = true) : posB (l.take k) zid = none := may_zero (pre_may hk hy)
theorem ref_zero (ns : List Id2) (r : Bool) : (!standsN ns zid && r) = false := by
  unfold standsN; rw [decide_eq_true (rfl : zid = zid), Bool.or_true]; rfl
theorem ref_low {l : List Bk} {x : Bk} (h : ∀ j (hj : j < l.length), 0 < l[j].s) (hs : x.s < 1) : (!false && rightB l x) = false := by
  unfold rightB slotB
  cases q : posB l x.p with
  | none => by_cases e : x.p = zid <;> simp [e]; omega
  | some j =>
    have hj := posB_lt q
    have := h j hj
    simp [hj]
    omega
theorem ref_root {l : List Bk} {x : Bk} (h : posB l zid = none) (hp : x.p = zid) (hs : 0 < x.s) : rightB l x = true := by
  unfold rightB slotB
  rw [hp, h]
  simp [hs]
theorem ref_lost {l : List Bk} {x : Bk} (q : posB l x.p = none) (hp : ¬ x.p = zid) : rightB l x = false := by
  unfold rightB slotB
  rw [q, if_neg hp]
theorem ref_right {l : List Bk} {x : Bk} {k j : Nat} (q : posB (l.take k) x.p = some j) (hjk : j < k) (hj : j < l.length) : rightB (l.take k) x = decide (l[j].s < x.s) := by
  unfold rightB slotB
  rw [q]
  simp [List.getElem?_take_of_lt hjk, hj]

attribute [local go_sem high] eqIdN eqIdZ in
set_option maxRecDepth 100000 in
set_option maxHeartbeats 3200000 in
theorem refMayIn_any (A : Option Addr) (c : Nat) (l : List Bk) (hl : l.length ≤ 1000000) (N : Option Addr) (cn : Nat) (ns : List Id2) (hns : ns = namesB l) (hcn : ns.length ≤ cn) (w : World) (hA : CellsAt w w.heap.size A (blockCells l)) (hN : CellsAt w w.heap.size N (idsCells ns)) :
    Calls Tryz.prog 60 #[.slice A l.length c, .slice N ns.length cn] w fun e w' => e = .returned (.bool (mayB l)) ∧ Kept w w' := by
  have HA := Lib.hid hA
  have HN := Lib.hid hN
  have HNs := Lib.hid hns
  have HL := Lib.hid (show ns.length = l.length by rw [hns, namesB_length])
  clear hA hN hns
  go_enter Tryz.func60, Tryz.ntmps60
  go_wp2_with fail
  go_loopw [5] (fun i w' => ∃ k : Nat, k ≤ l.length ∧ i = .int .i64 k ∧ Kept w w' ∧ mayTo l k = true) (fun i _ => l.length - (intOf i).toNat)
  case atStart => exact ⟨0, by omega, rfl, Kept.refl _, rfl⟩
  case round =>
    obtain ⟨k, hk, rfl, hKr, hy⟩ := hrel
    have HR := Lib.hid hKr
    have HY := Lib.hid hy
    clear hKr hy
    by_cases hlt : k < l.length
    · have hnl : k < ns.length := by rw [HL.out]; exact hlt
      have HO := Lib.hid (ref_step HNs.out hlt HY.out)
      have HPre := Lib.hid (fun j => pre_slot (j := j) (Nat.le_of_lt hlt) HY.out)
      have HZn := Lib.hid (pre_zero HNs.out (Nat.le_of_lt hlt) HY.out)
      have HT := Lib.hid (pre_names HNs.out k)
      obtain ⟨z, o, rfl, hb, c0, c1, c2, c3, c4⟩ := block_at (HA.out.kept HR.out) hlt
      obtain ⟨z2, o2, rfl, hb2, e0, e1⟩ := id_at (HN.out.kept HR.out) hnl
      have hn7 : ns.length ≤ 10000000 := by rw [HL.out]; omega
      have HAr := Lib.hid ((HA.out.kept HR.out).kept ((Kept.refl wr).alloc (.cells #[.int .i64 l[k].s, .int .i64 l[k].f, .int .u64 l[k].p.1, .int .u64 l[k].p.2, .int .u64 l[k].t] 54)))
      have HNr := Lib.hid ((HN.out.kept HR.out).kept ((Kept.refl wr).alloc (.cells #[.int .i64 l[k].s, .int .i64 l[k].f, .int .u64 l[k].p.1, .int .u64 l[k].p.2, .int .u64 l[k].t] 54)))
      have hup := fun w => upto_ids (some ⟨z2, o2, none⟩) ns.length cn k (by omega) w
      generalize l[k] = x at *
      generalize ns[k] = n at *
      go_wp2_with fail
      have HB := Lib.hid (HasCells.new wr #[.int .i64 x.s, .int .i64 x.f, .int .u64 x.p.1, .int .u64 x.p.2, .int .u64 x.t] 54 wr.heap.size rfl)
      have K1 := Lib.hid ((Kept.refl wr).alloc (.cells #[.int .i64 x.s, .int .i64 x.f, .int .u64 x.p.1, .int .u64 x.p.2, .int .u64 x.t] 54))
      clear c0 c1 c2 c3 c4
      generalize wr.alloc (.cells #[.int .i64 x.s, .int .i64 x.f, .int .u64 x.p.1, .int .u64 x.p.2, .int .u64 x.t] 54) = W1 at *
      have HE0 := Lib.hid (show ∀ w', Kept W1 w' → w'.cell? ⟨z2, o2 + k * 2, none⟩ = some (.int .u64 n.1) ∧ w'.cell? ⟨z2, o2 + k * 2 + 1, none⟩ = some (.int .u64 n.2) from fun w' kk => ⟨((K1.out.trans kk).cell (p := ⟨z2, o2 + k * 2, none⟩) hb2).trans e0, ((K1.out.trans kk).cell (p := ⟨z2, o2 + k * 2 + 1, none⟩) hb2).trans e1⟩)
      clear e0 e1
      obtain ⟨e0, e1⟩ := HE0.out W1 (Kept.refl _)
      generalize wr.heap.size = zb at *
      obtain ⟨b0, b1, b2, b3, b4⟩ := HB.out.five
      have hge : (0 : Int) ≤ (k : Int) := by omega
      have hkn : (k : Int) < (ns.length : Int) := by omega
      have HAt := Lib.hid (fun w' (h : Kept W1 w') => refAt_take (some ⟨z2, o2, none⟩) cn ns k (Nat.le_of_lt hnl) hn7 n w' (HNr.out.kept h))
      have HKP := Lib.hid (show ∀ w1 w2 : World, (w1.cell? ⟨z2, o2 + k * 2, none⟩ = some (.int .u64 n.1) ∧ w1.cell? ⟨z2, o2 + k * 2 + 1, none⟩ = some (.int .u64 n.2) ∧ w1.cell? ⟨zb, 0, none⟩ = some (.int .i64 x.s) ∧ Kept W1 w1) → Kept w1 w2 → (w2.cell? ⟨z2, o2 + k * 2, none⟩ = some (.int .u64 n.1) ∧ w2.cell? ⟨z2, o2 + k * 2 + 1, none⟩ = some (.int .u64 n.2) ∧ w2.cell? ⟨zb, 0, none⟩ = some (.int .i64 x.s) ∧ Kept W1 w2) from fun w1 w2 h kk => by
        have kp := h.2.2.2.trans kk
        obtain ⟨e0, e1⟩ := HE0.out w2 kp
        exact ⟨e0, e1, (HB.out.kept kp).at0, kp⟩)
      by_cases hz : n = zid
      · have HE := Lib.hid (show mayB l = false from mayTo_no hlt (by rw [HO.out, hz]; exact ref_zero _ _))
        have hz1 : isZ n = true := decide_eq_true hz
        clear hz
        go_quiet (fail)
        go_wp2_with fail
        go_ret
        exact ⟨by rw [HE.out]; rfl, (HR.out.trans K1.out).drewN _⟩
      · have hz1 : isZ n = false := decide_eq_false hz
        cases q : posN (ns.take k) n with
        | some j =>
          have HE := Lib.hid (show mayB l = false from mayTo_no hlt (by rw [HO.out, standsN_hit q]; rfl))
          have HV := Lib.hid (show posV (ns.take k) n = (j : Int) by unfold posV; rw [q])
          have hj0 : (0 : Int) ≤ (j : Int) := by omega
          have hj1 : decide ((0 : Int) ≤ (j : Int)) = true := decide_eq_true hj0
          clear hz q
          refine wp_region_noPanic ?_
          refine wp_region_held_drew (S := (fun w' => w'.cell? ⟨z2, o2 + k * 2, none⟩ = some (.int .u64 n.1) ∧ w'.cell? ⟨z2, o2 + k * 2 + 1, none⟩ = some (.int .u64 n.2) ∧ w'.cell? ⟨zb, 0, none⟩ = some (.int .i64 x.s) ∧ Kept W1 w')) (by kernel_rfl) ?_ (fun hHeld => ?_)
          · exact ⟨e0, e1, b0, (Kept.refl _).drew⟩
          refine wpAnyH_take (i := 0) (v := ?_) (by simp only [List.getElem?_toArray, List.getElem?_cons_zero]; rfl) (by kernel_rfl) (by kernel_rfl) (by kernel_rfl) (fun _ _ _ h => h) (Or.inl ⟨by rfl, ?_⟩) (by assumption) ?_
          rotate_left
          · intro w hSw
            (try dsimp only at hSw)
            go_simp
            (try with_reducible rfl)
          simp only [Act.put, List.setIfInBounds_toArray, List.set_cons_zero, List.set_cons_succ]
          refine wpAnyH_take (i := 1) (v := ?_) (by simp only [List.getElem?_toArray, List.getElem?_cons_succ, List.getElem?_cons_zero]; rfl) (by kernel_rfl) (by kernel_rfl) (by kernel_rfl) (fun _ _ _ h => h) (Or.inl ⟨by rfl, ?_⟩) (by assumption) ?_
          rotate_left
          · intro w hSw
            (try dsimp only at hSw)
            go_simp
            (try with_reducible rfl)
          simp only [Act.put, List.setIfInBounds_toArray, List.set_cons_zero, List.set_cons_succ]
          refine wpAnyH_take (i := 2) (v := ?_) (by simp only [List.getElem?_toArray, List.getElem?_cons_succ, List.getElem?_cons_zero]; rfl) (by kernel_rfl) (by kernel_rfl) (by kernel_rfl) (fun _ _ _ h => h) (Or.inl ⟨by rfl, ?_⟩) (by assumption) ?_
          rotate_left
          · intro w hSw
            (try dsimp only at hSw)
            go_simp
            (try with_reducible rfl)
          simp only [Act.put, List.setIfInBounds_toArray, List.set_cons_zero, List.set_cons_succ]
          refine wpAnyH_take (i := 3) (v := ?_) (by simp only [List.getElem?_toArray, List.getElem?_cons_succ, List.getElem?_cons_zero]; rfl) (by kernel_rfl) (by kernel_rfl) (by kernel_rfl) (fun _ _ _ h => h) (Or.inl ⟨by rfl, ?_⟩) (by assumption) ?_
          rotate_left
          · intro w hSw
            (try dsimp only at hSw)
            go_simp
            (try with_reducible rfl)
          simp only [Act.put, List.setIfInBounds_toArray, List.set_cons_zero, List.set_cons_succ]
          refine wpAnyH_take (i := 4) (v := ?_) (by simp only [List.getElem?_toArray, List.getElem?_cons_succ, List.getElem?_cons_zero]; rfl) (by kernel_rfl) (by kernel_rfl) (by kernel_rfl) (fun _ _ _ h => h) (Or.inl ⟨by rfl, ?_⟩) (by assumption) ?_
          rotate_left
          · intro w hSw
            (try dsimp only at hSw)
            go_simp
            (try with_reducible rfl)
          simp only [Act.put, List.setIfInBounds_toArray, List.set_cons_zero, List.set_cons_succ]
          refine wpAnyH_take (i := 5) (v := ?_) (by simp only [List.getElem?_toArray, List.getElem?_cons_succ, List.getElem?_cons_zero]; rfl) (by kernel_rfl) (by kernel_rfl) (by kernel_rfl) (fun _ _ _ h => h) (Or.inl ⟨by rfl, ?_⟩) (by assumption) ?_
          rotate_left
          · intro w hSw
            (try dsimp only at hSw)
            go_simp
            (try with_reducible rfl)
          simp only [Act.put, List.setIfInBounds_toArray, List.set_cons_zero, List.set_cons_succ]
          try simp only [hz1]
          refine wpAnyH_take (i := 6) (v := ?_) (by simp only [List.getElem?_toArray, List.getElem?_cons_succ, List.getElem?_cons_zero]; rfl) (by kernel_rfl) (by kernel_rfl) (by kernel_rfl) (fun _ _ _ h => h) (Or.inl ⟨by rfl, ?_⟩) (by assumption) ?_
          rotate_left
          · intro w hSw
            (try dsimp only at hSw)
            go_simp
            (try with_reducible rfl)
          simp only [Act.put, List.setIfInBounds_toArray, List.set_cons_zero, List.set_cons_succ]
          refine wpAnyH_take (i := 7) (v := ?_) (by simp only [List.getElem?_toArray, List.getElem?_cons_succ, List.getElem?_cons_zero]; rfl) (by kernel_rfl) (by kernel_rfl) (by kernel_rfl) (fun _ _ _ h => h) (Or.inl ⟨by rfl, ?_⟩) (by assumption) ?_
          rotate_left
          · intro w hSw
            (try dsimp only at hSw)
            go_simp
            (try with_reducible rfl)
          simp only [Act.put, List.setIfInBounds_toArray, List.set_cons_zero, List.set_cons_succ]
          refine wpAnyH_take (i := 8) (v := ?_) (by simp only [List.getElem?_toArray, List.getElem?_cons_succ, List.getElem?_cons_zero]; rfl) (by kernel_rfl) (by kernel_rfl) (by kernel_rfl) (fun _ _ _ h => h) (Or.inl ⟨by rfl, ?_⟩) (by assumption) ?_
          rotate_left
          · intro w hSw
            (try dsimp only at hSw)
            go_simp
            (try with_reducible rfl)
          simp only [Act.put, List.setIfInBounds_toArray, List.set_cons_zero, List.set_cons_succ]
          refine wpAnyH_take (i := 9) (v := ?_) (by simp only [List.getElem?_toArray, List.getElem?_cons_succ, List.getElem?_cons_zero]; rfl) (by kernel_rfl) (by kernel_rfl) (by kernel_rfl) (fun _ _ _ h => h) (Or.inl ⟨by rfl, ?_⟩) (by assumption) ?_
          rotate_left
          · intro w hSw
            (try dsimp only at hSw)
            go_simp
            (try with_reducible rfl)
          simp only [Act.put, List.setIfInBounds_toArray, List.set_cons_zero, List.set_cons_succ]
          refine wpAnyH_take (i := 10) (v := ?_) (by simp only [List.getElem?_toArray, List.getElem?_cons_succ, List.getElem?_cons_zero]; rfl) (by kernel_rfl) (by kernel_rfl) (by kernel_rfl) (fun _ _ _ h => h) (Or.inl ⟨by rfl, ?_⟩) (by assumption) ?_
          rotate_left
          · intro w hSw
            (try dsimp only at hSw)
            go_simp
            (try with_reducible rfl)
          simp only [Act.put, List.setIfInBounds_toArray, List.set_cons_zero, List.set_cons_succ]
          refine wpAnyH_take (i := 11) (v := ?_) (by simp only [List.getElem?_toArray, List.getElem?_cons_succ, List.getElem?_cons_zero]; rfl) (by kernel_rfl) (by kernel_rfl) (by kernel_rfl) (fun _ _ _ h => h) (Or.inl ⟨by rfl, ?_⟩) (by assumption) ?_
          rotate_left
          · intro w hSw
            (try dsimp only at hSw)
            go_simp
            (try with_reducible rfl)
          simp only [Act.put, List.setIfInBounds_toArray, List.set_cons_zero, List.set_cons_succ]
          refine wpAnyH_take (i := 12) (v := ?_) (by simp only [List.getElem?_toArray, List.getElem?_cons_succ, List.getElem?_cons_zero]; rfl) (by kernel_rfl) (by kernel_rfl) (by kernel_rfl) (fun _ _ _ h => h) (Or.inl ⟨by rfl, ?_⟩) (by assumption) ?_
          rotate_left
          · intro w hSw
            (try dsimp only at hSw)
            go_simp
            (try with_reducible rfl)
          simp only [Act.put, List.setIfInBounds_toArray, List.set_cons_zero, List.set_cons_succ]
          refine wpAnyH_take (i := 13) (v := ?_) (by simp only [List.getElem?_toArray, List.getElem?_cons_succ, List.getElem?_cons_zero]; rfl) (by kernel_rfl) (by kernel_rfl) (by kernel_rfl) (fun _ _ _ h => h) (Or.inl ⟨by rfl, ?_⟩) (by assumption) ?_
          rotate_left
          · intro w hSw
            (try dsimp only at hSw)
            go_simp
            (try with_reducible rfl)
          simp only [Act.put, List.setIfInBounds_toArray, List.set_cons_zero, List.set_cons_succ]
          refine wpAnyH_ready (rs := [14]) (by kernel_rfl) (by simp) ?_
          refine AllReadyH.cons (by simp only [List.getElem?_toArray, List.getElem?_cons_succ, List.getElem?_cons_zero]; rfl) (fun K hK => ?_) AllReadyH.nil
          go_simp
          go_at_call 61; with_reducible refine (HAt.out _ hHeld.2.2.2).mono ?_
          rintro e w' ⟨rfl, kk⟩
          rw [HV.out]
          try go_wp2_with fail
          refine hK.out _ _ ?_ (fun hHeld2 => ?_)
          · exact HKP.out _ _ hHeld kk
          clear hK K hHeld
          have hHeld := hHeld2
          clear hHeld2
          try simp only [Act.put, List.setIfInBounds_toArray, List.set_cons_zero, List.set_cons_succ]
          refine wpAnyH_take (i := 15) (v := ?_) (by simp only [List.getElem?_toArray, List.getElem?_cons_succ, List.getElem?_cons_zero]; rfl) (by kernel_rfl) (by kernel_rfl) (by kernel_rfl) (fun _ _ _ h => h) (Or.inl ⟨by rfl, ?_⟩) (by assumption) ?_
          rotate_left
          · intro w hSw
            (try dsimp only at hSw)
            go_simp
            (try with_reducible rfl)
          simp only [Act.put, List.setIfInBounds_toArray, List.set_cons_zero, List.set_cons_succ]
          try simp only [hj1]
          refine wpAnyH_take (i := 16) (v := ?_) (by simp only [List.getElem?_toArray, List.getElem?_cons_succ, List.getElem?_cons_zero]; rfl) (by kernel_rfl) (by kernel_rfl) (by kernel_rfl) (fun _ _ _ h => h) (Or.inl ⟨by rfl, ?_⟩) (by assumption) ?_
          rotate_left
          · intro w hSw
            (try dsimp only at hSw)
            go_simp
            (try with_reducible rfl)
          simp only [Act.put, List.setIfInBounds_toArray, List.set_cons_zero, List.set_cons_succ]
          refine wpAnyH_take (i := 17) (v := ?_) (by simp only [List.getElem?_toArray, List.getElem?_cons_succ, List.getElem?_cons_zero]; rfl) (by kernel_rfl) (by kernel_rfl) (by kernel_rfl) (fun _ _ _ h => h) (Or.inl ⟨by rfl, ?_⟩) (by assumption) ?_
          rotate_left
          · intro w hSw
            (try dsimp only at hSw)
            go_simp
            (try with_reducible rfl)
          simp only [Act.put, List.setIfInBounds_toArray, List.set_cons_zero, List.set_cons_succ]
          refine wpAnyH_take (i := 18) (v := undef) (by simp only [List.getElem?_toArray, List.getElem?_cons_succ, List.getElem?_cons_zero]; rfl) (by kernel_rfl) (by kernel_rfl) (by kernel_rfl) (fun _ _ _ h => h) (Or.inr ⟨by rfl, rfl⟩) (by assumption) ?_
          simp only [Act.put, List.setIfInBounds_toArray, List.set_cons_zero, List.set_cons_succ]
          refine wpAnyH_take (i := 19) (v := undef) (by simp only [List.getElem?_toArray, List.getElem?_cons_succ, List.getElem?_cons_zero]; rfl) (by kernel_rfl) (by kernel_rfl) (by kernel_rfl) (fun _ _ _ h => h) (Or.inr ⟨by rfl, rfl⟩) (by assumption) ?_
          simp only [Act.put, List.setIfInBounds_toArray, List.set_cons_zero, List.set_cons_succ]
          refine wpAnyH_take (i := 20) (v := undef) (by simp only [List.getElem?_toArray, List.getElem?_cons_succ, List.getElem?_cons_zero]; rfl) (by kernel_rfl) (by kernel_rfl) (by kernel_rfl) (fun _ _ _ h => h) (Or.inr ⟨by rfl, rfl⟩) (by assumption) ?_
          simp only [Act.put, List.setIfInBounds_toArray, List.set_cons_zero, List.set_cons_succ]
          refine wpAnyH_take (i := 21) (v := ?_) (by simp only [List.getElem?_toArray, List.getElem?_cons_succ, List.getElem?_cons_zero]; rfl) (by kernel_rfl) (by kernel_rfl) (by kernel_rfl) (fun _ _ _ h => h) (Or.inl ⟨by rfl, ?_⟩) (by assumption) ?_
          rotate_left
          · intro w hSw
            (try dsimp only at hSw)
            go_simp
            (try with_reducible rfl)
          simp only [Act.put, List.setIfInBounds_toArray, List.set_cons_zero, List.set_cons_succ]
          refine wpAnyH_done (by kernel_rfl) ?_ _
          refine NoPanic.normal ?_
          have hk := Lib.hid (HR.out.trans (K1.out.trans hHeld.2.2.2))
          go_wp2_with fail
          go_ret
          exact ⟨by rw [HE.out]; rfl, hk.out⟩
        | none =>
          have HV := Lib.hid (show posV (ns.take k) n = -1 by unfold posV; rw [q])
          have HST := Lib.hid (show standsN (ns.take k) n = false by rw [standsN_miss q]; exact hz1)
          clear q hz
          by_cases hs : x.s < 1
          · have HE := Lib.hid (show mayB l = false from mayTo_no hlt (by rw [HO.out, HST.out]; exact ref_low HPre.out hs))
            go_region_held3 (fun w' => w'.cell? ⟨z2, o2 + k * 2, none⟩ = some (.int .u64 n.1) ∧ w'.cell? ⟨z2, o2 + k * 2 + 1, none⟩ = some (.int .u64 n.2) ∧ w'.cell? ⟨zb, 0, none⟩ = some (.int .i64 x.s) ∧ Kept W1 w')
              (first | exact ⟨e0, e1, b0, (Kept.refl _).drew⟩ | assumption | exact HKP.out _ _ (by assumption) (by assumption))
              (first | (go_at_call 61; ((with_reducible refine (HAt.out _ ((by assumption : _ ∧ _ ∧ _ ∧ Kept W1 _).2.2.2)).mono ?_); rintro e w' ⟨rfl, kk⟩; rw [HV.out])))
            rename_i hh
            have k5 := hh.2.2.2
            clear hh
            go_wp2_with fail
            go_ret
            exact ⟨by rw [HE.out]; rfl, HR.out.trans (K1.out.trans k5)⟩
          · have HO2 := Lib.hid (show mayTo l (k + 1) = rightB (l.take k) x by rw [HO.out, HST.out]; rfl)
            go_region_held3 (fun w' => w'.cell? ⟨z2, o2 + k * 2, none⟩ = some (.int .u64 n.1) ∧ w'.cell? ⟨z2, o2 + k * 2 + 1, none⟩ = some (.int .u64 n.2) ∧ w'.cell? ⟨zb, 0, none⟩ = some (.int .i64 x.s) ∧ Kept W1 w')
              (first | exact ⟨e0, e1, b0, (Kept.refl _).drew⟩ | assumption | exact HKP.out _ _ (by assumption) (by assumption))
              (first | (go_at_call 61; ((with_reducible refine (HAt.out _ ((by assumption : _ ∧ _ ∧ _ ∧ Kept W1 _).2.2.2)).mono ?_); rintro e w' ⟨rfl, kk⟩; rw [HV.out])))
            rename_i hh
            have k5 := hh.2.2.2
            clear hh
            have HBw := Lib.hid (HB.out.kept k5)
            have HKw := Lib.hid (K1.out.trans k5)
            have HNw := Lib.hid (HNr.out.kept k5)
            have HAw := Lib.hid (HAr.out.kept k5)
            clear k5
            clear b0 b1 b2 b3 b4 e0 e1 HKP
            obtain ⟨b0, b1, b2, b3, b4⟩ := HBw.out.five
            generalize w' = W2 at *
            by_cases hp : x.p = zid
            · have hp1 : isZ x.p = true := decide_eq_true hp
              have HE := Lib.hid (show mayTo l (k + 1) = true by rw [HO2.out]; exact ref_root HZn.out hp (by omega))
              clear hp
              go_wp2_with fail
              go_roundw
              case rel => exact ⟨k + 1, by omega, by go_num, HR.out.trans HKw.out, HE.out⟩
              case measure => simp [intOf]; omega
            · have hp1 : isZ x.p = false := decide_eq_false hp
              have HP := Lib.hid hp
              clear hp
              go_wp2_with fail
              have HAp := Lib.hid (fun w' (h : Kept W2 w') => refAt_take (some ⟨z2, o2, none⟩) cn ns k (Nat.le_of_lt hnl) hn7 x.p w' (HNw.out.kept h))
              have HKP := Lib.hid (show ∀ w1 w2 : World, (w1.cell? ⟨zb, 2, none⟩ = some (.int .u64 x.p.1) ∧ w1.cell? ⟨zb, 3, none⟩ = some (.int .u64 x.p.2) ∧ Kept W2 w1) → Kept w1 w2 → (w2.cell? ⟨zb, 2, none⟩ = some (.int .u64 x.p.1) ∧ w2.cell? ⟨zb, 3, none⟩ = some (.int .u64 x.p.2) ∧ Kept W2 w2) from fun w1 w2 h kk => by
                have kp := h.2.2.trans kk
                exact ⟨(HBw.out.kept kp).at2, (HBw.out.kept kp).at3, kp⟩)
              go_region_held3 (fun w' => w'.cell? ⟨zb, 2, none⟩ = some (.int .u64 x.p.1) ∧ w'.cell? ⟨zb, 3, none⟩ = some (.int .u64 x.p.2) ∧ Kept W2 w')
                (first | exact ⟨b2, b3, (Kept.refl _).drew⟩ | assumption | exact HKP.out _ _ (by assumption) (by assumption))
                (first | (go_at_call 61; ((with_reducible refine (HAp.out _ ((by assumption : _ ∧ _ ∧ Kept W2 _).2.2)).mono ?_); rintro e w' ⟨rfl, kk⟩)))
              rename_i hh
              have k8 := hh.2.2
              have HBv := Lib.hid (HBw.out.kept k8)
              have HKv := Lib.hid (HKw.out.trans k8)
              have HAv := Lib.hid (HAw.out.kept k8)
              clear b0 b1 b2 b3 b4 hh kk k8
              obtain ⟨b0, b1, b2, b3, b4⟩ := HBv.out.five
              generalize w' = W3 at *
              cases q : posN (ns.take k) x.p with
              | none =>
                have HVp := Lib.hid (show posV (ns.take k) x.p = -1 by unfold posV; rw [q])
                have HE := Lib.hid (show mayB l = false from mayTo_no hlt (by rw [HO2.out]; exact ref_lost (by unfold posB; rw [HT.out]; exact q) HP.out))
                clear q
                rw [HVp.out]
                go_wp2_with fail
                go_quiet (fail)
                go_wp2_with fail
                go_ret
                exact ⟨by rw [HE.out]; rfl, (HR.out.trans HKv.out).drewN _⟩
              | some j =>
                have HVp := Lib.hid (show posV (ns.take k) x.p = (j : Int) by unfold posV; rw [q])
                have hjk : j < k := by have := posN_lt q; rw [List.length_take] at this; omega
                have hjl : j < l.length := by omega
                have HRg := Lib.hid (show rightB (l.take k) x = decide (l[j].s < x.s) from ref_right (by unfold posB; rw [HT.out]; exact q) hjk hjl)
                obtain ⟨z', o', ea, _, f0, _⟩ := block_at HAv.out hjl
                cases ea
                have hj0 : (0 : Int) ≤ (j : Int) := by omega
                have hj1 : (j : Int) < (l.length : Int) := by omega
                have hj2 : ¬ (j : Int) < 0 := by omega
                have hj3 : decide ((j : Int) < 0) = false := decide_eq_false hj2
                clear q
                rw [HVp.out]
                by_cases hle : l[j].s < x.s
                · have HE := Lib.hid (show mayTo l (k + 1) = true by rw [HO2.out, HRg.out]; exact decide_eq_true hle)
                  have hle2 : ¬ x.s ≤ l[j].s := by omega
                  have hle3 : decide (x.s ≤ l[j].s) = false := decide_eq_false hle2
                  generalize l[j].s = sj at *
                  go_wp2_with fail
                  go_quiet (fail)
                  go_wp2_with fail
                  go_roundw
                  case rel => exact ⟨k + 1, by omega, by go_num, (HR.out.trans HKv.out).drewN _, HE.out⟩
                  case measure => simp [intOf]; omega
                · have HE := Lib.hid (show mayB l = false from mayTo_no hlt (by rw [HO2.out, HRg.out]; exact decide_eq_false hle))
                  have hle2 : x.s ≤ l[j].s := by omega
                  have hle3 : decide (x.s ≤ l[j].s) = true := decide_eq_true hle2
                  generalize l[j].s = sj at *
                  go_wp2_with fail
                  go_quiet (fail)
                  go_wp2_with fail
                  go_ret
                  exact ⟨by rw [HE.out]; rfl, (HR.out.trans HKv.out).drewN _⟩
    · have hkl : k = l.length := by omega
      subst hkl
      go_wp2_with fail
      go_ret
      exact ⟨by rw [show mayB l = true from HY.out]; rfl, HR.out⟩
end

section
open Go.ChangeShapes Go.WideShapes Go.ChangeAt Go.RowKit

theorem findC_pos {l : List Bk} (x : Id2) (h : mayB l = true) : findC l x = posV (namesB l) x := by unfold findC posV; rw [if_pos h]; rfl
theorem slotC_hit {l : List Bk} {x : Id2} {i : Nat} (h : mayB l = true) (q : posB l x = some i) : slotC l x = ((l[i]'(posB_lt q)).s, true) := by
  unfold slotC; rw [if_pos h, slotB_hit q]
theorem slotC_root {l : List Bk} {x : Id2} (h : mayB l = true) (q : posB l x = none) (e : x = zid) : slotC l x = (0, true) := by
  unfold slotC; rw [if_pos h, slotB_miss q, if_pos e]
theorem slotC_miss {l : List Bk} {x : Id2} (h : mayB l = true) (q : posB l x = none) (e : ¬ x = zid) : slotC l x = (0, false) := by
  unfold slotC; rw [if_pos h, slotB_miss q, if_neg e]
/-! ### Kids -/
theorem Ids.drewN {W w : World} {l : List Id2} {v : Value} (h : Ids W l v w) (n : Nat) : Ids W l v (w.drewN n) := h.kept ((Kept.refl w).drewN n)
end

section
open Go.ChangeShapes Go.WideShapes Go.ChangeAt Go.RowKit

/-- What stays along a chain: the id's two cells in block z, the names, all that lay in w; rows of one's own lie from base on. -/
structure AlongR (ns : List Id2) (N : Option Addr) (w : World) (base : Nat) (cur : Id2) (w' : World) : Prop where
  zb : w.heap.size < base
  size : base ≤ w'.heap.size
  cells : HasCells w' w.heap.size [.int .u64 cur.1, .int .u64 cur.2]
  f0 : w'.frozen? ⟨w.heap.size, 0, none⟩ = false
  f1 : w'.frozen? ⟨w.heap.size, 1, none⟩ = false
  names : CellsAt w' base N (idsCells ns)
  nz : ∀ ad, N = some ad → w.heap.size < ad.block
  kept : Kept w w'
theorem AlongR.grown {ns : List Id2} {N : Option Addr} {w : World} {base : Nat} {cur : Id2} {w' w2 : World} {row : Option Nat} (h : AlongR ns N w base cur w') (g : w'.grownBy w2 row) (hr : ∀ k, row = some k → base ≤ k) : AlongR ns N w base cur w2 where
  zb := h.zb
  size := Nat.le_trans h.size g.size
  cells := ⟨Nat.lt_of_lt_of_le h.cells.1 g.size, fun j u hu => g.cell (h.cells.2 j u hu) (fun e => by have := hr _ e.symm; have := h.zb; simp at *; omega)⟩
  f0 := (g.frozen_far _ h.cells.1 (fun e => by have := hr _ e.symm; have := h.zb; simp at *; omega)).trans h.f0
  f1 := (g.frozen_far _ h.cells.1 (fun e => by have := hr _ e.symm; have := h.zb; simp at *; omega)).trans h.f1
  names := h.names.keep (fun p hp => g.cell_far p (Nat.lt_of_lt_of_le hp h.size) (fun e => by have := hr _ e.symm; omega))
  nz := h.nz
  kept := h.kept.grown g (fun k hk => by have := hr k hk; have := h.zb; omega)
theorem AlongR.alloc {ns : List Id2} {N : Option Addr} {w : World} {base : Nat} {cur : Id2} {w' : World} (h : AlongR ns N w base cur w') (o : Obj) : AlongR ns N w base cur (w'.alloc o) :=
  h.grown (World.grownBy_alloc w' o none) (fun _ e => by cases e)
theorem AlongR.keep {ns : List Id2} {N : Option Addr} {w : World} {base : Nat} {cur : Id2} {w' w2 : World} (h : AlongR ns N w base cur w') (k : Kept w' w2) : AlongR ns N w base cur w2 where
  zb := h.zb
  size := Nat.le_trans h.size k.size_le
  cells := h.cells.kept k
  f0 := (k.frozen h.cells.1).trans h.f0
  f1 := (k.frozen h.cells.1).trans h.f1
  names := h.names.keep (fun p hp => k.cell (Nat.lt_of_lt_of_le hp h.size))
  nz := h.nz
  kept := h.kept.trans k
theorem AlongR.set {ns : List Id2} {N : Option Addr} {w : World} {base : Nat} {cur : Id2} {w' : World} (h : AlongR ns N w base cur w') (p : Id2) :
    AlongR ns N w base p ((w'.setCell ⟨w.heap.size, 0, none⟩ (.int .u64 p.1)).setCell ⟨w.heap.size, 1, none⟩ (.int .u64 p.2)) where
  zb := h.zb
  size := by simpa using h.size
  cells := by
    refine ⟨by simpa using h.cells.1, fun j u hu => ?_⟩
    have c0 := h.cells.at0
    have c1 := h.cells.at1
    match j, hu with
    | 0, hu =>
      cases hu
      rw [World.cell?_setCell_other _ _ _ _ (by simp), World.cell?_setCell_same' _ _ _ (by simp [c0])]
    | 1, hu =>
      cases hu
      rw [World.cell?_setCell_same' _ _ _ (by rw [World.cell?_setCell_other _ _ _ _ (by simp)]; simp [c1])]
    | j + 2, hu => simp at hu
  f0 := by simpa using h.f0
  f1 := by simpa using h.f1
  names := fun j u hu => by
    obtain ⟨ad, e, hb, hc⟩ := h.names j u hu
    have hne := h.nz ad e
    refine ⟨ad, e, hb, ?_⟩
    have hb2 : (ad.add j).block = ad.block := block_add ad j
    rw [World.cell?_setCell_other _ _ _ _ (fun q => by have := congrArg Addr.block q; simp at this; omega), World.cell?_setCell_other _ _ _ _ (fun q => by have := congrArg Addr.block q; simp at this; omega)]
    exact hc
  nz := h.nz
  kept := (h.kept.setCell (p := ⟨w.heap.size, 0, none⟩) (Nat.le_refl _) _).setCell (p := ⟨w.heap.size, 1, none⟩) (Nat.le_refl _) _

theorem row_kept' {W W' : World} {base : Nat} {e : TypeId} {size n : Nat} {v : Value} {xs : List Value} (h : W.ownsRow base e size v n xs) (k : Kept W W') : W'.ownsRow base e size v n xs := by
  refine ⟨h.1, ?_⟩
  rcases h.2 with h2 | ⟨g, cap, cur, hv, hg, hh, r⟩
  · exact Or.inl h2
  · exact Or.inr ⟨g, cap, cur, hv, hg, by rw [k.heap (h.lt g (by rw [hv]; rfl)).2]; exact hh, r⟩
theorem posV_rank (l : List Bk) (x : Id2) : posV (namesB l) x + 1 = (rank l x : Int) := by
  unfold posV rank posB
  cases posN (namesB l) x with
  | none => rfl
  | some i => simp
theorem chain_may_head {l : List Bk} {x : Id2} (h : mayB l = true) (hs : standsB l x = true) : chainC l x = [] ++ chainB l x := chainC_yes h hs

attribute [local go_sem high] eqIdZ in
set_option maxRecDepth 100000 in
set_option maxHeartbeats 3200000 in
theorem refChain_any (A : Option Addr) (c : Nat) (l : List Bk) (hl : l.length ≤ 1000000) (hw : WfL l) (x : Id2) (w : World) (hA : CellsAt w w.heap.size A (blockCells l)) :
    Calls Tryz.prog 33 #[.slice A l.length c, .agg #[.int .u64 x.1, .int .u64 x.2]] w (IdsNew (chainC l x) w) := by
  have HA0 := Lib.hid hA
  have HA := Lib.hid (hA.kept ((Kept.refl w).alloc (.cells #[.int .u64 x.1, .int .u64 x.2] 31)))
  have HC := Lib.hid (HasCells.new w #[.int .u64 x.1, .int .u64 x.2] 31 w.heap.size rfl)
  have HF0 := Lib.hid (show ∀ j, (w.alloc (.cells #[.int .u64 x.1, .int .u64 x.2] 31)).frozen? ⟨w.heap.size, j, none⟩ = false by intro j; simp [go_sem])
  have HW := Lib.hid hw
  clear hA hw
  go_enter Tryz.func33, Tryz.ntmps33
  go_wp2_with fail
  have HK := Lib.hid ((Kept.refl w).alloc (.cells #[.int .u64 x.1, .int .u64 x.2] 31))
  generalize w.alloc (.cells #[.int .u64 x.1, .int .u64 x.2] 31) = W at *
  refine (refNames_any A c l hl HW.out W HA.out).mono ?_
  rintro e W1 ⟨N, cn, rfl, hN, hcn, hnew, k1⟩
  have HN := Lib.hid hN
  have K1 := Lib.hid k1
  have HNZ := Lib.hid (show ∀ ad, N = some ad → w.heap.size < ad.block from fun ad h => Nat.lt_of_lt_of_le HC.out.1 (hnew ad h))
  have hnl : (namesB l).length ≤ 10000000 := by rw [namesB_length]; omega
  clear hN k1 hnew
  go_wp2_with fail
  refine (refMayIn_any A c l hl N cn (namesB l) rfl hcn W1 (HA.out.kept K1.out) HN.out).mono ?_
  rintro e W2 ⟨rfl, k2⟩
  have K2 := Lib.hid (K1.out.trans k2)
  have HN2 := Lib.hid (HN.out.kept k2)
  obtain ⟨c0, c1⟩ := (HC.out.kept K2.out).two
  clear k2 HN K1
  go_wp2_with fail
  refine (refAtT_any N cn (namesB l) hnl x W2 HN2.out).mono ?_
  rintro e W3 ⟨rfl, k3⟩
  have K3 := Lib.hid (K2.out.trans k3)
  have HN3 := Lib.hid (HN2.out.kept k3)
  have HKW := Lib.hid (HK.out.trans K3.out)
  clear k3 HN2 K2 c0 c1
  obtain ⟨c0, c1⟩ := (HC.out.kept K3.out).two
  cases hm : mayB l with
  | false =>
    have HR := Lib.hid (chainC_no (l := l) (x := x) (fun h => by rw [hm] at h; cases h))
    clear hm
    go_wp2_with fail
    go_ret
    rw [HR.out]
    exact IdsNew.nil HKW.out
  | true =>
    have HY := Lib.hid hm
    cases hs : standsB l x with
    | false =>
      have HR := Lib.hid (chainC_no (l := l) (x := x) (fun _ => hs))
      have hp : posV (namesB l) x = -1 := by
        unfold posV
        cases q : posN (namesB l) x with
        | none => rfl
        | some i => rw [standsB_iff.2 (Or.inl ⟨i, q⟩)] at hs; cases hs
      have hz : isZ x = false := by
        cases q : isZ x with
        | false => rfl
        | true => rw [standsB_iff.2 (Or.inr (of_decide_eq_true q))] at hs; cases hs
      rw [hp]
      clear hm hs hp
      go_wp2_with fail
      go_ret
      rw [HR.out]
      exact IdsNew.nil HKW.out
    | true =>
      have HR := Lib.hid (chainC_yes hm hs)
      have HAl := Lib.hid (show AlongR (namesB l) N w W3.heap.size x W3 from ⟨(HC.out.kept K3.out).1, Nat.le_refl _, HC.out.kept K3.out, (K3.out.frozen HC.out.1).trans (HF0.out 0), (K3.out.frozen HC.out.1).trans (HF0.out 1), HN3.out, HNZ.out, HKW.out⟩)
      have HS := Lib.hid hs
      have HLx := Lib.hid (chainB_length l x)
      have HRow := Lib.hid (World.ownsRow_lit (e := 31) (base := W3.heap.size) (size := 2) W3 #[.int .u64 x.1, .int .u64 x.2] 1 (Nat.le_refl _) (by unfold maxLen; omega) rfl)
      have hcase : ∃ X : Int, posV (namesB l) x = X ∧ (X < 0 → isZ x = true) := ⟨_, rfl, fun h => by
        rcases standsB_iff.1 hs with ⟨i, q⟩ | q
        · exfalso
          unfold posV at h
          have q' : posN (namesB l) x = some i := q
          rw [q'] at h
          simp at h
          omega
        · exact decide_eq_true q⟩
      obtain ⟨X, hX, hXz⟩ := hcase
      have HX := Lib.hid hX
      rw [hX]
      clear hm hs hX
      obtain ⟨i0, hi0, hz0, hz1, hz2⟩ := info_of Tryz.infoID
      have hi0' := hi0
      clear hi0
      by_cases hneg : X < 0
      · have hz := hXz hneg
        clear hXz
        go_wp2_with fail
        have HSt := Lib.hid (HAl.out.alloc (.cells #[.int .u64 x.1, .int .u64 x.2] 31))
        generalize W3.alloc (.cells #[.int .u64 x.1, .int .u64 x.2] 31) = W4 at *
        generalize W3.heap.size = base at *
        go_loopw [7, 8] (fun i v w' => ∃ (cur : Id2) (pre : List Id2), i = .int .i64 (posV (namesB l) cur) ∧ AlongR (namesB l) N w base cur w' ∧ w'.ownsRow base 31 2 v (pre ++ [cur]).length (idsCells (pre ++ [cur])) ∧ chainC l x = pre ++ chainB l cur ∧ pre.length + (chainB l cur).length ≤ l.length + 1 ∧ standsB l cur = true) (fun i _ _ => (intOf i + 1).toNat)
        case atStart => exact ⟨x, [], by rw [HX.out], HSt.out, HRow.out, by rw [HR.out]; rfl, by have := HLx.out; simp; omega, HS.out⟩
        case round =>
          obtain ⟨cur, pre, rfl, hAl, hrow, hch, hle, hst⟩ := hrel
          have HL := Lib.hid hAl
          have HRw := Lib.hid hrow
          have HE := Lib.hid hch
          have HLE := Lib.hid hle
          clear hAl hrow hch hst HSt HRow HS HR HX
          cases q : posB l cur with
          | none =>
            have hv : posV (namesB l) cur = -1 := by
              unfold posV
              have q' : posN (namesB l) cur = none := q
              rw [q']
            have HEnd := Lib.hid (show chainC l x = pre ++ [cur] by rw [HE.out, chainB_none q])
            rw [hv]
            clear q hv hle
            obtain ⟨A', c', rfl⟩ := row_slice' HRw.out
            go_wp2_with fail
            go_ret
            rw [HEnd.out]
            exact ⟨A', c', rfl, CellsAt.of_own HRw.out, fun ad h => Nat.le_trans (Nat.le_of_lt HL.out.zb) (row_new' HRw.out h), HL.out.kept⟩
          | some i =>
            have hi := posB_lt q
            have hv : posV (namesB l) cur = (i : Int) := by
              unfold posV
              have q' : posN (namesB l) cur = some i := q
              rw [q']
            have HEnd := Lib.hid (show chainB l cur = cur :: chainB l l[i].p from chainB_some HY.out q)
            have HPs := Lib.hid (may_stands HY.out hi)
            have HRk := Lib.hid (show (posV (namesB l) l[i].p + 1).toNat < ((i : Int) + 1).toNat from by
              have h1 := rank_parent HY.out hi
              have h2 := posV_rank l l[i].p
              omega)
            have hpl : pre.length + 2 ≤ 10000000 := by
              have h1 := HEnd.out
              rw [h1] at hle
              simp at hle
              omega
            obtain ⟨z2, o2, rfl, hbz, _, _, d2, d3, _⟩ := block_at (HA0.out.kept HL.out.kept) hi
            obtain ⟨c0, c1⟩ := HL.out.cells.two
            have f0 := HL.out.f0
            have f1 := HL.out.f1
            have hls := HL.out.cells.1
            have hi0 : (0 : Int) ≤ (i : Int) := by omega
            rw [hv]
            clear q hv hle
            generalize l[i].p = p at *
            have hm1 : (pre ++ [cur]).length + 1 ≤ maxLen := by unfold maxLen; rw [List.length_append, List.length_singleton]; omega
            have hm2 : ((pre ++ [cur]).length + 1) * 16 ≤ 140737488355328 := by rw [List.length_append, List.length_singleton]; omega
            have HL1 := Lib.hid (HL.out.set p)
            have HR1 := Lib.hid (row_set HRw.out HL.out.zb p)
            obtain ⟨g0, g1⟩ := HL1.out.cells.two
            have hl1 := HL1.out.cells.1
            go_wp2_with (refine wpList_app _ rfl _ _ _ rfl base 31 i0 _ 2 16 Tryz.underlying49 hi0' hz0 hz1 hz2 rfl (by omega) _ (pre ++ [cur]).length (idsCells (pre ++ [cur])) rfl (HR1.out.alloc _) _ _ 1 1 (idsCells [p]) rfl rfl (ids_one_at (HasCells.new _ _ _ _ (by simp))) (idsCells_one _) hm1 hm2 (HL1.out.alloc _).size ?_; intro v' w2 own g _; rw [idsCells_append] at own; have HL2 := Lib.hid ((HL1.out.alloc _).grown g (fun k hk => (HR1.out.lt k hk).1)); have HR2 := Lib.hid own; clear g own; obtain ⟨g2, g3⟩ := HL2.out.cells.two; have hl2 := HL2.out.cells.1)
            refine (refAtT_any N cn (namesB l) hnl p w2 (HL2.out.names.mono HL2.out.size)).mono ?_
            rintro e W5 ⟨rfl, k5⟩
            have HL3 := Lib.hid (HL2.out.keep k5)
            have HR3 := Lib.hid (show W5.ownsRow base 31 2 v' (pre ++ [cur] ++ [p]).length (idsCells (pre ++ [cur] ++ [p])) from by
              have h := row_kept' HR2.out k5
              simpa using h)
            clear k5 c0 c1 d2 d3 f0 f1 g0 g1 g2 g3
            go_wp2_with fail
            go_roundw
            case rel => exact ⟨p, pre ++ [cur], rfl, HL3.out, HR3.out, by rw [HE.out, HEnd.out, List.append_assoc]; rfl, by have := HLE.out; rw [HEnd.out] at this; simp at this ⊢; omega, HPs.out⟩
            case measure => simpa [intOf] using HRk.out
      · clear hXz
        go_wp2_with fail
        have HSt := Lib.hid (HAl.out.alloc (.cells #[.int .u64 x.1, .int .u64 x.2] 31))
        generalize W3.alloc (.cells #[.int .u64 x.1, .int .u64 x.2] 31) = W4 at *
        generalize W3.heap.size = base at *
        go_loopw [7, 8] (fun i v w' => ∃ (cur : Id2) (pre : List Id2), i = .int .i64 (posV (namesB l) cur) ∧ AlongR (namesB l) N w base cur w' ∧ w'.ownsRow base 31 2 v (pre ++ [cur]).length (idsCells (pre ++ [cur])) ∧ chainC l x = pre ++ chainB l cur ∧ pre.length + (chainB l cur).length ≤ l.length + 1 ∧ standsB l cur = true) (fun i _ _ => (intOf i + 1).toNat)
        case atStart => exact ⟨x, [], by rw [HX.out], HSt.out, HRow.out, by rw [HR.out]; rfl, by have := HLx.out; simp; omega, HS.out⟩
        case round =>
          obtain ⟨cur, pre, rfl, hAl, hrow, hch, hle, hst⟩ := hrel
          have HL := Lib.hid hAl
          have HRw := Lib.hid hrow
          have HE := Lib.hid hch
          have HLE := Lib.hid hle
          clear hAl hrow hch hst HSt HRow HS HR HX
          cases q : posB l cur with
          | none =>
            have hv : posV (namesB l) cur = -1 := by
              unfold posV
              have q' : posN (namesB l) cur = none := q
              rw [q']
            have HEnd := Lib.hid (show chainC l x = pre ++ [cur] by rw [HE.out, chainB_none q])
            rw [hv]
            clear q hv hle
            obtain ⟨A', c', rfl⟩ := row_slice' HRw.out
            go_wp2_with fail
            go_ret
            rw [HEnd.out]
            exact ⟨A', c', rfl, CellsAt.of_own HRw.out, fun ad h => Nat.le_trans (Nat.le_of_lt HL.out.zb) (row_new' HRw.out h), HL.out.kept⟩
          | some i =>
            have hi := posB_lt q
            have hv : posV (namesB l) cur = (i : Int) := by
              unfold posV
              have q' : posN (namesB l) cur = some i := q
              rw [q']
            have HEnd := Lib.hid (show chainB l cur = cur :: chainB l l[i].p from chainB_some HY.out q)
            have HPs := Lib.hid (may_stands HY.out hi)
            have HRk := Lib.hid (show (posV (namesB l) l[i].p + 1).toNat < ((i : Int) + 1).toNat from by
              have h1 := rank_parent HY.out hi
              have h2 := posV_rank l l[i].p
              omega)
            have hpl : pre.length + 2 ≤ 10000000 := by
              have h1 := HEnd.out
              rw [h1] at hle
              simp at hle
              omega
            obtain ⟨z2, o2, rfl, hbz, _, _, d2, d3, _⟩ := block_at (HA0.out.kept HL.out.kept) hi
            obtain ⟨c0, c1⟩ := HL.out.cells.two
            have f0 := HL.out.f0
            have f1 := HL.out.f1
            have hls := HL.out.cells.1
            have hi0 : (0 : Int) ≤ (i : Int) := by omega
            rw [hv]
            clear q hv hle
            generalize l[i].p = p at *
            have hm1 : (pre ++ [cur]).length + 1 ≤ maxLen := by unfold maxLen; rw [List.length_append, List.length_singleton]; omega
            have hm2 : ((pre ++ [cur]).length + 1) * 16 ≤ 140737488355328 := by rw [List.length_append, List.length_singleton]; omega
            have HL1 := Lib.hid (HL.out.set p)
            have HR1 := Lib.hid (row_set HRw.out HL.out.zb p)
            obtain ⟨g0, g1⟩ := HL1.out.cells.two
            have hl1 := HL1.out.cells.1
            go_wp2_with (refine wpList_app _ rfl _ _ _ rfl base 31 i0 _ 2 16 Tryz.underlying49 hi0' hz0 hz1 hz2 rfl (by omega) _ (pre ++ [cur]).length (idsCells (pre ++ [cur])) rfl (HR1.out.alloc _) _ _ 1 1 (idsCells [p]) rfl rfl (ids_one_at (HasCells.new _ _ _ _ (by simp))) (idsCells_one _) hm1 hm2 (HL1.out.alloc _).size ?_; intro v' w2 own g _; rw [idsCells_append] at own; have HL2 := Lib.hid ((HL1.out.alloc _).grown g (fun k hk => (HR1.out.lt k hk).1)); have HR2 := Lib.hid own; clear g own; obtain ⟨g2, g3⟩ := HL2.out.cells.two; have hl2 := HL2.out.cells.1)
            refine (refAtT_any N cn (namesB l) hnl p w2 (HL2.out.names.mono HL2.out.size)).mono ?_
            rintro e W5 ⟨rfl, k5⟩
            have HL3 := Lib.hid (HL2.out.keep k5)
            have HR3 := Lib.hid (show W5.ownsRow base 31 2 v' (pre ++ [cur] ++ [p]).length (idsCells (pre ++ [cur] ++ [p])) from by
              have h := row_kept' HR2.out k5
              simpa using h)
            clear k5 c0 c1 d2 d3 f0 f1 g0 g1 g2 g3
            go_wp2_with fail
            go_roundw
            case rel => exact ⟨p, pre ++ [cur], rfl, HL3.out, HR3.out, by rw [HE.out, HEnd.out, List.append_assoc]; rfl, by have := HLE.out; rw [HEnd.out] at this; simp at this ⊢; omega, HPs.out⟩
            case measure => simpa [intOf] using HRk.out
end

end Go.Proofs.YtpojiijgahcidaaGreat
