/-
  The contracts of the calls Name, at, Names and IDs of the given package marigoldref06.
-/
import Derived.Test.YtepgbnojbomicaaTreeAwake
import Derived.Test.YtepgbnojbomicaaMixRefOf
import Derived.Test.YtepgbnojbomicaaBkRow
namespace Go.Proofs.Ytepgbnojbomicaa
open Go.ChangeShapes Go.WideShapes Go.ChangeAt Go.RowKit

set_option maxRecDepth 100000 in
set_option maxHeartbeats 1600000 in
theorem refName_any (b : Bk) (hb : WfB b) (w : World) :
    Calls Try.prog 21 #[.agg #[.int .i64 b.s, .int .i64 b.f, .int .u64 b.p.1, .int .u64 b.p.2, .int .u64 b.t]] w fun e w' => e = .returned (.agg #[.int .u64 (nameB b).1, .int .u64 (nameB b).2]) ∧ Kept w w' := by
  have HX := Lib.hid (nameL_lt hb)
  have HS := Lib.hid (wd_int b.s)
  have HF := Lib.hid (wd_int b.f)
  clear hb
  go_enter Try.func21, Try.ntmps21
  go_wp2_with fail
  rw [HS.out, HF.out]
  have H6 := Lib.hid (HasCells.new ((w.alloc (.cells #[.int .i64 b.s, .int .i64 b.f, .int .u64 b.p.1, .int .u64 b.p.2, .int .u64 b.t] 36)).alloc (.cells #[.int .u64 0, .int .u64 0] 25)) #[.int .u64 1, .int .u64 (wd b.s : Nat), .int .u64 (wd b.f : Nat), .int .u64 b.p.1, .int .u64 b.p.2, .int .u64 b.t] 23 (w.heap.size + 1 + 1) (by simp))
  have H2 := Lib.hid ((HasCells.new (w.alloc (.cells #[.int .i64 b.s, .int .i64 b.f, .int .u64 b.p.1, .int .u64 b.p.2, .int .u64 b.t] 36)) #[.int .u64 0, .int .u64 0] 25 (w.heap.size + 1) (by simp)).alloc (.cells #[.int .u64 1, .int .u64 (wd b.s : Nat), .int .u64 (wd b.f : Nat), .int .u64 b.p.1, .int .u64 b.p.2, .int .u64 b.t] 23))
  have HK := Lib.hid ((((Kept.refl w).alloc (.cells #[.int .i64 b.s, .int .i64 b.f, .int .u64 b.p.1, .int .u64 b.p.2, .int .u64 b.t] 36)).alloc (.cells #[.int .u64 0, .int .u64 0] 25)).alloc (.cells #[.int .u64 1, .int .u64 (wd b.s : Nat), .int .u64 (wd b.f : Nat), .int .u64 b.p.1, .int .u64 b.p.2, .int .u64 b.t] 23))
  have HZ := Lib.hid (show ∀ j, (((w.alloc (.cells #[.int .i64 b.s, .int .i64 b.f, .int .u64 b.p.1, .int .u64 b.p.2, .int .u64 b.t] 36)).alloc (.cells #[.int .u64 0, .int .u64 0] 25)).alloc (.cells #[.int .u64 1, .int .u64 (wd b.s : Nat), .int .u64 (wd b.f : Nat), .int .u64 b.p.1, .int .u64 b.p.2, .int .u64 b.t] 23)).frozen? ⟨w.heap.size + 1, j, none⟩ = false by intro j; simp [go_sem])
  generalize ((w.alloc (.cells #[.int .i64 b.s, .int .i64 b.f, .int .u64 b.p.1, .int .u64 b.p.2, .int .u64 b.t] 36)).alloc (.cells #[.int .u64 0, .int .u64 0] 25)).alloc (.cells #[.int .u64 1, .int .u64 (wd b.s : Nat), .int .u64 (wd b.f : Nat), .int .u64 b.p.1, .int .u64 b.p.2, .int .u64 b.t] 23) = W at *
  refine (refOf_any _ 6 6 (nameL b) rfl (by omega) W HX.out (words_six H6.out)).mono ?_
  rintro e W1 ⟨rfl, k1⟩
  have d0 := (H2.out.kept k1).at0
  have d1 := (H2.out.kept k1).at1
  have e0 : W1.frozen? ⟨w.heap.size + 1, 0, none⟩ = false := (k1.frozen H2.out.1).trans (HZ.out 0)
  have e1 : W1.frozen? ⟨w.heap.size + 1, 1, none⟩ = false := (k1.frozen H2.out.1).trans (HZ.out 1)
  have hz : w.heap.size + 1 < W1.heap.size := (H2.out.kept k1).1
  have K1 := Lib.hid (HK.out.trans k1)
  have HP := Lib.hid (show nameB b = idOf (nameL b) from rfl)
  clear k1 HZ H2 H6 HK
  generalize idOf (nameL b) = p at *
  go_wp2_with fail
  refine bodyPost_ret (v := .agg #[.int .u64 p.1, .int .u64 p.2]) (by simp [results, Try.results21, go_sem, d0, d1]) rfl ⟨by rw [HP.out], ?_⟩
  exact (K1.out.setCell (p := ⟨w.heap.size + 1, 0, none⟩) (by simp) _).setCell (p := ⟨w.heap.size + 1, 1, none⟩) (by simp) _

/-! ### at -/
attribute [local go_sem high] eqIdN in
set_option maxRecDepth 100000 in
set_option maxHeartbeats 1600000 in
theorem refAt_any (A : Option Addr) (c : Nat) (ns : List Id2) (hn : ns.length ≤ 10000000) (x : Id2) (w : World) (hA : CellsAt w w.heap.size A (idsCells ns)) :
    Calls Try.prog 31 #[.slice A ns.length c, .agg #[.int .u64 x.1, .int .u64 x.2]] w fun e w' => e = .returned (.int .i64 (posV ns x)) ∧ Kept w w' := by
  have HA := Lib.hid (hA.kept ((Kept.refl w).alloc (.cells #[.int .u64 x.1, .int .u64 x.2] 25)))
  have HC := Lib.hid (HasCells.new w #[.int .u64 x.1, .int .u64 x.2] 25 w.heap.size rfl)
  have HK := Lib.hid ((Kept.refl w).alloc (.cells #[.int .u64 x.1, .int .u64 x.2] 25))
  clear hA
  go_enter Try.func31, Try.ntmps31
  go_wp2_with fail
  generalize w.alloc (.cells #[.int .u64 x.1, .int .u64 x.2] 25) = W at *
  go_loopw [5] (fun i w' => ∃ k : Nat, k ≤ ns.length ∧ i = .int .i64 k ∧ x ∉ ns.take k ∧ Kept W w') (fun i _ => ns.length - (intOf i).toNat)
  case atStart => exact ⟨0, by omega, rfl, by simp, Kept.refl _⟩
  case round =>
    obtain ⟨k, hk, rfl, hx, hKr⟩ := hrel
    have HX := Lib.hid hx
    have HR := Lib.hid hKr
    clear hx hKr
    by_cases hlt : k < ns.length
    · obtain ⟨z, o, rfl, hb, c0, c1⟩ := id_at (HA.out.kept HR.out) hlt
      obtain ⟨d0, d1⟩ := (HC.out.kept HR.out).two
      by_cases he : ns[k] = x
      · have hs := sameI_yes he
        have HV := Lib.hid (posV_hit hlt HX.out he)
        clear he
        generalize ns[k] = y at *
        go_wp2_with fail
        go_quiet (fail)
        go_wp2_with fail
        go_ret
        exact ⟨by rw [HV.out]; rfl, (HK.out.trans HR.out).drewN _⟩
      · have hs := sameI_no he
        have HV := Lib.hid (not_in_step hlt HX.out he)
        clear he
        generalize ns[k] = y at *
        go_wp2_with fail
        go_quiet (fail)
        go_wp2_with fail
        go_roundw
        case rel => exact ⟨k + 1, by omega, by go_num, HV.out, HR.out.drewN _⟩
        case measure => simp [intOf]; omega
    · have hkl : k = ns.length := by omega
      subst hkl
      have HV := Lib.hid (posV_none (show x ∉ ns by have := HX.out; rwa [List.take_length] at this))
      go_wp2_with fail
      go_ret
      exact ⟨by rw [HV.out]; rfl, HK.out.trans HR.out⟩

/-! ### Names -/
theorem Ids.cap {W w : World} {l : List Id2} {A : Option Addr} {c : Nat} (h : Ids W l (.slice A l.length c) w) : l.length ≤ c := by
  rcases h.1.2 with ⟨hv, h0⟩ | ⟨g, cap, cur, hv, _, _, hnc, _⟩
  · rw [h0]; exact Nat.zero_le _
  · cases hv; exact hnc
theorem refAt_take (A : Option Addr) (c : Nat) (ns : List Id2) (k : Nat) (hk : k ≤ ns.length) (hn : ns.length ≤ 10000000) (x : Id2) (w : World) (hA : CellsAt w w.heap.size A (idsCells ns)) :
    Calls Try.prog 31 #[.slice A k c, .agg #[.int .u64 x.1, .int .u64 x.2]] w fun e w' => e = .returned (.int .i64 (posV (ns.take k) x)) ∧ Kept w w' := by
  have h := refAt_any A c (ns.take k) (by rw [List.length_take]; omega) x w (cells_ids_take hA k)
  rw [List.length_take, Nat.min_eq_left hk] at h
  exact h
set_option maxRecDepth 100000 in
set_option maxHeartbeats 1600000 in
theorem refNames_any (A : Option Addr) (c : Nat) (l : List Bk) (hl : l.length ≤ 1000000) (hw : WfL l) (w : World) (hA : CellsAt w w.heap.size A (blockCells l)) :
    Calls Try.prog 27 #[.slice A l.length c] w fun e w' => ∃ A' c', e = .returned (.slice A' (namesB l).length c') ∧ CellsAt w' w'.heap.size A' (idsCells (namesB l)) ∧ (namesB l).length ≤ c' ∧ (∀ ad, A' = some ad → w.heap.size ≤ ad.block) ∧ Kept w w' := by
  have HA := Lib.hid hA
  have HW := Lib.hid hw
  clear hA hw
  go_enter Try.func27, Try.ntmps27
  go_wp2_with fail
  go_loopw [3, 4] (fun v i w' => ∃ k : Nat, k ≤ l.length ∧ i = .int .i64 k ∧ Ids w (namesB (l.take k)) v w') (fun _ i _ => l.length - (intOf i).toNat)
  case atStart => exact ⟨0, by omega, rfl, Ids.nil w⟩
  case round =>
    obtain ⟨k, hk, rfl, hI⟩ := hrel
    have HI := Lib.hid hI
    clear hI
    by_cases hlt : k < l.length
    · obtain ⟨z, o, rfl, hb, c0, c1, c2, c3, c4⟩ := block_at (HA.out.kept HI.out.2) hlt
      have HX := Lib.hid (HW.out l[k] (List.getElem_mem hlt))
      have HN := Lib.hid (names_step hlt)
      have HL := Lib.hid (show (namesB (l.take k)).length = k by rw [namesB_length, List.length_take]; omega)
      generalize l[k] = y at *
      go_wp2_with fail
      refine (refName_any y HX.out _).mono ?_
      rintro e W1 ⟨rfl, k2⟩
      have HI1 := Lib.hid (HI.out.kept k2)
      have hll : (namesB (l.take k)).length + 1 ≤ 10000000 := by have := HL.out; omega
      clear c0 c1 c2 c3 c4 k2
      generalize nameB y = n at *
      go_wp2_with (refine wpList_ids _ rfl _ _ rfl w (namesB (l.take k)) _ rfl (HI1.out.alloc _) _ _ 1 1 [n] rfl rfl (ids_one_at (HasCells.new _ _ _ _ rfl)) hll ?_; intro v' w' HI' _; rw [← HN.out] at HI')
      go_roundw
      case rel => exact ⟨k + 1, by omega, by go_num, HI'⟩
      case measure => simp [intOf]; omega
    · have hkl : k = l.length := by omega
      subst hkl
      have HT := Lib.hid (show l.take l.length = l from List.take_length)
      rw [HT.out] at HI
      obtain ⟨A', c', rfl⟩ := HI.out.slice
      go_wp2_with fail
      go_ret
      exact ⟨A', c', rfl, CellsAt.of_own HI.out.1, HI.out.cap, fun ad h => row_new' HI.out.1 h, HI.out.2⟩

/-! ### IDs -/
attribute [local go_sem high] eqIdN in
set_option maxRecDepth 100000 in
set_option maxHeartbeats 1600000 in
theorem refIDs_same (A : Option Addr) (c : Nat) (A2 : Option Addr) (c2 : Nat) (ns : List Id2) (hn : ns.length ≤ 10000000) (w : World) (hA : CellsAt w w.heap.size A (idsCells ns)) (hA2 : CellsAt w w.heap.size A2 (idsCells ns)) :
    Calls Try.prog 14 #[.slice A ns.length c, .slice A2 ns.length c2] w fun e w' => e = .returned (.bool true) ∧ Kept w w' := by
  have HA := Lib.hid hA
  have HB := Lib.hid hA2
  clear hA hA2
  go_enter Try.func14, Try.ntmps14
  go_wp2_with fail
  go_loopw [5] (fun i w' => ∃ k : Nat, k ≤ ns.length ∧ i = .int .i64 k ∧ Kept w w') (fun i _ => ns.length - (intOf i).toNat)
  case atStart => exact ⟨0, by omega, rfl, Kept.refl _⟩
  case round =>
    obtain ⟨k, hk, rfl, hKr⟩ := hrel
    have HR := Lib.hid hKr
    clear hKr
    by_cases hlt : k < ns.length
    · obtain ⟨z, o, rfl, hb, c0, c1⟩ := id_at (HA.out.kept HR.out) hlt
      obtain ⟨z2, o2, rfl, hb2, d0, d1⟩ := id_at (HB.out.kept HR.out) hlt
      have hs := sameI_yes (rfl : ns[k] = ns[k])
      generalize ns[k] = y at *
      go_wp2_with fail
      go_quiet (fail)
      go_wp2_with fail
      go_roundw
      case rel => exact ⟨k + 1, by omega, by go_num, HR.out.drewN _⟩
      case measure => simp [intOf]; omega
    · have hkl : k = ns.length := by omega
      subst hkl
      go_wp2_with fail
      go_ret
      exact ⟨rfl, HR.out⟩

end Go.Proofs.Ytepgbnojbomicaa
