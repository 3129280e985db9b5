/-
  The contract of package marigoldref03's Get.
-/
import Derived.Test.YtfbjiepnhfgmfaaWireRefGet
namespace Go.Proofs.Ytfbjiepnhfgmfaa
open Go.ChangeShapes Go.WideShapes Go.ChangeAt Go.RowKit

set_option maxHeartbeats 800000 in
theorem refGet_short (A : Option Addr) (n c : Nat) (w : World) (hn : n < 22) : Calls Try.prog 15 #[.slice A n c] w fun e w' => e = .returned (getV .none) ∧ Kept w w' := by
  have HN := Lib.hid (Noughts.new w)
  have K : Kept w ((w.alloc (.cells #[.int .i64 0, .int .i64 0, .int .u64 0, .int .u64 0, .int .u64 0] 26)).alloc (.cells #[.int .i64 0, .int .i64 0, .int .u64 0, .int .u64 0] 28)) := ((Kept.refl w).alloc _).alloc _
  go_enter Try.func15, Try.ntmps15
  go_wp2_with fail
  refine bodyPost_ret (v := getV .none) (by simp [results, Try.results15, go_sem, getV, Got.none]) rfl ⟨rfl, K⟩
set_option maxHeartbeats 800000 in
theorem refGet_bad (ad : Addr) (n c x0 : Nat) (l : List Nat) (w : World) (h22 : 22 ≤ n) (hn : n ≤ 1000) (h : Lies w l (some ad) n c) (h0 : l[0]? = some x0) (hm : made (seg l 1 4) (seg l 5 1) = false) :
    Calls Try.prog 15 #[.slice (some ad) n c] w fun e w' => e = .returned (getV .none) ∧ Kept w w' := by
  have hl := h.1
  obtain ⟨x5, h5, e5⟩ := seg_five (l := l) (by omega)
  have y5 := h.byte h5
  have y0 := h.byte h0
  have b1 := seg_lt h.2.2.1 1 4
  obtain ⟨s, hs⟩ : ∃ s, seg l 1 4 = s := ⟨_, rfl⟩
  obtain ⟨p, hp⟩ : ∃ p, seg l 6 8 = p := ⟨_, rfl⟩
  obtain ⟨q, hq⟩ : ∃ q, seg l 14 8 = q := ⟨_, rfl⟩
  obtain ⟨u, hu⟩ : ∃ u, seg l 22 8 = u := ⟨_, rfl⟩
  rw [hs] at b1
  have b2 : s < 4294967296 := b1
  rw [hs, e5] at hm
  have HS := Lib.hid hs; have HP := Lib.hid hp; have HQ := Lib.hid hq; have HU := Lib.hid hu; have HM := Lib.hid hm
  have K : Kept w ((w.alloc (.cells #[.int .i64 0, .int .i64 0, .int .u64 0, .int .u64 0, .int .u64 0] 26)).alloc (.cells #[.int .i64 0, .int .i64 0, .int .u64 0, .int .u64 0] 28)) := ((Kept.refl w).alloc _).alloc _
  have HK := Lib.hid K
  have HL := Lib.hid (h.kept K)
  have HN := Lib.hid (Noughts.new w)
  have H0 := Lib.hid h0; have H5 := Lib.hid h5
  clear hs hp hq hu hm h h0 h5 e5 hl b1 K
  go_enter Try.func15, Try.ntmps15
  go_wp2_with fail
  refine (refRead_any ad n c 1 4 l _ hn (by omega) (by omega) (by omega) HL.out).mono ?_
  rintro e w1 ⟨rfl, rfl⟩
  rw [HS.out]
  have c5 := HL.out.cell (by omega) H5.out
  have c0 := HL.out.cell0 H0.out
  go_wp2_with fail
  refine (refRead_any ad n c 6 8 l _ hn (by omega) (by omega) (by omega) HL.out).mono ?_
  rintro e w1 ⟨rfl, rfl⟩
  rw [HP.out]
  go_wp2_with fail
  refine (refRead_any ad n c 14 8 l _ hn (by omega) (by omega) (by omega) HL.out).mono ?_
  rintro e w1 ⟨rfl, rfl⟩
  rw [HQ.out]
  clear c5 c0
  have lz : w.heap.size + 1 < ((w.alloc (.cells #[.int .i64 0, .int .i64 0, .int .u64 0, .int .u64 0, .int .u64 0] 26)).alloc (.cells #[.int .i64 0, .int .i64 0, .int .u64 0, .int .u64 0] 28)).heap.size := HN.out.lv
  generalize ((w.alloc (.cells #[.int .i64 0, .int .i64 0, .int .u64 0, .int .u64 0, .int .u64 0] 26)).alloc (.cells #[.int .i64 0, .int .i64 0, .int .u64 0, .int .u64 0] 28)) = W at *
  go_wp2_with fail
  refine (refMade_any s x5 _).mono ?_
  rintro e w1 ⟨rfl, rfl⟩
  rw [HM.out]
  have i0 : (W.alloc (.cells #[.int .u64 (p : Nat), .int .u64 (q : Nat)] 24)).cell? ⟨W.heap.size, 0, none⟩ = some (.int .u64 (p : Nat)) := by simp [go_sem]
  have i1 : (W.alloc (.cells #[.int .u64 (p : Nat), .int .u64 (q : Nat)] 24)).cell? ⟨W.heap.size, 1, none⟩ = some (.int .u64 (q : Nat)) := by simp [go_sem]
  have HN5 := Lib.hid (HN.out.kept ((Kept.refl W).alloc (.cells #[.int .u64 (p : Nat), .int .u64 (q : Nat)] 24)))
  have HK5 := Lib.hid (HK.out.alloc (.cells #[.int .u64 (p : Nat), .int .u64 (q : Nat)] 24))
  have HL5 := Lib.hid (HL.out.kept ((Kept.refl W).alloc (.cells #[.int .u64 (p : Nat), .int .u64 (q : Nat)] 24)))
  have c0 := HL5.out.cell0 H0.out
  clear HN HK HL
  generalize W.alloc (.cells #[.int .u64 (p : Nat), .int .u64 (q : Nat)] 24) = W5 at *
  generalize W.heap.size = g at *
  obtain ⟨_, _, n0, n1, n2, n3, n4, m0, m1, m2, m3, nf, mf⟩ := HN5.out
  go_wp2_with fail
  all_goals
    go_wp2_with fail
    refine bodyPost_ret (v := getV .none) (by simp [results, Try.results15, go_sem, getV, Got.none, *]) rfl ⟨rfl, ?_⟩
    repeat (refine Kept.setCell ?_ (show w.heap.size ≤ _ by simp) _)
    exact HK5.out
set_option maxHeartbeats 800000 in
theorem refGet_other (ad : Addr) (n c x0 : Nat) (l : List Nat) (w : World) (h22 : 22 ≤ n) (hn : n ≤ 1000) (h : Lies w l (some ad) n c) (h0 : l[0]? = some x0) (hm : made (seg l 1 4) (seg l 5 1) = true) (h1 : x0 ≠ 1) (h2 : x0 ≠ 2) :
    Calls Try.prog 15 #[.slice (some ad) n c] w fun e w' => e = .returned (getV .none) ∧ Kept w w' := by
  have hl := h.1
  obtain ⟨x5, h5, e5⟩ := seg_five (l := l) (by omega)
  have y5 := h.byte h5
  have y0 := h.byte h0
  have b1 := seg_lt h.2.2.1 1 4
  obtain ⟨s, hs⟩ : ∃ s, seg l 1 4 = s := ⟨_, rfl⟩
  obtain ⟨p, hp⟩ : ∃ p, seg l 6 8 = p := ⟨_, rfl⟩
  obtain ⟨q, hq⟩ : ∃ q, seg l 14 8 = q := ⟨_, rfl⟩
  obtain ⟨u, hu⟩ : ∃ u, seg l 22 8 = u := ⟨_, rfl⟩
  rw [hs] at b1
  have b2 : s < 4294967296 := b1
  rw [hs, e5] at hm
  have HS := Lib.hid hs; have HP := Lib.hid hp; have HQ := Lib.hid hq; have HU := Lib.hid hu; have HM := Lib.hid hm
  have K : Kept w ((w.alloc (.cells #[.int .i64 0, .int .i64 0, .int .u64 0, .int .u64 0, .int .u64 0] 26)).alloc (.cells #[.int .i64 0, .int .i64 0, .int .u64 0, .int .u64 0] 28)) := ((Kept.refl w).alloc _).alloc _
  have HK := Lib.hid K
  have HL := Lib.hid (h.kept K)
  have HN := Lib.hid (Noughts.new w)
  have H0 := Lib.hid h0; have H5 := Lib.hid h5
  have z1 : ((x0 : Int) == 1) = false := beq_eq_false_iff_ne.2 (by omega)
  have z2 : ((x0 : Int) == 2) = false := beq_eq_false_iff_ne.2 (by omega)
  clear hs hp hq hu hm h h0 h5 e5 hl b1 K
  go_enter Try.func15, Try.ntmps15
  go_wp2_with fail
  refine (refRead_any ad n c 1 4 l _ hn (by omega) (by omega) (by omega) HL.out).mono ?_
  rintro e w1 ⟨rfl, rfl⟩
  rw [HS.out]
  have c5 := HL.out.cell (by omega) H5.out
  have c0 := HL.out.cell0 H0.out
  go_wp2_with fail
  refine (refRead_any ad n c 6 8 l _ hn (by omega) (by omega) (by omega) HL.out).mono ?_
  rintro e w1 ⟨rfl, rfl⟩
  rw [HP.out]
  go_wp2_with fail
  refine (refRead_any ad n c 14 8 l _ hn (by omega) (by omega) (by omega) HL.out).mono ?_
  rintro e w1 ⟨rfl, rfl⟩
  rw [HQ.out]
  clear c5 c0
  have lz : w.heap.size + 1 < ((w.alloc (.cells #[.int .i64 0, .int .i64 0, .int .u64 0, .int .u64 0, .int .u64 0] 26)).alloc (.cells #[.int .i64 0, .int .i64 0, .int .u64 0, .int .u64 0] 28)).heap.size := HN.out.lv
  generalize ((w.alloc (.cells #[.int .i64 0, .int .i64 0, .int .u64 0, .int .u64 0, .int .u64 0] 26)).alloc (.cells #[.int .i64 0, .int .i64 0, .int .u64 0, .int .u64 0] 28)) = W at *
  go_wp2_with fail
  refine (refMade_any s x5 _).mono ?_
  rintro e w1 ⟨rfl, rfl⟩
  rw [HM.out]
  have i0 : (W.alloc (.cells #[.int .u64 (p : Nat), .int .u64 (q : Nat)] 24)).cell? ⟨W.heap.size, 0, none⟩ = some (.int .u64 (p : Nat)) := by simp [go_sem]
  have i1 : (W.alloc (.cells #[.int .u64 (p : Nat), .int .u64 (q : Nat)] 24)).cell? ⟨W.heap.size, 1, none⟩ = some (.int .u64 (q : Nat)) := by simp [go_sem]
  have HN5 := Lib.hid (HN.out.kept ((Kept.refl W).alloc (.cells #[.int .u64 (p : Nat), .int .u64 (q : Nat)] 24)))
  have HK5 := Lib.hid (HK.out.alloc (.cells #[.int .u64 (p : Nat), .int .u64 (q : Nat)] 24))
  have HL5 := Lib.hid (HL.out.kept ((Kept.refl W).alloc (.cells #[.int .u64 (p : Nat), .int .u64 (q : Nat)] 24)))
  have c0 := HL5.out.cell0 H0.out
  clear HN HK HL
  generalize W.alloc (.cells #[.int .u64 (p : Nat), .int .u64 (q : Nat)] 24) = W5 at *
  generalize W.heap.size = g at *
  obtain ⟨_, _, n0, n1, n2, n3, n4, m0, m1, m2, m3, nf, mf⟩ := HN5.out
  go_wp2_with fail
  all_goals
    go_wp2_with fail
    refine bodyPost_ret (v := getV .none) (by simp [results, Try.results15, go_sem, getV, Got.none, *]) rfl ⟨rfl, ?_⟩
    repeat (refine Kept.setCell ?_ (show w.heap.size ≤ _ by simp) _)
    exact HK5.out
set_option maxHeartbeats 800000 in
theorem refGet_one (ad : Addr) (n c x0 : Nat) (l : List Nat) (w : World) (h22 : 22 ≤ n) (hn : n ≤ 1000) (h : Lies w l (some ad) n c) (h0 : l[0]? = some x0) (hm : made (seg l 1 4) (seg l 5 1) = true) (h1 : n ≠ 30) (hx : x0 = 1) :
    Calls Try.prog 15 #[.slice (some ad) n c] w fun e w' => e = .returned (getV .none) ∧ Kept w w' := by
  have hl := h.1
  obtain ⟨x5, h5, e5⟩ := seg_five (l := l) (by omega)
  have y5 := h.byte h5
  have y0 := h.byte h0
  have b1 := seg_lt h.2.2.1 1 4
  obtain ⟨s, hs⟩ : ∃ s, seg l 1 4 = s := ⟨_, rfl⟩
  obtain ⟨p, hp⟩ : ∃ p, seg l 6 8 = p := ⟨_, rfl⟩
  obtain ⟨q, hq⟩ : ∃ q, seg l 14 8 = q := ⟨_, rfl⟩
  obtain ⟨u, hu⟩ : ∃ u, seg l 22 8 = u := ⟨_, rfl⟩
  rw [hs] at b1
  have b2 : s < 4294967296 := b1
  rw [hs, e5] at hm
  subst hx
  have HS := Lib.hid hs; have HP := Lib.hid hp; have HQ := Lib.hid hq; have HU := Lib.hid hu; have HM := Lib.hid hm
  have K : Kept w ((w.alloc (.cells #[.int .i64 0, .int .i64 0, .int .u64 0, .int .u64 0, .int .u64 0] 26)).alloc (.cells #[.int .i64 0, .int .i64 0, .int .u64 0, .int .u64 0] 28)) := ((Kept.refl w).alloc _).alloc _
  have HK := Lib.hid K
  have HL := Lib.hid (h.kept K)
  have HN := Lib.hid (Noughts.new w)
  have H0 := Lib.hid h0; have H5 := Lib.hid h5
  have z1 : ((n : Int) == 30) = false := beq_eq_false_iff_ne.2 (by omega)
  clear hs hp hq hu hm h h0 h5 e5 hl b1 K
  go_enter Try.func15, Try.ntmps15
  go_wp2_with fail
  refine (refRead_any ad n c 1 4 l _ hn (by omega) (by omega) (by omega) HL.out).mono ?_
  rintro e w1 ⟨rfl, rfl⟩
  rw [HS.out]
  have c5 := HL.out.cell (by omega) H5.out
  have c0 := HL.out.cell0 H0.out
  go_wp2_with fail
  refine (refRead_any ad n c 6 8 l _ hn (by omega) (by omega) (by omega) HL.out).mono ?_
  rintro e w1 ⟨rfl, rfl⟩
  rw [HP.out]
  go_wp2_with fail
  refine (refRead_any ad n c 14 8 l _ hn (by omega) (by omega) (by omega) HL.out).mono ?_
  rintro e w1 ⟨rfl, rfl⟩
  rw [HQ.out]
  clear c5 c0
  have lz : w.heap.size + 1 < ((w.alloc (.cells #[.int .i64 0, .int .i64 0, .int .u64 0, .int .u64 0, .int .u64 0] 26)).alloc (.cells #[.int .i64 0, .int .i64 0, .int .u64 0, .int .u64 0] 28)).heap.size := HN.out.lv
  generalize ((w.alloc (.cells #[.int .i64 0, .int .i64 0, .int .u64 0, .int .u64 0, .int .u64 0] 26)).alloc (.cells #[.int .i64 0, .int .i64 0, .int .u64 0, .int .u64 0] 28)) = W at *
  go_wp2_with fail
  refine (refMade_any s x5 _).mono ?_
  rintro e w1 ⟨rfl, rfl⟩
  rw [HM.out]
  have i0 : (W.alloc (.cells #[.int .u64 (p : Nat), .int .u64 (q : Nat)] 24)).cell? ⟨W.heap.size, 0, none⟩ = some (.int .u64 (p : Nat)) := by simp [go_sem]
  have i1 : (W.alloc (.cells #[.int .u64 (p : Nat), .int .u64 (q : Nat)] 24)).cell? ⟨W.heap.size, 1, none⟩ = some (.int .u64 (q : Nat)) := by simp [go_sem]
  have HN5 := Lib.hid (HN.out.kept ((Kept.refl W).alloc (.cells #[.int .u64 (p : Nat), .int .u64 (q : Nat)] 24)))
  have HK5 := Lib.hid (HK.out.alloc (.cells #[.int .u64 (p : Nat), .int .u64 (q : Nat)] 24))
  have HL5 := Lib.hid (HL.out.kept ((Kept.refl W).alloc (.cells #[.int .u64 (p : Nat), .int .u64 (q : Nat)] 24)))
  have c0 := HL5.out.cell0 H0.out
  clear HN HK HL
  generalize W.alloc (.cells #[.int .u64 (p : Nat), .int .u64 (q : Nat)] 24) = W5 at *
  generalize W.heap.size = g at *
  obtain ⟨_, _, n0, n1, n2, n3, n4, m0, m1, m2, m3, nf, mf⟩ := HN5.out
  go_wp2_with fail
  all_goals
    go_wp2_with fail
    refine bodyPost_ret (v := getV .none) (by simp [results, Try.results15, go_sem, getV, Got.none, *]) rfl ⟨rfl, ?_⟩
    repeat (refine Kept.setCell ?_ (show w.heap.size ≤ _ by simp) _)
    exact HK5.out
set_option maxHeartbeats 800000 in
theorem refGet_two (ad : Addr) (n c x0 : Nat) (l : List Nat) (w : World) (h22 : 22 ≤ n) (hn : n ≤ 1000) (h : Lies w l (some ad) n c) (h0 : l[0]? = some x0) (hm : made (seg l 1 4) (seg l 5 1) = true) (h1 : n ≠ 22) (hx : x0 = 2) :
    Calls Try.prog 15 #[.slice (some ad) n c] w fun e w' => e = .returned (getV .none) ∧ Kept w w' := by
  have hl := h.1
  obtain ⟨x5, h5, e5⟩ := seg_five (l := l) (by omega)
  have y5 := h.byte h5
  have y0 := h.byte h0
  have b1 := seg_lt h.2.2.1 1 4
  obtain ⟨s, hs⟩ : ∃ s, seg l 1 4 = s := ⟨_, rfl⟩
  obtain ⟨p, hp⟩ : ∃ p, seg l 6 8 = p := ⟨_, rfl⟩
  obtain ⟨q, hq⟩ : ∃ q, seg l 14 8 = q := ⟨_, rfl⟩
  obtain ⟨u, hu⟩ : ∃ u, seg l 22 8 = u := ⟨_, rfl⟩
  rw [hs] at b1
  have b2 : s < 4294967296 := b1
  rw [hs, e5] at hm
  subst hx
  have HS := Lib.hid hs; have HP := Lib.hid hp; have HQ := Lib.hid hq; have HU := Lib.hid hu; have HM := Lib.hid hm
  have K : Kept w ((w.alloc (.cells #[.int .i64 0, .int .i64 0, .int .u64 0, .int .u64 0, .int .u64 0] 26)).alloc (.cells #[.int .i64 0, .int .i64 0, .int .u64 0, .int .u64 0] 28)) := ((Kept.refl w).alloc _).alloc _
  have HK := Lib.hid K
  have HL := Lib.hid (h.kept K)
  have HN := Lib.hid (Noughts.new w)
  have H0 := Lib.hid h0; have H5 := Lib.hid h5
  have z1 : ((n : Int) == 22) = false := beq_eq_false_iff_ne.2 (by omega)
  clear hs hp hq hu hm h h0 h5 e5 hl b1 K
  go_enter Try.func15, Try.ntmps15
  go_wp2_with fail
  refine (refRead_any ad n c 1 4 l _ hn (by omega) (by omega) (by omega) HL.out).mono ?_
  rintro e w1 ⟨rfl, rfl⟩
  rw [HS.out]
  have c5 := HL.out.cell (by omega) H5.out
  have c0 := HL.out.cell0 H0.out
  go_wp2_with fail
  refine (refRead_any ad n c 6 8 l _ hn (by omega) (by omega) (by omega) HL.out).mono ?_
  rintro e w1 ⟨rfl, rfl⟩
  rw [HP.out]
  go_wp2_with fail
  refine (refRead_any ad n c 14 8 l _ hn (by omega) (by omega) (by omega) HL.out).mono ?_
  rintro e w1 ⟨rfl, rfl⟩
  rw [HQ.out]
  clear c5 c0
  have lz : w.heap.size + 1 < ((w.alloc (.cells #[.int .i64 0, .int .i64 0, .int .u64 0, .int .u64 0, .int .u64 0] 26)).alloc (.cells #[.int .i64 0, .int .i64 0, .int .u64 0, .int .u64 0] 28)).heap.size := HN.out.lv
  generalize ((w.alloc (.cells #[.int .i64 0, .int .i64 0, .int .u64 0, .int .u64 0, .int .u64 0] 26)).alloc (.cells #[.int .i64 0, .int .i64 0, .int .u64 0, .int .u64 0] 28)) = W at *
  go_wp2_with fail
  refine (refMade_any s x5 _).mono ?_
  rintro e w1 ⟨rfl, rfl⟩
  rw [HM.out]
  have i0 : (W.alloc (.cells #[.int .u64 (p : Nat), .int .u64 (q : Nat)] 24)).cell? ⟨W.heap.size, 0, none⟩ = some (.int .u64 (p : Nat)) := by simp [go_sem]
  have i1 : (W.alloc (.cells #[.int .u64 (p : Nat), .int .u64 (q : Nat)] 24)).cell? ⟨W.heap.size, 1, none⟩ = some (.int .u64 (q : Nat)) := by simp [go_sem]
  have HN5 := Lib.hid (HN.out.kept ((Kept.refl W).alloc (.cells #[.int .u64 (p : Nat), .int .u64 (q : Nat)] 24)))
  have HK5 := Lib.hid (HK.out.alloc (.cells #[.int .u64 (p : Nat), .int .u64 (q : Nat)] 24))
  have HL5 := Lib.hid (HL.out.kept ((Kept.refl W).alloc (.cells #[.int .u64 (p : Nat), .int .u64 (q : Nat)] 24)))
  have c0 := HL5.out.cell0 H0.out
  clear HN HK HL
  generalize W.alloc (.cells #[.int .u64 (p : Nat), .int .u64 (q : Nat)] 24) = W5 at *
  generalize W.heap.size = g at *
  obtain ⟨_, _, n0, n1, n2, n3, n4, m0, m1, m2, m3, nf, mf⟩ := HN5.out
  go_wp2_with fail
  all_goals
    go_wp2_with fail
    refine bodyPost_ret (v := getV .none) (by simp [results, Try.results15, go_sem, getV, Got.none, *]) rfl ⟨rfl, ?_⟩
    repeat (refine Kept.setCell ?_ (show w.heap.size ≤ _ by simp) _)
    exact HK5.out
set_option maxHeartbeats 800000 in
theorem refGet_vote (ad : Addr) (n c x0 : Nat) (l : List Nat) (w : World) (h22 : 22 ≤ n) (hn : n ≤ 1000) (h : Lies w l (some ad) n c) (h0 : l[0]? = some x0) (hm : made (seg l 1 4) (seg l 5 1) = true) (h1 : n = 22) (hx : x0 = 2) :
    Calls Try.prog 15 #[.slice (some ad) n c] w fun e w' => e = .returned (getV (.vote (seg l 1 4) (seg l 5 1) (seg l 6 8, seg l 14 8))) ∧ Kept w w' := by
  have hl := h.1
  obtain ⟨x5, h5, e5⟩ := seg_five (l := l) (by omega)
  have y5 := h.byte h5
  have y0 := h.byte h0
  have b1 := seg_lt h.2.2.1 1 4
  obtain ⟨s, hs⟩ : ∃ s, seg l 1 4 = s := ⟨_, rfl⟩
  obtain ⟨p, hp⟩ : ∃ p, seg l 6 8 = p := ⟨_, rfl⟩
  obtain ⟨q, hq⟩ : ∃ q, seg l 14 8 = q := ⟨_, rfl⟩
  obtain ⟨u, hu⟩ : ∃ u, seg l 22 8 = u := ⟨_, rfl⟩
  rw [hs] at b1
  have b2 : s < 4294967296 := b1
  rw [hs, e5] at hm
  subst hx h1
  rw [hs, e5, hp, hq]
  have HS := Lib.hid hs; have HP := Lib.hid hp; have HQ := Lib.hid hq; have HU := Lib.hid hu; have HM := Lib.hid hm
  have K : Kept w ((w.alloc (.cells #[.int .i64 0, .int .i64 0, .int .u64 0, .int .u64 0, .int .u64 0] 26)).alloc (.cells #[.int .i64 0, .int .i64 0, .int .u64 0, .int .u64 0] 28)) := ((Kept.refl w).alloc _).alloc _
  have HK := Lib.hid K
  have HL := Lib.hid (h.kept K)
  have HN := Lib.hid (Noughts.new w)
  have H0 := Lib.hid h0; have H5 := Lib.hid h5
  clear hs hp hq hu hm h h0 h5 e5 hl b1 K
  go_enter Try.func15, Try.ntmps15
  go_wp2_with fail
  refine (refRead_any ad 22 c 1 4 l _ hn (by omega) (by omega) (by omega) HL.out).mono ?_
  rintro e w1 ⟨rfl, rfl⟩
  rw [HS.out]
  have c5 := HL.out.cell (by omega) H5.out
  have c0 := HL.out.cell0 H0.out
  go_wp2_with fail
  refine (refRead_any ad 22 c 6 8 l _ hn (by omega) (by omega) (by omega) HL.out).mono ?_
  rintro e w1 ⟨rfl, rfl⟩
  rw [HP.out]
  go_wp2_with fail
  refine (refRead_any ad 22 c 14 8 l _ hn (by omega) (by omega) (by omega) HL.out).mono ?_
  rintro e w1 ⟨rfl, rfl⟩
  rw [HQ.out]
  clear c5 c0
  have lz : w.heap.size + 1 < ((w.alloc (.cells #[.int .i64 0, .int .i64 0, .int .u64 0, .int .u64 0, .int .u64 0] 26)).alloc (.cells #[.int .i64 0, .int .i64 0, .int .u64 0, .int .u64 0] 28)).heap.size := HN.out.lv
  generalize ((w.alloc (.cells #[.int .i64 0, .int .i64 0, .int .u64 0, .int .u64 0, .int .u64 0] 26)).alloc (.cells #[.int .i64 0, .int .i64 0, .int .u64 0, .int .u64 0] 28)) = W at *
  go_wp2_with fail
  refine (refMade_any s x5 _).mono ?_
  rintro e w1 ⟨rfl, rfl⟩
  rw [HM.out]
  have i0 : (W.alloc (.cells #[.int .u64 (p : Nat), .int .u64 (q : Nat)] 24)).cell? ⟨W.heap.size, 0, none⟩ = some (.int .u64 (p : Nat)) := by simp [go_sem]
  have i1 : (W.alloc (.cells #[.int .u64 (p : Nat), .int .u64 (q : Nat)] 24)).cell? ⟨W.heap.size, 1, none⟩ = some (.int .u64 (q : Nat)) := by simp [go_sem]
  have HN5 := Lib.hid (HN.out.kept ((Kept.refl W).alloc (.cells #[.int .u64 (p : Nat), .int .u64 (q : Nat)] 24)))
  have HK5 := Lib.hid (HK.out.alloc (.cells #[.int .u64 (p : Nat), .int .u64 (q : Nat)] 24))
  have HL5 := Lib.hid (HL.out.kept ((Kept.refl W).alloc (.cells #[.int .u64 (p : Nat), .int .u64 (q : Nat)] 24)))
  have c0 := HL5.out.cell0 H0.out
  clear HN HK HL
  generalize W.alloc (.cells #[.int .u64 (p : Nat), .int .u64 (q : Nat)] 24) = W5 at *
  generalize W.heap.size = g at *
  obtain ⟨_, _, n0, n1, n2, n3, n4, m0, m1, m2, m3, nf, mf⟩ := HN5.out
  go_wp2_with fail
  go_region
  all_goals
    go_wp2_with fail
    refine bodyPost_ret (v := getV (.vote s x5 (p, q))) (by simp [results, Try.results15, go_sem, getV, Got.vote, *]) rfl ⟨rfl, ?_⟩
    refine Kept.drew ?_
    repeat (refine Kept.setCell ?_ (show w.heap.size ≤ _ by simp) _)
    exact HK5.out
set_option maxHeartbeats 800000 in
theorem refGet_block (ad : Addr) (n c x0 : Nat) (l : List Nat) (w : World) (h22 : 22 ≤ n) (hn : n ≤ 1000) (h : Lies w l (some ad) n c) (h0 : l[0]? = some x0) (hm : made (seg l 1 4) (seg l 5 1) = true) (h1 : n = 30) (hx : x0 = 1) :
    Calls Try.prog 15 #[.slice (some ad) n c] w fun e w' => e = .returned (getV (.block (seg l 1 4) (seg l 5 1) (seg l 6 8, seg l 14 8) (seg l 22 8))) ∧ Kept w w' := by
  have hl := h.1
  obtain ⟨x5, h5, e5⟩ := seg_five (l := l) (by omega)
  have y5 := h.byte h5
  have y0 := h.byte h0
  have b1 := seg_lt h.2.2.1 1 4
  obtain ⟨s, hs⟩ : ∃ s, seg l 1 4 = s := ⟨_, rfl⟩
  obtain ⟨p, hp⟩ : ∃ p, seg l 6 8 = p := ⟨_, rfl⟩
  obtain ⟨q, hq⟩ : ∃ q, seg l 14 8 = q := ⟨_, rfl⟩
  obtain ⟨u, hu⟩ : ∃ u, seg l 22 8 = u := ⟨_, rfl⟩
  rw [hs] at b1
  have b2 : s < 4294967296 := b1
  rw [hs, e5] at hm
  subst hx h1
  rw [hs, e5, hp, hq, hu]
  have HS := Lib.hid hs; have HP := Lib.hid hp; have HQ := Lib.hid hq; have HU := Lib.hid hu; have HM := Lib.hid hm
  have K : Kept w ((w.alloc (.cells #[.int .i64 0, .int .i64 0, .int .u64 0, .int .u64 0, .int .u64 0] 26)).alloc (.cells #[.int .i64 0, .int .i64 0, .int .u64 0, .int .u64 0] 28)) := ((Kept.refl w).alloc _).alloc _
  have HK := Lib.hid K
  have HL := Lib.hid (h.kept K)
  have HN := Lib.hid (Noughts.new w)
  have H0 := Lib.hid h0; have H5 := Lib.hid h5
  clear hs hp hq hu hm h h0 h5 e5 hl b1 K
  go_enter Try.func15, Try.ntmps15
  go_wp2_with fail
  refine (refRead_any ad 30 c 1 4 l _ hn (by omega) (by omega) (by omega) HL.out).mono ?_
  rintro e w1 ⟨rfl, rfl⟩
  rw [HS.out]
  have c5 := HL.out.cell (by omega) H5.out
  have c0 := HL.out.cell0 H0.out
  go_wp2_with fail
  refine (refRead_any ad 30 c 6 8 l _ hn (by omega) (by omega) (by omega) HL.out).mono ?_
  rintro e w1 ⟨rfl, rfl⟩
  rw [HP.out]
  go_wp2_with fail
  refine (refRead_any ad 30 c 14 8 l _ hn (by omega) (by omega) (by omega) HL.out).mono ?_
  rintro e w1 ⟨rfl, rfl⟩
  rw [HQ.out]
  clear c5 c0
  have lz : w.heap.size + 1 < ((w.alloc (.cells #[.int .i64 0, .int .i64 0, .int .u64 0, .int .u64 0, .int .u64 0] 26)).alloc (.cells #[.int .i64 0, .int .i64 0, .int .u64 0, .int .u64 0] 28)).heap.size := HN.out.lv
  generalize ((w.alloc (.cells #[.int .i64 0, .int .i64 0, .int .u64 0, .int .u64 0, .int .u64 0] 26)).alloc (.cells #[.int .i64 0, .int .i64 0, .int .u64 0, .int .u64 0] 28)) = W at *
  go_wp2_with fail
  refine (refMade_any s x5 _).mono ?_
  rintro e w1 ⟨rfl, rfl⟩
  rw [HM.out]
  have i0 : (W.alloc (.cells #[.int .u64 (p : Nat), .int .u64 (q : Nat)] 24)).cell? ⟨W.heap.size, 0, none⟩ = some (.int .u64 (p : Nat)) := by simp [go_sem]
  have i1 : (W.alloc (.cells #[.int .u64 (p : Nat), .int .u64 (q : Nat)] 24)).cell? ⟨W.heap.size, 1, none⟩ = some (.int .u64 (q : Nat)) := by simp [go_sem]
  have HN5 := Lib.hid (HN.out.kept ((Kept.refl W).alloc (.cells #[.int .u64 (p : Nat), .int .u64 (q : Nat)] 24)))
  have HK5 := Lib.hid (HK.out.alloc (.cells #[.int .u64 (p : Nat), .int .u64 (q : Nat)] 24))
  have HL5 := Lib.hid (HL.out.kept ((Kept.refl W).alloc (.cells #[.int .u64 (p : Nat), .int .u64 (q : Nat)] 24)))
  have c0 := HL5.out.cell0 H0.out
  clear HN HK HL
  generalize W.alloc (.cells #[.int .u64 (p : Nat), .int .u64 (q : Nat)] 24) = W5 at *
  generalize W.heap.size = g at *
  obtain ⟨_, _, n0, n1, n2, n3, n4, m0, m1, m2, m3, nf, mf⟩ := HN5.out
  go_wp2_with fail
  go_region_with ((go_at_call 24
                   refine (refRead_any ad 30 c 22 8 l _ (by omega) (by omega) (by omega) (by omega) (HL5.out.kept (Kept.refl W5).drew)).mono ?_
                   rintro e w6 ⟨rfl, rfl⟩
                   rw [HU.out]))
  all_goals
    go_wp2_with fail
    refine bodyPost_ret (v := getV (.block s x5 (p, q) u)) (by simp [results, Try.results15, go_sem, getV, Got.block, *]) rfl ⟨rfl, ?_⟩
    refine Kept.drew ?_
    repeat (refine Kept.setCell ?_ (show w.heap.size ≤ _ by simp) _)
    exact HK5.out
theorem refGet_any (A : Option Addr) (n c : Nat) (l : List Nat) (w : World) (hn : n ≤ 1000) (h : Lies w l A n c) :
    Calls Try.prog 15 #[.slice A n c] w fun e w' => e = .returned (getV (getN l)) ∧ Kept w w' := by
  have hl := h.1
  by_cases h22 : n < 22
  · rw [getN_len (by omega) (by omega)]
    exact refGet_short A n c w h22
  · obtain ⟨ad, rfl⟩ := h.some (by omega)
    have h0 : l[0]? = some (l[0]'(by omega)) := List.getElem?_eq_getElem _
    have h22 : 22 ≤ n := by omega
    cases hm : made (seg l 1 4) (seg l 5 1)
    · rw [getN_bad hm]
      exact refGet_bad ad n c _ l w h22 hn h h0 hm
    · by_cases e1 : l[0]'(by omega) = 1
      · by_cases e2 : n = 30
        · rw [getN_block (decide_eq_true ⟨by omega, by rw [h0, e1]⟩) hm]
          exact refGet_block ad n c _ l w h22 hn h h0 hm e2 e1
        · rw [getN_none (decide_eq_false (by rw [h0, e1]; simp)) (decide_eq_false (by omega))]
          exact refGet_one ad n c _ l w h22 hn h h0 hm e2 e1
      · by_cases e2 : l[0]'(by omega) = 2
        · by_cases e3 : n = 22
          · rw [getN_vote (decide_eq_true ⟨by omega, by rw [h0, e2]⟩) hm]
            exact refGet_vote ad n c _ l w h22 hn h h0 hm e3 e2
          · rw [getN_none (decide_eq_false (by omega)) (decide_eq_false (by rw [h0, e2]; simp))]
            exact refGet_two ad n c _ l w h22 hn h h0 hm e3 e2
        · rw [getN_none (decide_eq_false (by rw [h0]; simp [e2])) (decide_eq_false (by rw [h0]; simp [e1]))]
          exact refGet_other ad n c _ l w h22 hn h h0 hm e1 e2

end Go.Proofs.Ytfbjiepnhfgmfaa
