/-
  The contract of package wire's Get.
-/
import Derived.Test.YtfbjiepnhfgmfaaWireGet
namespace Go.Proofs.Ytfbjiepnhfgmfaa
open Go.ChangeShapes Go.WideShapes Go.ChangeAt Go.RowKit

def getV (G : Got) : Value :=
  .tuple #[.agg #[.int .i64 G.bs, .int .i64 G.bf, .int .u64 G.bp.1, .int .u64 G.bp.2, .int .u64 G.bt], .agg #[.int .i64 G.vf, .int .i64 G.vs, .int .u64 G.vp.1, .int .u64 G.vp.2], .bool G.is, .int .i64 G.err]

/-- The reader that readerOf returns, by its block b4. -/
def readerV (b4 : Nat) : Value := .agg #[.func (.func 26) #[] #[.pointer (some ⟨b4, 0, none⟩)], .func (.func 27) #[] #[.pointer (some ⟨b4, 0, none⟩)], .func (.func 28) #[] #[.pointer (some ⟨b4, 0, none⟩)]]
def ReaderEnd (W : World) (x : List Nat) (ad : Addr) (n c : Nat) (e : Ending) (w : World) : Prop := ∃ b1 b3 b4 : Nat, e = .returned (readerV b4) ∧ Reads W x ad n c b1 b3 b4 0 w
theorem readerOf_end (x : List Nat) (ad : Addr) (n c : Nat) (w : World) (hl : x.length = n) (h : LiesAt w w.heap.size ad x) : Calls Try.prog 23 #[.slice (some ad) n c] w (ReaderEnd w x ad n c) :=
  (readerOf_any x ad n c w hl h).mono fun _ _ ⟨he, hr⟩ => ⟨_, _, _, he, hr⟩
/-- Block r holds the reader. -/
def Has3 (w : World) (r b4 : Nat) : Prop := r < w.heap.size ∧ w.cell? ⟨r, 0, none⟩ = some (.func (.func 26) #[] #[.pointer (some ⟨b4, 0, none⟩)]) ∧
  w.cell? ⟨r, 1, none⟩ = some (.func (.func 27) #[] #[.pointer (some ⟨b4, 0, none⟩)]) ∧ w.cell? ⟨r, 2, none⟩ = some (.func (.func 28) #[] #[.pointer (some ⟨b4, 0, none⟩)])
theorem Has3.grown {w w' : World} {r b4 b3 : Nat} (h : Has3 w r b4) (g : w.grownBy w' (some b3)) (hr : r ≠ b3) : Has3 w' r b4 :=
  ⟨Nat.lt_of_lt_of_le h.1 g.size, (g.cell_far _ h.1 (by simpa using hr)).trans h.2.1, (g.cell_far _ h.1 (by simpa using hr)).trans h.2.2.1, (g.cell_far _ h.1 (by simpa using hr)).trans h.2.2.2⟩
theorem Has3.new (w : World) (b4 : Nat) : Has3 (w.alloc (.cells #[.func (.func 26) #[] #[.pointer (some ⟨b4, 0, none⟩)], .func (.func 27) #[] #[.pointer (some ⟨b4, 0, none⟩)], .func (.func 28) #[] #[.pointer (some ⟨b4, 0, none⟩)]] 52)) w.heap.size b4 :=
  ⟨by simp, by simp [go_sem], by simp [go_sem], by simp [go_sem]⟩
theorem Reads.pos_lt {W : World} {x : List Nat} {ad : Addr} {n c b1 b3 b4 k : Nat} {w : World} (h : Reads W x ad n c b1 b3 b4 k w) : b3 < w.heap.size := World.block_lt_of_cell? w _ h.pos
/-- The two results' cells, noughts: a block's from block b on, a vote's from block v on. -/
structure Noughts (b v : Nat) (w : World) : Prop where
  lb : b < w.heap.size
  lv : v < w.heap.size
  b0 : w.cell? ⟨b, 0, none⟩ = some (.int .i64 0)
  b1 : w.cell? ⟨b, 1, none⟩ = some (.int .i64 0)
  b2 : w.cell? ⟨b, 2, none⟩ = some (.int .u64 0)
  b3 : w.cell? ⟨b, 3, none⟩ = some (.int .u64 0)
  b4 : w.cell? ⟨b, 4, none⟩ = some (.int .u64 0)
  v0 : w.cell? ⟨v, 0, none⟩ = some (.int .i64 0)
  v1 : w.cell? ⟨v, 1, none⟩ = some (.int .i64 0)
  v2 : w.cell? ⟨v, 2, none⟩ = some (.int .u64 0)
  v3 : w.cell? ⟨v, 3, none⟩ = some (.int .u64 0)
  fb : ∀ i, w.frozen? ⟨b, i, none⟩ = false
  fv : ∀ i, w.frozen? ⟨v, i, none⟩ = false
theorem Noughts.kept {b v : Nat} {w w' : World} (h : Noughts b v w) (k : Kept w w') : Noughts b v w' where
  lb := Nat.lt_of_lt_of_le h.lb k.size_le
  lv := Nat.lt_of_lt_of_le h.lv k.size_le
  b0 := (k.cell h.lb).trans h.b0
  b1 := (k.cell h.lb).trans h.b1
  b2 := (k.cell h.lb).trans h.b2
  b3 := (k.cell h.lb).trans h.b3
  b4 := (k.cell h.lb).trans h.b4
  v0 := (k.cell h.lv).trans h.v0
  v1 := (k.cell h.lv).trans h.v1
  v2 := (k.cell h.lv).trans h.v2
  v3 := (k.cell h.lv).trans h.v3
  fb := fun i => (k.frozen (p := ⟨b, i, none⟩) h.lb).trans (h.fb i)
  fv := fun i => (k.frozen (p := ⟨v, i, none⟩) h.lv).trans (h.fv i)
theorem Noughts.new (w : World) : Noughts w.heap.size (w.heap.size + 1) ((w.alloc (.cells #[.int .i64 0, .int .i64 0, .int .u64 0, .int .u64 0, .int .u64 0] 26)).alloc (.cells #[.int .i64 0, .int .i64 0, .int .u64 0, .int .u64 0] 28)) := by
  constructor <;> simp [go_sem]

set_option maxHeartbeats 800000 in
theorem get_none (A : Option Addr) (n c : Nat) (l : List Nat) (w : World) (hl : l.length = n) (hn : n ≤ 1000) (hA : 0 < n → ∃ ad, A = some ad ∧ LiesAt w w.heap.size ad l)
    (f1 : fitsB l 22 2 = false) (f2 : fitsB l 30 1 = false) :
    Calls Try.prog 14 #[.slice A n c] w fun e w' => e = .returned (getV .none) ∧ Kept w w' := by
  have F1 := Lib.hid f1; have F2 := Lib.hid f2; have HL := Lib.hid hl
  have K : Kept w ((w.alloc (.cells #[.int .i64 0, .int .i64 0, .int .u64 0, .int .u64 0, .int .u64 0] 26)).alloc (.cells #[.int .i64 0, .int .i64 0, .int .u64 0, .int .u64 0] 28)) := ((Kept.refl w).alloc _).alloc _
  have HA := Lib.hid (show 0 < n → ∃ ad, A = some ad ∧ LiesAt ((w.alloc (.cells #[.int .i64 0, .int .i64 0, .int .u64 0, .int .u64 0, .int .u64 0] 26)).alloc (.cells #[.int .i64 0, .int .i64 0, .int .u64 0, .int .u64 0] 28)) ((w.alloc (.cells #[.int .i64 0, .int .i64 0, .int .u64 0, .int .u64 0, .int .u64 0] 26)).alloc (.cells #[.int .i64 0, .int .i64 0, .int .u64 0, .int .u64 0] 28)).heap.size ad l from
    fun h => by
      obtain ⟨ad, e, h1⟩ := hA h
      exact ⟨ad, e, (h1.keep fun p hp => K.cell hp).mono K.size_le⟩)
  clear f1 f2 hl hA
  go_enter Try.func14, Try.ntmps14
  go_wp2_with fail
  refine (fits_any A n c l 22 2 _ HL.out (by omega) (by omega) (by omega) HA.out).mono ?_
  rintro e w1 ⟨rfl, rfl⟩
  rw [F1.out]
  go_wp2_with fail
  refine (fits_any A n c l 30 1 _ HL.out (by omega) (by omega) (by omega) HA.out).mono ?_
  rintro e w1 ⟨rfl, rfl⟩
  rw [F2.out]
  go_wp2_with fail
  refine bodyPost_ret (v := getV .none) (by simp [results, Try.results14, go_sem, getV, Got.none]) rfl ⟨rfl, K⟩

set_option maxHeartbeats 1600000 in
theorem get_vote (ad : Addr) (c : Nat) (l : List Nat) (w : World) (hl : l.length = 22) (hc : 22 ≤ c) (hx : ∀ b ∈ l, b < 256) (hA : LiesAt w w.heap.size ad l)
    (f1 : fitsB l 22 2 = true) (m1 : made (seg l 1 4) (seg l 5 1) = true) :
    Calls Try.prog 14 #[.slice (some ad) 22 c] w fun e w' => e = .returned (getV (.vote (seg l 1 4) (seg l 5 1) (seg l 6 8, seg l 14 8))) ∧ Kept w w' := by
  obtain ⟨s, hs⟩ : ∃ s, seg l 1 4 = s := ⟨_, rfl⟩
  obtain ⟨f, hf⟩ : ∃ f, seg l 5 1 = f := ⟨_, rfl⟩
  obtain ⟨p, hp⟩ : ∃ p, seg l 6 8 = p := ⟨_, rfl⟩
  obtain ⟨q, hq⟩ : ∃ q, seg l 14 8 = q := ⟨_, rfl⟩
  rw [hs, hf] at m1
  rw [hs, hf, hp, hq]
  have HS := Lib.hid (show seg (l.drop 1) 0 4 = s by rw [seg_drop]; exact hs)
  have HF := Lib.hid (show seg (l.drop 1) 4 1 = f by rw [seg_drop]; exact hf)
  have HP := Lib.hid (show seg (l.drop 1) 5 8 = p by rw [seg_drop]; exact hp)
  have HQ := Lib.hid (show seg (l.drop 1) 13 8 = q by rw [seg_drop]; exact hq)
  have F1 := Lib.hid f1; have HL := Lib.hid hl; have HM := Lib.hid m1
  have K : Kept w ((w.alloc (.cells #[.int .i64 0, .int .i64 0, .int .u64 0, .int .u64 0, .int .u64 0] 26)).alloc (.cells #[.int .i64 0, .int .i64 0, .int .u64 0, .int .u64 0] 28)) := ((Kept.refl w).alloc _).alloc _
  have HA := Lib.hid ((hA.keep fun p hp => K.cell hp).mono K.size_le)
  have HX := Lib.hid hx
  clear f1 hl hA hx m1 hs hf hp hq
  go_enter Try.func14, Try.ntmps14
  go_wp2_with fail
  refine (fits_any (some ad) 22 c l 22 2 _ HL.out (by omega) (by omega) (by omega) (fun _ => ⟨ad, rfl, HA.out⟩)).mono ?_
  rintro e w1 ⟨rfl, rfl⟩
  rw [F1.out]
  go_wp2_with fail
  refine (readerOf_end (l.drop 1) ⟨ad.block, ad.off + 1, none⟩ 21 (c - 1) _ (by rw [List.length_drop, HL.out]) (by have := HA.out.drop 1 (by omega); rw [add_pos ad 1 (by omega)] at this; exact this)).mono ?_
  rintro e w1 ⟨b1, b3, b4, rfl, R⟩
  have HN := Lib.hid (Noughts.new w)
  have HK := Lib.hid K
  have HR := Lib.hid R
  have HD := Lib.hid (show ∀ b ∈ l.drop 1, b < 256 from fun b hb => HX.out b (List.mem_of_mem_drop hb))
  have lt1 := R.pos_lt
  clear R K HA
  generalize ((w.alloc (.cells #[.int .i64 0, .int .i64 0, .int .u64 0, .int .u64 0, .int .u64 0] 26)).alloc (.cells #[.int .i64 0, .int .i64 0, .int .u64 0, .int .u64 0] 28)) = W at HR HN HK
  unfold readerV
  go_wp2_with fail
  refine (number_any _ _ _ 21 (c - 1) b1 b3 b4 0 4 _ (by omega) (by omega) (by omega) HD.out (HR.out.onto ((Kept.refl w1).alloc _))).mono ?_
  rintro e w2 ⟨rfl, M2⟩
  rw [HS.out]
  have H2 := Lib.hid ((Has3.new w1 b4).grown M2.2 (by omega))
  have HM2 := Lib.hid M2
  obtain ⟨z2, c20, c21, c22⟩ := H2.out
  clear M2
  go_wp2_with fail
  refine (number_any _ _ _ 21 (c - 1) b1 b3 b4 4 1 _ (by omega) (by omega) (by omega) HD.out HM2.out.1).mono ?_
  rintro e w3 ⟨rfl, M3⟩
  rw [HF.out]
  have H3 := Lib.hid (H2.out.grown M3.2 (by omega))
  have HM3 := Lib.hid M3
  clear c20 c21 c22
  obtain ⟨z3, c30, c31, c32⟩ := H3.out
  clear M3
  go_wp2_with fail
  refine (rdId_any _ _ _ 21 (c - 1) b1 b3 b4 5 _ (by omega) (by omega) HD.out HM3.out.1).mono ?_
  rintro e w4 ⟨rfl, M4⟩
  rw [HP.out, HQ.out]
  have H4 := Lib.hid (H3.out.grown M4.2 (by omega))
  have HM4 := Lib.hid M4
  clear c30 c31 c32
  obtain ⟨z4, c40, c41, c42⟩ := H4.out
  have HN4 := Lib.hid (HN.out.kept M4.1.kept)
  have HK4 := Lib.hid (HK.out.trans M4.1.kept)
  have lt4 := M4.1.pos_lt
  clear M4
  go_wp2_with fail
  refine (wellMade_any s f _).mono ?_
  rintro e w5 ⟨rfl, rfl⟩
  rw [HM.out]
  have HN5 := Lib.hid (HN4.out.kept ((Kept.refl w4).alloc (.cells #[.int .u64 p, .int .u64 q] 24)))
  have HK5 := Lib.hid (HK4.out.alloc (.cells #[.int .u64 p, .int .u64 q] 24))
  have i0 : (w4.alloc (.cells #[.int .u64 p, .int .u64 q] 24)).cell? ⟨w4.heap.size, 0, none⟩ = some (.int .u64 p) := by simp [go_sem]
  have i1 : (w4.alloc (.cells #[.int .u64 p, .int .u64 q] 24)).cell? ⟨w4.heap.size, 1, none⟩ = some (.int .u64 q) := by simp [go_sem]
  have lz : w.heap.size + 1 < w4.heap.size := HN4.out.lv
  go_wp2_with fail
  clear c40 c41 c42 HM2 HM3 H2 H3 z2 z3
  generalize (w4.alloc (.cells #[.int .u64 p, .int .u64 q] 24)) = W5 at *
  generalize w4.heap.size = g at *
  obtain ⟨_, _, n0, n1, n2, n3, n4, m0, m1, m2, m3, nf, mf⟩ := HN5.out
  go_region
  all_goals
    go_wp2_with fail
    refine bodyPost_ret (v := getV (.vote s f (p, q))) (by simp [results, Try.results14, go_sem, getV, Got.vote, *]) rfl ⟨rfl, ?_⟩
    refine Kept.drew ?_
    repeat (refine Kept.setCell ?_ (show w.heap.size ≤ _ by simp) _)
    exact HK5.out
set_option maxHeartbeats 1600000 in
theorem get_block (ad : Addr) (c : Nat) (l : List Nat) (w : World) (hl : l.length = 30) (hc : 30 ≤ c) (hx : ∀ b ∈ l, b < 256) (hA : LiesAt w w.heap.size ad l) (f0 : fitsB l 22 2 = false)
    (f1 : fitsB l 30 1 = true) (m1 : made (seg l 1 4) (seg l 5 1) = true) :
    Calls Try.prog 14 #[.slice (some ad) 30 c] w fun e w' => e = .returned (getV (.block (seg l 1 4) (seg l 5 1) (seg l 6 8, seg l 14 8) (seg l 22 8))) ∧ Kept w w' := by
  obtain ⟨s, hs⟩ : ∃ s, seg l 1 4 = s := ⟨_, rfl⟩
  obtain ⟨f, hf⟩ : ∃ f, seg l 5 1 = f := ⟨_, rfl⟩
  obtain ⟨p, hp⟩ : ∃ p, seg l 6 8 = p := ⟨_, rfl⟩
  obtain ⟨q, hq⟩ : ∃ q, seg l 14 8 = q := ⟨_, rfl⟩
  obtain ⟨u, hu⟩ : ∃ u, seg l 22 8 = u := ⟨_, rfl⟩
  have HU := Lib.hid (show seg (l.drop 1) 21 8 = u by rw [seg_drop]; exact hu)
  rw [hs, hf] at m1
  rw [hs, hf, hp, hq, hu]
  have HS := Lib.hid (show seg (l.drop 1) 0 4 = s by rw [seg_drop]; exact hs)
  have HF := Lib.hid (show seg (l.drop 1) 4 1 = f by rw [seg_drop]; exact hf)
  have HP := Lib.hid (show seg (l.drop 1) 5 8 = p by rw [seg_drop]; exact hp)
  have HQ := Lib.hid (show seg (l.drop 1) 13 8 = q by rw [seg_drop]; exact hq)
  have F1 := Lib.hid f1; have HL := Lib.hid hl; have HM := Lib.hid m1
  have F0 := Lib.hid f0
  have K : Kept w ((w.alloc (.cells #[.int .i64 0, .int .i64 0, .int .u64 0, .int .u64 0, .int .u64 0] 26)).alloc (.cells #[.int .i64 0, .int .i64 0, .int .u64 0, .int .u64 0] 28)) := ((Kept.refl w).alloc _).alloc _
  have HA := Lib.hid ((hA.keep fun p hp => K.cell hp).mono K.size_le)
  have HX := Lib.hid hx
  clear f1 hl hA hx m1 hs hf hp hq f0 hu
  go_enter Try.func14, Try.ntmps14
  go_wp2_with fail
  refine (fits_any (some ad) 30 c l 22 2 _ HL.out (by omega) (by omega) (by omega) (fun _ => ⟨ad, rfl, HA.out⟩)).mono ?_
  rintro e w1 ⟨rfl, rfl⟩
  rw [F0.out]
  go_wp2_with fail
  refine (fits_any (some ad) 30 c l 30 1 _ HL.out (by omega) (by omega) (by omega) (fun _ => ⟨ad, rfl, HA.out⟩)).mono ?_
  rintro e w1 ⟨rfl, rfl⟩
  rw [F1.out]
  go_wp2_with fail
  refine (readerOf_end (l.drop 1) ⟨ad.block, ad.off + 1, none⟩ 29 (c - 1) _ (by rw [List.length_drop, HL.out]) (by have := HA.out.drop 1 (by omega); rw [add_pos ad 1 (by omega)] at this; exact this)).mono ?_
  rintro e w1 ⟨b1, b3, b4, rfl, R⟩
  have HN := Lib.hid (Noughts.new w)
  have HK := Lib.hid K
  have HR := Lib.hid R
  have HD := Lib.hid (show ∀ b ∈ l.drop 1, b < 256 from fun b hb => HX.out b (List.mem_of_mem_drop hb))
  have lt1 := R.pos_lt
  clear R K HA
  generalize ((w.alloc (.cells #[.int .i64 0, .int .i64 0, .int .u64 0, .int .u64 0, .int .u64 0] 26)).alloc (.cells #[.int .i64 0, .int .i64 0, .int .u64 0, .int .u64 0] 28)) = W at HR HN HK
  unfold readerV
  go_wp2_with fail
  refine (number_any _ _ _ 29 (c - 1) b1 b3 b4 0 4 _ (by omega) (by omega) (by omega) HD.out (HR.out.onto ((Kept.refl w1).alloc _))).mono ?_
  rintro e w2 ⟨rfl, M2⟩
  rw [HS.out]
  have H2 := Lib.hid ((Has3.new w1 b4).grown M2.2 (by omega))
  have HM2 := Lib.hid M2
  obtain ⟨z2, c20, c21, c22⟩ := H2.out
  clear M2
  go_wp2_with fail
  refine (number_any _ _ _ 29 (c - 1) b1 b3 b4 4 1 _ (by omega) (by omega) (by omega) HD.out HM2.out.1).mono ?_
  rintro e w3 ⟨rfl, M3⟩
  rw [HF.out]
  have H3 := Lib.hid (H2.out.grown M3.2 (by omega))
  have HM3 := Lib.hid M3
  clear c20 c21 c22
  obtain ⟨z3, c30, c31, c32⟩ := H3.out
  clear M3
  go_wp2_with fail
  refine (rdId_any _ _ _ 29 (c - 1) b1 b3 b4 5 _ (by omega) (by omega) HD.out HM3.out.1).mono ?_
  rintro e w4 ⟨rfl, M4⟩
  rw [HP.out, HQ.out]
  have H4 := Lib.hid (H3.out.grown M4.2 (by omega))
  have HM4 := Lib.hid M4
  clear c30 c31 c32
  obtain ⟨z4, c40, c41, c42⟩ := H4.out
  have HN4 := Lib.hid (HN.out.kept M4.1.kept)
  have HK4 := Lib.hid (HK.out.trans M4.1.kept)
  have lt4 := M4.1.pos_lt
  clear M4
  go_wp2_with fail
  refine (wellMade_any s f _).mono ?_
  rintro e w5 ⟨rfl, rfl⟩
  rw [HM.out]
  have HN5 := Lib.hid (HN4.out.kept ((Kept.refl w4).alloc (.cells #[.int .u64 p, .int .u64 q] 24)))
  have HK5 := Lib.hid (HK4.out.alloc (.cells #[.int .u64 p, .int .u64 q] 24))
  have i0 : (w4.alloc (.cells #[.int .u64 p, .int .u64 q] 24)).cell? ⟨w4.heap.size, 0, none⟩ = some (.int .u64 p) := by simp [go_sem]
  have i1 : (w4.alloc (.cells #[.int .u64 p, .int .u64 q] 24)).cell? ⟨w4.heap.size, 1, none⟩ = some (.int .u64 q) := by simp [go_sem]
  have lz : w.heap.size + 1 < w4.heap.size := HN4.out.lv
  go_wp2_with fail
  have HR5 := Lib.hid (HM4.out.1.onto ((Kept.refl w4).alloc (.cells #[.int .u64 p, .int .u64 q] 24)))
  have H5 := Lib.hid (H4.out.grown (grown_kept ((Kept.refl w4).alloc (.cells #[.int .u64 p, .int .u64 q] 24)) (some b3)) (by omega))
  have lg : w4.heap.size < (w4.alloc (.cells #[.int .u64 p, .int .u64 q] 24)).heap.size := by simp
  clear c40 c41 c42 HM2 HM3 H2 H3 z2 z3 HM4 H4 z4
  generalize (w4.alloc (.cells #[.int .u64 p, .int .u64 q] 24)) = W5 at *
  generalize w4.heap.size = g at *
  have c52 := H5.out.2.2.2
  obtain ⟨_, _, n0, n1, n2, n3, n4, m0, m1, m2, m3, nf, mf⟩ := HN5.out
  go_region_with ((go_at_call 28
                   refine (rdWord_any W _ _ 29 (c - 1) b1 b3 b4 21 _ (by omega) (by omega) HD.out (HR5.out.onto (Kept.refl W5).drew)).mono ?_
                   rintro e w6 ⟨rfl, M6⟩
                   rw [HU.out]
                   have k0 := (M6.2.cell_far ⟨g, 0, none⟩ lg (by simp; omega)).trans i0
                   have k1 := (M6.2.cell_far ⟨g, 1, none⟩ lg (by simp; omega)).trans i1
                   have HK6 := Lib.hid (HK.out.trans M6.1.kept)
                   obtain ⟨_, _, n60, n61, n62, n63, n64, m60, m61, m62, m63, nf6, mf6⟩ := HN.out.kept M6.1.kept
                   clear M6))
  all_goals
    go_wp2_with fail
    refine bodyPost_ret (v := getV (.block s f (p, q) u)) (by simp [results, Try.results14, go_sem, getV, Got.block, *]) rfl ⟨rfl, ?_⟩
    repeat (refine Kept.setCell ?_ (show w.heap.size ≤ _ by simp) _)
    exact HK6.out
set_option maxHeartbeats 1600000 in
theorem get_vote_bad (ad : Addr) (c : Nat) (l : List Nat) (w : World) (hl : l.length = 22) (hc : 22 ≤ c) (hx : ∀ b ∈ l, b < 256) (hA : LiesAt w w.heap.size ad l)
    (f1 : fitsB l 22 2 = true) (m1 : made (seg l 1 4) (seg l 5 1) = false) :
    Calls Try.prog 14 #[.slice (some ad) 22 c] w fun e w' => e = .returned (getV .none) ∧ Kept w w' := by
  obtain ⟨s, hs⟩ : ∃ s, seg l 1 4 = s := ⟨_, rfl⟩
  obtain ⟨f, hf⟩ : ∃ f, seg l 5 1 = f := ⟨_, rfl⟩
  obtain ⟨p, hp⟩ : ∃ p, seg l 6 8 = p := ⟨_, rfl⟩
  obtain ⟨q, hq⟩ : ∃ q, seg l 14 8 = q := ⟨_, rfl⟩
  rw [hs, hf] at m1
  have HS := Lib.hid (show seg (l.drop 1) 0 4 = s by rw [seg_drop]; exact hs)
  have HF := Lib.hid (show seg (l.drop 1) 4 1 = f by rw [seg_drop]; exact hf)
  have HP := Lib.hid (show seg (l.drop 1) 5 8 = p by rw [seg_drop]; exact hp)
  have HQ := Lib.hid (show seg (l.drop 1) 13 8 = q by rw [seg_drop]; exact hq)
  have F1 := Lib.hid f1; have HL := Lib.hid hl; have HM := Lib.hid m1
  have K : Kept w ((w.alloc (.cells #[.int .i64 0, .int .i64 0, .int .u64 0, .int .u64 0, .int .u64 0] 26)).alloc (.cells #[.int .i64 0, .int .i64 0, .int .u64 0, .int .u64 0] 28)) := ((Kept.refl w).alloc _).alloc _
  have HA := Lib.hid ((hA.keep fun p hp => K.cell hp).mono K.size_le)
  have HX := Lib.hid hx
  clear f1 hl hA hx m1 hs hf hp hq
  go_enter Try.func14, Try.ntmps14
  go_wp2_with fail
  refine (fits_any (some ad) 22 c l 22 2 _ HL.out (by omega) (by omega) (by omega) (fun _ => ⟨ad, rfl, HA.out⟩)).mono ?_
  rintro e w1 ⟨rfl, rfl⟩
  rw [F1.out]
  go_wp2_with fail
  refine (readerOf_end (l.drop 1) ⟨ad.block, ad.off + 1, none⟩ 21 (c - 1) _ (by rw [List.length_drop, HL.out]) (by have := HA.out.drop 1 (by omega); rw [add_pos ad 1 (by omega)] at this; exact this)).mono ?_
  rintro e w1 ⟨b1, b3, b4, rfl, R⟩
  have HN := Lib.hid (Noughts.new w)
  have HK := Lib.hid K
  have HR := Lib.hid R
  have HD := Lib.hid (show ∀ b ∈ l.drop 1, b < 256 from fun b hb => HX.out b (List.mem_of_mem_drop hb))
  have lt1 := R.pos_lt
  clear R K HA
  generalize ((w.alloc (.cells #[.int .i64 0, .int .i64 0, .int .u64 0, .int .u64 0, .int .u64 0] 26)).alloc (.cells #[.int .i64 0, .int .i64 0, .int .u64 0, .int .u64 0] 28)) = W at HR HN HK
  unfold readerV
  go_wp2_with fail
  refine (number_any _ _ _ 21 (c - 1) b1 b3 b4 0 4 _ (by omega) (by omega) (by omega) HD.out (HR.out.onto ((Kept.refl w1).alloc _))).mono ?_
  rintro e w2 ⟨rfl, M2⟩
  rw [HS.out]
  have H2 := Lib.hid ((Has3.new w1 b4).grown M2.2 (by omega))
  have HM2 := Lib.hid M2
  obtain ⟨z2, c20, c21, c22⟩ := H2.out
  clear M2
  go_wp2_with fail
  refine (number_any _ _ _ 21 (c - 1) b1 b3 b4 4 1 _ (by omega) (by omega) (by omega) HD.out HM2.out.1).mono ?_
  rintro e w3 ⟨rfl, M3⟩
  rw [HF.out]
  have H3 := Lib.hid (H2.out.grown M3.2 (by omega))
  have HM3 := Lib.hid M3
  clear c20 c21 c22
  obtain ⟨z3, c30, c31, c32⟩ := H3.out
  clear M3
  go_wp2_with fail
  refine (rdId_any _ _ _ 21 (c - 1) b1 b3 b4 5 _ (by omega) (by omega) HD.out HM3.out.1).mono ?_
  rintro e w4 ⟨rfl, M4⟩
  rw [HP.out, HQ.out]
  have H4 := Lib.hid (H3.out.grown M4.2 (by omega))
  have HM4 := Lib.hid M4
  clear c30 c31 c32
  obtain ⟨z4, c40, c41, c42⟩ := H4.out
  have HN4 := Lib.hid (HN.out.kept M4.1.kept)
  have HK4 := Lib.hid (HK.out.trans M4.1.kept)
  have lt4 := M4.1.pos_lt
  clear M4
  go_wp2_with fail
  refine (wellMade_any s f _).mono ?_
  rintro e w5 ⟨rfl, rfl⟩
  rw [HM.out]
  have HN5 := Lib.hid (HN4.out.kept ((Kept.refl w4).alloc (.cells #[.int .u64 p, .int .u64 q] 24)))
  have HK5 := Lib.hid (HK4.out.alloc (.cells #[.int .u64 p, .int .u64 q] 24))
  have i0 : (w4.alloc (.cells #[.int .u64 p, .int .u64 q] 24)).cell? ⟨w4.heap.size, 0, none⟩ = some (.int .u64 p) := by simp [go_sem]
  have i1 : (w4.alloc (.cells #[.int .u64 p, .int .u64 q] 24)).cell? ⟨w4.heap.size, 1, none⟩ = some (.int .u64 q) := by simp [go_sem]
  have lz : w.heap.size + 1 < w4.heap.size := HN4.out.lv
  clear c40 c41 c42 HM2 HM3 H2 H3 z2 z3
  obtain ⟨_, _, n0, n1, n2, n3, n4, m0, m1, m2, m3, nf, mf⟩ := HN5.out
  go_wp2_with fail
  all_goals
    go_wp2_with fail
    refine bodyPost_ret (v := getV .none) (by simp [results, Try.results14, go_sem, getV, Got.none, *]) rfl ⟨rfl, ?_⟩
    repeat (refine Kept.setCell ?_ (show w.heap.size ≤ _ by simp) _)
    exact HK5.out
set_option maxHeartbeats 1600000 in
theorem get_block_bad (ad : Addr) (c : Nat) (l : List Nat) (w : World) (hl : l.length = 30) (hc : 30 ≤ c) (hx : ∀ b ∈ l, b < 256) (hA : LiesAt w w.heap.size ad l) (f0 : fitsB l 22 2 = false)
    (f1 : fitsB l 30 1 = true) (m1 : made (seg l 1 4) (seg l 5 1) = false) :
    Calls Try.prog 14 #[.slice (some ad) 30 c] w fun e w' => e = .returned (getV .none) ∧ Kept w w' := by
  obtain ⟨s, hs⟩ : ∃ s, seg l 1 4 = s := ⟨_, rfl⟩
  obtain ⟨f, hf⟩ : ∃ f, seg l 5 1 = f := ⟨_, rfl⟩
  obtain ⟨p, hp⟩ : ∃ p, seg l 6 8 = p := ⟨_, rfl⟩
  obtain ⟨q, hq⟩ : ∃ q, seg l 14 8 = q := ⟨_, rfl⟩
  obtain ⟨u, hu⟩ : ∃ u, seg l 22 8 = u := ⟨_, rfl⟩
  have HU := Lib.hid (show seg (l.drop 1) 21 8 = u by rw [seg_drop]; exact hu)
  rw [hs, hf] at m1
  have HS := Lib.hid (show seg (l.drop 1) 0 4 = s by rw [seg_drop]; exact hs)
  have HF := Lib.hid (show seg (l.drop 1) 4 1 = f by rw [seg_drop]; exact hf)
  have HP := Lib.hid (show seg (l.drop 1) 5 8 = p by rw [seg_drop]; exact hp)
  have HQ := Lib.hid (show seg (l.drop 1) 13 8 = q by rw [seg_drop]; exact hq)
  have F1 := Lib.hid f1; have HL := Lib.hid hl; have HM := Lib.hid m1
  have F0 := Lib.hid f0
  have K : Kept w ((w.alloc (.cells #[.int .i64 0, .int .i64 0, .int .u64 0, .int .u64 0, .int .u64 0] 26)).alloc (.cells #[.int .i64 0, .int .i64 0, .int .u64 0, .int .u64 0] 28)) := ((Kept.refl w).alloc _).alloc _
  have HA := Lib.hid ((hA.keep fun p hp => K.cell hp).mono K.size_le)
  have HX := Lib.hid hx
  clear f1 hl hA hx m1 hs hf hp hq f0 hu
  go_enter Try.func14, Try.ntmps14
  go_wp2_with fail
  refine (fits_any (some ad) 30 c l 22 2 _ HL.out (by omega) (by omega) (by omega) (fun _ => ⟨ad, rfl, HA.out⟩)).mono ?_
  rintro e w1 ⟨rfl, rfl⟩
  rw [F0.out]
  go_wp2_with fail
  refine (fits_any (some ad) 30 c l 30 1 _ HL.out (by omega) (by omega) (by omega) (fun _ => ⟨ad, rfl, HA.out⟩)).mono ?_
  rintro e w1 ⟨rfl, rfl⟩
  rw [F1.out]
  go_wp2_with fail
  refine (readerOf_end (l.drop 1) ⟨ad.block, ad.off + 1, none⟩ 29 (c - 1) _ (by rw [List.length_drop, HL.out]) (by have := HA.out.drop 1 (by omega); rw [add_pos ad 1 (by omega)] at this; exact this)).mono ?_
  rintro e w1 ⟨b1, b3, b4, rfl, R⟩
  have HN := Lib.hid (Noughts.new w)
  have HK := Lib.hid K
  have HR := Lib.hid R
  have HD := Lib.hid (show ∀ b ∈ l.drop 1, b < 256 from fun b hb => HX.out b (List.mem_of_mem_drop hb))
  have lt1 := R.pos_lt
  clear R K HA
  generalize ((w.alloc (.cells #[.int .i64 0, .int .i64 0, .int .u64 0, .int .u64 0, .int .u64 0] 26)).alloc (.cells #[.int .i64 0, .int .i64 0, .int .u64 0, .int .u64 0] 28)) = W at HR HN HK
  unfold readerV
  go_wp2_with fail
  refine (number_any _ _ _ 29 (c - 1) b1 b3 b4 0 4 _ (by omega) (by omega) (by omega) HD.out (HR.out.onto ((Kept.refl w1).alloc _))).mono ?_
  rintro e w2 ⟨rfl, M2⟩
  rw [HS.out]
  have H2 := Lib.hid ((Has3.new w1 b4).grown M2.2 (by omega))
  have HM2 := Lib.hid M2
  obtain ⟨z2, c20, c21, c22⟩ := H2.out
  clear M2
  go_wp2_with fail
  refine (number_any _ _ _ 29 (c - 1) b1 b3 b4 4 1 _ (by omega) (by omega) (by omega) HD.out HM2.out.1).mono ?_
  rintro e w3 ⟨rfl, M3⟩
  rw [HF.out]
  have H3 := Lib.hid (H2.out.grown M3.2 (by omega))
  have HM3 := Lib.hid M3
  clear c20 c21 c22
  obtain ⟨z3, c30, c31, c32⟩ := H3.out
  clear M3
  go_wp2_with fail
  refine (rdId_any _ _ _ 29 (c - 1) b1 b3 b4 5 _ (by omega) (by omega) HD.out HM3.out.1).mono ?_
  rintro e w4 ⟨rfl, M4⟩
  rw [HP.out, HQ.out]
  have H4 := Lib.hid (H3.out.grown M4.2 (by omega))
  have HM4 := Lib.hid M4
  clear c30 c31 c32
  obtain ⟨z4, c40, c41, c42⟩ := H4.out
  have HN4 := Lib.hid (HN.out.kept M4.1.kept)
  have HK4 := Lib.hid (HK.out.trans M4.1.kept)
  have lt4 := M4.1.pos_lt
  clear M4
  go_wp2_with fail
  refine (wellMade_any s f _).mono ?_
  rintro e w5 ⟨rfl, rfl⟩
  rw [HM.out]
  have HN5 := Lib.hid (HN4.out.kept ((Kept.refl w4).alloc (.cells #[.int .u64 p, .int .u64 q] 24)))
  have HK5 := Lib.hid (HK4.out.alloc (.cells #[.int .u64 p, .int .u64 q] 24))
  have i0 : (w4.alloc (.cells #[.int .u64 p, .int .u64 q] 24)).cell? ⟨w4.heap.size, 0, none⟩ = some (.int .u64 p) := by simp [go_sem]
  have i1 : (w4.alloc (.cells #[.int .u64 p, .int .u64 q] 24)).cell? ⟨w4.heap.size, 1, none⟩ = some (.int .u64 q) := by simp [go_sem]
  have lz : w.heap.size + 1 < w4.heap.size := HN4.out.lv
  clear c40 c41 c42 HM2 HM3 H2 H3 z2 z3
  obtain ⟨_, _, n0, n1, n2, n3, n4, m0, m1, m2, m3, nf, mf⟩ := HN5.out
  go_wp2_with fail
  all_goals
    go_wp2_with fail
    refine bodyPost_ret (v := getV .none) (by simp [results, Try.results14, go_sem, getV, Got.none, *]) rfl ⟨rfl, ?_⟩
    repeat (refine Kept.setCell ?_ (show w.heap.size ≤ _ by simp) _)
    exact HK5.out

end Go.Proofs.Ytfbjiepnhfgmfaa
