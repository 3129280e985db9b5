/-
  The contracts of package wire's calls that get: fits, the reader and its functions, Get.
-/
import Derived.Test.YtfbjiepnhfgmfaaWirePut
import Derived.RegionTactic
import Derived.Laws.EntriesVeiled
import Derived.Deep.RegionHeld3
namespace Go.Proofs.Ytfbjiepnhfgmfaa
open Go.ChangeShapes Go.WideShapes Go.ChangeAt Go.RowKit

/-! ### Bytes that lie anywhere -/
/-- The bytes l lie one behind another from ad on, below block B. -/
def LiesAt (w : World) (B : Nat) (ad : Addr) (l : List Nat) : Prop := ad.block < B ∧ ∀ j x, l[j]? = some x → w.cell? (ad.add j) = some (.int .u8 (x : Nat))
theorem LiesAt.keep {w w' : World} {B : Nat} {ad : Addr} {l : List Nat} (h : LiesAt w B ad l) (hk : ∀ p : Addr, p.block < B → w'.cell? p = w.cell? p) : LiesAt w' B ad l :=
  ⟨h.1, fun j x hx => (hk _ (by rw [block_add]; exact h.1)).trans (h.2 j x hx)⟩
theorem LiesAt.mono {w : World} {B B' : Nat} {ad : Addr} {l : List Nat} (h : LiesAt w B ad l) (hB : B ≤ B') : LiesAt w B' ad l := ⟨Nat.lt_of_lt_of_le h.1 hB, h.2⟩
theorem add_pos (ad : Addr) (i : Nat) (hi : 0 < i) : ad.add i = ⟨ad.block, ad.off + i, none⟩ := by unfold Addr.add; rw [if_neg (by omega)]
theorem add_add (ad : Addr) (i j : Nat) (hi : 0 < i) : (ad.add i).add j = ad.add (i + j) := by
  rw [add_pos ad i hi, add_pos ad (i + j) (by omega)]
  unfold Addr.add
  by_cases h : j = 0
  · subst h; simp
  · rw [if_neg h]; simp; omega
theorem LiesAt.drop {w : World} {B : Nat} {ad : Addr} {l : List Nat} (h : LiesAt w B ad l) (i : Nat) (hi : 0 < i) : LiesAt w B (ad.add i) (l.drop i) :=
  ⟨by rw [block_add]; exact h.1, fun j x hx => by rw [add_add _ _ _ hi]; exact h.2 _ _ (by rw [List.getElem?_drop] at hx; exact hx)⟩

/-! ### fits -/
def fitsB (l : List Nat) (size mark : Nat) : Bool := decide (l.length = size ∧ l[0]? = some mark)
set_option maxHeartbeats 800000 in
theorem fits_any (A : Option Addr) (n c : Nat) (l : List Nat) (size mark : Nat) (w : World) (hl : l.length = n) (hs : 0 < size) (hn : n ≤ 100000) (hz : size ≤ 100000) (hA : 0 < n → ∃ ad, A = some ad ∧ LiesAt w w.heap.size ad l) :
    Calls Try.prog 22 #[.slice A n c, .int .i64 size, .int .u8 mark] w fun e w' => e = .returned (.bool (fitsB l size mark)) ∧ w = w' := by
  by_cases h : n = size
  · subst h
    obtain ⟨ad, rfl, h1⟩ := hA hs
    have h0 : l[0]? = some (l[0]'(by omega)) := List.getElem?_eq_getElem (by omega)
    have c0 := h1.2 0 _ h0
    have c1 : w.cell? ad = some (.int .u8 (l[0]'(by omega) : Nat)) := c0
    by_cases hm : l[0]'(by omega) = mark
    · have HF := Lib.hid (show fitsB l n mark = true from decide_eq_true ⟨hl, by rw [h0, hm]⟩)
      rw [HF.out]
      rw [hm] at c0 c1
      clear h1 hA hl h0 hm HF
      go_enter Try.func22, Try.ntmps22
      go_wp2
      go_ret
      exact ⟨rfl, rfl⟩
    · have HF := Lib.hid (show fitsB l n mark = false from decide_eq_false (by rw [h0]; simp [hm]))
      rw [HF.out]
      have hb : (((l[0]'(by omega) : Nat) : Int) == (mark : Int)) = false := beq_eq_false_iff_ne.2 (by omega)
      generalize l[0]'(by omega) = x at *
      clear h1 hA hl h0 hm HF
      go_enter Try.func22, Try.ntmps22
      go_wp2
      go_ret
      exact ⟨rfl, rfl⟩
  · have HF := Lib.hid (show fitsB l size mark = false from decide_eq_false (by omega))
    rw [HF.out]
    have hb : ((n : Int) == (size : Int)) = false := beq_eq_false_iff_ne.2 (by omega)
    clear hA hl HF
    go_enter Try.func22, Try.ntmps22
    go_wp2
    go_ret
    exact ⟨rfl, rfl⟩

/-! ### The reader -/
/-- A reader's state: the bytes x lie behind block b1's slice; k of them are read, by block b3; block b4 holds the function; all that lay in W lies as it was. -/
structure Reads (W : World) (x : List Nat) (ad : Addr) (n c b1 b3 b4 k : Nat) (w : World) : Prop where
  kept : Kept W w
  len : x.length = n
  lies : LiesAt w W.heap.size ad x
  own : W.heap.size ≤ b3
  ne1 : b3 ≠ b1
  ne4 : b3 ≠ b4
  row : w.cell? ⟨b1, 0, none⟩ = some (.slice (some ad) n c)
  pos : w.cell? ⟨b3, 0, none⟩ = some (.int .i64 (k : Nat))
  soft : w.frozen? ⟨b3, 0, none⟩ = false
  next : w.cell? ⟨b4, 0, none⟩ = some (.func (.func 25) #[] #[.pointer (some ⟨b1, 0, none⟩), .pointer (some ⟨b3, 0, none⟩)])

theorem Reads.step {W : World} {x : List Nat} {ad : Addr} {n c b1 b3 b4 k : Nat} {w : World} (h : Reads W x ad n c b1 b3 b4 k w) (m : Nat) (v : Int) (hv : v = (m : Nat)) :
    Reads W x ad n c b1 b3 b4 m (w.setCell ⟨b3, 0, none⟩ (.int .i64 v)) where
  kept := h.kept.setCell (p := ⟨b3, 0, none⟩) h.own _
  len := h.len
  lies := h.lies.keep fun p hp => World.cell?_setCell_other _ _ _ _ (by have := h.own; intro e; subst e; simp at hp; omega)
  own := h.own
  ne1 := h.ne1
  ne4 := h.ne4
  row := by rw [World.cell?_setCell_other _ _ _ _ (by simp [h.ne1])]; exact h.row
  pos := by rw [World.cell?_setCell_same' _ _ _ (by simp [h.pos]), hv]
  soft := by simpa using h.soft
  next := by rw [World.cell?_setCell_other _ _ _ _ (by simp [h.ne4])]; exact h.next
/-- Such a state behind w, of which block b3 alone has changed. -/
def Moved (W : World) (x : List Nat) (ad : Addr) (n c b1 b3 b4 k : Nat) (w w' : World) : Prop := Reads W x ad n c b1 b3 b4 k w' ∧ w.grownBy w' (some b3)
theorem grown_set (w : World) (p : Addr) (u : Value) : w.grownBy (w.setCell p u) (some p.block) :=
  ⟨rfl, rfl, rfl, by simp, fun i _ hi => heap_setCell_other w p i u (fun e => hi (by simp [e]))⟩
theorem grown_more {a b c : World} {r r' : Option Nat} (h : a.grownBy b r) (k : b.grownBy c r') (hr : ∀ j, r' = some j → a.heap.size ≤ j ∨ r = some j) : a.grownBy c r :=
  ⟨k.os.trans h.os, k.tape.trans h.tape, k.output.trans h.output, Nat.le_trans h.size k.size, fun i hi hn => (k.block i (Nat.lt_of_lt_of_le hi h.size) (fun e => by
    rcases hr i e.symm with h1 | h1
    · omega
    · exact hn h1.symm)).trans (h.block i hi hn)⟩
theorem grown_kept {a b : World} (k : Kept a b) (r : Option Nat) : a.grownBy b r := ⟨k.os, k.tape, k.output, k.size_le, fun _ hi _ => k.heap hi⟩
theorem Reads.onto {W : World} {x : List Nat} {ad : Addr} {n c b1 b3 b4 k : Nat} {w w' : World} (h : Reads W x ad n c b1 b3 b4 k w) (g : Kept w w') : Reads W x ad n c b1 b3 b4 k w' where
  kept := h.kept.trans g
  len := h.len
  lies := h.lies.keep fun _ hp => g.cell (Nat.lt_of_lt_of_le hp h.kept.size_le)
  own := h.own
  ne1 := h.ne1
  ne4 := h.ne4
  row := (g.cell (World.block_lt_of_cell? w _ h.row)).trans h.row
  pos := (g.cell (World.block_lt_of_cell? w _ h.pos)).trans h.pos
  soft := (g.frozen (World.block_lt_of_cell? w _ h.pos)).trans h.soft
  next := (g.cell (World.block_lt_of_cell? w _ h.next)).trans h.next
theorem Reads.far {W : World} {x : List Nat} {ad : Addr} {n c b1 b3 b4 k : Nat} {w w' : World} (h : Reads W x ad n c b1 b3 b4 k w) {r : Nat} (g : w.grownBy w' (some r)) (hr : W.heap.size ≤ r) (r1 : b1 ≠ r) (r3 : b3 ≠ r) (r4 : b4 ≠ r) :
    Reads W x ad n c b1 b3 b4 k w' where
  kept := h.kept.grown g fun i hi => by injection hi with hi; omega
  len := h.len
  lies := h.lies.keep fun p hp => g.cell_far p (Nat.lt_of_lt_of_le hp h.kept.size_le) (by simp; omega)
  own := h.own
  ne1 := h.ne1
  ne4 := h.ne4
  row := (g.cell_far _ (World.block_lt_of_cell? w _ h.row) (by simpa using r1)).trans h.row
  pos := (g.cell_far _ (World.block_lt_of_cell? w _ h.pos) (by simpa using r3)).trans h.pos
  soft := (g.frozen_far _ (World.block_lt_of_cell? w _ h.pos) (by simpa using r3)).trans h.soft
  next := (g.cell_far _ (World.block_lt_of_cell? w _ h.next) (by simpa using r4)).trans h.next
theorem or_int (t j b : Nat) (hj : j ≤ 7) (ht : t < 256 ^ j) (hb : b < 256) : bits .or .u64 (t : Int) (IntKind.u64.wrap ((b : Int) * 2 ^ (8 * j))) = ((t + 256 ^ j * b : Nat) : Int) := by
  have e : ((2 : Int) ^ (8 * j)) = ((256 ^ j : Nat) : Int) := by rw [Int.pow_mul, Int.natCast_pow]; rfl
  have e2 : (256 : Nat) ^ j = 2 ^ (8 * j) := by rw [Nat.pow_mul]
  have hp : 256 ^ j ≤ 256 ^ 7 := Nat.pow_le_pow_right (by omega) hj
  have hm : 256 ^ j * b ≤ 256 ^ 7 * 255 := Nat.mul_le_mul hp (by omega)
  rw [e, show (b : Int) * ((256 ^ j : Nat) : Int) = ((256 ^ j * b : Nat) : Int) by rw [Int.natCast_mul, Int.mul_comm], IntKind.wrap_u64]
  generalize hA : 256 ^ j * b = A at *
  rw [show ((A : Nat) : Int) % 18446744073709551616 = ((A : Nat) : Int) by omega, bits_or_u64_nat t A (by omega) (by omega), ← hA]
  rw [Nat.or_comm, e2, ← Nat.two_pow_add_eq_or_of_lt (by rw [← e2]; exact ht), Nat.add_comm]
set_option maxHeartbeats 800000 in
theorem next_any (W : World) (x : List Nat) (ad : Addr) (n c b1 b3 b4 k m : Nat) (w : World) (hm : m ≤ 8) (hk : k + m ≤ n) (hn : n ≤ 1000) (hx : ∀ b ∈ x, b < 256) (h : Reads W x ad n c b1 b3 b4 k w) :
    Calls Try.prog 25 #[.int .i64 m, .pointer (some ⟨b1, 0, none⟩), .pointer (some ⟨b3, 0, none⟩)] w fun e w' => e = .returned (.int .u64 (seg x k m)) ∧ Moved W x ad n c b1 b3 b4 (k + m) w w' := by
  have HH := Lib.hid h
  obtain ⟨_, hl, _, _, _, _, h1, h3, f3, _⟩ := h
  have HL := Lib.hid hl
  have HX := Lib.hid hx
  clear hl hx
  go_enter Try.func25, Try.ntmps25
  go_wp2_with fail
  go_loop [5, 8] (fun t i => ∃ j : Nat, j ≤ m ∧ i = .int .i64 j ∧ t = .int .u64 (seg x k j)) (fun _ i => m - (intOf i).toNat)
  case atStart => exact ⟨0, by omega, rfl, by simp [seg, numL]⟩
  case round =>
    obtain ⟨j, hj, rfl, rfl⟩ := hrel
    have hs := seg_lt HX.out k j
    by_cases hlt : j < m
    · have hkl : k + j < x.length := by rw [HL.out]; omega
      have hj : x[k + j]? = some x[k + j] := List.getElem?_eq_getElem hkl
      have hb := HX.out _ (List.getElem_mem hkl)
      have hcell := HH.out.lies.2 _ _ hj
      have HS := Lib.hid (seg_succ hj)
      clear hj
      generalize x[k + j] = b at *
      generalize seg x k j = t at *
      have HO := Lib.hid (or_int t j b (by omega) hs hb)
      clear hs
      go_wp2_with fail
      go_round
      case rel => exact ⟨j + 1, by omega, by go_num, by rw [HO.out, HS.out]⟩
      case measure => simp [intOf]; omega
    · obtain rfl : m = j := by omega
      clear hs
      have HN := Lib.hid (HH.out.step (k + m) ((k : Int) + m) (by omega))
      go_wp2_with fail
      go_ret
      exact ⟨rfl, HN.out, grown_set _ _ _⟩

set_option maxHeartbeats 800000 in
theorem number_any (W : World) (x : List Nat) (ad : Addr) (n c b1 b3 b4 k m : Nat) (w : World) (hm : m ≤ 4) (hk : k + m ≤ n) (hn : n ≤ 1000) (hx : ∀ b ∈ x, b < 256) (h : Reads W x ad n c b1 b3 b4 k w) :
    Calls Try.prog 26 #[.int .i64 m, .pointer (some ⟨b4, 0, none⟩)] w fun e w' => e = .returned (.int .i64 (seg x k m)) ∧ Moved W x ad n c b1 b3 b4 (k + m) w w' := by
  have hs := seg_lt hx k m
  have h4 : 256 ^ m ≤ 256 ^ 4 := Nat.pow_le_pow_right (by omega) hm
  have hb : seg x k m < 4294967296 := by omega
  clear hs h4
  have HH := Lib.hid h
  have c4 := h.next
  have HX := Lib.hid hx
  obtain ⟨t, ht⟩ : ∃ t, seg x k m = t := ⟨_, rfl⟩
  rw [ht] at hb ⊢
  have HT := Lib.hid ht
  clear h hx ht
  go_enter Try.func26, Try.ntmps26
  go_wp2_with fail
  refine (next_any W x ad n c b1 b3 b4 k m w (by omega) hk hn HX.out HH.out).mono ?_
  rintro e w1 ⟨rfl, M⟩
  have HM := Lib.hid M
  clear M
  rw [HT.out]
  go_wp2_with fail
  go_ret
  exact ⟨rfl, HM.out⟩
set_option maxHeartbeats 800000 in
theorem rdWord_any (W : World) (x : List Nat) (ad : Addr) (n c b1 b3 b4 k : Nat) (w : World) (hk : k + 8 ≤ n) (hn : n ≤ 1000) (hx : ∀ b ∈ x, b < 256) (h : Reads W x ad n c b1 b3 b4 k w) :
    Calls Try.prog 28 #[.pointer (some ⟨b4, 0, none⟩)] w fun e w' => e = .returned (.int .u64 (seg x k 8)) ∧ Moved W x ad n c b1 b3 b4 (k + 8) w w' := by
  have HH := Lib.hid h
  have c4 := h.next
  have HX := Lib.hid hx
  obtain ⟨t, ht⟩ : ∃ t, seg x k 8 = t := ⟨_, rfl⟩
  rw [ht]
  have HT := Lib.hid ht
  clear h hx ht
  go_enter Try.func28, Try.ntmps28
  go_wp2_with fail
  refine (next_any W x ad n c b1 b3 b4 k 8 w (by omega) hk hn HX.out HH.out).mono ?_
  rintro e w1 ⟨rfl, M⟩
  have HM := Lib.hid M
  clear M
  rw [HT.out]
  go_wp2_with fail
  go_ret
  exact ⟨rfl, HM.out⟩
set_option maxHeartbeats 800000 in
theorem rdId_any (W : World) (x : List Nat) (ad : Addr) (n c b1 b3 b4 k : Nat) (w : World) (hk : k + 16 ≤ n) (hn : n ≤ 1000) (hx : ∀ b ∈ x, b < 256) (h : Reads W x ad n c b1 b3 b4 k w) :
    Calls Try.prog 27 #[.pointer (some ⟨b4, 0, none⟩)] w fun e w' => e = .returned (.agg #[.int .u64 (seg x k 8), .int .u64 (seg x (k + 8) 8)]) ∧ Moved W x ad n c b1 b3 b4 (k + 16) w w' := by
  have HH := Lib.hid (h.onto ((Kept.refl w).alloc (.cells #[.int .u64 0, .int .u64 0] 24)))
  have c4 := HH.out.next
  have HX := Lib.hid hx
  have l1 := World.block_lt_of_cell? w _ h.row
  have l3 := World.block_lt_of_cell? w _ h.pos
  have l4 := World.block_lt_of_cell? w _ h.next
  have lW := h.kept.size_le
  simp only at l1 l3 l4
  obtain ⟨t, ht⟩ : ∃ t, seg x k 8 = t := ⟨_, rfl⟩
  obtain ⟨u, hu⟩ : ∃ u, seg x (k + 8) 8 = u := ⟨_, rfl⟩
  rw [ht, hu]
  have HT := Lib.hid ht; have HU := Lib.hid hu
  clear h hx ht hu
  go_enter Try.func27, Try.ntmps27
  go_wp2_with fail
  refine (next_any W x ad n c b1 b3 b4 k 8 _ (by omega) (by omega) hn HX.out HH.out).mono ?_
  rintro e w1 ⟨rfl, M⟩
  have HM := Lib.hid M
  have c5 := M.1.next
  clear M
  go_wp2_with fail
  refine (next_any W x ad n c b1 b3 b4 (k + 8) 8 _ (by omega) (by omega) hn HX.out HM.out.1).mono ?_
  rintro e w2 ⟨rfl, M2⟩
  have hlt : w.heap.size < w1.heap.size := Nat.lt_of_lt_of_le (by simp) HM.out.2.size
  have hne : some w.heap.size ≠ some b3 := fun e => by
    injection e with e
    omega
  have d0 : w2.cell? ⟨w.heap.size, 0, none⟩ = some (.int .u64 0) := by rw [M2.2.cell_far _ hlt hne, HM.out.2.cell_far _ (by simp) hne]; simp [go_sem]
  have d1 : w2.cell? ⟨w.heap.size, 1, none⟩ = some (.int .u64 0) := by rw [M2.2.cell_far _ hlt hne, HM.out.2.cell_far _ (by simp) hne]; simp [go_sem]
  have e0 : w2.frozen? ⟨w.heap.size, 0, none⟩ = false := by rw [M2.2.frozen_far _ hlt hne, HM.out.2.frozen_far _ (by simp) hne]; simp
  have e1 : w2.frozen? ⟨w.heap.size, 1, none⟩ = false := by rw [M2.2.frozen_far _ hlt hne, HM.out.2.frozen_far _ (by simp) hne]; simp
  rw [HT.out, HU.out]
  have HM2 := Lib.hid M2
  clear M2 c4 c5
  go_wp2_with fail
  have G := (grown_set w2 ⟨w.heap.size, 0, none⟩ (.int .u64 t)).trans (grown_set (w2.setCell ⟨w.heap.size, 0, none⟩ (.int .u64 t)) ⟨w.heap.size, 1, none⟩ (.int .u64 u))
  refine bodyPost_ret (v := .agg #[.int .u64 t, .int .u64 u]) (by simp [results, Try.results27, go_sem, d0, d1]) rfl ⟨rfl, HM2.out.1.far G (by simp; omega) (by simp; omega) (by simp; omega) (by simp; omega), ?_⟩
  refine grown_more (((grown_kept ((Kept.refl w).alloc _) (some b3)).trans HM.out.2).trans HM2.out.2) G fun j hj => ?_
  injection hj with hj
  simp only at hj
  omega

set_option maxHeartbeats 800000 in
theorem readerOf_any (x : List Nat) (ad : Addr) (n c : Nat) (w : World) (hl : x.length = n) (h : LiesAt w w.heap.size ad x) :
    Calls Try.prog 23 #[.slice (some ad) n c] w fun e w' => e = .returned (.agg #[.func (.func 26) #[] #[.pointer (some ⟨w.heap.size + 3, 0, none⟩)], .func (.func 27) #[] #[.pointer (some ⟨w.heap.size + 3, 0, none⟩)], .func (.func 28) #[] #[.pointer (some ⟨w.heap.size + 3, 0, none⟩)]]) ∧
      Reads w x ad n c w.heap.size (w.heap.size + 2) (w.heap.size + 3) 0 w' := by
  go_enter Try.func23, Try.ntmps23
  go_wp2_with fail
  refine bodyPost_ret (v := .agg #[.func (.func 26) #[] #[.pointer (some ⟨w.heap.size + 3, 0, none⟩)], .func (.func 27) #[] #[.pointer (some ⟨w.heap.size + 3, 0, none⟩)], .func (.func 28) #[] #[.pointer (some ⟨w.heap.size + 3, 0, none⟩)]])
    (by simp [results, Try.results23, go_sem]) rfl ⟨rfl, ?_⟩
  have K := ((((Kept.refl w).alloc (.cells #[.slice (some ad) n c] 29)).alloc (.cells #[.func (.func 26) #[] #[.pointer (some ⟨w.heap.size + 1 + 1 + 1, 0, none⟩)], .func (.func 27) #[] #[.pointer (some ⟨w.heap.size + 1 + 1 + 1, 0, none⟩)], .func (.func 28) #[] #[.pointer (some ⟨w.heap.size + 1 + 1 + 1, 0, none⟩)]] 52)).alloc (.cells #[.int .i64 0] 3)).alloc
    (.cells #[.func (.func 25) #[] #[.pointer (some ⟨w.heap.size, 0, none⟩), .pointer (some ⟨w.heap.size + 1 + 1, 0, none⟩)]] 55)
  exact ⟨K, hl, h.keep fun p hp => K.cell hp, by omega, by omega, by omega, by simp [go_sem], by simp [go_sem], by simp [go_sem], by simp [go_sem]⟩

end Go.Proofs.Ytfbjiepnhfgmfaa
