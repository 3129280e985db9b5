/-
  Plain numbers of layer 3: a number's bytes, the lowest first; the number of some bytes; what a block's and a vote's bytes are; what any bytes are.
-/
import Derived.Test.YtfbjiepnhfgmfaaRows
namespace Go.Proofs.Ytfbjiepnhfgmfaa

/-- The k lowest bytes of n, the lowest first. -/
def byteL : Nat → Nat → List Nat
  | 0, _ => []
  | k + 1, n => n % 256 :: byteL k (n / 256)
/-- The number whose bytes these are. -/
def numL : List Nat → Nat
  | [] => 0
  | b :: l => b + 256 * numL l
@[simp] theorem byteL_length : ∀ k n, (byteL k n).length = k
  | 0, _ => rfl
  | k + 1, n => by simp [byteL, byteL_length k]
theorem byteL_lt : ∀ k n, ∀ b ∈ byteL k n, b < 256
  | 0, _, b, h => by simp [byteL] at h
  | k + 1, n, b, h => by
    simp only [byteL, List.mem_cons] at h
    rcases h with rfl | h
    · omega
    · exact byteL_lt k _ b h
theorem numL_byteL : ∀ k n, n < 256 ^ k → numL (byteL k n) = n
  | 0, n, h => by simp at h; simp [byteL, numL, h]
  | k + 1, n, h => by
    rw [byteL, numL, numL_byteL k (n / 256) (by rw [Nat.pow_succ] at h; omega)]
    omega
theorem byteL_numL : ∀ l : List Nat, (∀ b ∈ l, b < 256) → byteL l.length (numL l) = l
  | [], _ => rfl
  | b :: l, h => by
    have hb := h b (by simp)
    have := byteL_numL l (fun c hc => h c (by simp [hc]))
    simp only [List.length_cons, byteL, numL]
    rw [show (b + 256 * numL l) % 256 = b by omega, show (b + 256 * numL l) / 256 = numL l by omega, this]
theorem byteL_snoc : ∀ k n, byteL (k + 1) n = byteL k n ++ [n / 256 ^ k % 256]
  | 0, n => by simp [byteL]
  | k + 1, n => by
    rw [byteL, byteL_snoc k (n / 256)]
    rw [show n / 256 ^ (k + 1) = n / 256 / 256 ^ k by rw [Nat.pow_succ, Nat.mul_comm, Nat.div_div_eq_div_mul]]
    simp [byteL]
theorem numL_snoc : ∀ (l : List Nat) (b : Nat), numL (l ++ [b]) = numL l + 256 ^ l.length * b
  | [], b => by simp [numL]
  | c :: l, b => by
    simp only [List.cons_append, numL, numL_snoc l b, List.length_cons, Nat.pow_succ]
    rw [Nat.mul_add, Nat.mul_comm (256 ^ l.length) 256, Nat.mul_assoc]
    omega
theorem numL_lt : ∀ l : List Nat, (∀ b ∈ l, b < 256) → numL l < 256 ^ l.length
  | [], _ => by simp [numL]
  | b :: l, h => by
    have hb := h b (by simp)
    have := numL_lt l (fun c hc => h c (by simp [hc]))
    simp only [numL, List.length_cons, Nat.pow_succ]
    omega

/-! ### What is put -/
/-- May a slot, and who, be? -/
def made (s f : Int) : Bool := decide (1 ≤ s ∧ s ≤ 1048576 ∧ 0 ≤ f ∧ f < 12)
theorem made_nat {s f : Int} (h : made s f = true) : ∃ m n : Nat, s = m ∧ f = n ∧ 1 ≤ m ∧ m ≤ 1048576 ∧ n < 12 := by
  have := of_decide_eq_true h
  exact ⟨s.toNat, f.toNat, by omega, by omega, by omega, by omega, by omega⟩
theorem made_mk {m n : Nat} (h1 : 1 ≤ m) (h2 : m ≤ 1048576) (h3 : n < 12) : made m n = true := decide_eq_true (by omega)
/-- What both begin by. -/
def headL (mark slot who : Nat) (p : Nat × Nat) : List Nat := [mark] ++ byteL 4 slot ++ [who] ++ byteL 8 p.1 ++ byteL 8 p.2
def blockL (slot who : Nat) (p : Nat × Nat) (t : Nat) : List Nat := headL 1 slot who p ++ byteL 8 t
def voteL (slot who : Nat) (p : Nat × Nat) : List Nat := headL 2 slot who p
@[simp] theorem headL_length (mark slot who : Nat) (p : Nat × Nat) : (headL mark slot who p).length = 22 := by simp [headL]
@[simp] theorem blockL_length (slot who : Nat) (p : Nat × Nat) (t : Nat) : (blockL slot who p t).length = 30 := by simp [blockL]
@[simp] theorem voteL_length (slot who : Nat) (p : Nat × Nat) : (voteL slot who p).length = 22 := by simp [voteL]
theorem headL_lt {mark slot who : Nat} {p : Nat × Nat} (h1 : mark < 256) (h2 : who < 256) : ∀ b ∈ headL mark slot who p, b < 256 := fun b hb => by
  simp only [headL, List.mem_append, List.mem_singleton] at hb
  rcases hb with (((rfl | hb) | rfl) | hb) | hb
  · exact h1
  · exact byteL_lt _ _ _ hb
  · exact h2
  · exact byteL_lt _ _ _ hb
  · exact byteL_lt _ _ _ hb
theorem blockL_lt {slot who : Nat} {p : Nat × Nat} {t : Nat} (h2 : who < 256) : ∀ b ∈ blockL slot who p t, b < 256 := fun b hb => by
  simp only [blockL, List.mem_append] at hb
  rcases hb with hb | hb
  · exact headL_lt (by omega) h2 b hb
  · exact byteL_lt _ _ _ hb
theorem voteL_lt {slot who : Nat} {p : Nat × Nat} (h2 : who < 256) : ∀ b ∈ voteL slot who p, b < 256 := headL_lt (by omega) h2
/-- The error and the bytes of a block. -/
def blockPut (s f : Int) (p : Nat × Nat) (t : Nat) : Nat × List Nat := if made s f = true then (0, blockL s.toNat f.toNat p t) else (1, [])
/-- The error and the bytes of a vote. -/
def votePut (s f : Int) (p : Nat × Nat) : Nat × List Nat := if made s f = true then (0, voteL s.toNat f.toNat p) else (1, [])
theorem blockPut_yes {s f : Int} {p : Nat × Nat} {t : Nat} (h : made s f = true) : blockPut s f p t = (0, blockL s.toNat f.toNat p t) := if_pos h
theorem blockPut_no {s f : Int} {p : Nat × Nat} {t : Nat} (h : made s f = false) : blockPut s f p t = (1, []) := if_neg (by rw [h]; decide)
theorem votePut_yes {s f : Int} {p : Nat × Nat} (h : made s f = true) : votePut s f p = (0, voteL s.toNat f.toNat p) := if_pos h
theorem votePut_no {s f : Int} {p : Nat × Nat} (h : made s f = false) : votePut s f p = (1, []) := if_neg (by rw [h]; decide)
theorem blockPut_lt (s f : Int) (p : Nat × Nat) (t : Nat) : (∀ b ∈ (blockPut s f p t).2, b < 256) ∧ (blockPut s f p t).2.length ≤ 30 := by
  cases h : made s f
  · rw [blockPut_no h]; simp
  · rw [blockPut_yes h]
    obtain ⟨m, n, rfl, rfl, _, _, _⟩ := made_nat h
    exact ⟨blockL_lt (by simp; omega), by simp⟩
theorem votePut_lt (s f : Int) (p : Nat × Nat) : (∀ b ∈ (votePut s f p).2, b < 256) ∧ (votePut s f p).2.length ≤ 22 := by
  cases h : made s f
  · rw [votePut_no h]; simp
  · rw [votePut_yes h]
    obtain ⟨m, n, rfl, rfl, _, _, _⟩ := made_nat h
    exact ⟨voteL_lt (by simp; omega), by simp⟩

/-! ### What is got -/
/-- The number of k bytes of x from a place on. -/
def seg (x : List Nat) (i k : Nat) : Nat := numL ((x.drop i).take k)
/-- What Get tells: a block's slot, who, parent and salt; a vote's who, slot and head; is it a vote; the error. -/
structure Got where
  bs : Nat
  bf : Nat
  bp : Nat × Nat
  bt : Nat
  vf : Nat
  vs : Nat
  vp : Nat × Nat
  is : Bool
  err : Nat
def Got.none : Got := ⟨0, 0, (0, 0), 0, 0, 0, (0, 0), false, 2⟩
def Got.block (s f : Nat) (p : Nat × Nat) (t : Nat) : Got := ⟨s, f, p, t, 0, 0, (0, 0), false, 0⟩
def Got.vote (s f : Nat) (p : Nat × Nat) : Got := ⟨0, 0, (0, 0), 0, f, s, p, true, 0⟩
def isVoteL (x : List Nat) : Bool := decide (x.length = 22 ∧ x[0]? = some 2)
def isBlockL (x : List Nat) : Bool := decide (x.length = 30 ∧ x[0]? = some 1)
def getN (x : List Nat) : Got :=
  if made (seg x 1 4) (seg x 5 1) = true then
    if isVoteL x = true then .vote (seg x 1 4) (seg x 5 1) (seg x 6 8, seg x 14 8)
    else if isBlockL x = true then .block (seg x 1 4) (seg x 5 1) (seg x 6 8, seg x 14 8) (seg x 22 8) else .none
  else .none
theorem getN_vote {x : List Nat} (h : isVoteL x = true) (m : made (seg x 1 4) (seg x 5 1) = true) : getN x = .vote (seg x 1 4) (seg x 5 1) (seg x 6 8, seg x 14 8) := by
  unfold getN; rw [if_pos m, if_pos h]
theorem getN_block {x : List Nat} (h : isBlockL x = true) (m : made (seg x 1 4) (seg x 5 1) = true) : getN x = .block (seg x 1 4) (seg x 5 1) (seg x 6 8, seg x 14 8) (seg x 22 8) := by
  have hv : isVoteL x ≠ true := fun hv => by
    have h1 := of_decide_eq_true h
    have h2 := of_decide_eq_true hv
    omega
  unfold getN; rw [if_pos m, if_neg hv, if_pos h]
theorem getN_none {x : List Nat} (h : isVoteL x = false) (k : isBlockL x = false) : getN x = .none := by
  unfold getN; rw [h, k]; simp
theorem getN_bad {x : List Nat} (m : made (seg x 1 4) (seg x 5 1) = false) : getN x = .none := by
  unfold getN; rw [m]; simp
theorem getN_len {x : List Nat} (h : x.length ≠ 22) (k : x.length ≠ 30) : getN x = .none := getN_none (decide_eq_false (by simp [h])) (decide_eq_false (by simp [k]))
theorem seg_lt {x : List Nat} (hx : ∀ b ∈ x, b < 256) (i k : Nat) : seg x i k < 256 ^ k := by
  have := numL_lt ((x.drop i).take k) (fun b hb => hx b (List.mem_of_mem_drop (List.mem_of_mem_take hb)))
  refine Nat.lt_of_lt_of_le this (Nat.pow_le_pow_right (by omega) ?_)
  simp; omega
theorem seg_one {x : List Nat} {i b : Nat} (h : x[i]? = some b) : seg x i 1 = b := by
  unfold seg
  obtain ⟨hi, rfl⟩ := List.getElem?_eq_some_iff.1 h
  rw [List.drop_eq_getElem_cons hi, List.take_succ_cons, List.take_zero, numL, numL]
  rfl
theorem seg_drop (x : List Nat) (j i k : Nat) : seg (x.drop j) i k = seg x (j + i) k := by unfold seg; rw [List.drop_drop]
/-- One byte more. -/
theorem seg_succ {x : List Nat} {i k b : Nat} (h : x[i + k]? = some b) : seg x i (k + 1) = seg x i k + 256 ^ k * b := by
  unfold seg
  obtain ⟨hi, rfl⟩ := List.getElem?_eq_some_iff.1 h
  have hk : k < (x.drop i).length := by simp; omega
  rw [List.take_succ_eq_append_getElem hk, numL_snoc]
  have hm : min k (x.length - i) = k := by omega
  simp [hm]
theorem seg_first {x : List Nat} {i k b : Nat} (h : x[i]? = some b) : seg x i (k + 1) = b + 256 * seg x (i + 1) k := by
  unfold seg
  obtain ⟨hi, rfl⟩ := List.getElem?_eq_some_iff.1 h
  rw [List.drop_eq_getElem_cons hi, List.take_succ_cons, numL]

/-! ### What is put is got, and back -/
theorem seg_mid (a l c : List Nat) (k : Nat) (hk : l.length = k) : seg (a ++ l ++ c) a.length k = numL l := by
  unfold seg
  rw [List.append_assoc, List.drop_left, List.take_left' hk]
theorem headL_parts (mark slot who : Nat) (p : Nat × Nat) (c : List Nat) (hs : slot < 4294967296) (h1 : p.1 < 18446744073709551616) (h2 : p.2 < 18446744073709551616) :
    seg (headL mark slot who p ++ c) 1 4 = slot ∧ seg (headL mark slot who p ++ c) 5 1 = who ∧ seg (headL mark slot who p ++ c) 6 8 = p.1 ∧ seg (headL mark slot who p ++ c) 14 8 = p.2 ∧ (headL mark slot who p ++ c)[0]? = some mark := by
  have e1 := seg_mid [mark] (byteL 4 slot) ([who] ++ byteL 8 p.1 ++ byteL 8 p.2 ++ c) 4 (by simp)
  have e2 := seg_mid ([mark] ++ byteL 4 slot) [who] (byteL 8 p.1 ++ byteL 8 p.2 ++ c) 1 (by simp)
  have e3 := seg_mid ([mark] ++ byteL 4 slot ++ [who]) (byteL 8 p.1) (byteL 8 p.2 ++ c) 8 (by simp)
  have e4 := seg_mid ([mark] ++ byteL 4 slot ++ [who] ++ byteL 8 p.1) (byteL 8 p.2) c 8 (by simp)
  rw [numL_byteL _ _ (by simpa using hs)] at e1
  rw [numL_byteL _ _ (by simpa using h1)] at e3
  rw [numL_byteL _ _ (by simpa using h2)] at e4
  simp only [List.length_append, List.length_singleton, byteL_length] at e1 e2 e3 e4
  refine ⟨?_, ?_, ?_, ?_, ?_⟩
  · simpa [headL, List.append_assoc] using e1
  · simpa [headL, List.append_assoc, numL] using e2
  · simpa [headL, List.append_assoc] using e3
  · simpa [headL, List.append_assoc] using e4
  · simp [headL]
theorem getN_voteL {m n : Nat} {p : Nat × Nat} (a : 1 ≤ m) (b : m ≤ 1048576) (c : n < 12) (h1 : p.1 < 18446744073709551616) (h2 : p.2 < 18446744073709551616) : getN (voteL m n p) = .vote m n p := by
  obtain ⟨e1, e2, e3, e4, e5⟩ := headL_parts 2 m n p [] (by omega) h1 h2
  rw [List.append_nil] at e1 e2 e3 e4 e5
  have hv : isVoteL (voteL m n p) = true := decide_eq_true ⟨by simp, e5⟩
  have := getN_vote hv (by unfold voteL; rw [e1, e2]; exact made_mk a b c)
  rw [this]; unfold voteL; rw [e1, e2, e3, e4]
theorem getN_blockL {m n : Nat} {p : Nat × Nat} {t : Nat} (a : 1 ≤ m) (b : m ≤ 1048576) (c : n < 12) (h1 : p.1 < 18446744073709551616) (h2 : p.2 < 18446744073709551616) (h3 : t < 18446744073709551616) :
    getN (blockL m n p t) = .block m n p t := by
  obtain ⟨e1, e2, e3, e4, e5⟩ := headL_parts 1 m n p (byteL 8 t) (by omega) h1 h2
  have e6 := seg_mid (headL 1 m n p) (byteL 8 t) [] 8 (by simp)
  rw [List.append_nil, numL_byteL _ _ (by simpa using h3), headL_length] at e6
  have hv : isBlockL (blockL m n p t) = true := decide_eq_true ⟨by simp, e5⟩
  have := getN_block hv (by unfold blockL; rw [e1, e2]; exact made_mk a b c)
  rw [this]; unfold blockL; rw [e1, e2, e3, e4, e6]
theorem take_seg {x : List Nat} (hx : ∀ b ∈ x, b < 256) (i k : Nat) (h : i + k ≤ x.length) : byteL k (seg x i k) = (x.drop i).take k := by
  have hl : ((x.drop i).take k).length = k := by simp; omega
  have := byteL_numL ((x.drop i).take k) (fun b hb => hx b (List.mem_of_mem_drop (List.mem_of_mem_take hb)))
  rw [hl] at this
  exact this
theorem take_one {x : List Nat} (i : Nat) (h : i + 1 ≤ x.length) : [seg x i 1] = (x.drop i).take 1 := by
  have hi : i < x.length := by omega
  rw [seg_one (List.getElem?_eq_getElem hi), List.drop_eq_getElem_cons hi, List.take_succ_cons, List.take_zero]
theorem join_seg (x : List Nat) (i j : Nat) : (x.take i) ++ (x.drop i).take j = x.take (i + j) := by rw [List.take_add]
theorem headL_seg {x : List Nat} {mark : Nat} (hx : ∀ b ∈ x, b < 256) (h : 22 ≤ x.length) (h0 : x[0]? = some mark) : headL mark (seg x 1 4) (seg x 5 1) (seg x 6 8, seg x 14 8) = x.take 22 := by
  unfold headL
  have e0 : [mark] = x.take 1 := by
    obtain ⟨hi, rfl⟩ := List.getElem?_eq_some_iff.1 h0
    cases x with
    | nil => simp at hi
    | cons a l => simp
  simp only
  rw [take_seg hx 1 4 (by omega), take_one 5 (by omega), take_seg hx 6 8 (by omega), take_seg hx 14 8 (by omega), e0, join_seg, join_seg, join_seg, join_seg]
theorem voteL_seg {x : List Nat} (hx : ∀ b ∈ x, b < 256) (h : isVoteL x = true) : voteL (seg x 1 4) (seg x 5 1) (seg x 6 8, seg x 14 8) = x := by
  obtain ⟨hl, h0⟩ := of_decide_eq_true h
  unfold voteL
  rw [headL_seg hx (by omega) h0, ← hl, List.take_length]
theorem blockL_seg {x : List Nat} (hx : ∀ b ∈ x, b < 256) (h : isBlockL x = true) : blockL (seg x 1 4) (seg x 5 1) (seg x 6 8, seg x 14 8) (seg x 22 8) = x := by
  obtain ⟨hl, h0⟩ := of_decide_eq_true h
  unfold blockL
  rw [headL_seg hx (by omega) h0, take_seg hx 22 8 (by omega), join_seg, show 22 + 8 = x.length by omega, List.take_length]

end Go.Proofs.Ytfbjiepnhfgmfaa
