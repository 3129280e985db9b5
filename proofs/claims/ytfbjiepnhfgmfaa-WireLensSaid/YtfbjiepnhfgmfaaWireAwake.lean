/-
  The chapter's example in package marigoldlaw03: awake returns true.
-/
import Derived.Test.YtfbjiepnhfgmfaaWireLaw
import Derived.Test.YtfbjiepnhfgmfaaApiEq
import Derived.Test.YtfbjiepnhfgmfaaHas
namespace Go.Proofs.Ytfbjiepnhfgmfaa
open Go.ChangeShapes Go.WideShapes Go.ChangeAt Go.RowKit

/-! ### awake -/
/-- A row of one byte or more, by its block. -/
def RowAt (w : World) (l : List Nat) (g n c : Nat) : Prop := g < w.heap.size ∧ Lies w l (some ⟨g, 0, none⟩) n c ∧ ∀ j x : Nat, l[j]? = some x → w.cell? ⟨g, j, none⟩ = some (.int .u8 (x : Nat))
theorem Bytes.rowAt {W w : World} {l : List Nat} {v : Value} (h : Bytes W l v w) (hb : ∀ b ∈ l, b < 256) (h0 : 0 < l.length) : ∃ g c, v = .slice (some ⟨g, 0, none⟩) l.length c ∧ RowAt w l g l.length c := by
  rcases h.1.2 with ⟨rfl, h0'⟩ | ⟨g, cap, cur, rfl, _, hg, hn, _⟩
  · omega
  · have hlt := (h.1.lt g rfl).2
    refine ⟨_, cap, rfl, hlt, ⟨rfl, hn, hb, fun _ => ⟨_, rfl, hlt, fun j x hx => ?_⟩⟩, fun j x hx => ?_⟩
    · exact h.1.cells (g := g) rfl j _ (by simp [byteCells, List.getElem?_map, hx])
    · rw [h.1.cellAt j (by simpa using (List.getElem?_eq_some_iff.1 hx).1)]
      simp [byteCells, List.getElem?_map, hx]
theorem RowAt.kept {w w' : World} {l : List Nat} {g n c : Nat} (h : RowAt w l g n c) (k : Kept w w') : RowAt w' l g n c :=
  ⟨Nat.lt_of_lt_of_le h.1 k.size_le, h.2.1.kept k, fun j x hx => (k.cell (p := ⟨g, j, none⟩) h.1).trans (h.2.2 j x hx)⟩
/-- A call that returns bytes, in a block of their own, and no error. -/
def RowEnd (W : World) (l : List Nat) (n : Nat) (e : Ending) (w : World) : Prop := ∃ g c : Nat, e = .returned (.tuple #[.slice (some ⟨g, 0, none⟩) n c, .int .i64 0]) ∧ RowAt w l g n c ∧ Kept W w
/-- A call that returns no bytes, and an error. -/
def NoneEnd (W : World) (e : Ending) (w : World) : Prop := ∃ (A : Option Addr) (c : Nat), e = .returned (.tuple #[.slice A 0 c, .int .i64 1]) ∧ Lies w [] A 0 c ∧ Kept W w
theorem PutEnd.row {W w : World} {l : List Nat} {n : Nat} {e : Ending} (h : PutEnd W (0, l) e w) (hb : ∀ b ∈ l, b < 256) (hn : l.length = n) (h0 : 0 < n) : RowEnd W l n e w := by
  obtain ⟨v, rfl, B⟩ := h
  obtain ⟨g, c, rfl, R⟩ := B.rowAt hb (by simp only; omega)
  subst hn
  exact ⟨g, c, rfl, R, B.2⟩
theorem PutEnd.nothing {W w : World} {e : Ending} (h : PutEnd W (1, []) e w) : NoneEnd W e w := by
  obtain ⟨v, rfl, B⟩ := h
  obtain ⟨A, c, rfl, R⟩ := B.lies (by simp)
  exact ⟨A, c, rfl, R, B.2⟩
theorem block_yes (s f : Int) (p : Nat × Nat) (t : Nat) (w : World) (h : made s f = true) :
    Calls Try.prog 10 #[.agg #[.int .i64 s, .int .i64 f, .int .u64 p.1, .int .u64 p.2, .int .u64 t]] w (RowEnd w (blockL s.toNat f.toNat p t) 30) :=
  (block_any s f p t w).mono fun e w' H => by
    rw [blockPut_yes h] at H
    obtain ⟨m, n, rfl, rfl, _, _, _⟩ := made_nat h
    exact H.row (blockL_lt (by simp; omega)) (by simp) (by omega)
theorem vote_yes (s f : Int) (p : Nat × Nat) (w : World) (h : made s f = true) :
    Calls Try.prog 12 #[.agg #[.int .i64 f, .int .i64 s, .int .u64 p.1, .int .u64 p.2]] w (RowEnd w (voteL s.toNat f.toNat p) 22) :=
  (vote_any s f p w).mono fun e w' H => by
    rw [votePut_yes h] at H
    obtain ⟨m, n, rfl, rfl, _, _, _⟩ := made_nat h
    exact H.row (voteL_lt (by simp; omega)) (by simp) (by omega)
theorem block_no (s f : Int) (p : Nat × Nat) (t : Nat) (w : World) (h : made s f = false) :
    Calls Try.prog 10 #[.agg #[.int .i64 s, .int .i64 f, .int .u64 p.1, .int .u64 p.2, .int .u64 t]] w (NoneEnd w) :=
  (block_any s f p t w).mono fun e w' H => by
    rw [blockPut_no h] at H
    exact H.nothing
theorem vote_no (s f : Int) (p : Nat × Nat) (w : World) (h : made s f = false) :
    Calls Try.prog 12 #[.agg #[.int .i64 f, .int .i64 s, .int .u64 p.1, .int .u64 p.2]] w (NoneEnd w) :=
  (vote_any s f p w).mono fun e w' H => by
    rw [votePut_no h] at H
    exact H.nothing
/-- A call that returns something, and an error's number. -/
def SomeEnd (W : World) (e : Ending) (w : World) : Prop := ∃ (v : Value) (k : Nat), e = .returned (.tuple #[v, .int .i64 k]) ∧ Kept W w
theorem block_some (s f : Int) (p : Nat × Nat) (t : Nat) (w : World) :
    Calls Try.prog 10 #[.agg #[.int .i64 s, .int .i64 f, .int .u64 p.1, .int .u64 p.2, .int .u64 t]] w (SomeEnd w) :=
  (block_any s f p t w).mono fun _ _ ⟨v, he, B⟩ => ⟨v, _, he, B.2⟩
theorem vote_some (s f : Int) (p : Nat × Nat) (w : World) :
    Calls Try.prog 12 #[.agg #[.int .i64 f, .int .i64 s, .int .u64 p.1, .int .u64 p.2]] w (SomeEnd w) :=
  (vote_any s f p w).mono fun _ _ ⟨v, he, B⟩ => ⟨v, _, he, B.2⟩
theorem RowAt.str {w : World} {l : List Nat} {g n c : Nat} (h : RowAt w l g n c) : Sem.run Try.prog (convert 29 9 (.slice (some ⟨g, 0, none⟩) n c)) w = .ok (.string (strL l)) w := run_str h.2.1
theorem Lies.strs {w : World} {l : List Nat} {A : Option Addr} {n c : Nat} (h : Lies w l A n c) (k : Nat) : Sem.run Try.prog (convert 29 9 (.slice A n c)) (w.drewN k) = .ok (.string (strL l)) (w.drewN k) :=
  run_str (h.kept ((Kept.refl w).drewN k))
theorem RowAt.strs {w : World} {l : List Nat} {g n c : Nat} (h : RowAt w l g n c) (k : Nat) : Sem.run Try.prog (convert 29 9 (.slice (some ⟨g, 0, none⟩) n c)) (w.drewN k) = .ok (.string (strL l)) (w.drewN k) := h.2.1.strs k
theorem RowAt.strs2 {w : World} {l : List Nat} {g n c : Nat} (h : RowAt w l g n c) (k m : Nat) : Sem.run Try.prog (convert 29 9 (.slice (some ⟨g, 0, none⟩) n c)) ((w.drewN k).drewN m) = .ok (.string (strL l)) ((w.drewN k).drewN m) :=
  (h.2.1.kept ((Kept.refl w).drewN k)).strs m
theorem block_inj {s s' f f' : Int} {p p' : Nat × Nat} {t t' : Nat} (h : made s f = true) (h' : made s' f' = true) (h1 : p.1 < 18446744073709551616) (h2 : p.2 < 18446744073709551616) (h3 : t < 18446744073709551616)
    (k1 : p'.1 < 18446744073709551616) (k2 : p'.2 < 18446744073709551616) (k3 : t' < 18446744073709551616) (e : blockL s.toNat f.toNat p t = blockL s'.toNat f'.toNat p' t') : s = s' ∧ f = f' ∧ p = p' ∧ t = t' := by
  obtain ⟨m, n, rfl, rfl, a1, a2, a3⟩ := made_nat h
  obtain ⟨m', n', rfl, rfl, b1, b2, b3⟩ := made_nat h'
  simp only [Int.toNat_natCast] at e
  have g := getN_blockL (m := m) (n := n) (p := p) (t := t) a1 a2 a3 h1 h2 h3
  have g' := getN_blockL (m := m') (n := n') (p := p') (t := t') b1 b2 b3 k1 k2 k3
  rw [e, g'] at g
  unfold Got.block at g
  injection g with g1 g2 g3 g4
  exact ⟨by omega, by omega, g3.symm, g4.symm⟩
theorem vote_inj {s s' f f' : Int} {p p' : Nat × Nat} (h : made s f = true) (h' : made s' f' = true) (h1 : p.1 < 18446744073709551616) (h2 : p.2 < 18446744073709551616)
    (k1 : p'.1 < 18446744073709551616) (k2 : p'.2 < 18446744073709551616) (e : voteL s.toNat f.toNat p = voteL s'.toNat f'.toNat p') : s = s' ∧ f = f' ∧ p = p' := by
  obtain ⟨m, n, rfl, rfl, a1, a2, a3⟩ := made_nat h
  obtain ⟨m', n', rfl, rfl, b1, b2, b3⟩ := made_nat h'
  simp only [Int.toNat_natCast] at e
  have g := getN_voteL (m := m) (n := n) (p := p) a1 a2 a3 h1 h2
  have g' := getN_voteL (m := m') (n := n') (p := p') b1 b2 b3 k1 k2
  rw [e, g'] at g
  unfold Got.vote at g
  injection g with g1 g2 g3 g4 g5 g6 g7
  exact ⟨by omega, by omega, g7.symm⟩
theorem blockL_made {s f : Int} {p : Nat × Nat} {t : Nat} (h : made s f = true) : ∀ b ∈ blockL s.toNat f.toNat p t, b < 256 := by
  obtain ⟨m, n, rfl, rfl, _, _, _⟩ := made_nat h
  exact blockL_lt (by simp; omega)
theorem voteL_made {s f : Int} {p : Nat × Nat} (h : made s f = true) : ∀ b ∈ voteL s.toNat f.toNat p, b < 256 := by
  obtain ⟨m, n, rfl, rfl, _, _, _⟩ := made_nat h
  exact voteL_lt (by simp; omega)
/-- Two blocks that are not the same differ somewhere, as the walk asks it. -/
theorem block_ne {s s' f f' : Int} {p p' : Nat × Nat} {t t' : Nat} (h : ¬ (s = s' ∧ f = f' ∧ p = p' ∧ t = t')) :
    ((s == s') && ((f == f') && ((((p.1 : Int) == (p'.1 : Int)) && ((p.2 : Int) == (p'.2 : Int))) && ((t : Int) == (t' : Int))))) = false := by
  obtain ⟨a, b⟩ := p
  obtain ⟨a', b'⟩ := p'
  simp only [Prod.mk.injEq] at h
  simp
  omega
theorem vote_ne {s s' f f' : Int} {p p' : Nat × Nat} (h : ¬ (s = s' ∧ f = f' ∧ p = p')) :
    ((f == f') && ((s == s') && (((p.1 : Int) == (p'.1 : Int)) && ((p.2 : Int) == (p'.2 : Int))))) = false := by
  obtain ⟨a, b⟩ := p
  obtain ⟨a', b'⟩ := p'
  simp only [Prod.mk.injEq] at h
  simp
  omega
theorem block_made (m n : Nat) (p : Nat × Nat) (t : Nat) (w : World) (h1 : 1 ≤ m) (h2 : m ≤ 1048576) (h3 : n < 12) :
    Calls Try.prog 10 #[.agg #[.int .i64 m, .int .i64 n, .int .u64 p.1, .int .u64 p.2, .int .u64 t]] w (RowEnd w (blockL m n p t) 30) := by
  have h := block_yes m n p t w (made_mk h1 h2 h3)
  simpa only [Int.toNat_natCast] using h
theorem vote_made (m n : Nat) (p : Nat × Nat) (w : World) (h1 : 1 ≤ m) (h2 : m ≤ 1048576) (h3 : n < 12) :
    Calls Try.prog 12 #[.agg #[.int .i64 n, .int .i64 m, .int .u64 p.1, .int .u64 p.2]] w (RowEnd w (voteL m n p) 22) := by
  have h := vote_yes m n p w (made_mk h1 h2 h3)
  simpa only [Int.toNat_natCast] using h
theorem block_zero (w : World) : Calls Try.prog 10 #[.agg #[.int .i64 0, .int .i64 0, .int .u64 0, .int .u64 0, .int .u64 0]] w (NoneEnd w) := block_no 0 0 (0, 0) 0 w (by decide)
theorem LiesAt.take {w : World} {B : Nat} {ad : Addr} {l : List Nat} (h : LiesAt w B ad l) (k : Nat) : LiesAt w B ad (l.take k) :=
  ⟨h.1, fun j x hx => h.2 j x (by
    have hj : j < k := by
      have := (List.getElem?_eq_some_iff.1 hx).1
      simp at this; omega
    rw [List.getElem?_take_of_lt hj] at hx
    exact hx)⟩
theorem Lies.cut {w : World} {l : List Nat} {A : Option Addr} {n c : Nat} (h : Lies w l A n c) (k : Nat) (hk : k ≤ n) : Lies w (l.take k) A k c := by
  refine ⟨by have := h.1; simp; omega, by have := h.2.1; omega, fun b hb => h.2.2.1 b (List.mem_of_mem_take hb), fun h0 => ?_⟩
  obtain ⟨ad, e, h1⟩ := h.2.2.2 (by omega)
  exact ⟨ad, e, h1.take k⟩
theorem RowAt.cells {w : World} {l : List Nat} {g n c : Nat} (h : RowAt w l g n c) : CellsAt w w.heap.size (some ⟨g, 0, none⟩) (byteCells l) := fun j u hu => by
  simp only [byteCells, List.getElem?_map, Option.map_eq_some_iff] at hu
  obtain ⟨x, hx, rfl⟩ := hu
  refine ⟨_, rfl, h.1, ?_⟩
  have := h.2.2 j x hx
  unfold Addr.add
  split
  · subst j; exact this
  · simpa using this
theorem headL_first (mark slot who : Nat) (p : Nat × Nat) (c : List Nat) : (headL mark slot who p ++ c)[0]? = some mark := by simp [headL]
theorem cut_block {m n : Nat} {p : Nat × Nat} {t k : Nat} (h : k < 30) : getN ((blockL m n p t).take k) = .none := by
  refine getN_none (decide_eq_false fun ⟨hl, h0⟩ => ?_) (decide_eq_false fun ⟨hl, _⟩ => ?_)
  · have hk : 0 < k := by simp at hl; omega
    rw [List.getElem?_take_of_lt hk] at h0
    have := headL_first 1 m n p (byteL 8 t)
    unfold blockL at h0
    rw [this] at h0
    cases h0
  · simp at hl; omega
theorem cut_vote {m n : Nat} {p : Nat × Nat} {k : Nat} (h : k < 22) : getN ((voteL m n p).take k) = .none := by
  refine getN_len ?_ ?_ <;> simp <;> omega
theorem more_block {m n : Nat} {p : Nat × Nat} {t : Nat} : getN (blockL m n p t ++ [0]) = .none := by
  refine getN_len ?_ ?_ <;> simp
theorem more_vote {m n : Nat} {p : Nat × Nat} : getN (voteL m n p ++ [0]) = .none := by
  refine getN_len ?_ ?_ <;> simp
theorem put_apart {m n m' n' : Nat} {p p' : Nat × Nat} {t : Nat} (h1 : n < 256) (h2 : n' < 256) : ((strL (blockL m n p t)).toList == (strL (voteL m' n' p')).toList) = false :=
  strL_ne (blockL_lt h1) (voteL_lt h2) fun e => by
    have := congrArg List.length e
    simp at this
theorem made_no {s f : Int} (h : made s f = false) : ¬ (1 ≤ s) ∨ (1 ≤ s ∧ ¬ (s ≤ 1048576)) ∨ (1 ≤ s ∧ s ≤ 1048576 ∧ ¬ (0 ≤ f)) ∨ (1 ≤ s ∧ s ≤ 1048576 ∧ 0 ≤ f ∧ ¬ (f < 12)) := by
  have := of_decide_eq_false h
  omega
theorem made_yes {s f : Int} (h : made s f = true) : 1 ≤ s ∧ s ≤ 1048576 ∧ 0 ≤ f ∧ f < 12 := of_decide_eq_true h
theorem getN_cases (l : List Nat) : getN l = .none ∨
    (isVoteL l = true ∧ made (seg l 1 4) (seg l 5 1) = true ∧ getN l = .vote (seg l 1 4) (seg l 5 1) (seg l 6 8, seg l 14 8)) ∨
    (isBlockL l = true ∧ made (seg l 1 4) (seg l 5 1) = true ∧ getN l = .block (seg l 1 4) (seg l 5 1) (seg l 6 8, seg l 14 8) (seg l 22 8)) := by
  cases m : made (seg l 1 4) (seg l 5 1)
  · exact Or.inl (getN_bad m)
  · cases v : isVoteL l
    · cases b : isBlockL l
      · exact Or.inl (getN_none v b)
      · exact Or.inr (Or.inr ⟨rfl, rfl, getN_block b m⟩)
    · exact Or.inr (Or.inl ⟨rfl, rfl, getN_vote v m⟩)
theorem seg_four {l : List Nat} (h : 6 ≤ l.length) : ∃ b1 b2 b3 b4 : Nat, l[1]? = some b1 ∧ l[2]? = some b2 ∧ l[3]? = some b3 ∧ l[4]? = some b4 ∧ seg l 1 4 = b1 + 256 * b2 + 65536 * b3 + 16777216 * b4 := by
  refine ⟨l[1], l[2], l[3], l[4], List.getElem?_eq_getElem (by omega), List.getElem?_eq_getElem (by omega), List.getElem?_eq_getElem (by omega), List.getElem?_eq_getElem (by omega), ?_⟩
  rw [seg_succ (b := l[4]) (List.getElem?_eq_getElem (by omega)), seg_succ (b := l[3]) (List.getElem?_eq_getElem (by omega)), seg_succ (b := l[2]) (List.getElem?_eq_getElem (by omega)), seg_one (b := l[1]) (List.getElem?_eq_getElem (by omega))]
theorem seg_five {l : List Nat} (h : 6 ≤ l.length) : ∃ b : Nat, l[5]? = some b ∧ seg l 5 1 = b := ⟨l[5], List.getElem?_eq_getElem (by omega), seg_one (List.getElem?_eq_getElem (by omega))⟩
/-- A byte of a slice, as the walk reads it. -/
theorem Lies.cell {w : World} {l : List Nat} {ad : Addr} {n c : Nat} (h : Lies w l (some ad) n c) {j x : Nat} (hj : 0 < j) (hx : l[j]? = some x) : w.cell? ⟨ad.block, ad.off + j, none⟩ = some (.int .u8 (x : Nat)) := by
  have hn : 0 < n := by have := (List.getElem?_eq_some_iff.1 hx).1; have := h.1; omega
  obtain ⟨ad', e, h1⟩ := h.2.2.2 hn
  injection e with e
  subst e
  rw [← add_pos ad j hj]
  exact h1.2 j x hx
theorem Lies.cell0 {w : World} {l : List Nat} {ad : Addr} {n c : Nat} (h : Lies w l (some ad) n c) {x : Nat} (hx : l[0]? = some x) : w.cell? ad = some (.int .u8 (x : Nat)) := by
  have hn : 0 < n := by have := (List.getElem?_eq_some_iff.1 hx).1; have := h.1; omega
  obtain ⟨ad', e, h1⟩ := h.2.2.2 hn
  injection e with e
  subst e
  exact h1.2 0 x hx
theorem Lies.some {w : World} {l : List Nat} {A : Option Addr} {n c : Nat} (h : Lies w l A n c) (hn : 0 < n) : ∃ ad, A = .some ad := by
  obtain ⟨ad, e, _⟩ := h.2.2.2 hn
  exact ⟨ad, e⟩
theorem Lies.byte {w : World} {l : List Nat} {A : Option Addr} {n c : Nat} (h : Lies w l A n c) {j x : Nat} (hx : l[j]? = .some x) : x < 256 := by
  obtain ⟨hi, rfl⟩ := List.getElem?_eq_some_iff.1 hx
  exact h.2.2.1 _ (List.getElem_mem hi)
theorem awake_put : votePut 258 3 (0, 0) = (0, [2, 2, 1, 0, 0, 3, 0, 0, 0, 0, 0, 0, 0, 0, 0, 0, 0, 0, 0, 0, 0, 0]) := by decide
theorem awake_got : getN [2, 2, 1, 0, 0, 3, 0, 0, 0, 0, 0, 0, 0, 0, 0, 0, 0, 0, 0, 0, 0, 0] = .vote 258 3 (0, 0) := by
  have h := getN_voteL (m := 258) (n := 3) (p := (0, 0)) (by decide) (by decide) (by decide) (by decide) (by decide)
  exact h
attribute [local go_sem high] eqVote in
set_option maxHeartbeats 1600000 in
theorem awake_any (w : World) : Calls Try.prog 9 #[] w fun e w' => e = .returned (.bool true) ∧ Kept w w' := by
  have AP := Lib.hid awake_put
  have AG := Lib.hid awake_got
  go_enter Try.func9, Try.ntmps9
  go_wp2_with fail
  refine (vote_any 258 3 (0, 0) _).mono ?_
  rintro e w1 ⟨v, rfl, B⟩
  rw [AP.out] at B
  have e1 : (votePut 258 3 (0, 0)).1 = 0 := by rw [AP.out]
  rw [e1]
  clear e1
  obtain ⟨g, c, rfl, R⟩ := B.rowAt (by simp) (by simp)
  have HK := Lib.hid B.2
  have HR := Lib.hid R
  clear B R
  go_wp2_with fail
  refine (get_any _ _ _ _ _ (by simp) HR.out.2.1).mono ?_
  rintro e w2 ⟨rfl, k2⟩
  rw [AG.out]
  unfold getV Got.vote
  have R2 := HR.out.kept k2
  have x0 := R2.2.2 0 2 rfl
  have x1 := R2.2.2 1 2 rfl
  have x2 := R2.2.2 2 1 rfl
  have x5 := R2.2.2 5 3 rfl
  have g2 := R2.1
  have HK2 := Lib.hid (HK.out.trans k2)
  clear R2 k2
  go_wp2_with fail
  go_ret
  exact ⟨rfl, (HK2.out.alloc _).alloc _⟩

end Go.Proofs.Ytfbjiepnhfgmfaa
