/-
  The contracts of package marigoldref03: made, number, read, head, Block, Vote, Get.
-/
import Derived.Test.YtfbjiepnhfgmfaaWireAwake
import Derived.Laws.OwnMore
import Derived.Deep.DrawnRows
namespace Go.Proofs.Ytfbjiepnhfgmfaa
open Go.ChangeShapes Go.WideShapes Go.ChangeAt Go.RowKit

/-! ### made -/
set_option maxHeartbeats 400000 in
theorem refMade_any (s f : Int) (w : World) : Calls Try.prog 19 #[.int .i64 s, .int .i64 f] w fun e w' => e = .returned (.bool (made s f)) ∧ w = w' := by
  have H := Lib.hid (show made s f = decide (1 ≤ s ∧ s ≤ 1048576 ∧ 0 ≤ f ∧ f < 12) from rfl)
  rw [H.out]
  go_enter Try.func19, Try.ntmps19
  go_wp2
  all_goals
    go_ret
    refine ⟨ret_bool ?_, rfl⟩
    rw [Bool.eq_iff_iff]
    simp
    try omega

/-! ### number -/
theorem mod_int (q : Nat) : (q : Int) % 256 = ((q % 256 : Nat) : Int) := by omega
set_option maxHeartbeats 800000 in
theorem refNumber_any (m k : Nat) (w : World) (hk : k ≤ 8) (hm : m < 18446744073709551616) :
    Calls Try.prog 21 #[.int .u64 m, .int .i64 k] w (BytesEnd w (byteL k m)) := by
  go_enter Try.func21, Try.ntmps21
  go_wp2_with fail
  go_loopw [0, 5, 6] (fun n x i w' => ∃ j : Nat, j ≤ k ∧ i = .int .i64 j ∧ n = .int .u64 ((m / 256 ^ j : Nat) : Int) ∧ Bytes w (byteL j m) x w') (fun _ _ i _ => k - (intOf i).toNat)
  case atStart => exact ⟨0, by omega, rfl, by simp, Bytes.nil (Kept.refl _)⟩
  case round =>
    obtain ⟨j, hj, rfl, rfl, H⟩ := hrel
    have HB := Lib.hid H
    clear H
    have HQ := Lib.hid (show m / 256 ^ (j + 1) = m / 256 ^ j / 256 by rw [Nat.pow_succ, Nat.div_div_eq_div_mul])
    have HS := Lib.hid (byteL_snoc j m)
    have hq : m / 256 ^ j < 18446744073709551616 := Nat.lt_of_le_of_lt (Nat.div_le_self _ _) hm
    generalize m / 256 ^ j = q at *
    by_cases hlt : j < k
    · go_wp2_with (at_builtin
                   refine wpList_bytes _ rfl (.tmp 12) (.tmp 16) rfl w (byteL j m) u5 rfl (HB.out.alloc _) _ (some ⟨wr.heap.size, 0, none⟩) 1 1 [q % 256] rfl rfl (CellsAt.byte wr _ _ (mod_int q) _ rfl) (by simp; omega) ?_
                   intro v1 w1 h1
                   rw [← HS.out] at h1
                   have HN := Lib.hid h1
                   clear h1)
      go_roundw
      case rel => exact ⟨j + 1, by omega, by go_num, by rw [HQ.out]; go_num, HN.out⟩
      case measure => simp [intOf]; omega
    · have hjk : j = k := by omega
      subst hjk
      go_wp2_with fail
      go_ret
      exact ⟨_, rfl, HB.out⟩

/-! ### read -/
theorem lies_cellAdd {w : World} {l : List Nat} {ad : Addr} {n c : Nat} (h : Lies w l (some ad) n c) {j x : Nat} (hx : l[j]? = some x) : w.cell? (ad.add j) = some (.int .u8 (x : Nat)) := by
  have hn : 0 < n := by have := (List.getElem?_eq_some_iff.1 hx).1; have := h.1; omega
  obtain ⟨ad', e, h1⟩ := h.2.2.2 hn
  injection e with e
  subst e
  exact h1.2 j x hx
set_option maxHeartbeats 800000 in
theorem refRead_any (ad : Addr) (n c at' many : Nat) (l : List Nat) (w : World) (hn : n ≤ 1000) (hm : many ≤ 8) (ha : 0 < at') (hk : at' + many ≤ n) (h : Lies w l (some ad) n c) :
    Calls Try.prog 24 #[.slice (some ad) n c, .int .i64 at', .int .i64 many] w fun e w' => e = .returned (.int .u64 (seg l at' many)) ∧ w = w' := by
  have HH := Lib.hid h
  have hl := h.1
  have HL := Lib.hid hl
  clear h hl
  go_enter Try.func24, Try.ntmps24
  go_wp2_with fail
  go_loop [7, 8] (fun t i => ∃ j : Nat, j ≤ many ∧ i = .int .i64 ((j : Int) - 1) ∧ t = .int .u64 (seg l (at' + j) (many - j))) (fun _ i => (intOf i + 1).toNat)
  case atStart => exact ⟨many, by omega, rfl, by simp [seg, numL]⟩
  case round =>
    obtain ⟨j, hj, rfl, rfl⟩ := hrel
    have hs := seg_lt HH.out.2.2.1 (at' + j) (many - j)
    rcases j with _ | j
    · clear hs
      go_wp2_with fail
      go_ret
      exact ⟨rfl, rfl⟩
    · have hp : 256 ^ (many - (j + 1)) ≤ 256 ^ 7 := Nat.pow_le_pow_right (by omega) (by omega)
      have hb : seg l (at' + (j + 1)) (many - (j + 1)) < 72057594037927936 := Nat.lt_of_lt_of_le hs hp
      have hx : l[at' + j]? = some (l[at' + j]'(by rw [HL.out]; omega)) := List.getElem?_eq_getElem _
      have hy := HH.out.byte hx
      have hc := lies_cellAdd HH.out hx
      have HF := Lib.hid (seg_first (k := many - (j + 1)) hx)
      generalize l[at' + j]'(by rw [HL.out]; omega) = x at *
      clear hs hp hx
      rw [show at' + (j + 1) = at' + j + 1 by omega] at hb ⊢
      generalize seg l (at' + j + 1) (many - (j + 1)) = t at *
      have HE := Lib.hid (show many - (j + 1) + 1 = many - j by omega)
      go_wp2_with fail
      go_round
      case rel => exact ⟨j, by omega, by go_num, by rw [← HE.out, HF.out]; go_num⟩
      case measure => simp [intOf]

/-! ### head -/
theorem Bytes.kept {W w w' : World} {l : List Nat} {v : Value} (h : Bytes W l v w) (k : Kept w w') : Bytes W l v w' := by
  refine ⟨h.1.kept (grown_kept k none) ?_, h.2.trans k⟩
  cases v.ownBlock with
  | none => exact Or.inl rfl
  | some b => exact Or.inr (by simp)
theorem Bytes.one {W w : World} (k : Kept W w) (x : Int) (n : Nat) (hx : x = n) (b : Nat) (hb : b = w.heap.size) : Bytes W [n] (.slice (some ⟨b, 0, none⟩) 1 1) (w.alloc (.cells #[.int .u8 x] 5)) := by
  subst hx hb
  exact ⟨World.ownsRow_lit (size := 1) (e := 5) w #[.int .u8 (n : Int)] 1 k.size_le (by unfold maxLen; omega) rfl, k.alloc _⟩
theorem Bytes.src {W w : World} {l : List Nat} {v : Value} (h : Bytes W l v w) : ∃ A c, v = .slice A l.length c ∧ CellsAt w w.heap.size A (byteCells l) := by
  rcases h.1.2 with ⟨rfl, h0⟩ | ⟨g, cap, cur, rfl, _⟩
  · have := List.eq_nil_of_length_eq_zero h0
    subst this
    exact ⟨none, 0, rfl, CellsAt.nil⟩
  · exact ⟨_, cap, rfl, CellsAt.of_own h.1⟩
/-- A call that returns such a row, told as a slice. -/
def SrcEnd (W : World) (l : List Nat) (n : Nat) (e : Ending) (w : World) : Prop := ∃ A c, e = .returned (.slice A n c) ∧ CellsAt w w.heap.size A (byteCells l) ∧ Bytes W l (.slice A n c) w
theorem BytesEnd.src {W w : World} {l : List Nat} {e : Ending} (n : Nat) (hn : l.length = n) (h : BytesEnd W l e w) : SrcEnd W l n e w := by
  obtain ⟨v, rfl, B⟩ := h
  obtain ⟨A, c, rfl, C⟩ := B.src
  subst hn
  exact ⟨A, c, rfl, C, B⟩
theorem refNumber_src (m k : Nat) (w : World) (hk : k ≤ 8) (hm : m < 18446744073709551616) :
    Calls Try.prog 21 #[.int .u64 m, .int .i64 k] w (SrcEnd w (byteL k m) k) := (refNumber_any m k w hk hm).mono fun _ _ h => h.src k (by simp)
theorem head_join (mark slot who : Nat) (p : Nat × Nat) : [mark] ++ byteL 4 slot ++ [who] ++ byteL 8 p.1 ++ byteL 8 p.2 = headL mark slot who p := rfl
set_option maxHeartbeats 800000 in
theorem refHead_any (mark slot who : Nat) (p : Nat × Nat) (w : World) (h1 : mark < 256) (h2 : slot ≤ 1048576) (h3 : who < 256) (h4 : p.1 < 18446744073709551616) (h5 : p.2 < 18446744073709551616) :
    Calls Try.prog 20 #[.int .u8 mark, .int .i64 slot, .int .i64 who, .agg #[.int .u64 p.1, .int .u64 p.2]] w (BytesEnd w (headL mark slot who p)) := by
  have HJ := Lib.hid (head_join mark slot who p)
  go_enter Try.func20, Try.ntmps20
  go_wp2_with fail
  have B1 := Lib.hid (Bytes.one (Kept.refl (w.alloc (.cells #[.int .u64 p.1, .int .u64 p.2] 24))) (mark : Int) mark rfl (w.heap.size + 1) (by simp))
  refine (refNumber_src slot 4 _ (by omega) (by omega)).mono ?_
  rintro e w1 ⟨A1, c1, rfl, C1, N1⟩
  have B2 := Lib.hid (B1.out.kept N1.2)
  have HC1 := Lib.hid C1
  clear C1 N1 B1
  go_wp2_with (first
    | (at_builtin
       refine wpList_bytes _ rfl (.tmp 11) (.tmp 14) rfl (w.alloc (.cells #[.int .u64 p.1, .int .u64 p.2] 24)) [mark] _ rfl B2.out _ A1 4 c1 (byteL 4 slot) rfl (by simp) HC1.out (by simp) ?_
       intro v2 w2 b2
       have B3 := Lib.hid b2
       clear b2 B2 HC1)
    | (at_builtin
       refine wpList_bytes _ rfl (.tmp 16) (.tmp 19) rfl (w.alloc (.cells #[.int .u64 p.1, .int .u64 p.2] 24)) ([mark] ++ byteL 4 slot) v2 rfl (B3.out.alloc _) _ (some ⟨w2.heap.size, 0, none⟩) 1 1 [who] rfl rfl (CellsAt.byte w2 _ who (by simp) _ rfl) (by simp) ?_
       intro v3 w3 b3
       have B4 := Lib.hid b3
       have d0 : w3.cell? ⟨w.heap.size, 0, none⟩ = some (.int .u64 p.1) := by rw [b3.2.cell (by simp)]; simp [go_sem]
       clear b3 B3))
  refine (refNumber_src p.1 8 _ (by omega) h4).mono ?_
  rintro e w4 ⟨A4, c4, rfl, C4, N4⟩
  have B5 := Lib.hid (B4.out.kept N4.2)
  have HC4 := Lib.hid C4
  clear C4 N4 B4 d0
  go_wp2_with (first
    | (at_builtin
       refine wpList_bytes _ rfl (.tmp 21) (.tmp 24) rfl (w.alloc (.cells #[.int .u64 p.1, .int .u64 p.2] 24)) ([mark] ++ byteL 4 slot ++ [who]) v3 rfl B5.out _ A4 8 c4 (byteL 8 p.1) rfl (by simp) HC4.out (by simp) ?_
       intro v5 w5 b5
       have B6 := Lib.hid b5
       have d1 : w5.cell? ⟨w.heap.size, 1, none⟩ = some (.int .u64 p.2) := by rw [b5.2.cell (by simp)]; simp [go_sem]
       clear b5 B5 HC4))
  refine (refNumber_src p.2 8 _ (by omega) h5).mono ?_
  rintro e w6 ⟨A6, c6, rfl, C6, N6⟩
  have B7 := Lib.hid (B6.out.kept N6.2)
  have HC6 := Lib.hid C6
  clear C6 N6 B6 d1
  go_wp2_with (first
    | (at_builtin
       refine wpList_bytes _ rfl (.tmp 26) (.tmp 29) rfl (w.alloc (.cells #[.int .u64 p.1, .int .u64 p.2] 24)) ([mark] ++ byteL 4 slot ++ [who] ++ byteL 8 p.1) v5 rfl B7.out _ A6 8 c6 (byteL 8 p.2) rfl (by simp) HC6.out (by simp) ?_
       intro v7 w7 b7
       rw [HJ.out] at b7
       have B8 := Lib.hid b7
       clear b7 B7 HC6))
  go_ret
  exact ⟨_, rfl, B8.out.mono ((Kept.refl w).alloc _)⟩

/-! ### Block, Vote -/
theorem refHead_src (mark slot who : Nat) (p : Nat × Nat) (w : World) (h1 : mark < 256) (h2 : slot ≤ 1048576) (h3 : who < 256) (h4 : p.1 < 18446744073709551616) (h5 : p.2 < 18446744073709551616) :
    Calls Try.prog 20 #[.int .u8 mark, .int .i64 slot, .int .i64 who, .agg #[.int .u64 p.1, .int .u64 p.2]] w (SrcEnd w (headL mark slot who p) 22) :=
  (refHead_any mark slot who p w h1 h2 h3 h4 h5).mono fun _ _ h => h.src 22 (by simp)
set_option maxHeartbeats 800000 in
theorem refVote_any (s f : Int) (p : Nat × Nat) (w : World) (h4 : p.1 < 18446744073709551616) (h5 : p.2 < 18446744073709551616) :
    Calls Try.prog 13 #[.agg #[.int .i64 f, .int .i64 s, .int .u64 p.1, .int .u64 p.2]] w (PutEnd w (votePut s f p)) := by
  cases hm : made s f
  · rw [votePut_no hm]
    have HM := Lib.hid hm
    clear hm
    go_enter Try.func13, Try.ntmps13
    go_wp2_with fail
    refine (refMade_any s f _).mono ?_
    rintro e w' ⟨rfl, rfl⟩
    rw [HM.out]
    go_wp2_with fail
    go_ret2
    exact ⟨_, rfl, Bytes.nil ((Kept.refl w).alloc _)⟩
  · rw [votePut_yes hm]
    have HM := Lib.hid hm
    obtain ⟨m, n, rfl, rfl, h1, h2, h3⟩ := made_nat hm
    clear hm
    simp only [Int.toNat_natCast]
    go_enter Try.func13, Try.ntmps13
    go_wp2_with fail
    refine (refMade_any m n _).mono ?_
    rintro e w' ⟨rfl, rfl⟩
    rw [HM.out]
    go_wp2_with fail
    refine (refHead_any 2 m n p _ (by omega) (by omega) (by omega) h4 h5).mono ?_
    rintro e w1 ⟨v1, rfl, b1⟩
    have H1 := Lib.hid (show Bytes w (voteL m n p) v1 w1 from b1.mono ((Kept.refl w).alloc _))
    clear b1
    go_wp2_with fail
    go_ret2
    exact ⟨_, rfl, H1.out⟩

end Go.Proofs.Ytfbjiepnhfgmfaa
