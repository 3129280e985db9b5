/-
  The contracts of package wire's calls that put: wellMade, put, start, Block, Vote.
-/
import Derived.Test.YtfbjiepnhfgmfaaWireMath
import Derived.Test.YtfbjiepnhfgmfaaRow
import Derived.Laws.Bits64b
import Derived.Deep.QuietTactic
import Derived.BigQuiet
namespace Go.Proofs.Ytfbjiepnhfgmfaa
open Go.ChangeShapes Go.WideShapes Go.ChangeAt Go.RowKit

/-! ### Rows of bytes -/
def byteCells (l : List Nat) : List Value := l.map fun x : Nat => .int .u8 x
theorem byteCells_one (l : List Nat) : ∀ u ∈ byteCells l, u.oneCell' = true := fun u hu => by
  simp only [byteCells, List.mem_map] at hu
  obtain ⟨x, _, rfl⟩ := hu
  rfl
@[simp] theorem byteCells_length (l : List Nat) : (byteCells l).length = l.length := by simp [byteCells]
theorem byteCells_append (l m : List Nat) : byteCells l ++ byteCells m = byteCells (l ++ m) := by simp [byteCells]
theorem Try.infoB : (Try.prog.info? 5).map (fun i => (i.zero, i.size, i.bytes)) = some (some (.int .u8 0), 1, 1) := by kernel_rfl
/-- v is a row of the call's own, made since W, that holds the bytes l; all that lay in W lies as it was. -/
def Bytes (W : World) (l : List Nat) (v : Value) (w : World) : Prop := w.ownsRow W.heap.size 5 1 v l.length (byteCells l) ∧ Kept W w
theorem Bytes.nil {W w : World} (k : Kept W w) : Bytes W [] (.slice none 0 0) w := ⟨World.ownsRow_nil _ _ _ _, k⟩
theorem Bytes.alloc {W w : World} {l : List Nat} {v : Value} (h : Bytes W l v w) (o : Obj) : Bytes W l v (w.alloc o) := ⟨h.1.alloc o, h.2.alloc o⟩
/-- A call that returns such a row. -/
def BytesEnd (W : World) (l : List Nat) (e : Ending) (w : World) : Prop := ∃ v, e = .returned v ∧ Bytes W l v w

theorem CellsAt.byte (w : World) (x : Int) (n : Nat) (hx : x = n) (b : Nat) (hb : b = w.heap.size) : CellsAt (w.alloc (.cells #[.int .u8 x] 5)) (w.alloc (.cells #[.int .u8 x] 5)).heap.size (some ⟨b, 0, none⟩) (byteCells [n]) := by
  subst hx
  exact CellsAt.one w _ _ b hb
/-- append onto such a row. -/
theorem wpList_bytes {ops : Array Oper} {rest : List Oper} {o : Oper} {a : Act} {Q : Exit → Act → World → Prop} (w : World) (hgd : o.guard = none) (s x : Operand)
    (ho : o.op = .call { callee := .builtin .append, args := #[s, x], argTypes := #[29, 29] })
    (W : World) (l : List Nat) (v : Value) (hs : a.eval s = v) (HB : Bytes W l v w) (B : Nat) (A : Option Addr) (m c : Nat) (news : List Nat) (hx : a.eval x = .slice A m c) (hl : news.length = m)
    (hr : CellsAt w B A (byteCells news)) (hlen : l.length + m ≤ 100000)
    (h : ∀ v' w', Bytes W (l ++ news) v' w' → wpList Try.prog ops Q rest (a.put o.dst v') w') : wpList Try.prog ops Q (o :: rest) a w := by
  obtain ⟨i0, hi0, hz0, hz1, hz2⟩ := info_parts Try.infoB
  refine wpList_app w hgd s x _ ho W.heap.size 5 i0 _ 1 1 Try.underlying29 hi0 hz0 hz1 hz2 rfl (by omega) v l.length (byteCells l) hs HB.1 B A m c (byteCells news) hx (by simp [hl]) hr (byteCells_one _)
    (by unfold maxLen; omega) (by omega) HB.2.size_le ?_
  intro v' w' own g _
  refine h v' w' ⟨?_, HB.2.grown g fun i hi => (HB.1.lt i hi).1⟩
  rw [byteCells_append] at own
  rw [List.length_append, hl]
  exact own

/-! ### wellMade -/
theorem ret_bool {a b : Bool} (h : a = b) : Ending.returned (.bool a) = .returned (.bool b) := by rw [h]
set_option maxHeartbeats 400000 in
theorem wellMade_any (s f : Int) (w : World) : Calls Try.prog 16 #[.int .i64 s, .int .i64 f] w fun e w' => e = .returned (.bool (made s f)) ∧ w = w' := by
  have H := Lib.hid (show made s f = decide (1 ≤ s ∧ s ≤ 1048576 ∧ 0 ≤ f ∧ f < 12) from rfl)
  rw [H.out]
  go_enter Try.func16, Try.ntmps16
  go_wp2
  all_goals
    go_ret
    refine ⟨ret_bool ?_, rfl⟩
    rw [Bool.eq_iff_iff]
    simp
    try omega

/-! ### put -/
theorem byte_int (m j : Nat) : ((m : Int) / 2 ^ (8 * j) % 256 : Int) = ((m / 256 ^ j % 256 : Nat) : Int) := by
  have e : ((2 : Int) ^ (8 * j)) = ((256 ^ j : Nat) : Int) := by rw [Int.pow_mul, Int.natCast_pow]; rfl
  rw [e, ← Int.natCast_ediv]
  omega
theorem Bytes.next {W w : World} {l : List Nat} {j m : Nat} {v : Value} (h : Bytes W (l ++ byteL j m ++ [m / 256 ^ j % 256]) v w) : Bytes W (l ++ byteL (j + 1) m) v w := by
  rw [byteL_snoc, ← List.append_assoc]; exact h
set_option maxHeartbeats 800000 in
theorem put_any (W : World) (l : List Nat) (v : Value) (k m : Nat) (w : World) (hk : k ≤ 8) (hl : l.length ≤ 1000) (h : Bytes W l v w) :
    Calls Try.prog 18 #[v, .int .i64 k, .int .u64 m] w (BytesEnd W (l ++ byteL k m)) := by
  have HH := Lib.hid h
  clear h
  go_enter Try.func18, Try.ntmps18
  go_wp2_with fail
  go_loopw [0, 9] (fun x i w' => ∃ j : Nat, j ≤ k ∧ i = .int .i64 j ∧ Bytes W (l ++ byteL j m) x w') (fun _ i _ => k - (intOf i).toNat)
  case atStart => exact ⟨0, by omega, rfl, by simpa [byteL] using HH.out⟩
  case round =>
    obtain ⟨j, hj, rfl, H⟩ := hrel
    have HB := Lib.hid H
    clear H
    by_cases hlt : j < k
    · go_wp2_with (at_builtin
                   refine wpList_bytes _ rfl (.tmp 12) (.tmp 18) rfl W (l ++ byteL j m) u0 rfl (HB.out.alloc _) _ (some ⟨wr.heap.size, 0, none⟩) 1 1 [m / 256 ^ j % 256] rfl rfl (CellsAt.byte wr _ _ (byte_int m j) _ rfl) (by simp; omega) ?_
                   intro v1 w1 h1
                   have HN := Lib.hid h1.next
                   clear h1)
      go_roundw
      case rel => exact ⟨j + 1, by omega, by go_num, HN.out⟩
      case measure => simp [intOf]; omega
    · have hjk : j = k := by omega
      subst hjk
      go_wp2_with fail
      go_ret
      exact ⟨_, rfl, HB.out⟩

/-! ### start -/
theorem Bytes.mono {V W w : World} {l : List Nat} {v : Value} (h : Bytes W l v w) (k : Kept V W) : Bytes V l v w := ⟨⟨h.1.1, h.1.2.imp id fun ⟨g, cap, cur, e, hb, r⟩ => ⟨g, cap, cur, e, Nat.le_trans k.size_le hb, r⟩⟩, k.trans h.2⟩
theorem wpList_make_bytes {ops : Array Oper} {rest : List Oper} {o : Oper} {a : Act} {Q : Exit → Act → World → Prop} (w : World) (hgd : o.guard = none) (l c : Operand)
    (ho : o.op = Op.makeSlice 29 l c) (W : World) (k : Kept W w) (n : Nat) (hl : a.eval l = .int .i64 0) (hc : a.eval c = .int .i64 n) (hn : n ≤ 1000)
    (h : ∀ v w', Bytes W [] v w' → wpList Try.prog ops Q rest (a.put o.dst v) w') : wpList Try.prog ops Q (o :: rest) a w := by
  obtain ⟨i0, hi0, hz0, hz1, hz2⟩ := info_parts Try.infoB
  refine wpList_make_own w hgd l c _ ho W.heap.size 5 i0 _ 1 Try.underlying29 hi0 hz0 hz1 .i64 .i64 n n hl hc rfl (by rw [hz2]; omega) (by unfold maxLen; omega) k.size_le ?_
  intro w' own g
  exact h _ w' ⟨own, k.grown g fun i hi => by cases hi⟩
theorem headL_put {mark slot who : Nat} {p : Nat × Nat} (h1 : mark < 256) (h2 : who < 256) : [] ++ byteL 1 mark ++ byteL 4 slot ++ byteL 1 who ++ byteL 8 p.1 ++ byteL 8 p.2 = headL mark slot who p := by
  simp [headL, byteL, Nat.mod_eq_of_lt h1, Nat.mod_eq_of_lt h2]
set_option maxHeartbeats 800000 in
theorem start_any (size mark slot who : Nat) (p : Nat × Nat) (w : World) (h0 : size ≤ 1000) (h1 : mark < 256) (h2 : slot ≤ 1048576) (h3 : who < 256) :
    Calls Try.prog 17 #[.int .i64 size, .int .u64 mark, .int .i64 slot, .int .i64 who, .agg #[.int .u64 p.1, .int .u64 p.2]] w (BytesEnd w (headL mark slot who p)) := by
  have HP := Lib.hid (headL_put (mark := mark) (slot := slot) (who := who) (p := p) h1 h3)
  go_enter Try.func17, Try.ntmps17
  go_wp2_with (at_make
               refine wpList_make_bytes _ rfl _ _ rfl (w.alloc (.cells #[.int .u64 p.1, .int .u64 p.2] 24)) (Kept.refl _) size rfl rfl h0 ?_
               intro v0 w0 b0
               have H0 := Lib.hid b0
               clear b0)
  refine (put_any _ _ _ 1 mark _ (by omega) (by simp) H0.out).mono ?_
  rintro e w1 ⟨v1, rfl, b1⟩
  have H1 := Lib.hid b1
  clear b1 H0
  go_wp2_with fail
  refine (put_any _ _ _ 4 slot _ (by omega) (by simp) H1.out).mono ?_
  rintro e w2 ⟨v2, rfl, b2⟩
  have H2 := Lib.hid b2
  clear b2 H1
  go_wp2_with fail
  refine (put_any _ _ _ 1 who _ (by omega) (by simp) H2.out).mono ?_
  rintro e w3 ⟨v3, rfl, b3⟩
  have c3 : w3.cell? ⟨w.heap.size, 0, none⟩ = some (.int .u64 p.1) := by rw [b3.2.cell (by simp)]; simp [go_sem]
  have H3 := Lib.hid b3
  clear b3 H2
  go_wp2_with fail
  refine (put_any _ _ _ 8 p.1 _ (by omega) (by simp) H3.out).mono ?_
  rintro e w4 ⟨v4, rfl, b4⟩
  have c4 : w4.cell? ⟨w.heap.size, 1, none⟩ = some (.int .u64 p.2) := by rw [b4.2.cell (by simp)]; simp [go_sem]
  have H4 := Lib.hid b4
  clear b4 H3
  go_wp2_with fail
  refine (put_any _ _ _ 8 p.2 _ (by omega) (by simp) H4.out).mono ?_
  rintro e w5 ⟨v5, rfl, b5⟩
  rw [HP.out] at b5
  have H5 := Lib.hid (b5.mono ((Kept.refl w).alloc _))
  clear b5 H4
  go_wp2_with fail
  go_ret
  exact ⟨_, rfl, H5.out⟩

/-! ### Block, Vote -/
/-- A call that returns an error's number and bytes. -/
def PutEnd (W : World) (r : Nat × List Nat) (e : Ending) (w : World) : Prop := ∃ v, e = .returned (.tuple #[v, .int .i64 r.1]) ∧ Bytes W r.2 v w
set_option maxHeartbeats 800000 in
theorem block_any (s f : Int) (p : Nat × Nat) (t : Nat) (w : World) :
    Calls Try.prog 10 #[.agg #[.int .i64 s, .int .i64 f, .int .u64 p.1, .int .u64 p.2, .int .u64 t]] w (PutEnd w (blockPut s f p t)) := by
  cases hm : made s f
  · rw [blockPut_no hm]
    have HM := Lib.hid hm
    clear hm
    go_enter Try.func10, Try.ntmps10
    go_wp2_with fail
    refine (wellMade_any s f _).mono ?_
    rintro e w' ⟨rfl, rfl⟩
    rw [HM.out]
    go_wp2_with fail
    go_ret2
    exact ⟨_, rfl, Bytes.nil ((Kept.refl w).alloc _)⟩
  · rw [blockPut_yes hm]
    have HM := Lib.hid hm
    obtain ⟨m, n, rfl, rfl, h1, h2, h3⟩ := made_nat hm
    clear hm
    simp only [Int.toNat_natCast]
    go_enter Try.func10, Try.ntmps10
    go_wp2_with fail
    refine (wellMade_any m n _).mono ?_
    rintro e w' ⟨rfl, rfl⟩
    rw [HM.out]
    go_wp2_with fail
    refine (start_any 30 1 m n p _ (by omega) (by omega) h2 (by omega)).mono ?_
    rintro e w1 ⟨v1, rfl, b1⟩
    have c1 : w1.cell? ⟨w.heap.size, 4, none⟩ = some (.int .u64 t) := by rw [b1.2.cell (by simp)]; simp [go_sem]
    have H1 := Lib.hid b1
    clear b1
    go_wp2_with fail
    refine (put_any _ _ _ 8 t _ (by omega) (by simp) H1.out).mono ?_
    rintro e w2 ⟨v2, rfl, b2⟩
    have H2 := Lib.hid (show Bytes w (blockL m n p t) v2 w2 from b2.mono ((Kept.refl w).alloc _))
    clear b2 H1
    go_wp2_with fail
    go_ret2
    exact ⟨_, rfl, H2.out⟩
set_option maxHeartbeats 800000 in
theorem vote_any (s f : Int) (p : Nat × Nat) (w : World) :
    Calls Try.prog 12 #[.agg #[.int .i64 f, .int .i64 s, .int .u64 p.1, .int .u64 p.2]] w (PutEnd w (votePut s f p)) := by
  cases hm : made s f
  · rw [votePut_no hm]
    have HM := Lib.hid hm
    clear hm
    go_enter Try.func12, Try.ntmps12
    go_wp2_with fail
    refine (wellMade_any s f _).mono ?_
    rintro e w' ⟨rfl, rfl⟩
    rw [HM.out]
    go_wp2_with fail
    go_ret2
    exact ⟨_, rfl, Bytes.nil ((Kept.refl w).alloc _)⟩
  · rw [votePut_yes hm]
    have HM := Lib.hid hm
    obtain ⟨m, n, rfl, rfl, h1, h2, h3⟩ := made_nat hm
    clear hm
    simp only [Int.toNat_natCast]
    go_enter Try.func12, Try.ntmps12
    go_wp2_with fail
    refine (wellMade_any m n _).mono ?_
    rintro e w' ⟨rfl, rfl⟩
    rw [HM.out]
    go_wp2_with fail
    refine (start_any 22 2 m n p _ (by omega) (by omega) h2 (by omega)).mono ?_
    rintro e w1 ⟨v1, rfl, b1⟩
    have H1 := Lib.hid (show Bytes w (voteL m n p) v1 w1 from b1.mono ((Kept.refl w).alloc _))
    clear b1
    go_wp2_with fail
    go_ret2
    exact ⟨_, rfl, H1.out⟩

end Go.Proofs.Ytfbjiepnhfgmfaa
