/-
  How long a list of blocks that comes in may be; append onto a list of blocks of any such length; blocks held.
-/
import Derived.SizedLaws
import Derived.Test.YtajdhcanajbgoaaTreeG
namespace Go.Proofs.Ytajdhcanajbgoaa
set_option maxRecDepth 100000
open Go.ChangeShapes Go.WideShapes Go.ChangeAt Go.RowKit

theorem Try.bytesBk : Try.prog.bytesOf 48 = 40 := by kernel_rfl
section
variable {H : Type} {enc : TypeId × Value → H} {W : World} {base : Nat} {sp : Nat → Bool} {held : Bool} {r : Reach} {b0 : Nat} {v : Value} {d : DataW H} {ps : List MemPlace}
theorem open_blockz {ts : List TypeId} {ds : List (DataW H)} (hsz : (DataW.weightsEach Try.prog ts ds).all (· ≤ reachBytes) = true) {j : Nat} (ht : ts[j]? = some 26) (hdj : ds[j]? = some d)
    (hval : Value.okWide Try.prog W r b0 26 v) (hd : DataW.Trod enc Try.prog W base sp held 26 v d ps) :
    ∃ (A : Option Addr) (c : Nat) (l : List Bk), v = .slice A l.length c ∧ l.length ≤ maxLen ∧ l.length ≤ c ∧ WfL l ∧ CellsAt W W.heap.size A (blockCells l) ∧ l.length * 40 ≤ 140737488351232 := by
  have hd0 := hd
  obtain ⟨A, c, l, rfl, h1, h2, h3, h4⟩ := open_blocks hval hd
  refine ⟨A, c, l, rfl, h1, h2, h3, h4, ?_⟩
  obtain ⟨fuel, hf⟩ := hd0
  rcases Go.Deep.open_slice Try.underlying26 hf with ⟨hcs, _⟩ | ⟨a, len, cap, m, n, D, Pl, hcs, hb, hl, hm, hmm, hx, hi⟩
  · simp [Value.cells] at hcs
    rw [hcs.2.1]
    simp
  · simp [Value.cells] at hcs
    obtain ⟨_, e, _⟩ := hcs
    have e2 := congrArg Prod.fst hx
    simp only at e2
    rw [e2] at hdj
    have := sized_slice hsz ht hdj Try.underlying26
    rw [Try.bytesBk] at this
    simp only [List.length_map, List.length_range, reachBytes] at this
    rw [e]
    have h0 : len * 40 ≤ (len + (m - len)) * 40 := Nat.mul_le_mul_right _ (by omega)
    omega
end
theorem wp_bkz {o : Oper} {a : Act} {K : Act → World → Prop} {Q : Exit → Act → World → Prop} (w : World) (s x : Operand)
    (ho : o.op = .call { callee := .builtin .append, args := #[s, x], argTypes := #[26, 26] })
    (W : World) (l : List Bk) (v : Value) (hs : a.eval s = v) (HB : Bks W l v w) (B : Nat) (A : Option Addr) (m c : Nat) (news : List Bk) (hx : a.eval x = .slice A m c) (hl : news.length = m)
    (hr : CellsAt w B A (blockCells news)) (hlen : (l.length + m) * 40 ≤ 140737488355328)
    (h : ∀ A' c' w', Bks W (l ++ news) (.slice A' (l ++ news).length c') w' → K (a.put o.dst (.slice A' (l ++ news).length c')) w') : o.wp Try.prog a w K Q := by
  obtain ⟨i0, hi0, hz0, hz1, hz2⟩ := info_of Try.infoBk
  refine wp_app w s x _ ho W.heap.size 48 i0 _ 5 40 Try.underlying26 hi0 hz0 hz1 hz2 rfl (by omega) v l.length (blockCells l) hs HB.1 B A m c (blockCells news) hx (by rw [blockCells_length, hl]) hr (blockCells_one _)
    (by unfold maxLen; omega) (by omega) HB.2.size_le ?_
  intro v' w' own g _
  have e : (l ++ news).length = l.length + m := by rw [List.length_append, hl]
  rw [← e, blockCells_append] at own
  obtain ⟨A', c', rfl⟩ : ∃ A c, v' = .slice A (l ++ news).length c := by
    rcases own.2 with ⟨hv, h0⟩ | ⟨g, cap, cur, hv, _⟩
    · rw [h0]; exact ⟨_, _, hv⟩
    · exact ⟨_, _, hv⟩
  exact h A' c' w' ⟨own, HB.2.grown g fun i hi => (HB.1.lt i hi).1⟩
theorem step_bkz {ops : Array Oper} {o : Oper} {a : Act} {K : Act → World → Prop} {Q : Exit → Act → World → Prop} {E : Prop} (w : World) (hgd : Region.wanted o (yielded ops a.tmps) = true) (s x : Operand)
    (ho : o.op = .call { callee := .builtin .append, args := #[s, x], argTypes := #[26, 26] })
    (W : World) (l : List Bk) (v : Value) (hs : a.eval s = v) (HB : Bks W l v w) (B : Nat) (A : Option Addr) (m c : Nat) (news : List Bk) (hx : a.eval x = .slice A m c) (hl : news.length = m)
    (hr : CellsAt w B A (blockCells news)) (hlen : (l.length + m) * 40 ≤ 140737488355328)
    (h : ∀ A' c' w', Bks W (l ++ news) (.slice A' (l ++ news).length c') w' → K (a.put o.dst (.slice A' (l ++ news).length c')) w') :
    if Region.wanted o (yielded ops a.tmps) = true then Oper.wp Try.prog o a w K Q else E := by
  rw [if_pos hgd]
  exact wp_bkz w s x ho W l v hs HB B A m c news hx hl hr hlen h
theorem step_bznil {ops : Array Oper} {o : Oper} {a : Act} {K : Act → World → Prop} {Q : Exit → Act → World → Prop} {E : Prop} (w : World) (hgd : Region.wanted o (yielded ops a.tmps) = true) (x : Operand)
    (ho : o.op = .call { callee := .builtin .append, args := #[.const (.slice none 0 0), x], argTypes := #[26, 26] })
    (B : Nat) (A : Option Addr) (m c : Nat) (news : List Bk) (hx : a.eval x = .slice A m c) (hl : news.length = m)
    (hr : CellsAt w B A (blockCells news)) (hlen : m * 40 ≤ 140737488355328)
    (h : ∀ A' c' w', Bks w news (.slice A' news.length c') w' → K (a.put o.dst (.slice A' news.length c')) w') :
    if Region.wanted o (yielded ops a.tmps) = true then Oper.wp Try.prog o a w K Q else E :=
  step_bkz w hgd _ x ho w [] _ rfl (Bks.nil w) B A m c news hx hl hr (by simpa using hlen) h
theorem blocks_new (w : World) (t : TypeId) (b : Bk) (z : Nat) (hz : z = w.heap.size) : CellsAt (w.alloc (.cells #[.int .i64 b.s, .int .i64 b.f, .int .u64 b.p.1, .int .u64 b.p.2, .int .u64 b.t] t)) (w.alloc (.cells #[.int .i64 b.s, .int .i64 b.f, .int .u64 b.p.1, .int .u64 b.p.2, .int .u64 b.t] t)).heap.size (some ⟨z, 0, none⟩) (blockCells [b]) := fun j u hu => by
  refine ⟨_, rfl, by simp [hz], ?_⟩
  rw [add_none, Nat.zero_add]
  exact (HasCells.new w #[.int .i64 b.s, .int .i64 b.f, .int .u64 b.p.1, .int .u64 b.p.2, .int .u64 b.t] t z hz).2 j u (by simpa [blockCells, bkCells] using hu)
theorem wfl_more {l : List Bk} {b : Bk} (h : WfL l) (hb : WfB b) : WfL (l ++ [b]) := fun u hu => by
  rcases List.mem_append.1 hu with k | k
  · exact h u k
  · rw [show u = b by simpa using k]; exact hb

end Go.Proofs.Ytajdhcanajbgoaa
