/-
  Lists put together, and what they weigh; append of a list of numbers at a step of a region that draws its order.
-/
import Derived.Test.YtdidmgmfjfnliaaDutyInts
import Derived.Test.YtdidmgmfjfnliaaRowStep
namespace Go.Proofs.Ytdidmgmfjfnliaa
open Go.ChangeShapes Go.WideShapes Go.ChangeAt Go.RowKit

theorem wp_ints {o : Oper} {a : Act} {K : Act → World → Prop} {Q : Exit → Act → World → Prop} (w : World) (s x : Operand)
    (ho : o.op = .call { callee := .builtin .append, args := #[s, x], argTypes := #[22, 22] })
    (W : World) (l : List Int) (v : Value) (hs : a.eval s = v) (HB : Ints W l v w) (B : Nat) (A : Option Addr) (m c : Nat) (news : List Int) (hx : a.eval x = .slice A m c) (hl : news.length = m)
    (hr : CellsAt w B A (intCells news)) (hlen : l.length + m ≤ 1000000)
    (h : ∀ A' c' w', Ints W (l ++ news) (.slice A' (l ++ news).length c') w' → K (a.put o.dst (.slice A' (l ++ news).length c')) w') : o.wp Try.prog a w K Q := by
  obtain ⟨i0, hi0, hz0, hz1, hz2⟩ := info_three Try.infoI
  refine wp_app w s x _ ho W.heap.size 3 i0 _ 1 8 Try.underlying22 hi0 hz0 hz1 hz2 rfl (by omega) v l.length (intCells l) hs HB.1 B A m c (intCells news) hx (by simp [hl]) hr (intCells_one _)
    (by unfold maxLen; omega) (by omega) HB.2.size_le ?_
  intro v' w' own g _
  obtain ⟨A', c', rfl⟩ := row_slice own
  have e : (l ++ news).length = l.length + m := by rw [List.length_append, hl]
  rw [← e]
  rw [← e, intCells_append] at own
  exact h A' c' w' ⟨own, HB.2.grown g fun i hi => (HB.1.lt i hi).1⟩
theorem step_ints {ops : Array Oper} {o : Oper} {a : Act} {K : Act → World → Prop} {Q : Exit → Act → World → Prop} {E : Prop} (w : World) (hgd : Region.wanted o (yielded ops a.tmps) = true) (s x : Operand)
    (ho : o.op = .call { callee := .builtin .append, args := #[s, x], argTypes := #[22, 22] })
    (W : World) (l : List Int) (v : Value) (hs : a.eval s = v) (HB : Ints W l v w) (B : Nat) (A : Option Addr) (m c : Nat) (news : List Int) (hx : a.eval x = .slice A m c) (hl : news.length = m)
    (hr : CellsAt w B A (intCells news)) (hlen : l.length + m ≤ 1000000)
    (h : ∀ A' c' w', Ints W (l ++ news) (.slice A' (l ++ news).length c') w' → K (a.put o.dst (.slice A' (l ++ news).length c')) w') :
    if Region.wanted o (yielded ops a.tmps) = true then Oper.wp Try.prog o a w K Q else E := by
  rw [if_pos hgd]
  exact wp_ints w s x ho W l v hs HB B A m c news hx hl hr hlen h
theorem Ints.cells {W w : World} {l : List Int} {A : Option Addr} {n c : Nat} (h : Ints W l (.slice A n c) w) (hn : n = l.length) : CellsAt w w.heap.size A (intCells l) := by
  subst hn
  exact CellsAt.of_own h.1

theorem step_nil {ops : Array Oper} {o : Oper} {a : Act} {K : Act → World → Prop} {Q : Exit → Act → World → Prop} {E : Prop} (w : World) (hgd : Region.wanted o (yielded ops a.tmps) = true) (x : Operand)
    (ho : o.op = .call { callee := .builtin .append, args := #[.const (.slice none 0 0), x], argTypes := #[22, 22] })
    (B : Nat) (A : Option Addr) (m c : Nat) (news : List Int) (hx : a.eval x = .slice A m c) (hl : news.length = m)
    (hr : CellsAt w B A (intCells news)) (hlen : m ≤ 1000000)
    (h : ∀ A' c' w', Ints w news (.slice A' news.length c') w' → K (a.put o.dst (.slice A' news.length c')) w') :
    if Region.wanted o (yielded ops a.tmps) = true then Oper.wp Try.prog o a w K Q else E :=
  step_ints w hgd _ x ho w [] _ rfl (Ints.nil w) B A m c news hx hl hr (by simp; omega) h
theorem CellsAt.new (w : World) (xs : Array Value) (t : TypeId) (b : Nat) (hb : b = w.heap.size) : CellsAt (w.alloc (.cells xs t)) (w.alloc (.cells xs t)).heap.size (some ⟨b, 0, none⟩) xs.toList := fun j y hy => by
  refine ⟨_, rfl, by simp [hb], ?_⟩
  have := (HasCells.new w xs t b hb).2 j y hy
  have e : (⟨b, 0, none⟩ : Addr).add j = ⟨b, j, none⟩ := by
    unfold Addr.add
    split
    · rename_i h; subst h; rfl
    · simp
  rw [e]; exact this

theorem weight_len (A : Option Addr) (c : Nat) (k : Cf) (B : Option Addr) (l : List Int) (n cb : Nat) (w : World) (hA : CellsAt w w.heap.size A (intCells k.ws)) (hl : n ≤ 1000000) (hB : CellsAt w w.heap.size B (intCells l)) (hn : n = l.length) :
    Calls Try.prog 17 #[.agg #[.slice A k.ws.length c, .int .u64 k.seed, .int .i64 k.ep, .int .i64 k.nu, .int .i64 k.de], .slice B n cb] w fun e w' => e = .returned (.int .i64 (weightC k l)) ∧ Kept w w' := by
  subst hn
  exact weight_any A c k B l cb w hA hl hB

/-! ### What they weigh -/
theorem inList_append (a b : List Int) (j : Nat) : inList (a ++ b) j = (inList a j || inList b j) := by
  unfold inList
  rw [Bool.eq_iff_iff]
  simp
theorem weight_bounds (k : Cf) (l : List Int) : 0 ≤ weightC k l ∧ weightC k l ≤ 13194139533312 := by
  cases h : mayC k with
  | false => rw [weightC_no l h]; omega
  | true =>
    rw [weightC_yes l h]
    have := weighTo_bounds (p := inList l) (mayC_yes h).2.2.1 k.ws.length
    have := (mayC_yes h).2.1
    unfold weighAll
    omega
theorem total_bounds (k : Cf) : 0 ≤ totalC k ∧ totalC k ≤ 13194139533312 := by
  cases h : mayC k with
  | false => rw [totalC_no h]; omega
  | true =>
    rw [totalC_yes h]
    have := weighTo_bounds (p := fun _ => true) (mayC_yes h).2.2.1 k.ws.length
    have := (mayC_yes h).2.1
    unfold weighAll
    omega
theorem weight_both (k : Cf) (a b : List Int) : weightC k (a ++ b) ≤ weightC k a + weightC k b ∧ ((∀ x ∈ a, x ∉ b) → weightC k (a ++ b) = weightC k a + weightC k b) := by
  cases h : mayC k with
  | false => rw [weightC_no _ h, weightC_no _ h, weightC_no _ h]; exact ⟨by omega, fun _ => by omega⟩
  | true =>
    rw [weightC_yes _ h, weightC_yes _ h, weightC_yes _ h]
    unfold weighAll
    have e : weighTo (inList (a ++ b)) k.ws k.ws.length = weighTo (fun i => inList a i || inList b i) k.ws k.ws.length := weighTo_congr fun j _ => inList_append a b j
    have hb := weighTo_both (p := inList a) (q := inList b) (ws := k.ws) k.ws.length
    have h0 := weighTo_bounds (p := fun i => inList a i && inList b i) (mayC_yes h).2.2.1 k.ws.length
    refine ⟨by omega, fun hd => ?_⟩
    have hn : weighTo (fun i => inList a i && inList b i) k.ws k.ws.length = 0 := weighTo_none fun j _ => by
      cases ha : inList a j with
      | false => rfl
      | true => exact decide_eq_false (hd _ (of_decide_eq_true ha))
    omega
theorem weight_same (k : Cf) {a b : List Int} (h : ∀ j, inList a j = inList b j) : weightC k a = weightC k b := by
  cases hm : mayC k with
  | false => rw [weightC_no _ hm, weightC_no _ hm]
  | true =>
    rw [weightC_yes _ hm, weightC_yes _ hm]
    exact weighTo_congr fun j _ => h j
theorem weight_out (k : Cf) {l : List Int} (h : ∀ j : Nat, j < k.ws.length → (j : Int) ∉ l) : weightC k l = 0 := by
  cases hm : mayC k with
  | false => rw [weightC_no _ hm]
  | true =>
    rw [weightC_yes _ hm]
    exact weighTo_none fun j hj => decide_eq_false (h j hj)

/-! ### Have two lists a number together? -/
def meetB (a b : List Int) : Bool := a.any fun x => b.any fun y => x == y
theorem meetB_snoc (a b : List Int) (x : Int) : meetB (a ++ [x]) b = (meetB a b || b.any fun y => x == y) := by simp [meetB]
theorem any_snoc (b : List Int) (x y : Int) : ((b ++ [y]).any fun z => x == z) = ((b.any fun z => x == z) || x == y) := by simp
theorem meetB_no {a b : List Int} (h : meetB a b = false) : ∀ x ∈ a, x ∉ b := fun x hx hy => by
  have : meetB a b = true := List.any_eq_true.2 ⟨x, hx, List.any_eq_true.2 ⟨x, hy, by simp⟩⟩
  rw [h] at this; cases this

end Go.Proofs.Ytdidmgmfjfnliaa
