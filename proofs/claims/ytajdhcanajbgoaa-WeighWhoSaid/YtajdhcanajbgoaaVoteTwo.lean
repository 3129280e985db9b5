/-
  Two lists of votes of one's own, onto each of which is appended.
-/
import Derived.Test.YtajdhcanajbgoaaVoteG
namespace Go.Proofs.Ytajdhcanajbgoaa
set_option maxRecDepth 100000
open Go.ChangeShapes Go.WideShapes Go.ChangeAt Go.RowKit

/-- Two rows that share no block. -/
def Vts2 (W : World) (l1 : List Vt) (v1 : Value) (l2 : List Vt) (v2 : Value) (w : World) : Prop := Vts W l1 v1 w ∧ Vts W l2 v2 w ∧ ∀ g, v1.ownBlock = some g → v2.ownBlock ≠ some g
theorem Vts2.nil (W : World) : Vts2 W [] (.slice none 0 0) [] (.slice none 0 0) W := ⟨Vts.nil W, Vts.nil W, fun _ h => by cases h⟩
theorem Vts2.alloc {W w : World} {l1 l2 : List Vt} {v1 v2 : Value} (h : Vts2 W l1 v1 l2 v2 w) (o : Obj) : Vts2 W l1 v1 l2 v2 (w.alloc o) := ⟨h.1.alloc o, h.2.1.alloc o, h.2.2⟩
theorem Vts2.swap {W w : World} {l1 l2 : List Vt} {v1 v2 : Value} (h : Vts2 W l1 v1 l2 v2 w) : Vts2 W l2 v2 l1 v1 w := ⟨h.2.1, h.1, fun g h2 h1 => h.2.2 g h1 h2⟩
theorem Vts.beside {W w w' : World} {l : List Vt} {v : Value} {row : Option Nat} (h : Vts W l v w) (hg : w.grownBy w' row) (hr : ∀ k, row = some k → W.heap.size ≤ k) (hne : ∀ g, v.ownBlock = some g → row ≠ some g) : Vts W l v w' := by
  refine ⟨⟨h.1.1, ?_⟩, h.2.grown hg hr⟩
  rcases h.1.2 with h2 | ⟨g, cap, cur, hv, hb, hh, k⟩
  · exact Or.inl h2
  · refine Or.inr ⟨g, cap, cur, hv, hb, ?_, k⟩
    rw [hg.block g (h.1.lt g (by rw [hv]; rfl)).2 (fun e => hne g (by rw [hv]; rfl) e.symm)]
    exact hh
section
variable {ops : Array Oper} {rest : List Oper} {o : Oper} {a : Act} {Q : Exit → Act → World → Prop}
/-- append of votes onto the first one. -/
theorem wpList_two1 (w : World) (hgd : o.guard = none) (s x : Operand)
    (ho : o.op = .call { callee := .builtin .append, args := #[s, x], argTypes := #[27, 27] })
    (W : World) (l l2 : List Vt) (v v2 : Value) (hs : a.eval s = v) (HB : Vts2 W l v l2 v2 w) (B : Nat) (A : Option Addr) (m c : Nat) (news : List Vt) (hx : a.eval x = .slice A m c) (hl : news.length = m)
    (hr : CellsAt w B A (votesCells news)) (hlen : l.length + m ≤ 10000000)
    (h : ∀ v' w', Vts2 W (l ++ news) v' l2 v2 w' → wpList Try.prog ops Q rest (a.put o.dst v') w') : wpList Try.prog ops Q (o :: rest) a w := by
  obtain ⟨i0, hi0, hz0, hz1, hz2⟩ := info_of Try.infoV
  refine wpList_app w hgd s x _ ho W.heap.size 40 i0 _ 4 32 Try.underlying27 hi0 hz0 hz1 hz2 rfl (by omega) v l.length (votesCells l) hs HB.1.1 B A m c (votesCells news) hx (by rw [votesCells_length, hl]) hr (votesCells_one _)
    (by unfold maxLen; omega) (by omega) HB.1.2.size_le ?_
  intro v' w' own g hloc
  refine h v' w' ⟨⟨?_, HB.1.2.grown g fun i hi => (HB.1.1.lt i hi).1⟩, HB.2.1.beside g (fun k hk => (HB.1.1.lt k hk).1) (fun k hk e => HB.2.2 k e hk), fun k hk e => ?_⟩
  · rw [votesCells_append] at own
    rw [List.length_append, hl]
    exact own
  · rcases hloc with h1 | h1
    · exact HB.2.2 k (by rw [← h1]; exact hk) e
    · rw [h1] at hk
      injection hk with hk
      have := (HB.2.1.1.lt k e).2
      omega
/-- append of votes onto the second one. -/
theorem wpList_two2 (w : World) (hgd : o.guard = none) (s x : Operand)
    (ho : o.op = .call { callee := .builtin .append, args := #[s, x], argTypes := #[27, 27] })
    (W : World) (l l2 : List Vt) (v v2 : Value) (hs : a.eval s = v2) (HB : Vts2 W l v l2 v2 w) (B : Nat) (A : Option Addr) (m c : Nat) (news : List Vt) (hx : a.eval x = .slice A m c) (hl : news.length = m)
    (hr : CellsAt w B A (votesCells news)) (hlen : l2.length + m ≤ 10000000)
    (h : ∀ v' w', Vts2 W l v (l2 ++ news) v' w' → wpList Try.prog ops Q rest (a.put o.dst v') w') : wpList Try.prog ops Q (o :: rest) a w :=
  wpList_two1 w hgd s x ho W l2 l v2 v hs HB.swap B A m c news hx hl hr hlen fun v' w' k => h v' w' k.swap
end

/-- The votes of the slots that fit. -/
def fitL (q : Int → Bool) (L : List Vt) : List Vt := L.filter fun v => q v.s
theorem fitL_yes {q : Int → Bool} {L : List Vt} {v : Vt} (h : q v.s = true) : fitL q (L ++ [v]) = fitL q L ++ [v] := by simp [fitL, h]
theorem fitL_no {q : Int → Bool} {L : List Vt} {v : Vt} (h : q v.s = false) : fitL q (L ++ [v]) = fitL q L := by simp [fitL, h]
theorem fitL_le (q : Int → Bool) (L : List Vt) : (fitL q L).length ≤ L.length := List.length_filter_le _ _
theorem mem_fitL {q : Int → Bool} {L : List Vt} {v : Vt} : v ∈ fitL q L ↔ v ∈ L ∧ q v.s = true := by simp [fitL, List.mem_filter]
theorem WfVs.fit {L : List Vt} (h : WfVs L) (q : Int → Bool) : WfVs (fitL q L) := fun v hv => h v (mem_fitL.1 hv).1
theorem fit_dbl {q : Int → Bool} {L : List Vt} {s : Int} (hs : q s = true) (f : Int) : Dbl (fitL q L) s f ↔ Dbl L s f := by
  constructor
  · exact Dbl.of fun v hv => (mem_fitL.1 hv).1
  · rintro ⟨a, ha, b, hb, h1, h2, h3, h4, ne⟩
    exact ⟨a, mem_fitL.2 ⟨ha, by rw [h3]; exact hs⟩, b, mem_fitL.2 ⟨hb, by rw [h4]; exact hs⟩, h1, h2, h3, h4, ne⟩
theorem fit_cnt {q : Int → Bool} {L : List Vt} (v : Vt) : Cnt (fitL q L) q v ↔ Cnt L q v := by
  constructor
  · rintro ⟨h1, h2, h3, h4⟩
    exact ⟨(mem_fitL.1 h1).1, h2, fun s hs d => h3 s hs ((fit_dbl hs _).2 d), fun a ha e hq => h4 a (mem_fitL.2 ⟨ha, hq⟩) e hq⟩
  · rintro ⟨h1, h2, h3, h4⟩
    exact ⟨mem_fitL.2 ⟨h1, h2⟩, h2, fun s hs d => h3 s hs ((fit_dbl hs _).1 d), fun a ha e hq => h4 a (mem_fitL.1 ha).1 e hq⟩
theorem Cnts.fit {q : Int → Bool} {L R S : List Vt} (hR : Cnts L q R) (hS : Cnts (fitL q L) q S) : R = S := hR.unique ⟨hS.1, fun v => (hS.2 v).trans (fit_cnt v)⟩
theorem Dbls.fit {s : Int} {L : List Vt} {R S : List Int} (hR : Dbls L s R) (hS : Dbls (fitL (isQ s) L) s S) : R = S := hR.unique ⟨hS.1, fun f => (hS.2 f).trans (fit_dbl (isQ_iff.2 rfl) f)⟩

end Go.Proofs.Ytajdhcanajbgoaa
