/-
  The contract of package votes' call Doubles.
-/
import Derived.Shelf.Sort.Plain
import Derived.Shelf.Slices.In.SortNone
import Derived.Test.YteamjjkmcomabaaRows
import Derived.Test.YteamjjkmcomabaaVoteOfG
import Derived.Test.YteamjjkmcomabaaGround
namespace Go.Proofs.Yteamjjkmcomabaa
set_option maxRecDepth 100000
set_option linter.unusedVariables false
set_option linter.unusedSimpArgs false
open Go.ChangeShapes Go.WideShapes Go.ChangeAt Go.RowKit

theorem Ints.none {W w : World} (k : Kept W w) : Ints W [] (.slice none 0 0) w := ⟨World.ownsRow_nil _ _ _ _, k⟩
theorem Ints.slice {W w : World} {l : List Int} {v : Value} (h : Ints W l v w) : ∃ A c, v = .slice A l.length c := by
  rcases h.1.2 with ⟨hv, h0⟩ | ⟨g, cap, cur, hv, _⟩
  · rw [h0]; exact ⟨_, _, hv⟩
  · exact ⟨_, _, hv⟩
theorem Ints.turned {W w w' : World} {l : List Int} {v : Value} {r : Nat} (h : Ints W l v w) (hg : w.grownBy w' (some r)) (hr : W.heap.size ≤ r) (hne : some r ≠ v.ownBlock) : Ints W l v w' := by
  refine ⟨⟨h.1.1, ?_⟩, h.2.grown hg fun k hk => by cases hk; exact hr⟩
  rcases h.1.2 with h2 | ⟨g, cap, cur, hv, hb, hh, k⟩
  · exact Or.inl h2
  · refine Or.inr ⟨g, cap, cur, hv, hb, ?_, k⟩
    rw [hg.block g (h.1.lt g (by rw [hv]; rfl)).2 (by rw [hv] at hne; exact fun e => hne e.symm)]
    exact hh
/-- append of numbers, and where. -/
theorem wpList_nums {ops : Array Oper} {rest : List Oper} {o : Oper} {a : Act} {Q : Exit → Act → World → Prop} (w : World) (hgd : o.guard = none) (s x : Operand)
    (ho : o.op = .call { callee := .builtin .append, args := #[s, x], argTypes := #[22, 22] })
    (W : World) (l : List Int) (v : Value) (hs : a.eval s = v) (HB : Ints W l v w) (B : Nat) (A : Option Addr) (m c : Nat) (news : List Int) (hx : a.eval x = .slice A m c) (hl : news.length = m)
    (hr : CellsAt w B A (intCells news)) (hlen : l.length + m ≤ 10000000)
    (h : ∀ v' w', Ints W (l ++ news) v' w' → w.grownBy w' v.ownBlock → wpList Try.prog ops Q rest (a.put o.dst v') w') : wpList Try.prog ops Q (o :: rest) a w := by
  obtain ⟨i0, hi0, hz0, hz1, hz2⟩ := info_three Try.infoI
  refine wpList_app w hgd s x _ ho W.heap.size 3 i0 _ 1 8 Try.underlying22 hi0 hz0 hz1 hz2 rfl (by omega) v l.length (intCells l) hs HB.1 B A m c (intCells news) hx (by simp [hl]) hr (intCells_one _)
    (by unfold maxLen; omega) (by omega) HB.2.size_le ?_
  intro v' w' own g _
  refine h v' w' ⟨?_, HB.2.grown g fun i hi => (HB.1.lt i hi).1⟩ g
  rw [intCells_append] at own
  rw [List.length_append, hl]
  exact own
/-- What hands back the numbers of l, as a list that is new. -/
def NumsNew (l : List Int) (w : World) (e : Ending) (w' : World) : Prop :=
  ∃ A c, e = .returned (.slice A l.length c) ∧ CellsAt w' w'.heap.size A (intCells l) ∧ Kept w w'
theorem Ints.new {W w : World} {l : List Int} {A : Option Addr} {c : Nat} (h : Ints W l (.slice A l.length c) w) : NumsNew l W (.returned (.slice A l.length c)) w := ⟨A, c, rfl, CellsAt.of_own h.1, h.2⟩
/-- How the loop over the turns stands. -/
def DLoop (g : Turns) (slot : Int) (b m : Nat) (D : DataW Unit) (w : World) (r : Nat) (v : Value) (wr : World) : Prop :=
  ∃ (left : Lit → Bool) (t : Int → Int → Bool) (cnt : Nat) (R : List Int), wr.ranges Try.prog 110 (plainElem Try.prog 3) b r m D left cnt ∧
    (∀ f s, Wf64 f → Wf64 s → left (kT f s) = t f s) ∧ (∀ f s, t f s = true → g f s ≠ none) ∧ DInv g slot t R ∧ Ints w R v wr ∧ R.length + cnt ≤ m
/-- What hands back who is double. -/
def Doubled (L : List Vt) (s : Int) (w : World) (e : Ending) (w' : World) : Prop := ∃ R, Dbls L s R ∧ R.length ≤ L.length ∧ NumsNew R w e w'

end Go.Proofs.Yteamjjkmcomabaa
