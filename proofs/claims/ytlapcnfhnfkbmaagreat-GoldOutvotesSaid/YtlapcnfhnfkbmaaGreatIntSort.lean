/-
  Numbers of one's own, put into order by the library's Sort.
-/
import Derived.Test.YtlapcnfhnfkbmaaGreatGround
import Derived.Test.YtlapcnfhnfkbmaaGreatIntLay
import Derived.Test.YtlapcnfhnfkbmaaGreatVoteOfG
namespace Go.Proofs.YtlapcnfhnfkbmaaGreat
set_option maxRecDepth 100000
set_option linter.unusedVariables false
set_option linter.unusedSimpArgs false
open Go.ChangeShapes Go.WideShapes Go.ChangeAt Go.RowKit Go.Sort Go.Lib Go.Shelf

theorem sortI_any (W w : World) (l : List Int) (v : Value) (hl : l.length ≤ 10000000) (h : Ints W l v w) :
    Calls Tryz.prog 50 #[v] w fun e w' => e = .returned (.tuple #[]) ∧ ∃ S, S.Perm l ∧ (S.Pairwise fun a b => a ≤ b) ∧ Ints W S v w' := by
  rcases h.1.2 with ⟨rfl, h0⟩ | ⟨g, cap, cur, rfl, hbase, hb, h1, h2, h3, h4⟩
  · have hcon := Any.slices_Sort_int_none sortI none 0 w
    change Calls Tryz.prog 50 _ _ _ at hcon
    have hn : l = [] := List.eq_nil_of_length_eq_zero h0
    subst hn
    exact hcon.mono fun e w' ⟨he, hw⟩ => ⟨he, [], List.Perm.refl _, List.Pairwise.nil, by rw [hw]; exact h⟩
  · have hH : Holds (Value.int .i64) w g 0 l.toArray := by
      refine holds_row _ hb ?_
      have : (l.toArray.toList.map fun x => Value.int .i64 x) = intCells l := rfl
      rw [this, ← h4]
      simp
    have hcon := Any.slices_Sort_int sortI g 0 cap l w hH (Array.getElem?_eq_some_iff.1 hb).1 (by omega)
    change Calls Tryz.prog 50 _ _ _ at hcon
    refine hcon.mono ?_
    rintro e w' ⟨he, n, os, rfl⟩
    have hp := List.mergeSort_perm l (fun x y : Int => decide (x ≤ y))
    have hs := List.pairwise_mergeSort (le := fun x y : Int => decide (x ≤ y)) (fun a b c h1 h2 => by simp at *; omega) (fun a b => by simp; omega) l
    generalize l.mergeSort (fun x y : Int => decide (x ≤ y)) = S at *
    refine ⟨he, S, hp, hs.imp fun {a b} k => by simpa using k, ?_, ?_⟩
    · have k := ownsRow_rowed (Value.int .i64) (w := w) (base := W.heap.size) (n := n) (os := os) (m := l.length) (size := 1) (d := S.toArray) (by rw [Nat.mul_one, ← hp.length_eq]; simp) hbase hb h1 h2 h3
      rw [hp.length_eq]
      exact k
    · exact h.2.grown (grownBy_rowed _ _) fun k hk => by cases hk; exact hbase

end Go.Proofs.YtlapcnfhnfkbmaaGreat
