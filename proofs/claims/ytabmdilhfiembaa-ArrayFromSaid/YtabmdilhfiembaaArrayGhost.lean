/-
  Plain mathematics: the array of blocks, with votes on them, weighs what the blocks weigh; its top is the head.
-/
import Derived.Test.YtabmdilhfiembaaArrayTop
import Derived.Test.YtabmdilhfiembaaGhostFacts
namespace Go.Proofs.Ytabmdilhfiembaa
set_option maxRecDepth 100000
set_option linter.unusedVariables false
open Go.ChangeShapes Go.WideShapes Go.ChangeAt Go.RowKit

/-- The blocks of l, with own weights by their names. -/
def fromL (l : List Bk) (o : Id2 → Int) : List It := l.map fun b => ⟨nameB b, optI (posB l b.p), o (nameB b), 0, 0, 0⟩
theorem fromL_length (l : List Bk) (o : Id2 → Int) : (fromL l o).length = l.length := by simp [fromL]
theorem fromL_at {l : List Bk} {o : Id2 → Int} {i : Nat} (h : i < l.length) : itA (fromL l o) i = ⟨nameB l[i], optI (posB l l[i].p), o (nameB l[i]), 0, 0, 0⟩ := by
  rw [itA_get (by rw [fromL_length]; exact h)]; simp [fromL]
theorem fromL_x {l : List Bk} {o : Id2 → Int} {i : Nat} (h : i < l.length) : (itA (fromL l o) i).x = nameB l[i] := by rw [fromL_at h]
/-- Place j of the array is the ID x. -/
def PlaceOf (l : List Bk) (j : Int) (x : Id2) : Prop := (x = zid ∧ j = -1) ∨ ∃ (i : Nat) (hi : i < l.length), j = (i : Int) ∧ x = nameB l[i]
section
variable {l : List Bk} (h : mayB l = true)
include h
theorem parent_is {o : Id2 → Int} {j : Int} {x : Id2} (hp : PlaceOf l j x) {n : Nat} (hn : n < l.length) : (j < (n : Int) ∧ (itA (fromL l o) n).p = j) ↔ l[n].p = x := by
  rw [fromL_at hn]
  simp only
  rcases hp with ⟨rfl, rfl⟩ | ⟨i, hi, rfl, rfl⟩
  · constructor
    · rintro ⟨_, e⟩
      rcases standsB_iff.1 (may_stands h hn) with ⟨i, q⟩ | q
      · rw [q] at e; unfold optI at e; simp only at e; omega
      · exact q
    · intro e
      refine ⟨by omega, ?_⟩
      rw [e, may_zero h]; rfl
  · constructor
    · rintro ⟨_, e⟩
      cases q : posB l l[n].p with
      | none => rw [q] at e; unfold optI at e; simp only at e; omega
      | some i' =>
        rw [q] at e
        have : i' = i := by unfold optI at e; simp only at e; omega
        subst this
        exact (posB_name q).symm
    · intro e
      have hr := rank_parent h hn
      rw [e, rank_some (may_pos h hi)] at hr
      refine ⟨by omega, ?_⟩
      rw [e, may_pos h hi]; rfl
theorem from_kidsTo {o : Id2 → Int} {j : Int} {x : Id2} (hp : PlaceOf l j x) : ∀ n, n ≤ l.length → kidsB (l.take n) x = (kidsTo (fromL l o) j n).map fun k => (itA (fromL l o) k).x
  | 0, _ => rfl
  | n + 1, hn => by
    have ih := from_kidsTo (o := o) hp n (by omega)
    by_cases e : l[n].p = x
    · rw [kids_hit (by omega) e, kidsTo_hit ((parent_is h hp (by omega)).2 e), List.map_append, ih, List.map_singleton, fromL_x (by omega)]
    · rw [kids_miss (by omega) e, kidsTo_miss (fun q => e ((parent_is h hp (by omega)).1 q)), ih]
theorem from_kids (o : Id2 → Int) {j : Int} {x : Id2} (hp : PlaceOf l j x) : kidsB l x = (kidsI (fromL l o) j).map fun k => (itA (fromL l o) k).x := by
  have := from_kidsTo h (o := o) hp l.length (Nat.le_refl _)
  rw [List.take_length] at this
  rw [this]
  unfold kidsI
  rw [fromL_length]
theorem from_right (o : Id2 → Int) : AllRight (fromL l o) := fun i hi => by
  rw [fromL_length] at hi
  rw [fromL_at hi]
  simp only
  have hr := rank_parent h hi
  cases q : posB l l[i].p with
  | none => unfold optI; simp only; omega
  | some j => rw [rank_some q] at hr; unfold optI; simp only; omega
theorem from_apart (o : Id2 → Int) : ∀ i j, i < (fromL l o).length → j < (fromL l o).length → (itA (fromL l o) i).x = (itA (fromL l o) j).x → i = j := fun i j hi hj e => by
  rw [fromL_length] at hi hj
  rw [fromL_x hi, fromL_x hj] at e
  have h1 := may_pos h hi
  rw [e, may_pos h hj] at h1
  injection h1 with h1
  exact h1.symm
end
theorem more_beats (g : Id2 → Int) (x y : Id2) : moreI (g x) (g y) x y = beats g y x := by
  unfold moreI beats
  rw [show decide (g x = g y) = decide (g y = g x) from by rw [decide_eq_decide]; exact ⟨fun e => e.symm, fun e => e.symm⟩]
theorem best_map (g : Id2 → Int) (f : Nat → Id2) : ∀ (n : Nat) (q : List Nat), q.length = n → bestTo g (q.map f) = (bestX (fun k => g (f k)) f q).map f
  | 0, q, hq => by rw [List.eq_nil_of_length_eq_zero hq]; rfl
  | n + 1, q, hq => by
    obtain ⟨r, k, rfl⟩ : ∃ r k, q = r ++ [k] := ⟨q.dropLast, q.getLast (by intro e; rw [e] at hq; cases hq), (List.dropLast_concat_getLast _).symm⟩
    rw [List.length_append] at hq
    have ih := best_map g f n r (by simpa using hq)
    rw [List.map_append, List.map_singleton, bestTo_snoc, bestX_snoc, ih]
    cases q : bestX (fun k => g (f k)) f r with
    | none => rfl
    | some y =>
      simp only [Option.map_some]
      rw [more_beats g (f k) (f y)]
      cases beats g (f y) (f k) <;> rfl
theorem sumC_sum (k : Cf) (l : List Bk) (m : List Vt) : ∀ (n : Nat) (q : List Id2), q.length = n → sumC k l m q = (q.map (onC k l m)).sum
  | 0, q, hq => by rw [List.eq_nil_of_length_eq_zero hq]; rfl
  | n + 1, q, hq => by
    obtain ⟨r, x, rfl⟩ : ∃ r x, q = r ++ [x] := ⟨q.dropLast, q.getLast (by intro e; rw [e] at hq; cases hq), (List.dropLast_concat_getLast _).symm⟩
    rw [List.length_append] at hq
    rw [sumC_snoc, List.map_append, List.sum_append, sumC_sum k l m n r (by simpa using hq)]
    simp
/-- The array of l with the votes of m on it. -/
def voteL (k : Cf) (l : List Bk) (m : List Vt) : List It := fromL l fun x => weightC k (ownV m x)
section
variable {k : Cf} {l : List Bk} (h : mayB l = true) {m : List Vt} (hm : ∀ a ∈ m, ∀ b ∈ m, a.f = b.f → a = b)
include h hm
theorem from_w : ∀ (n i : Nat) (hn : l.length ≤ n + i) (hi : i < l.length), wC (voteL k l m) i = onC k l m (nameB l[i])
  | n, i, hn, hi => by
    rw [wC_eq, splits h hm (name_stands h hi), sumC_sum k l m _ _ rfl, from_kids h (fun x => weightC k (ownV m x)) (Or.inr ⟨i, hi, rfl, rfl⟩), List.map_map]
    have hs : ((kidsI (voteL k l m) (i : Int)).map (wC (voteL k l m))).sum = ((kidsI (fromL l fun x => weightC k (ownV m x)) (i : Int)).map (onC k l m ∘ fun j => (itA (fromL l fun x => weightC k (ownV m x)) j).x)).sum := map_sum_congr fun j hj => by
      have hj' := mem_kidsI.1 hj
      rw [show (voteL k l m).length = l.length from fromL_length _ _] at hj'
      show _ = onC k l m (itA (fromL l fun x => weightC k (ownV m x)) j).x
      rw [fromL_x hj'.1]
      match n, hn with
      | 0, hn => omega
      | n + 1, hn => exact from_w n j (by omega) hj'.1
    rw [hs, show itA (voteL k l m) i = _ from fromL_at hi]
    simp only
    omega
theorem from_best {j : Int} {x : Id2} (hp : PlaceOf l j x) : bestC k l m x = (bC (voteL k l m) j).map fun i => (itA (voteL k l m) i).x := by
  unfold bestC bC
  rw [kidsC_yes x h, from_kids h (fun x => weightC k (ownV m x)) hp, best_map _ _ _ _ rfl]
  have e : bestX (fun i => onC k l m (itA (voteL k l m) i).x) (fun i => (itA (voteL k l m) i).x) (kidsI (voteL k l m) j) = bestX (wC (voteL k l m)) (fun i => (itA (voteL k l m) i).x) (kidsI (voteL k l m) j) := bestX_congr (fun i hi => by
    have hi' := mem_kidsI.1 hi
    rw [show (voteL k l m).length = l.length from fromL_length _ _] at hi'
    rw [show (itA (voteL k l m) i).x = nameB l[i] from fromL_x hi'.1]
    exact (from_w h hm l.length i (by omega) hi'.1).symm) (fun _ _ => rfl)
  exact congrArg _ e
theorem from_head : ∀ (n i : Nat) (hn : l.length ≤ n + i) (hi : i < l.length), headX k l m (nameB l[i]) = (itA (voteL k l m) (hC (voteL k l m) i)).x
  | n, i, hn, hi => by
    have hb := from_best (k := k) h hm (j := (i : Int)) (x := nameB l[i]) (Or.inr ⟨i, hi, rfl, rfl⟩)
    cases q : bC (voteL k l m) (i : Int) with
    | none =>
      rw [q] at hb
      rw [headX_stop hb, hC_none q]
      exact (fromL_x hi).symm
    | some y =>
      rw [q] at hb
      have hy := bC_mem q
      rw [show (voteL k l m).length = l.length from fromL_length _ _] at hy
      rw [headX_step hb, hC_some q]
      show headX k l m (itA (voteL k l m) y).x = _
      rw [show (itA (voteL k l m) y).x = nameB l[y] from fromL_x hy.1]
      match n, hn with
      | 0, hn => omega
      | n + 1, hn => exact from_head n y (by omega) hy.1
/-- The top of the array is the head. -/
theorem from_top : headC k l m = match bC (voteL k l m) (-1) with | none => zid | some r => (itA (voteL k l m) (hC (voteL k l m) r)).x := by
  have hb := from_best (k := k) h hm (j := -1) (x := zid) (Or.inl ⟨rfl, rfl⟩)
  unfold headC
  cases q : bC (voteL k l m) (-1) with
  | none => rw [q] at hb; exact headX_stop hb
  | some r =>
    rw [q] at hb
    have hr := bC_mem q
    rw [show (voteL k l m).length = l.length from fromL_length _ _] at hr
    rw [headX_step hb]
    show headX k l m (itA (voteL k l m) r).x = _
    rw [show (itA (voteL k l m) r).x = nameB l[r] from fromL_x hr.1]
    exact from_head h hm l.length r (by omega) hr.1
end

end Go.Proofs.Ytabmdilhfiembaa
