/-
  Plain mathematics of package ghost: the best of some ids, and the head.
-/
import Derived.Test.YtlapcnfhnfkbmaaGreatWeighSplitFacts
namespace Go.Proofs.YtlapcnfhnfkbmaaGreat
set_option maxRecDepth 100000
set_option linter.unusedVariables false
set_option linter.unusedSimpArgs false
set_option linter.unusedSimpArgs false
set_option linter.unusedVariables false

/-- y is better than x: more is on it, or as much, and its name is greater. -/
def beats (g : Id2 → Int) (x y : Id2) : Bool := decide (g x < g y) || (decide (g x = g y) && lessN x y)
theorem beats_iff {g : Id2 → Int} {x y : Id2} : beats g x y = true ↔ g x < g y ∨ (g x = g y ∧ (x.1 < y.1 ∨ (x.1 = y.1 ∧ x.2 < y.2))) := by
  unfold beats lessN
  rw [Bool.or_eq_true, Bool.and_eq_true, decide_eq_true_iff, decide_eq_true_iff, decide_eq_true_iff]
theorem beats_no {g : Id2 → Int} {x y : Id2} : beats g x y = false ↔ ¬ (g x < g y ∨ (g x = g y ∧ (x.1 < y.1 ∨ (x.1 = y.1 ∧ x.2 < y.2)))) := by
  rw [← beats_iff, Bool.not_eq_true]
theorem beats_self (g : Id2 → Int) (x : Id2) : beats g x x = false := beats_no.2 (by omega)
theorem beats_trans {g : Id2 → Int} {x y z : Id2} (h : beats g x y = true) (k : beats g y z = true) : beats g x z = true := by
  rw [beats_iff] at *
  omega
theorem beats_one {g : Id2 → Int} {x y : Id2} (h : beats g x y = false) (k : beats g y x = false) : x = y := by
  rw [beats_no] at *
  obtain ⟨a, b⟩ := x
  obtain ⟨c, d⟩ := y
  simp only [Prod.mk.injEq] at *
  omega
/-- .. than x, or x is none. -/
theorem beats_of {g : Id2 → Int} {x y z : Id2} (h : beats g x y = false) (k : beats g x z = true) : beats g y z = true := by
  cases q : beats g y x with
  | true => exact beats_trans q k
  | false => rw [← beats_one h q]; exact k
def bestTo (g : Id2 → Int) : List Id2 → Option Id2 := List.foldl (fun b x => match b with | none => some x | some y => if beats g y x then some x else some y) none
theorem bestTo_nil (g : Id2 → Int) : bestTo g [] = none := rfl
theorem bestTo_snoc (g : Id2 → Int) (q : List Id2) (x : Id2) : bestTo g (q ++ [x]) = match bestTo g q with | none => some x | some y => if beats g y x then some x else some y := by simp [bestTo]
theorem bestTo_first {g : Id2 → Int} {q : List Id2} {x : Id2} (h : bestTo g q = none) : bestTo g (q ++ [x]) = some x := by rw [bestTo_snoc, h]
theorem bestTo_hit {g : Id2 → Int} {q : List Id2} {x y : Id2} (h : bestTo g q = some y) (b : beats g y x = true) : bestTo g (q ++ [x]) = some x := by rw [bestTo_snoc, h]; simp [b]
theorem bestTo_miss {g : Id2 → Int} {q : List Id2} {x y : Id2} (h : bestTo g q = some y) (b : beats g y x = false) : bestTo g (q ++ [x]) = some y := by rw [bestTo_snoc, h]; simp [b]
/-- The best one is there, and none is better. -/
def IsBest (g : Id2 → Int) (q : List Id2) (y : Id2) : Prop := y ∈ q ∧ ∀ z ∈ q, beats g y z = false
theorem IsBest.one {g : Id2 → Int} {q : List Id2} {x y : Id2} (h : IsBest g q x) (k : IsBest g q y) : x = y := beats_one (h.2 y k.1) (k.2 x h.1)
theorem bestTo_is {g : Id2 → Int} (q : List Id2) : (bestTo g q = none ∧ q = []) ∨ ∃ y, bestTo g q = some y ∧ IsBest g q y := by
  suffices H : ∀ n, ∀ q : List Id2, q.length = n → (bestTo g q = none ∧ q = []) ∨ ∃ y, bestTo g q = some y ∧ IsBest g q y from H _ q rfl
  intro n
  induction n with
  | zero => intro q hq; rw [List.eq_nil_of_length_eq_zero hq]; exact Or.inl ⟨rfl, rfl⟩
  | succ n ih =>
    intro q hq
    right
    obtain ⟨r, x, rfl⟩ : ∃ r x, q = r ++ [x] := ⟨q.dropLast, q.getLast (by intro e; rw [e] at hq; cases hq), (List.dropLast_concat_getLast _).symm⟩
    rw [List.length_append] at hq
    rcases ih r (by simpa using hq) with ⟨h, rfl⟩ | ⟨y, h, hm, hb⟩
    · exact ⟨x, bestTo_first h, by simp, fun z hz => by rw [show z = x by simpa using hz]; exact beats_self g x⟩
    · cases b : beats g y x with
      | true =>
        refine ⟨x, bestTo_hit h b, by simp, fun z hz => ?_⟩
        rcases List.mem_append.1 hz with hz | hz
        · cases q : beats g x z with
          | false => rfl
          | true => have e := hb z hz; rw [beats_trans b q] at e; cases e
        · rw [show z = x by simpa using hz]; exact beats_self g x
      | false =>
        refine ⟨y, bestTo_miss h b, List.mem_append_left _ hm, fun z hz => ?_⟩
        rcases List.mem_append.1 hz with hz | hz
        · exact hb z hz
        · rw [show z = x by simpa using hz]; exact b
theorem bestTo_of {g : Id2 → Int} {q : List Id2} {y : Id2} (h : IsBest g q y) : bestTo g q = some y := by
  rcases bestTo_is (g := g) q with ⟨_, rfl⟩ | ⟨z, e, hz⟩
  · cases h.1
  · rw [e, h.one hz]
theorem bestTo_mem {g : Id2 → Int} {q : List Id2} {y : Id2} (h : bestTo g q = some y) : y ∈ q := by
  rcases bestTo_is (g := g) q with ⟨e, _⟩ | ⟨z, e, hz⟩
  · rw [e] at h; cases h
  · rw [e] at h; injection h with h; rw [← h]; exact hz.1
theorem bestTo_none {g : Id2 → Int} {q : List Id2} (h : bestTo g q = none) : q = [] := by
  rcases bestTo_is (g := g) q with ⟨_, e⟩ | ⟨z, e, _⟩
  · exact e
  · rw [e] at h; cases h

/-! ### Best and Head -/
def bestC (k : Cf) (l : List Bk) (v : List Vt) (x : Id2) : Option Id2 := bestTo (onC k l v) (kidsC l x)
def bestId (o : Option Id2) : Id2 := o.getD zid
theorem bestC_no {k : Cf} {l : List Bk} {v : List Vt} (h : mayB l = false) (x : Id2) : bestC k l v x = none := by unfold bestC; rw [kidsC_no x h]; rfl
theorem kid_rank {l : List Bk} {x y : Id2} (h : y ∈ kidsC l x) : rank l x < rank l y ∧ rank l y ≤ l.length := by
  cases m : mayB l with
  | false => rw [kidsC_no x m] at h; cases h
  | true =>
    rw [kidsC_yes x m] at h
    obtain ⟨i, hi, rfl, e⟩ := mem_kids.1 h
    have h1 := rank_parent m hi
    rw [e] at h1
    rw [rank_some (may_pos m hi)]
    omega
def headTo (b : Id2 → Option Id2) : Nat → Id2 → Id2
  | 0, x => x
  | n + 1, x => match b x with | none => x | some y => headTo b n y
theorem headTo_stop {b : Id2 → Option Id2} {x : Id2} (h : b x = none) : ∀ n, headTo b n x = x
  | 0 => rfl
  | n + 1 => by unfold headTo; rw [h]
theorem headTo_more {b : Id2 → Option Id2} {r : Id2 → Nat} {L : Nat} (hr : ∀ x y, b x = some y → r x < r y ∧ r y ≤ L) : ∀ (n : Nat) (x : Id2), L ≤ n + r x → headTo b (n + 1) x = headTo b n x
  | 0, x, h => by
    cases q : b x with
    | none => rw [headTo_stop q, headTo_stop q]
    | some y => have := hr x y q; omega
  | n + 1, x, h => by
    cases q : b x with
    | none => rw [headTo_stop q, headTo_stop q]
    | some y =>
      have := hr x y q
      have e := headTo_more hr n y (by omega)
      unfold headTo
      rw [q]
      exact e
/-- From x on, as far as it goes. -/
def headX (k : Cf) (l : List Bk) (v : List Vt) (x : Id2) : Id2 := headTo (bestC k l v) l.length x
def headC (k : Cf) (l : List Bk) (v : List Vt) : Id2 := headX k l v zid
theorem headX_stop {k : Cf} {l : List Bk} {v : List Vt} {x : Id2} (h : bestC k l v x = none) : headX k l v x = x := headTo_stop h _
theorem headX_step {k : Cf} {l : List Bk} {v : List Vt} {x y : Id2} (h : bestC k l v x = some y) : headX k l v x = headX k l v y := by
  have hr : ∀ x y, bestC k l v x = some y → rank l x < rank l y ∧ rank l y ≤ l.length := fun x y q => kid_rank (bestTo_mem q)
  have h1 := hr x y h
  unfold headX
  rw [← headTo_more hr l.length x (by omega)]
  have e : headTo (bestC k l v) (l.length + 1) x = headTo (bestC k l v) l.length y := by
    show (match bestC k l v x with | none => x | some y => headTo (bestC k l v) l.length y) = _
    rw [h]
  exact e
theorem best_rank {k : Cf} {l : List Bk} {v : List Vt} {x y : Id2} (h : bestC k l v x = some y) : rank l x < rank l y ∧ rank l y ≤ l.length := kid_rank (bestTo_mem h)
theorem best_wf {k : Cf} {l : List Bk} {v : List Vt} {x y : Id2} (h : bestC k l v x = some y) : WfI y := kids_wf l x y (bestTo_mem h)
theorem headTo_wf {b : Id2 → Option Id2} (hb : ∀ x y, b x = some y → WfI y) : ∀ (n : Nat) (x : Id2), WfI x → WfI (headTo b n x)
  | 0, _, h => h
  | n + 1, x, h => by
    unfold headTo
    cases q : b x with
    | none => exact h
    | some y => exact headTo_wf hb n y (hb x y q)
theorem headC_wf (k : Cf) (l : List Bk) (v : List Vt) : WfI (headC k l v) := headTo_wf (fun _ _ h => best_wf h) _ _ WfI.zid

end Go.Proofs.YtlapcnfhnfkbmaaGreat
