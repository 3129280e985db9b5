/-
  Plain mathematics of package ghost: the best one as it is gathered, one id behind the other.
-/
import Derived.Test.YtlapcnfhnfkbmaaGreatGhostMath
import Derived.Test.YtlapcnfhnfkbmaaGreatIdGroup
namespace Go.Proofs.YtlapcnfhnfkbmaaGreat
set_option maxRecDepth 100000
set_option linter.unusedVariables false
set_option linter.unusedSimpArgs false
set_option linter.unusedSimpArgs false
set_option linter.unusedVariables false
open Go.ChangeShapes Go.WideShapes Go.ChangeAt Go.RowKit

/-- More, or as much and a greater name. -/
def betterB (n m : Int) (x y : Id2) : Bool := decide (m < n) || (decide (n = m) && lessN y x)
/-- What is gathered of the best one: how much is on it, and its name; noughts at the start. -/
def candOf (g : Id2 → Int) : Option Id2 → Int × Id2
  | none => (0, zid)
  | some y => (g y, y)
theorem cand_id (g : Id2 → Int) (o : Option Id2) : (candOf g o).2 = bestId o := by cases o <;> rfl
theorem zid_less {x : Id2} (h : x ≠ zid) : lessN zid x = true := by
  obtain ⟨a, b⟩ := x
  refine decide_eq_true ?_
  by_cases h0 : a = 0
  · subst h0
    refine Or.inr ⟨rfl, ?_⟩
    rcases Nat.eq_zero_or_pos b with e | e
    · subst e; exact absurd rfl h
    · exact e
  · exact Or.inl (Nat.pos_of_ne_zero h0)
theorem better_first {g : Id2 → Int} {x : Id2} (hx : x ≠ zid) (h0 : 0 ≤ g x) : betterB (g x) 0 x zid = true := by
  unfold betterB
  rw [zid_less hx]
  by_cases e : 0 < g x
  · rw [decide_eq_true e]; rfl
  · rw [decide_eq_true (show g x = 0 by omega)]; simp
theorem better_beats (g : Id2 → Int) (x y : Id2) : betterB (g x) (g y) x y = beats g y x := by
  unfold betterB beats
  rw [show decide (g x = g y) = decide (g y = g x) from by rw [decide_eq_decide]; exact ⟨fun e => e.symm, fun e => e.symm⟩]
theorem cand_hit {g : Id2 → Int} {q : List Id2} {x : Id2} (h : betterB (g x) (candOf g (bestTo g q)).1 x (candOf g (bestTo g q)).2 = true) : candOf g (bestTo g (q ++ [x])) = (g x, x) := by
  cases e : bestTo g q with
  | none => rw [bestTo_first e]; rfl
  | some y =>
    rw [e] at h
    have h' : beats g y x = true := (better_beats g x y).symm.trans h
    rw [bestTo_hit e h']; rfl
theorem cand_miss {g : Id2 → Int} {q : List Id2} {x : Id2} (hx : x ≠ zid) (h0 : 0 ≤ g x) (h : betterB (g x) (candOf g (bestTo g q)).1 x (candOf g (bestTo g q)).2 = false) : candOf g (bestTo g (q ++ [x])) = candOf g (bestTo g q) := by
  cases e : bestTo g q with
  | none =>
    rw [e] at h
    have h' : betterB (g x) 0 x zid = false := h
    rw [better_first hx h0] at h'; cases h'
  | some y =>
    rw [e] at h
    have h' : beats g y x = false := (better_beats g x y).symm.trans h
    rw [bestTo_miss e h']
theorem cand_hit_take {g : Id2 → Int} {q : List Id2} {k : Nat} (hk : k < q.length) (h : betterB (g q[k]) (candOf g (bestTo g (q.take k))).1 q[k] (candOf g (bestTo g (q.take k))).2 = true) : candOf g (bestTo g (q.take (k + 1))) = (g q[k], q[k]) := by
  rw [List.take_succ_eq_append_getElem hk]; exact cand_hit h
theorem cand_miss_take {g : Id2 → Int} {q : List Id2} {k : Nat} (hk : k < q.length) (hx : q[k] ≠ zid) (h0 : 0 ≤ g q[k]) (h : betterB (g q[k]) (candOf g (bestTo g (q.take k))).1 q[k] (candOf g (bestTo g (q.take k))).2 = false) : candOf g (bestTo g (q.take (k + 1))) = candOf g (bestTo g (q.take k)) := by
  rw [List.take_succ_eq_append_getElem hk]; exact cand_miss hx h0 h
/-- Names that are none of the beginning's, each made of words. -/
def Named (q : List Id2) : Prop := ∀ x ∈ q, WfI x ∧ x ≠ zid
theorem kids_named (l : List Bk) (x : Id2) : Named (kidsC l x) := fun y hy => by
  refine ⟨kids_wf l x y hy, fun e => ?_⟩
  cases m : mayB l with
  | false => rw [kidsC_no x m] at hy; cases hy
  | true =>
    rw [kidsC_yes x m] at hy
    obtain ⟨i, hi, e2, _⟩ := mem_kids.1 hy
    have h1 := may_pos m hi
    rw [e2, e, may_zero m] at h1
    cases h1
theorem kidsC_le (l : List Bk) (x : Id2) : (kidsC l x).length ≤ l.length := by
  unfold kidsC
  cases mayB l with
  | false => exact Nat.zero_le _
  | true => exact kidsB_le l x
theorem cand_bounds (k : Cf) (l : List Bk) (v : List Vt) (q : List Id2) : 0 ≤ (candOf (onC k l v) (bestTo (onC k l v) q)).1 ∧ (candOf (onC k l v) (bestTo (onC k l v) q)).1 ≤ 13194139533312 := by
  cases bestTo (onC k l v) q with
  | none => exact ⟨Int.le_refl 0, (by decide : (0 : Int) ≤ 13194139533312)⟩
  | some y => exact on_bounds k l v y
theorem cand_wf {g : Id2 → Int} {q : List Id2} (h : Named q) : WfI (candOf g (bestTo g q)).2 := by
  cases e : bestTo g q with
  | none => exact WfI.zid
  | some y => exact (h y (bestTo_mem e)).1
theorem cand_some {g : Id2 → Int} {q : List Id2} (h : Named q) (h0 : q ≠ []) : (candOf g (bestTo g q)).2 ≠ zid := by
  cases e : bestTo g q with
  | none => exact absurd (bestTo_none e) h0
  | some y => exact (h y (bestTo_mem e)).2
theorem Named.take {q : List Id2} (h : Named q) (k : Nat) : Named (q.take k) := fun x hx => h x (List.mem_of_mem_take hx)

/-! ### The kids of all ids, gathered in one way -/
theorem grow_hit {l : List Bk} {k : Nat} (hk : k < l.length) (y : Id2) : growF (kidsB (l.take k)) l[k].p (nameB l[k]) y = kidsB (l.take (k + 1)) y := by
  unfold growF
  by_cases e : y = l[k].p
  · rw [if_pos e, e, kids_hit hk rfl]
  · rw [if_neg e, kids_miss hk (fun q => e q.symm)]

/-! ### The head -/
theorem best_step {k : Cf} {l : List Bk} {v : List Vt} {x : Id2} {q : List Id2} (hq : kidsC l x = q) (h0 : q ≠ []) : headX k l v x = headX k l v (candOf (onC k l v) (bestTo (onC k l v) q)).2 := by
  subst hq
  cases e : bestTo (onC k l v) (kidsC l x) with
  | none => exact absurd (bestTo_none e) h0
  | some y => exact headX_step e
theorem best_one {k : Cf} {l : List Bk} {v : List Vt} {x y : Id2} (hq : kidsC l x = [y]) : headX k l v x = headX k l v y := by
  refine headX_step ?_
  unfold bestC
  rw [hq]
  rfl
theorem best_leaf {k : Cf} {l : List Bk} {v : List Vt} {x : Id2} (hq : kidsC l x = []) : headX k l v x = x := by
  refine headX_stop ?_
  unfold bestC
  rw [hq]
  rfl
theorem cand_rank {k : Cf} {l : List Bk} {v : List Vt} {x : Id2} (h0 : kidsC l x ≠ []) : rank l x < rank l (candOf (onC k l v) (bestTo (onC k l v) (kidsC l x))).2 := by
  cases e : bestTo (onC k l v) (kidsC l x) with
  | none => exact absurd (bestTo_none e) h0
  | some y => exact (kid_rank (bestTo_mem e)).1
theorem one_rank {l : List Bk} {x y : Id2} (hq : kidsC l x = [y]) : rank l x < rank l y := (kid_rank (by rw [hq]; simp)).1

end Go.Proofs.YtlapcnfhnfkbmaaGreat
