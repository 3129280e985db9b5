/-
  Plain mathematics of the numbers that package ffg gives to blocks: how many stand on each, itself as well; and from which number on, and up to which one, what stands on it is. Two numbers tell what is under what.
-/
import Derived.Test.YthaofomhlmajbaaTreeG
namespace Go.Proofs.Ythaofomhlmajbaa
set_option maxRecDepth 100000
set_option linter.unusedVariables false
set_option linter.unusedSimpArgs false
set_option linter.unusedSimpArgs false
set_option linter.unusedVariables false

/-- What those of r that stand on x weigh by S, together. -/
def kidS (S : Id2 → Nat) (x : Id2) : List Bk → Nat
  | [] => 0
  | b :: r => (if b.p = x then S (nameB b) else 0) + kidS S x r
theorem kidS_cons (S : Id2 → Nat) (x : Id2) (b : Bk) (r : List Bk) : kidS S x (b :: r) = (if b.p = x then S (nameB b) else 0) + kidS S x r := rfl
theorem kidS_congr {S T : Id2 → Nat} {x : Id2} : ∀ {r : List Bk}, (∀ b ∈ r, T (nameB b) = S (nameB b)) → kidS T x r = kidS S x r
  | [], _ => rfl
  | b :: r, h => by
    rw [kidS_cons, kidS_cons, h b List.mem_cons_self, kidS_congr (r := r) fun c hc => h c (List.mem_cons_of_mem _ hc)]
theorem kidS_none {S : Id2 → Nat} {x : Id2} : ∀ {r : List Bk}, (∀ b ∈ r, b.p ≠ x) → kidS S x r = 0
  | [], _ => rfl
  | b :: r, h => by
    rw [kidS_cons, if_neg (h b List.mem_cons_self), kidS_none (r := r) fun c hc => h c (List.mem_cons_of_mem _ hc)]
theorem kidS_append (S : Id2 → Nat) (x : Id2) : ∀ (l r : List Bk), kidS S x (l ++ r) = kidS S x l + kidS S x r
  | [], r => by simp [kidS]
  | b :: l, r => by rw [List.cons_append, kidS_cons, kidS_cons, kidS_append S x l r]; omega

/-- S with n at x. -/
def setN (S : Id2 → Nat) (x : Id2) (n : Nat) : Id2 → Nat := fun y => if y = x then n else S y
theorem setN_same (S : Id2 → Nat) (x : Id2) (n : Nat) : setN S x n x = n := if_pos rfl
theorem setN_other {S : Id2 → Nat} {x y : Id2} (n : Nat) (h : y ≠ x) : setN S x n y = S y := if_neg h
def sumS (S : Id2 → Nat) : List Id2 → Nat
  | [] => 0
  | x :: l => S x + sumS S l
theorem sumS_snoc (S : Id2 → Nat) (x : Id2) : ∀ l : List Id2, sumS S (l ++ [x]) = sumS S l + S x
  | [] => by show S x + 0 = 0 + S x; omega
  | y :: l => by show S y + sumS S (l ++ [x]) = S y + sumS S l + S x; rw [sumS_snoc S x l]; omega
theorem sumS_miss {S : Id2 → Nat} {p : Id2} {n : Nat} : ∀ {l : List Id2}, p ∉ l → sumS (setN S p n) l = sumS S l
  | [], _ => rfl
  | x :: l, h => by
    show setN S p n x + sumS (setN S p n) l = S x + sumS S l
    rw [setN_other n (fun e => h (by rw [e]; exact List.mem_cons_self)), sumS_miss (l := l) fun q => h (List.mem_cons_of_mem _ q)]
theorem sumS_hit {S : Id2 → Nat} {p : Id2} {d : Nat} : ∀ {l : List Id2}, l.Nodup → p ∈ l → sumS (setN S p (S p + d)) l = sumS S l + d
  | [], _, h => by cases h
  | x :: l, hn, h => by
    obtain ⟨h1, h2⟩ := List.nodup_cons.1 hn
    show setN S p (S p + d) x + sumS (setN S p (S p + d)) l = S x + sumS S l + d
    by_cases e : x = p
    · subst e
      rw [setN_same, sumS_miss h1]; omega
    · rw [setN_other _ e, sumS_hit (l := l) h2 (by rcases List.mem_cons.1 h with q | q; exact absurd q.symm e; exact q)]; omega
theorem sumS_le {S : Id2 → Nat} {x : Id2} : ∀ {l : List Id2}, x ∈ l → S x ≤ sumS S l
  | y :: l, h => by
    show S x ≤ S y + sumS S l
    rcases List.mem_cons.1 h with e | e
    · rw [e]; omega
    · have := sumS_le (S := S) (l := l) e; omega

/-! ### Blocks that may be, parted -/
theorem mem_names {l : List Bk} {x : Id2} : x ∈ namesB l ↔ ∃ (i : Nat) (hi : i < l.length), nameB l[i] = x := by
  unfold namesB
  rw [List.mem_map]
  constructor
  · rintro ⟨b, hb, e⟩
    obtain ⟨i, hi, rfl⟩ := List.getElem_of_mem hb
    exact ⟨i, hi, e⟩
  · rintro ⟨i, hi, e⟩
    exact ⟨l[i], List.getElem_mem hi, e⟩
section
variable {l r : List Bk} {b : Bk} (h : mayB (l ++ b :: r) = true)
include h
theorem part_pos : posB (l ++ b :: r) (nameB b) = some l.length := by
  have := may_pos h (i := l.length) (by simp)
  rwa [List.getElem_append_right (Nat.le_refl _), show (b :: r)[l.length - l.length]'(by simp) = b from by simp] at this
theorem part_mayL : mayB l = true := by
  have := mayB_take h l.length (by simp)
  rwa [List.take_left] at this
theorem part_maySnoc : mayB (l ++ [b]) = true := by
  have := mayB_take h (l.length + 1) (by simp)
  rwa [show l ++ b :: r = (l ++ [b]) ++ r from by simp, List.take_left' (by simp)] at this
theorem part_zero : nameB b ≠ zid := fun e => by
  have := part_pos h
  rw [e, may_zero h] at this
  cases this
theorem part_notL : nameB b ∉ namesB l := fun q => by
  obtain ⟨i, hi, e⟩ := mem_names.1 q
  have := may_pos h (i := i) (by simp; omega)
  rw [List.getElem_append_left hi, e, part_pos h] at this
  injection this with this
  omega
theorem part_right {i : Nat} (hi : i < r.length) : posB (l ++ b :: r) (nameB r[i]) = some (l.length + 1 + i) := by
  have := may_pos h (i := l.length + 1 + i) (by simp; omega)
  rwa [List.getElem_append_right (by omega), show (b :: r)[l.length + 1 + i - l.length]'(by simp; omega) = r[i] from by
    have : l.length + 1 + i - l.length = i + 1 := by omega
    simp [this]] at this
theorem part_notR : nameB b ∉ namesB r := fun q => by
  obtain ⟨i, hi, e⟩ := mem_names.1 q
  have := part_right h hi
  rw [e, part_pos h] at this
  injection this with this
  omega
theorem part_parent : b.p = zid ∨ b.p ∈ namesB l := by
  have := may_parent h (i := l.length) (by simp)
  rw [List.getElem_append_right (Nat.le_refl _), show (b :: r)[l.length - l.length]'(by simp) = b from by simp] at this
  rcases this with ⟨j, hj, q, _⟩ | ⟨q, _⟩
  · refine Or.inr (mem_names.2 ⟨j, hj, ?_⟩)
    have := posB_name q
    rwa [List.getElem_append_left hj] at this
  · exact Or.inl q
theorem part_own : b.p ≠ nameB b := fun e => by
  rcases part_parent h with q | q
  · exact part_zero h (by rw [← e, q])
  · rw [e] at q; exact part_notL h q
theorem part_parentR : b.p ∉ namesB r := fun q => by
  obtain ⟨i, hi, e⟩ := mem_names.1 q
  have k := part_right h hi
  rw [e] at k
  rcases part_parent h with q | q
  · rw [q, may_zero h] at k; cases k
  · obtain ⟨j, hj, e2⟩ := mem_names.1 q
    have := may_pos h (i := j) (by simp; omega)
    rw [List.getElem_append_left hj, e2, k] at this
    injection this with this
    omega
/-- No block ahead, nor this one, stands on this one. -/
theorem part_kidsL {c : Bk} (hc : c ∈ l ++ [b]) : c.p ≠ nameB b := fun e => by
  obtain ⟨i, hi, rfl⟩ := List.getElem_of_mem hc
  have hi' : i < l.length + 1 := by simpa using hi
  have hlt : i < (l ++ b :: r).length := by simp; omega
  have e0 : (l ++ b :: r)[i] = (l ++ [b])[i] := by
    have : l ++ b :: r = (l ++ [b]) ++ r := by simp
    simp only [this]
    exact List.getElem_append_left hi
  have := may_parent h hlt
  rw [e0, e, part_pos h] at this
  rcases this with ⟨j, hj, q, _⟩ | ⟨q, _⟩
  · injection q with q; omega
  · exact part_zero h q
theorem part_stands (x : Id2) : standsB (l ++ [b]) x = (standsB l x || decide (x = nameB b)) := by
  rw [Bool.eq_iff_iff, Bool.or_eq_true, decide_eq_true_iff]
  constructor
  · intro q
    rcases standsB_iff.1 q with ⟨i, e⟩ | e
    · have hi := posB_lt e
      have k := posB_name e
      by_cases hlt : i < l.length
      · left
        rw [List.getElem_append_left hlt] at k
        exact standsB_iff.2 (Or.inl ⟨i, by rw [← k]; exact may_pos (part_mayL h) hlt⟩)
      · right
        have : i = l.length := by simp at hi; omega
        subst this
        rw [List.getElem_append_right (Nat.le_refl _)] at k
        simpa using k.symm
    · exact Or.inl (standsB_iff.2 (Or.inr e))
  · rintro (q | e)
    · exact stands_more q
    · refine standsB_iff.2 (Or.inl ⟨l.length, ?_⟩)
      rw [e]
      have := may_pos (part_maySnoc h) (i := l.length) (by simp)
      rwa [List.getElem_append_right (Nat.le_refl _), show [b][l.length - l.length]'(by simp) = b from by simp] at this
theorem part_nodup : (zid :: namesB l).Nodup := by
  rw [List.nodup_cons]
  have hm := part_mayL h
  refine ⟨fun q => ?_, ?_⟩
  · obtain ⟨i, hi, e⟩ := mem_names.1 q
    have := may_pos hm hi
    rw [e, may_zero hm] at this
    cases this
  · rw [List.nodup_iff_pairwise_ne, List.pairwise_iff_getElem]
    intro i j hi hj hij e
    rw [namesB_length] at hi hj
    have e1 : (namesB l)[i]'(by rw [namesB_length]; exact hi) = nameB l[i] := by simp [namesB]
    have e2 : (namesB l)[j]'(by rw [namesB_length]; exact hj) = nameB l[j] := by simp [namesB]
    rw [e1, e2] at e
    have k1 := may_pos hm hi
    have k2 := may_pos hm hj
    rw [e, k2] at k1
    injection k1 with k1
    omega
end
theorem stands_mem {l : List Bk} (h : mayB l = true) {x : Id2} : standsB l x = true ↔ x = zid ∨ x ∈ namesB l := by
  rw [standsB_iff]
  constructor
  · rintro (⟨i, e⟩ | e)
    · exact Or.inr (mem_names.2 ⟨i, posB_lt e, posB_name e⟩)
    · exact Or.inl e
  · rintro (e | q)
    · exact Or.inr e
    · obtain ⟨i, hi, e⟩ := mem_names.1 q
      exact Or.inl ⟨i, by rw [← e]; exact may_pos h hi⟩

/-! ### How many stand on each -/
/-- The blocks of r have been gone through, from behind; those of l have not. -/
structure SizeI (l r : List Bk) (S : Id2 → Nat) : Prop where
  all : ∀ x, S x = (if x = zid ∨ x ∈ namesB r then 1 else 0) + kidS S x r
  le : ∀ x, S x ≤ r.length + 1
  sum : sumS S (zid :: namesB l) = r.length + 1
theorem sumS_zero {l : List Id2} (h : zid ∉ l) : sumS (fun x => if x = zid then 1 else 0) l = 0 := by
  induction l with
  | nil => rfl
  | cons x l ih =>
    show (if x = zid then 1 else 0) + sumS _ l = 0
    rw [ih fun q => h (List.mem_cons_of_mem _ q), if_neg fun e => h (by rw [e]; exact List.mem_cons_self)]
theorem SizeI.start {l : List Bk} (h : mayB l = true) : SizeI l [] (fun x => if x = zid then 1 else 0) := by
  refine ⟨fun x => ?_, fun x => ?_, ?_⟩
  · simp [kidS, namesB]
  · split <;> simp
  · show (if zid = zid then 1 else 0) + sumS _ (namesB l) = 0 + 1
    rw [if_pos rfl, sumS_zero]
    intro q
    obtain ⟨i, hi, e⟩ := mem_names.1 q
    have := may_pos h hi
    rw [e, may_zero h] at this
    cases this
def sizeStep (S : Id2 → Nat) (b : Bk) : Id2 → Nat :=
  let S1 := setN S (nameB b) (S (nameB b) + 1)
  setN S1 b.p (S1 b.p + S1 (nameB b))
theorem sizeStep_eq {l r : List Bk} {b : Bk} (h : mayB (l ++ b :: r) = true) (S : Id2 → Nat) (x : Id2) :
    sizeStep S b x = if x = b.p then S b.p + (S (nameB b) + 1) else if x = nameB b then S x + 1 else S x := by
  unfold sizeStep
  have ho := part_own h
  by_cases e : x = b.p
  · rw [if_pos e, e, setN_same, setN_other _ ho, setN_same]
  · rw [if_neg e, setN_other _ e]
    by_cases e2 : x = nameB b
    · rw [if_pos e2, e2, setN_same]
    · rw [if_neg e2, setN_other _ e2]
theorem sumS_congr {S T : Id2 → Nat} : ∀ {l : List Id2}, (∀ x ∈ l, S x = T x) → sumS S l = sumS T l
  | [], _ => rfl
  | x :: l, h => by
    show S x + sumS S l = T x + sumS T l
    rw [h x List.mem_cons_self, sumS_congr (l := l) fun y hy => h y (List.mem_cons_of_mem _ hy)]
theorem SizeI.step {l r : List Bk} {b : Bk} (h : mayB (l ++ b :: r) = true) {S : Id2 → Nat} (I : SizeI (l ++ [b]) r S) : SizeI l (b :: r) (sizeStep S b) := by
  have ho := part_own h
  have hz := part_zero h
  have hR := part_notR h
  have hL := part_notL h
  have hPR := part_parentR h
  have hP := part_parent h
  have hN := part_nodup h
  have E := sizeStep_eq h S
  have hk : ∀ x, kidS (sizeStep S b) x r = kidS S x r := fun x => kidS_congr fun c hc => by
    have hc' : nameB c ∈ namesB r := List.mem_map_of_mem hc
    rw [E, if_neg (fun e => hPR (by rw [← e]; exact hc')), if_neg (fun e => hR (by rw [← e]; exact hc'))]
  have hsum : sumS (sizeStep S b) (zid :: namesB l) = (b :: r).length + 1 := by
    have hpm : b.p ∈ zid :: namesB l := by
      rcases hP with e | e
      · rw [e]; exact List.mem_cons_self
      · exact List.mem_cons_of_mem _ e
    have hnm : ∀ x ∈ zid :: namesB l, x ≠ nameB b := fun x hx e => by
      rcases List.mem_cons.1 hx with q | q
      · exact hz (by rw [← e, q])
      · exact hL (by rw [← e]; exact q)
    have e1 : sumS (sizeStep S b) (zid :: namesB l) = sumS (setN S b.p (S b.p + (S (nameB b) + 1))) (zid :: namesB l) := sumS_congr fun x hx => by
      rw [E]
      by_cases e : x = b.p
      · rw [if_pos e, e, setN_same]
      · rw [if_neg e, setN_other _ e, if_neg (hnm x hx)]
    rw [e1, sumS_hit hN hpm]
    have e2 := I.sum
    rw [namesB_snoc, ← List.cons_append, sumS_snoc] at e2
    rw [List.length_cons]
    omega
  refine ⟨fun x => ?_, fun x => ?_, hsum⟩
  · have eN : sizeStep S b (nameB b) = S (nameB b) + 1 := by rw [E, if_neg (fun e => ho e.symm), if_pos rfl]
    rw [kidS_cons, hk, eN, E x]
    have ha := I.all x
    have hin : x ≠ nameB b → ((x = zid ∨ x ∈ namesB (b :: r)) ↔ (x = zid ∨ x ∈ namesB r)) := fun hne => by
      unfold namesB
      rw [List.map_cons, List.mem_cons]
      constructor
      · rintro (q | q | q)
        · exact Or.inl q
        · exact absurd q hne
        · exact Or.inr q
      · rintro (q | q)
        · exact Or.inl q
        · exact Or.inr (Or.inr q)
    by_cases e : x = b.p
    · have hne : x ≠ nameB b := fun q => ho (by rw [← e, q])
      simp only [hin hne]
      rw [if_pos e, if_pos e.symm, ← e]
      omega
    · rw [if_neg e, if_neg (fun q : b.p = x => e q.symm)]
      by_cases e2 : x = nameB b
      · have q1 : ¬ (x = zid ∨ x ∈ namesB r) := fun q => by rw [e2] at q; exact q.elim hz hR
        have q2 : x = zid ∨ x ∈ namesB (b :: r) := Or.inr (by rw [e2]; unfold namesB; exact List.mem_cons_self)
        rw [if_neg q1] at ha
        rw [if_pos e2, if_pos q2]
        omega
      · simp only [hin e2]
        rw [if_neg e2]
        omega
  · by_cases e : x = zid ∨ x ∈ namesB l
    · have := sumS_le (S := sizeStep S b) (x := x) (l := zid :: namesB l) (List.mem_cons.2 e)
      rw [hsum] at this
      exact this
    · have hxp : x ≠ b.p := fun q => e (by rw [q]; exact hP)
      have := I.le x
      rw [E, if_neg hxp, List.length_cons]
      split <;> omega
/-- S says, of each block of l and of the beginning, how many stand on it, itself as well. -/
def SizesB (l : List Bk) (S : Id2 → Nat) : Prop := (∀ x, standsB l x = true → S x = 1 + kidS S x l) ∧ ∀ x, S x ≤ l.length + 1
theorem SizeI.done {l : List Bk} (h : mayB l = true) {S : Id2 → Nat} (I : SizeI [] l S) : SizesB l S :=
  ⟨fun x hx => by rw [I.all x, if_pos ((stands_mem h).1 hx)], I.le⟩

/-! ### Numbers -/
/-- S with v at x. -/
def setO (g : Id2 → Option (Nat × Nat)) (x : Id2) (v : Nat × Nat) : Id2 → Option (Nat × Nat) := fun y => if y = x then some v else g y
theorem setO_same (g : Id2 → Option (Nat × Nat)) (x : Id2) (v : Nat × Nat) : setO g x v x = some v := if_pos rfl
theorem setO_other {g : Id2 → Option (Nat × Nat)} {x y : Id2} (v : Nat × Nat) (h : y ≠ x) : setO g x v y = g y := if_neg h
/-- The blocks of l have their numbers; those of r have none so far. -/
structure ReachI (l r : List Bk) (S F : Id2 → Nat) (g : Id2 → Option (Nat × Nat)) : Prop where
  knows : ∀ x, (g x).isSome = standsB l x
  room : ∀ x o h, g x = some (o, h) → o < F x ∧ F x + kidS S x r = h
  under : ∀ x y ox hx oy hy, g x = some (ox, hx) → g y = some (oy, hy) → x ≠ y → underC l x y = true → ox < oy ∧ hy ≤ F x
  apart : ∀ x y ox hx oy hy, g x = some (ox, hx) → g y = some (oy, hy) → underC l x y = false → underC l y x = false → hx ≤ oy ∨ hy ≤ ox
  top : g zid = some (0, S zid)
theorem under_nil {x y : Id2} (hx : standsB [] x = true) (hy : standsB [] y = true) : x = y := by
  rcases standsB_iff.1 hx with ⟨i, e⟩ | e
  · have := posB_lt e; simp at this
  · rcases standsB_iff.1 hy with ⟨i, e2⟩ | e2
    · have := posB_lt e2; simp at this
    · rw [e, e2]
theorem ReachI.start {l : List Bk} {S : Id2 → Nat} (hS : SizesB l S) : ReachI [] l S (setN (fun _ => 0) zid 1) (setO (fun _ => none) zid (0, S zid)) := by
  have hs : ∀ x, standsB [] x = decide (x = zid) := fun x => by
    unfold standsB
    rw [show posB [] x = none from rfl]
    rfl
  have hg : ∀ x o h, setO (fun _ => none) zid (0, S zid) x = some (o, h) → x = zid ∧ o = 0 ∧ h = S zid := fun x o h e => by
    by_cases q : x = zid
    · rw [q, setO_same] at e
      injection e with e
      injection e with e1 e2
      exact ⟨q, e1.symm, e2.symm⟩
    · rw [setO_other _ q] at e; cases e
  have hz : standsB l zid = true := standsB_iff.2 (Or.inr rfl)
  refine ⟨fun x => ?_, fun x o h e => ?_, fun x y ox hx oy hy e1 e2 hne _ => ?_, fun x y ox hx oy hy e1 e2 q _ => ?_, setO_same _ _ _⟩
  · rw [hs]
    by_cases q : x = zid
    · rw [q, setO_same]; rfl
    · rw [setO_other _ q, decide_eq_false q]; rfl
  · obtain ⟨rfl, rfl, rfl⟩ := hg _ _ _ e
    rw [setN_same]
    have := hS.1 _ hz
    omega
  · exact absurd ((hg _ _ _ e1).1.trans (hg _ _ _ e2).1.symm) hne
  · have h1 := (hg _ _ _ e1).1
    have h2 := (hg _ _ _ e2).1
    subst h1 h2
    have : underC [] zid zid = true := under_self (by rw [chainC_yes rfl (standsB_iff.2 (Or.inr rfl))]; exact List.length_pos_of_mem (chainB_self _ _))
    rw [this] at q; cases q
theorem under_snoc {l r : List Bk} {b : Bk} (h : mayB (l ++ b :: r) = true) {x : Id2} : underC (l ++ [b]) x (nameB b) = (decide (x = nameB b) || underC l x b.p) := by
  have hm := part_mayL h
  have hk := part_maySnoc h
  have hp : posB (l ++ [b]) (nameB b) = some l.length := by
    have := may_pos hk (i := l.length) (by simp)
    rwa [List.getElem_append_right (Nat.le_refl _), show [b][l.length - l.length]'(by simp) = b from by simp] at this
  have hsp : standsB l b.p = true := (stands_mem hm).2 (part_parent h)
  have hsn : standsB (l ++ [b]) (nameB b) = true := standsB_iff.2 (Or.inl ⟨_, hp⟩)
  have e : chainB (l ++ [b]) (nameB b) = nameB b :: chainB l b.p := by
    rw [chainB_some hk hp, ← chain_more hm hk _ rfl hsp]
    congr 2
    rw [List.getElem_append_right (Nat.le_refl _)]
    simp
  rw [Bool.eq_iff_iff, Bool.or_eq_true, decide_eq_true_iff, underC_true, underC_true, chainC_yes hk hsn, chainC_yes hm hsp, e, List.mem_cons]
theorem chain_pos {l : List Bk} (h : mayB l = true) {x : Id2} (hs : standsB l x = true) : 0 < (chainC l x).length := by
  rw [chainC_yes h hs]; exact List.length_pos_of_mem (chainB_self _ _)
theorem under_known {l : List Bk} {x y : Id2} (h : underC l x y = true) : standsB l x = true ∧ standsB l y = true := by
  rw [underC_true] at h
  obtain ⟨m, s, k⟩ := mem_chainC h
  exact ⟨(chain_suffix m _ rfl s k).1, s⟩
theorem ReachI.step {l r : List Bk} {b : Bk} (h : mayB (l ++ b :: r) = true) {S F : Id2 → Nat} {g : Id2 → Option (Nat × Nat)} (hS : SizesB (l ++ b :: r) S) (I : ReachI l (b :: r) S F g) :
    ReachI (l ++ [b]) r S (setN (setN F (nameB b) (F b.p + 1)) b.p (F b.p + S (nameB b))) (setO g (nameB b) (F b.p, F b.p + S (nameB b))) := by
  have ho := part_own h
  have hz := part_zero h
  have hL := part_notL h
  have hm := part_mayL h
  have hk := part_maySnoc h
  have hsp : standsB l b.p = true := (stands_mem hm).2 (part_parent h)
  have hsn : standsB l (nameB b) = false := by
    rw [Bool.eq_false_iff]
    exact fun q => ((stands_mem hm).1 q).elim hz hL
  have hn : S (nameB b) = 1 + kidS S (nameB b) r := by
    have hst : standsB (l ++ b :: r) (nameB b) = true := standsB_iff.2 (Or.inl ⟨_, part_pos h⟩)
    rw [hS.1 _ hst, show l ++ b :: r = (l ++ [b]) ++ r from by simp, kidS_append, kidS_none fun c hc => part_kidsL h hc]
    omega
  obtain ⟨op, hp, hgp⟩ : ∃ o q, g b.p = some (o, q) := by
    have := I.knows b.p
    rw [hsp] at this
    obtain ⟨v, e⟩ := Option.isSome_iff_exists.1 this
    exact ⟨v.1, v.2, e⟩
  have hroom := I.room _ _ _ hgp
  rw [kidS_cons, if_pos rfl] at hroom
  have hF : ∀ x, x ≠ b.p → x ≠ nameB b → setN (setN F (nameB b) (F b.p + 1)) b.p (F b.p + S (nameB b)) x = F x := fun x h1 h2 => by rw [setN_other _ h1, setN_other _ h2]
  have hFp : setN (setN F (nameB b) (F b.p + 1)) b.p (F b.p + S (nameB b)) b.p = F b.p + S (nameB b) := setN_same _ _ _
  have hFn : setN (setN F (nameB b) (F b.p + 1)) b.p (F b.p + S (nameB b)) (nameB b) = F b.p + 1 := by rw [setN_other _ (fun e => ho e.symm), setN_same]
  have hFle : ∀ x, x ≠ nameB b → F x ≤ setN (setN F (nameB b) (F b.p + 1)) b.p (F b.p + S (nameB b)) x := fun x h2 => by
    by_cases e : x = b.p
    · rw [e, hFp]; omega
    · rw [hF x e h2]; omega
  generalize setN (setN F (nameB b) (F b.p + 1)) b.p (F b.p + S (nameB b)) = F' at *
  have hold : ∀ {x o q}, x ≠ nameB b → setO g (nameB b) (F b.p, F b.p + S (nameB b)) x = some (o, q) → g x = some (o, q) := fun hx e => by rwa [setO_other _ hx] at e
  have hst : ∀ {x o q}, g x = some (o, q) → standsB l x = true := fun {x o q} e => by rw [← I.knows x, e]; rfl
  have hnew : ∀ {o q}, setO g (nameB b) (F b.p, F b.p + S (nameB b)) (nameB b) = some (o, q) → o = F b.p ∧ q = F b.p + S (nameB b) := fun e => by
    rw [setO_same] at e
    injection e with e
    injection e with e1 e2
    exact ⟨e1.symm, e2.symm⟩
  have hun : ∀ {x y o q}, g y = some (o, q) → underC (l ++ [b]) x y = underC l x y := fun e => under_more hk (chain_pos hm (hst e))
  have hself : underC l b.p b.p = true := under_self (chain_pos hm hsp)
  -- what is under what stands on b's parent, as for b
  have hup : ∀ {x o q}, g x = some (o, q) → underC l x b.p = true → o < F b.p ∧ F b.p + S (nameB b) ≤ F' x := fun {x o q} e hu => by
    have hxn : x ≠ nameB b := fun e2 => by have := hst e; rw [e2, hsn] at this; cases this
    by_cases e2 : x = b.p
    · subst e2
      rw [hgp] at e
      injection e with e
      injection e with e1 e3
      rw [hFp]
      omega
    · have k := I.under _ _ _ _ _ _ e hgp e2 hu
      have k2 := hFle x hxn
      omega
  have hap : ∀ {x o q}, g x = some (o, q) → underC l x b.p = false → q ≤ F b.p ∨ F b.p + S (nameB b) ≤ o := fun {x o q} e hu => by
    cases hv : underC l b.p x with
    | true =>
      have hne : b.p ≠ x := fun e2 => by rw [← e2, hself] at hu; cases hu
      have := I.under _ _ _ _ _ _ hgp e hne hv
      omega
    | false =>
      have := I.apart _ _ _ _ _ _ e hgp hu hv
      omega
  refine ⟨fun x => ?_, fun x o q e => ?_, fun x y ox hx oy hy e1 e2 hne hu => ?_, fun x y ox hx oy hy e1 e2 hu hv => ?_, ?_⟩
  · rw [part_stands h]
    by_cases e : x = nameB b
    · rw [e, setO_same, decide_eq_true rfl, Bool.or_true]; rfl
    · rw [setO_other _ e, decide_eq_false e, Bool.or_false]; exact I.knows x
  · by_cases ex : x = nameB b
    · subst ex
      obtain ⟨rfl, rfl⟩ := hnew e
      rw [hFn]; omega
    · have e' := hold ex e
      have k := I.room _ _ _ e'
      by_cases exp : x = b.p
      · subst exp
        rw [hgp] at e'
        injection e' with e'
        injection e' with e1 e3
        rw [hFp]
        omega
      · rw [kidS_cons, if_neg (fun q => exp q.symm)] at k
        rw [hF x exp ex]
        omega
  · by_cases ey : y = nameB b
    · subst ey
      obtain ⟨rfl, rfl⟩ := hnew e2
      rw [under_snoc h, decide_eq_false hne, Bool.false_or] at hu
      exact hup (hold hne e1) hu
    · have e2' := hold ey e2
      rw [hun e2'] at hu
      by_cases ex : x = nameB b
      · subst ex
        have := (under_known hu).1
        rw [hsn] at this; cases this
      · have k := I.under _ _ _ _ _ _ (hold ex e1) e2' hne hu
        have := hFle x ex
        omega
  · by_cases ey : y = nameB b
    · subst ey
      obtain ⟨rfl, rfl⟩ := hnew e2
      rw [under_snoc h, Bool.or_eq_false_iff] at hu
      have hxn : x ≠ nameB b := of_decide_eq_false hu.1
      exact hap (hold hxn e1) hu.2
    · have e2' := hold ey e2
      by_cases ex : x = nameB b
      · subst ex
        obtain ⟨rfl, rfl⟩ := hnew e1
        rw [under_snoc h, Bool.or_eq_false_iff] at hv
        rcases hap e2' hv.2 with k | k
        · exact Or.inr k
        · exact Or.inl k
      · have e1' := hold ex e1
        rw [hun e2'] at hu
        rw [hun e1'] at hv
        exact I.apart _ _ _ _ _ _ e1' e2' hu hv
  · rw [setO_other _ (fun e => hz e.symm)]; exact I.top
/-- g tells the numbers of the beginning and of all blocks. -/
def ReachB (l : List Bk) (g : Id2 → Option (Nat × Nat)) : Prop := (∀ x, (g x).isSome = standsB l x) ∧ (∀ x o h, g x = some (o, h) → o < h ∧ h ≤ l.length + 1) ∧
  ∀ x y ox hx oy hy, g x = some (ox, hx) → g y = some (oy, hy) → (underC l x y = true ↔ ox ≤ oy ∧ oy < hx)
theorem ReachI.done {l : List Bk} (h : mayB l = true) {S F : Id2 → Nat} {g : Id2 → Option (Nat × Nat)} (hS : SizesB l S) (I : ReachI l [] S F g) : ReachB l g := by
  have hst : ∀ {x o q}, g x = some (o, q) → standsB l x = true := fun {x o q} e => by rw [← I.knows x, e]; rfl
  have hr : ∀ {x o q}, g x = some (o, q) → o < q := fun e => by
    have := I.room _ _ _ e
    simp only [kidS] at this
    omega
  refine ⟨I.knows, fun x o q e => ⟨hr e, ?_⟩, fun x y ox hx oy hy e1 e2 => ⟨fun hu => ?_, fun hb => ?_⟩⟩
  · have hz := hS.2 zid
    by_cases ez : zid = x
    · subst ez
      rw [I.top] at e
      injection e with e
      injection e with e1 e2
      omega
    · have k := I.under _ _ _ _ _ _ I.top e ez (under_zero (chain_pos h (hst e)))
      have k2 := I.room _ _ _ I.top
      simp only [kidS] at k2
      omega
  · by_cases e : x = y
    · subst e
      rw [e1] at e2
      injection e2 with e2
      injection e2 with e3 e4
      have := hr e1
      omega
    · have k := I.under _ _ _ _ _ _ e1 e2 e hu
      have k1 := I.room _ _ _ e1
      have k2 := hr e2
      simp only [kidS] at k1
      omega
  · cases hu : underC l x y with
    | true => rfl
    | false =>
      exfalso
      have k1 := hr e1
      have k2 := hr e2
      cases hv : underC l y x with
      | true =>
        have hne : y ≠ x := fun e => by
          subst e
          rw [hu] at hv; cases hv
        have := I.under _ _ _ _ _ _ e2 e1 hne hv
        omega
      | false =>
        have := I.apart _ _ _ _ _ _ e1 e2 hu hv
        omega
/-- What the program asks. -/
def underR (g : Id2 → Option (Nat × Nat)) (x y : Id2) : Bool := (g y).isSome && (decide (((g x).getD (0, 0)).1 ≤ ((g y).getD (0, 0)).1) && decide (((g y).getD (0, 0)).1 < ((g x).getD (0, 0)).2))
theorem ReachB.under {l : List Bk} {g : Id2 → Option (Nat × Nat)} (h : ReachB l g) (hm : mayB l = true) (x y : Id2) : underR g x y = underC l x y := by
  unfold underR
  cases ey : g y with
  | none =>
    have : standsB l y = false := by rw [← h.1 y, ey]; rfl
    rw [Option.isSome_none, Bool.false_and, Eq.comm, Bool.eq_false_iff]
    intro q
    rw [(under_known q).2] at this
    cases this
  | some v =>
    rw [Option.isSome_some, Bool.true_and, Option.getD_some]
    cases ex : g x with
    | none =>
      have : standsB l x = false := by rw [← h.1 x, ex]; rfl
      have k : underC l x y = false := by
        rw [Bool.eq_false_iff]
        intro q
        rw [(under_known q).1] at this
        cases this
      rw [k, Option.getD_none]
      simp
    | some u =>
      rw [Option.getD_some, Bool.eq_iff_iff, Bool.and_eq_true, decide_eq_true_iff, decide_eq_true_iff]
      exact (h.2.2 x y u.1 u.2 v.1 v.2 ex ey).symm

end Go.Proofs.Ythaofomhlmajbaa
