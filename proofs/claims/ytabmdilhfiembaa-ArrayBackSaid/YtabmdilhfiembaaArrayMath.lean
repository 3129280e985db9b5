/-
  Plain mathematics of package array: items, the array that may be of the same IDs, Parents and Owns, and its top.
-/
import Derived.Test.YtabmdilhfiembaaTreeG
namespace Go.Proofs.Ytabmdilhfiembaa
set_option maxRecDepth 100000
set_option linter.unusedVariables false
set_option linter.unusedSimpArgs false
set_option linter.unusedVariables false

structure It where
  x : Nat × Nat
  p : Int
  o : Int
  w : Int
  b : Int
  h : Int
theorem It.same {s t : It} (h1 : s.x = t.x) (h2 : s.p = t.p) (h3 : s.o = t.o) (h4 : s.w = t.w) (h5 : s.b = t.b) (h6 : s.h = t.h) : s = t := by
  cases s; cases t; simp only at *; subst h1 h2 h3 h4 h5 h6; rfl
def it0 : It := ⟨(0, 0), 0, 0, 0, 0, 0⟩
def itA (a : List It) (k : Nat) : It := a[k]?.getD it0
theorem itA_get {a : List It} {k : Nat} (h : k < a.length) : itA a k = a[k] := by unfold itA; rw [List.getElem?_eq_getElem h]; rfl
theorem itA_out {a : List It} {k : Nat} (h : a.length ≤ k) : itA a k = it0 := by unfold itA; rw [List.getElem?_eq_none h]; rfl
theorem it_ext {a b : List It} (hl : a.length = b.length) (h : ∀ k, k < a.length → itA a k = itA b k) : a = b := by
  refine List.ext_getElem hl fun k h1 h2 => ?_
  rw [← itA_get h1, ← itA_get h2]; exact h k h1

/-- The children of place j (-1: what stands on the beginning), of the first n. -/
def kidsTo (a : List It) (j : Int) (n : Nat) : List Nat := (List.range n).filter fun k => decide (j < (k : Int) ∧ (itA a k).p = j)
def kidsI (a : List It) (j : Int) : List Nat := kidsTo a j a.length
theorem kidsTo_hit {a : List It} {j : Int} {k : Nat} (h : j < (k : Int) ∧ (itA a k).p = j) : kidsTo a j (k + 1) = kidsTo a j k ++ [k] := by
  unfold kidsTo; rw [List.range_succ, List.filter_append]; simp [h]
theorem kidsTo_miss {a : List It} {j : Int} {k : Nat} (h : ¬ (j < (k : Int) ∧ (itA a k).p = j)) : kidsTo a j (k + 1) = kidsTo a j k := by
  unfold kidsTo
  rw [List.range_succ, List.filter_append, List.filter_cons_of_neg (by simpa using h)]
  simp
theorem kidsTo_low {a : List It} {j : Int} : ∀ {n : Nat}, (n : Int) ≤ j + 1 → kidsTo a j n = []
  | 0, _ => rfl
  | n + 1, h => by rw [kidsTo_miss (by omega)]; exact kidsTo_low (by omega)
theorem mem_kidsTo {a : List It} {j : Int} {n k : Nat} : k ∈ kidsTo a j n ↔ k < n ∧ j < (k : Int) ∧ (itA a k).p = j := by
  unfold kidsTo; rw [List.mem_filter, List.mem_range, decide_eq_true_iff]
theorem mem_kidsI {a : List It} {j : Int} {k : Nat} : k ∈ kidsI a j ↔ k < a.length ∧ j < (k : Int) ∧ (itA a k).p = j := mem_kidsTo
theorem kidsI_nil {a : List It} {j : Int} (h : (a.length : Int) ≤ j + 1) : kidsI a j = [] := kidsTo_low h
theorem kidsTo_nodup (a : List It) (j : Int) (n : Nat) : (kidsTo a j n).Nodup := List.nodup_range.sublist List.filter_sublist
theorem kidsTo_congr {a b : List It} (h : ∀ k, (itA a k).p = (itA b k).p) (j : Int) (n : Nat) : kidsTo a j n = kidsTo b j n := by
  unfold kidsTo; congr 1; funext k; rw [h]

/-- How much is on place i and below it. -/
def wF (a : List It) : Nat → Nat → Int
  | 0, i => (itA a i).o
  | m + 1, i => (itA a i).o + ((kidsI a i).map (wF a m)).sum
def wC (a : List It) (i : Nat) : Int := wF a a.length i
theorem map_sum_congr {α : Type} {f g : α → Int} : ∀ {l : List α}, (∀ k ∈ l, f k = g k) → (l.map f).sum = (l.map g).sum
  | [], _ => rfl
  | x :: l, h => by
    simp only [List.map_cons, List.sum_cons]
    rw [h x (by simp), map_sum_congr (l := l) fun k hk => h k (by simp [hk])]
theorem wF_eq (a : List It) : ∀ (m m' i : Nat), a.length ≤ m + i → a.length ≤ m' + i → wF a m i = wF a m' i
  | 0, 0, _, _, _ => rfl
  | 0, m' + 1, i, h, _ => by unfold wF; rw [kidsI_nil (by omega)]; simp
  | m + 1, 0, i, _, h => by unfold wF; rw [kidsI_nil (by omega)]; simp
  | m + 1, m' + 1, i, h, h' => by
    unfold wF
    rw [map_sum_congr fun k hk => wF_eq a m m' k (by have := mem_kidsI.1 hk; omega) (by have := mem_kidsI.1 hk; omega)]
theorem wC_eq (a : List It) (i : Nat) : wC a i = (itA a i).o + ((kidsI a i).map (wC a)).sum := by
  unfold wC
  rw [wF_eq a a.length (a.length + 1) i (by omega) (by omega)]
  rfl

/-- More, or as much and a greater ID. -/
def moreI (n m : Int) (x y : Nat × Nat) : Bool := decide (m < n) || (decide (n = m) && lessN y x)
theorem moreI_iff {n m : Int} {x y : Nat × Nat} : moreI n m x y = true ↔ m < n ∨ (n = m ∧ (y.1 < x.1 ∨ (y.1 = x.1 ∧ y.2 < x.2))) := by
  unfold moreI lessN
  rw [Bool.or_eq_true, Bool.and_eq_true, decide_eq_true_iff, decide_eq_true_iff, decide_eq_true_iff]
theorem moreI_no {n m : Int} {x y : Nat × Nat} : moreI n m x y = false ↔ ¬ (m < n ∨ (n = m ∧ (y.1 < x.1 ∨ (y.1 = x.1 ∧ y.2 < x.2)))) := by
  rw [← moreI_iff, Bool.not_eq_true]
/-- The best one of some places, gathered in order. -/
def bestX (g : Nat → Int) (f : Nat → Nat × Nat) : List Nat → Option Nat :=
  List.foldl (fun b k => match b with | none => some k | some y => if moreI (g k) (g y) (f k) (f y) then some k else some y) none
theorem bestX_nil (g : Nat → Int) (f : Nat → Nat × Nat) : bestX g f [] = none := rfl
theorem bestX_snoc (g : Nat → Int) (f : Nat → Nat × Nat) (q : List Nat) (k : Nat) : bestX g f (q ++ [k]) = match bestX g f q with | none => some k | some y => if moreI (g k) (g y) (f k) (f y) then some k else some y := by simp [bestX]
theorem bestX_first {g : Nat → Int} {f : Nat → Nat × Nat} {q : List Nat} {k : Nat} (h : bestX g f q = none) : bestX g f (q ++ [k]) = some k := by rw [bestX_snoc, h]
theorem bestX_hit {g : Nat → Int} {f : Nat → Nat × Nat} {q : List Nat} {k y : Nat} (h : bestX g f q = some y) (m : moreI (g k) (g y) (f k) (f y) = true) : bestX g f (q ++ [k]) = some k := by rw [bestX_snoc, h]; simp [m]
theorem bestX_miss {g : Nat → Int} {f : Nat → Nat × Nat} {q : List Nat} {k y : Nat} (h : bestX g f q = some y) (m : moreI (g k) (g y) (f k) (f y) = false) : bestX g f (q ++ [k]) = some y := by rw [bestX_snoc, h]; simp [m]
/-- y is there, and none is more. -/
def TopOf (g : Nat → Int) (f : Nat → Nat × Nat) (q : List Nat) (y : Nat) : Prop := y ∈ q ∧ ∀ z ∈ q, moreI (g z) (g y) (f z) (f y) = false
theorem bestX_top {g : Nat → Int} {f : Nat → Nat × Nat} : ∀ (n : Nat) (q : List Nat), q.length = n → (bestX g f q = none ∧ q = []) ∨ ∃ y, bestX g f q = some y ∧ TopOf g f q y
  | 0, q, hq => by rw [List.eq_nil_of_length_eq_zero hq]; exact Or.inl ⟨rfl, rfl⟩
  | n + 1, q, hq => by
    right
    obtain ⟨r, k, rfl⟩ : ∃ r k, q = r ++ [k] := ⟨q.dropLast, q.getLast (by intro e; rw [e] at hq; cases hq), (List.dropLast_concat_getLast _).symm⟩
    rw [List.length_append] at hq
    have hself : ∀ k, moreI (g k) (g k) (f k) (f k) = false := fun k => moreI_no.2 (by omega)
    rcases bestX_top n r (by simpa using hq) with ⟨h, rfl⟩ | ⟨y, h, hm, hb⟩
    · exact ⟨k, bestX_first h, by simp, fun z hz => by rw [show z = k by simpa using hz]; exact hself k⟩
    · cases b : moreI (g k) (g y) (f k) (f y) with
      | true =>
        refine ⟨k, bestX_hit h b, by simp, fun z hz => ?_⟩
        rcases List.mem_append.1 hz with hz | hz
        · have e := hb z hz
          rw [moreI_no] at e ⊢
          rw [moreI_iff] at b
          omega
        · rw [show z = k by simpa using hz]; exact hself k
      | false =>
        refine ⟨y, bestX_miss h b, List.mem_append_left _ hm, fun z hz => ?_⟩
        rcases List.mem_append.1 hz with hz | hz
        · exact hb z hz
        · rw [show z = k by simpa using hz]; exact b
theorem bestX_none {g : Nat → Int} {f : Nat → Nat × Nat} {q : List Nat} (h : bestX g f q = none) : q = [] := by
  rcases bestX_top (g := g) (f := f) _ q rfl with ⟨_, e⟩ | ⟨z, e, _⟩
  · exact e
  · rw [e] at h; cases h
theorem bestX_some {g : Nat → Int} {f : Nat → Nat × Nat} {q : List Nat} {y : Nat} (h : bestX g f q = some y) : TopOf g f q y := by
  rcases bestX_top (g := g) (f := f) _ q rfl with ⟨e, _⟩ | ⟨z, e, hz⟩
  · rw [e] at h; cases h
  · rw [e] at h; injection h with h; rw [← h]; exact hz
/-- .. where no two have one ID. -/
theorem TopOf.one {g : Nat → Int} {f : Nat → Nat × Nat} {q : List Nat} {x y : Nat} (hf : ∀ a ∈ q, ∀ b ∈ q, f a = f b → a = b) (h : TopOf g f q x) (k : TopOf g f q y) : x = y := by
  refine hf x h.1 y k.1 ?_
  have h1 := h.2 y k.1
  have h2 := k.2 x h.1
  rw [moreI_no] at h1 h2
  exact Prod.ext (by omega) (by omega)
theorem bestX_of {g : Nat → Int} {f : Nat → Nat × Nat} {q : List Nat} {y : Nat} (hf : ∀ a ∈ q, ∀ b ∈ q, f a = f b → a = b) (h : TopOf g f q y) : bestX g f q = some y := by
  rcases bestX_top (g := g) (f := f) _ q rfl with ⟨_, rfl⟩ | ⟨z, e, hz⟩
  · cases h.1
  · rw [e, h.one hf hz]
theorem bestX_congr {g g' : Nat → Int} {f f' : Nat → Nat × Nat} {q : List Nat} (hg : ∀ k ∈ q, g k = g' k) (hf : ∀ k ∈ q, f k = f' k) : bestX g f q = bestX g' f' q := by
  suffices H : ∀ n (q : List Nat), q.length = n → (∀ k ∈ q, g k = g' k) → (∀ k ∈ q, f k = f' k) → bestX g f q = bestX g' f' q from H _ q rfl hg hf
  intro n
  induction n with
  | zero => intro q hq _ _; rw [List.eq_nil_of_length_eq_zero hq]; rfl
  | succ n ih =>
    intro q hq hg hf
    obtain ⟨r, k, rfl⟩ : ∃ r k, q = r ++ [k] := ⟨q.dropLast, q.getLast (by intro e; rw [e] at hq; cases hq), (List.dropLast_concat_getLast _).symm⟩
    rw [List.length_append] at hq
    have e := ih r (by simpa using hq) (fun k hk => hg k (List.mem_append_left _ hk)) (fun k hk => hf k (List.mem_append_left _ hk))
    rw [bestX_snoc, bestX_snoc, e]
    cases q : bestX g' f' r with
    | none => rfl
    | some y =>
      have hy := (bestX_some q).1
      simp only
      rw [hg k (by simp), hf k (by simp), hg y (List.mem_append_left _ hy), hf y (List.mem_append_left _ hy)]

def bC (a : List It) (j : Int) : Option Nat := bestX (wC a) (fun k => (itA a k).x) (kidsI a j)
theorem bC_mem {a : List It} {j : Int} {k : Nat} (h : bC a j = some k) : k < a.length ∧ j < (k : Int) ∧ (itA a k).p = j := mem_kidsI.1 (bestX_some h).1
def hF (a : List It) : Nat → Nat → Nat
  | 0, i => i
  | m + 1, i => match bC a i with | none => i | some k => hF a m k
def hC (a : List It) (i : Nat) : Nat := hF a a.length i
theorem hF_eq (a : List It) : ∀ (m m' i : Nat), a.length ≤ m + i → a.length ≤ m' + i → hF a m i = hF a m' i
  | 0, 0, _, _, _ => rfl
  | 0, m' + 1, i, h, _ => by
    unfold hF
    cases q : bC a i with
    | none => rfl
    | some k => have := bC_mem q; omega
  | m + 1, 0, i, _, h => by
    unfold hF
    cases q : bC a i with
    | none => rfl
    | some k => have := bC_mem q; omega
  | m + 1, m' + 1, i, h, h' => by
    unfold hF
    cases q : bC a i with
    | none => rfl
    | some k =>
      have := bC_mem q
      exact hF_eq a m m' k (by omega) (by omega)
theorem hC_none {a : List It} {i : Nat} (h : bC a i = none) : hC a i = i := by
  unfold hC
  rw [hF_eq a a.length (a.length + 1) i (by omega) (by omega)]
  unfold hF
  rw [h]
theorem hC_some {a : List It} {i k : Nat} (h : bC a i = some k) : hC a i = hC a k := by
  unfold hC
  rw [hF_eq a a.length (a.length + 1) i (by omega) (by omega)]
  show (match bC a i with | none => i | some k => hF a a.length k) = _
  rw [h]
theorem hC_lt {a : List It} : ∀ (n i : Nat), a.length ≤ n + i → i < a.length → i ≤ hC a i ∧ hC a i < a.length ∧ bC a (hC a i) = none
  | n, i, hn, hi => by
    cases q : bC a i with
    | none => rw [hC_none q]; exact ⟨Nat.le_refl _, hi, q⟩
    | some k =>
      have hk := bC_mem q
      rw [hC_some q]
      match n, hn with
      | 0, hn => omega
      | n + 1, hn =>
        have := hC_lt n k (by omega) hk.1
        exact ⟨by omega, this.2⟩
def optI : Option Nat → Int
  | none => -1
  | some k => (k : Int)
/-- Place i, as it is in the array that may be. -/
def nodeC (a : List It) (i : Nat) : It := ⟨(itA a i).x, (itA a i).p, (itA a i).o, wC a i, optI (bC a i), (hC a i : Int)⟩
def anewC (a : List It) : List It := (List.range a.length).map (nodeC a)
theorem anewC_length (a : List It) : (anewC a).length = a.length := by simp [anewC]
theorem anewC_at {a : List It} {i : Nat} (h : i < a.length) : itA (anewC a) i = nodeC a i := by
  rw [itA_get (by rw [anewC_length]; exact h)]; simp [anewC]
/-- Only IDs, Parents and Owns matter to it. -/
structure Alike (a b : List It) : Prop where
  len : a.length = b.length
  x : ∀ k, (itA a k).x = (itA b k).x
  p : ∀ k, (itA a k).p = (itA b k).p
  o : ∀ k, (itA a k).o = (itA b k).o
theorem Alike.kids {a b : List It} (h : Alike a b) (j : Int) : kidsI a j = kidsI b j := by unfold kidsI; rw [h.len]; exact kidsTo_congr h.p j _
theorem Alike.wF {a b : List It} (h : Alike a b) : ∀ (m i : Nat), wF a m i = wF b m i
  | 0, i => h.o i
  | m + 1, i => by
    unfold Go.Proofs.Ytabmdilhfiembaa.wF
    rw [h.o, h.kids, map_sum_congr fun k _ => h.wF m k]
theorem Alike.w {a b : List It} (h : Alike a b) (i : Nat) : wC a i = wC b i := by unfold wC; rw [h.len]; exact h.wF _ i
theorem Alike.best {a b : List It} (h : Alike a b) (j : Int) : bC a j = bC b j := by
  unfold bC; rw [h.kids]; exact bestX_congr (fun k _ => h.w k) (fun k _ => h.x k)
theorem Alike.hF {a b : List It} (h : Alike a b) : ∀ (m i : Nat), hF a m i = hF b m i
  | 0, _ => rfl
  | m + 1, i => by
    unfold Go.Proofs.Ytabmdilhfiembaa.hF
    rw [h.best]
    cases bC b i with
    | none => rfl
    | some k => exact h.hF m k
theorem Alike.head {a b : List It} (h : Alike a b) (i : Nat) : hC a i = hC b i := by unfold hC; rw [h.len]; exact h.hF _ i
theorem Alike.node {a b : List It} (h : Alike a b) (i : Nat) : nodeC a i = nodeC b i := by unfold nodeC; rw [h.x, h.p, h.o, h.w, h.best, h.head]
theorem Alike.anew {a b : List It} (h : Alike a b) : anewC a = anewC b := by
  refine it_ext (by rw [anewC_length, anewC_length, h.len]) fun k hk => ?_
  rw [anewC_length] at hk
  rw [anewC_at hk, anewC_at (h.len ▸ hk), h.node]
theorem anewC_alike (a : List It) : Alike (anewC a) a where
  len := anewC_length a
  x := fun k => by
    by_cases h : k < a.length
    · rw [anewC_at h]; rfl
    · rw [itA_out (by rw [anewC_length]; omega), itA_out (by omega)]
  p := fun k => by
    by_cases h : k < a.length
    · rw [anewC_at h]; rfl
    · rw [itA_out (by rw [anewC_length]; omega), itA_out (by omega)]
  o := fun k => by
    by_cases h : k < a.length
    · rw [anewC_at h]; rfl
    · rw [itA_out (by rw [anewC_length]; omega), itA_out (by omega)]
theorem anewC_twice (a : List It) : anewC (anewC a) = anewC a := (anewC_alike a).anew
theorem Alike.symm {a b : List It} (h : Alike a b) : Alike b a := ⟨h.len.symm, fun k => (h.x k).symm, fun k => (h.p k).symm, fun k => (h.o k).symm⟩
theorem Alike.trans {a b c : List It} (h : Alike a b) (k : Alike b c) : Alike a c := ⟨h.len.trans k.len, fun i => (h.x i).trans (k.x i), fun i => (h.p i).trans (k.p i), fun i => (h.o i).trans (k.o i)⟩

/-! ### Which array may be; its top; with one item more, and weight moved -/
/-- Where an ID is. -/
def idsI (a : List It) : List Id2 := a.map It.x
def rightI (a : List It) (i : Nat) : Prop := (itA a i).x ≠ zid ∧ (∀ j, j < i → (itA a j).x ≠ (itA a i).x) ∧ -1 ≤ (itA a i).p ∧ (itA a i).p < (i : Int) ∧ 0 ≤ (itA a i).o ∧ (itA a i).o ≤ 1125899906842624
def MayI (a : List It) : Prop := a.length ≤ 60 ∧ (∀ i, i < a.length → rightI a i) ∧ anewC a = a
open Classical in
noncomputable def mayI (a : List It) : Bool := decide (MayI a)
noncomputable def topC (a : List It) : Id2 := if mayI a then (match bC a (-1) with | none => zid | some k => (itA a (hC a k)).x) else zid
def putI (a : List It) (id : Id2) (p : Int) : List It := a ++ [⟨id, p, 0, 0, 0, 0⟩]
def ownI (a : List It) (i : Nat) (v : Int) : List It := a.set i { itA a i with o := v }

end Go.Proofs.Ytabmdilhfiembaa
