/-
  The contracts of package weigh's calls standingOn, voterFor (and its closure), gather, weights (and its closure), On and All.
  The contracts of package weigh's calls gather, weights (and its closure), On and All.
  Boxes of ids of one's own, that are written.
  A map of lists of ids of one's own, filled by append: block b holds, of each id x, the list f x, each in a row of its own.
  Plain mathematics of package ghost: the best one as it is gathered, one id behind the other.
  The contract of package mix's call Less.
  The contracts of package ghost's calls isBetter, bestOf and Best.
  The contract of package ghost's call allKids.
-/
import Derived.Maps.OwnSet
import Derived.WideKeyEntry
import Derived.Deep.RegionHeld3
import Derived.Test.YtacdiicnfoejoaaPlainG
import Derived.Test.YtacdiicnfoejoaaDutyG
import Derived.Test.YtacdiicnfoejoaaTreeG
import Derived.Test.YtacdiicnfoejoaaVoteG
import Derived.Test.YtacdiicnfoejoaaMixG
import Derived.Test.YtacdiicnfoejoaaGround
namespace Go.Proofs.Ytacdiicnfoejoaa
set_option maxRecDepth 100000
set_option linter.unusedVariables false
set_option linter.unusedSimpArgs false
section
open Go.ChangeShapes Go.WideShapes Go.ChangeAt Go.RowKit

/-! ### Sets of ids -/
/-- v is a set of ids: those of which p is so. -/
def SetI (p : Id2 → Bool) (v : Value) (w : World) : Prop :=
  (v = .map none ∧ ∀ y, WfI y → p y = false) ∨ ∃ b m D, v = .map (some b) ∧ w.ownsMap (H := Unit) Try.prog 39 unitElem b m D ∧ ∀ y, WfI y → Maps.has D (keyI y) = p y
theorem SetI.kept {p : Id2 → Bool} {v : Value} {w w' : World} (h : SetI p v w) (k : Kept w w') : SetI p v w' := by
  rcases h with h | ⟨b, m, D, e, ⟨es, clock, hb, r⟩, hh⟩
  · exact Or.inl h
  · exact Or.inr ⟨b, m, D, e, ⟨es, clock, (k.heap (Array.getElem?_eq_some_iff.1 hb).1).trans hb, r⟩, hh⟩
theorem set_kept {b m : Nat} {D : DataW Unit} {w w' : World} (h : w.ownsMap Try.prog 39 unitElem b m D) (k : Kept w w') : w'.ownsMap Try.prog 39 unitElem b m D := by
  obtain ⟨es, clock, hb, r⟩ := h
  exact ⟨es, clock, (k.heap (Array.getElem?_eq_some_iff.1 hb).1).trans hb, r⟩
theorem hasI_put {D : DataW Unit} (hD : Maps.IsMap D) {p : Id2 → Bool} (h : ∀ y, WfI y → Maps.has D (keyI y) = p y) {n : Id2} (hn : WfI n) (d : DataW Unit) (y : Id2) (hy : WfI y) :
    Maps.has (D.put (keyI n) d) (keyI y) = (p y || decide (y = n)) := by
  have hk : WideAt.IsKeyLit (keyI n) := Try.keyedID.key (key_of hn)
  by_cases e : y = n
  · subst e
    rw [Maps.has_put_same hD hk]
    simp
  · rw [Maps.has_put_other (fun q => e (keyI_inj hy hn q)), h y hy, decide_eq_false e]
    simp
/-- A literal's entry. -/
theorem wpList_insert_own {H : Type} {P : Program} (w : World) {ops : Array Oper} {rest : List Oper} {o : Oper} {a : Act} {Q : Exit → Act → World → Prop}
    (hg : o.guard = none) (m x v : Operand) (t : TypeId) (hop : o.op = Op.insert t m x v)
    (k e : TypeId) (K : Maps.Keyed P k) (ht : P.underlying t = some (.map k e)) (R : Value → Option (DataW H × List MemPlace)) (b n : Nat) (D : DataW H)
    (hm : a.eval m = .map (some b)) (hown : w.ownsMap P k R b n D) (hn : n < maxLen) (key val : Value) (kl : Lit) (hx : a.eval x = key) (hv : a.eval v = val) (hkey : keyOf P k key = some kl)
    (d : DataW H) (ps : List MemPlace) (hval : R val = some (d, ps))
    (hK : ∀ w', w'.ownsMap P k R b (n + 1) (D.put kl d) → w.grownBy w' (some b) → wpList P ops Q rest (a.put o.dst undef) w') :
    wpList P ops Q (o :: rest) a w := by
  refine wpList_plain hg fun K' hK' => ?_
  obtain ⟨w', hrun, r1, r2⟩ := hown.update K ht hn hkey hval
  unfold Oper.wp
  simp [execOp, hop, hm, hx, hv, hrun, Result.andThen]
  exact hK' _ _ (hK w' r1 r2)

/-! ### standingOn -/
theorem slotC_snd {l : List Bk} (x : Id2) : (slotC l x).2 = (mayB l && standsB l x) := by
  unfold slotC
  cases h : mayB l with
  | false => rfl
  | true =>
    have := slotB_isSome l x
    rw [if_pos rfl, ← this]
    cases slotB l x <;> rfl

/-! ### voterFor -/
end

section
open Go.ChangeShapes Go.WideShapes Go.ChangeAt Go.RowKit

theorem Ints.slice {W w : World} {l : List Int} {v : Value} (h : Ints W l v w) : ∃ A c, v = .slice A l.length c := row_slice h.1
theorem take_vote {L : List Vt} {k : Nat} (hk : k < L.length) : L.take (k + 1) = L.take k ++ [L[k]] := List.take_succ_eq_append_getElem hk
theorem who_hit {l : List Bk} {v : List Vt} {x : Id2} {k : Nat} (hk : k < v.length) (h : underC l x v[k].p = true) : whoC l (v.take (k + 1)) x = whoC l (v.take k) x ++ [v[k].f] := by rw [take_vote hk, whoC_hit _ h]
theorem who_miss {l : List Bk} {v : List Vt} {x : Id2} {k : Nat} (hk : k < v.length) (h : underC l x v[k].p = false) : whoC l (v.take (k + 1)) x = whoC l (v.take k) x := by rw [take_vote hk, whoC_miss _ h]
theorem who_le (l : List Bk) (v : List Vt) (x : Id2) (k : Nat) : (whoC l (v.take k) x).length ≤ k := by
  have := whoC_length l (v.take k) x
  rw [List.length_take] at this
  omega

/-! ### weights -/
/-! ### On and All -/
end

section
set_option linter.unusedSimpArgs false
set_option linter.unusedVariables false
open Go.ChangeShapes Go.WideShapes Go.ChangeAt Go.RowKit

/-- Block z is a box that holds id x. -/
def AtI (w : World) (z : Nat) (x : Id2) : Prop := w.heap[z]? = some (.cells #[.int .u64 x.1, .int .u64 x.2] 39 (0, 0))
theorem AtI.lt {w : World} {z : Nat} {x : Id2} (h : AtI w z x) : z < w.heap.size := (Array.getElem?_eq_some_iff.1 h).1
theorem AtI.c0 {w : World} {z : Nat} {x : Id2} (h : AtI w z x) : w.cell? ⟨z, 0, none⟩ = some (.int .u64 x.1) := by rw [cell_of_row w z 0 _ _ _ h]; rfl
theorem AtI.c1 {w : World} {z : Nat} {x : Id2} (h : AtI w z x) : w.cell? ⟨z, 1, none⟩ = some (.int .u64 x.2) := by rw [cell_of_row w z 1 _ _ _ h]; rfl
theorem AtI.fr {w : World} {z : Nat} {x : Id2} (h : AtI w z x) (j : Nat) : w.frozen? ⟨z, j, none⟩ = false := frozen_of_row w z j _ _ h
theorem AtI.new (w : World) (x : Id2) (z : Nat) (hz : z = w.heap.size) : AtI (w.alloc (.cells #[.int .u64 x.1, .int .u64 x.2] 39)) z x := by subst hz; exact heap_alloc_new w _
theorem AtI.alloc {w : World} {z : Nat} {x : Id2} (h : AtI w z x) (o : Obj) : AtI (w.alloc o) z x := by
  have := h.lt
  unfold AtI
  rw [← h]
  exact ((Kept.refl w).alloc o).heap this
theorem AtI.kept {w w' : World} {z : Nat} {x : Id2} (h : AtI w z x) (k : Kept w w') : AtI w' z x := (k.heap h.lt).trans h
theorem AtI.other {w : World} {z : Nat} {x : Id2} (h : AtI w z x) {p : Addr} (hp : p.block ≠ z) (u : Value) : AtI (w.setCell p u) z x := by
  unfold AtI
  rw [heap_setCell_other w p z u (fun e => hp e.symm)]
  exact h
theorem AtI.set2 {w : World} {z : Nat} {x y : Id2} (h : AtI w z x) : AtI ((w.setCell ⟨z, 0, none⟩ (.int .u64 y.1)).setCell ⟨z, 1, none⟩ (.int .u64 y.2)) z y := by
  have h1 := heap_setCell_same w z 0 _ _ (.int .u64 y.1) h
  have h2 := heap_setCell_same _ z 1 _ _ (.int .u64 y.2) h1
  exact h2
theorem kids_len (l : List Bk) (x : Id2) : (kidsC l x).length ≤ l.length := by
  unfold kidsC
  cases mayB l with
  | false => exact Nat.zero_le _
  | true => exact kidsB_le l x
theorem bestI_one {g : Id2 → Int} {q : List Id2} (h : 0 < q.length) : bestTo g (q.take 1) = some q[0] := by
  rcases q with _ | ⟨x, r⟩
  · simp at h
  · rfl
theorem bestI_hit {g : Id2 → Int} {q : List Id2} {m : Nat} (hm : m < q.length) {y : Id2} (h : bestTo g (q.take m) = some y) (b : beats g y q[m] = true) : bestTo g (q.take (m + 1)) = some q[m] := by
  rw [List.take_succ_eq_append_getElem hm]; exact bestTo_hit h b
theorem bestI_miss {g : Id2 → Int} {q : List Id2} {m : Nat} (hm : m < q.length) {y : Id2} (h : bestTo g (q.take m) = some y) (b : beats g y q[m] = false) : bestTo g (q.take (m + 1)) = some y := by
  rw [List.take_succ_eq_append_getElem hm]; exact bestTo_miss h b
theorem beats_more {g : Id2 → Int} {x y : Id2} (h : g x < g y) : beats g x y = true := beats_iff.2 (Or.inl h)
theorem beats_even {g : Id2 → Int} {x y : Id2} {b : Bool} (h : g y = g x) (hl : lessN x y = b) : beats g x y = b := by
  unfold beats
  rw [decide_eq_false (by omega), decide_eq_true h.symm, hl]
  simp
theorem beats_never {g : Id2 → Int} {x y : Id2} (h1 : ¬ g x < g y) (h2 : ¬ g y = g x) : beats g x y = false := beats_no.2 (by omega)
end

section
set_option linter.unusedSimpArgs false
set_option linter.unusedVariables false
open Go.ChangeShapes Go.WideShapes Go.ChangeAt Go.RowKit

/-- A slice's own words, as what a map holds: no two slices have the same. -/
def sliceD : Value → Option (DataW Unit × List MemPlace)
  | .slice none 0 0 => some (.nil, [])
  | .slice (some ⟨g, 0, none⟩) n c => some (.slice [.lit (.int .i64 g), .lit (.int .i64 n), .lit (.int .i64 c)] [], [])
  | _ => none
theorem sliceD_nil : sliceD (.slice none 0 0) = some (.nil, []) := rfl
theorem sliceD_some (g n c : Nat) : sliceD (.slice (some ⟨g, 0, none⟩) n c) = some (.slice [.lit (.int .i64 g), .lit (.int .i64 n), .lit (.int .i64 c)] [], []) := rfl
theorem sliceD_own {w : World} {B : Nat} {e : TypeId} {s n : Nat} {v : Value} {xs : List Value} (h : w.ownsRow B e s v n xs) : (v = .slice none 0 0) ∨ ∃ g c, v = .slice (some ⟨g, 0, none⟩) n c := by
  rcases h.2 with ⟨rfl, _⟩ | ⟨g, cap, cur, rfl, _⟩
  · exact Or.inl rfl
  · exact Or.inr ⟨g, cap, rfl⟩
theorem sliceD_inj {u : Value} {d : DataW Unit} {ps : List MemPlace} (hu : sliceD u = some (d, ps)) : ∀ {v : Value}, (v = .slice none 0 0 ∨ ∃ g n c, v = .slice (some ⟨g, 0, none⟩) n c) → sliceD v = some (d, []) → u = v := by
  intro v hv k
  unfold sliceD at hu
  split at hu
  · cases hu
    rcases hv with rfl | ⟨g, n, c, rfl⟩
    · rfl
    · rw [sliceD_some] at k; cases k
  · cases hu
    rcases hv with rfl | ⟨g, n, c, rfl⟩
    · rw [sliceD_nil] at k; cases k
    · rw [sliceD_some] at k
      simp only [Option.some.injEq, Prod.mk.injEq, DataW.slice.injEq, List.cons.injEq, DataW.lit.injEq, Lit.int.injEq, true_and, and_true] at k
      obtain ⟨h1, h2, h3⟩ := k
      have e1 : g = _ := Int.ofNat.inj h1
      have e2 : n = _ := Int.ofNat.inj h2
      have e3 : c = _ := Int.ofNat.inj h3
      rw [e1, e2, e3]
  · cases hu

/-- Block b is such a map; the rows lie from block B on. -/
def Groups (B : Nat) (f : Id2 → List Id2) (b m : Nat) (w : World) : Prop :=
  ∃ (D : DataW Unit) (V : Id2 → Value), w.ownsMap Try.prog 39 sliceD b m D ∧ b < B ∧ B ≤ w.heap.size ∧
    (∀ x, WfI x → sliceD (V x) = some (D.atKey (keyI x) .nil, [])) ∧
    (∀ x, WfI x → w.ownsRow B 39 2 (V x) (f x).length (idsCells (f x))) ∧
    (∀ x y, WfI x → WfI y → x ≠ y → (V x).ownBlock = none ∨ (V x).ownBlock ≠ (V y).ownBlock)
theorem Groups.made (w : World) : Groups (w.heap.size + 1) (fun _ => []) w.heap.size 0 (w.alloc (.map #[] 0)) :=
  ⟨.map [], fun _ => .slice none 0 0, World.ownsMap_made w _ _ _, by omega, by simp, fun _ _ => rfl, fun _ _ => World.ownsRow_nil _ _ _ _, fun _ _ _ _ _ => Or.inl rfl⟩
theorem idrow_kept {w w' : World} {B : Nat} {e : TypeId} {s n : Nat} {v : Value} {xs : List Value} (h : w.ownsRow B e s v n xs) (k : Kept w w') : w'.ownsRow B e s v n xs := by
  refine ⟨h.1, ?_⟩
  rcases h.2 with h2 | ⟨g, cap, cur, hv, hg, hh, r⟩
  · exact Or.inl h2
  · exact Or.inr ⟨g, cap, cur, hv, hg, by rw [k.heap (h.lt g (by rw [hv]; rfl)).2]; exact hh, r⟩
theorem Groups.kept {B : Nat} {f : Id2 → List Id2} {b m : Nat} {w w' : World} (h : Groups B f b m w) (k : Kept w w') : Groups B f b m w' := by
  obtain ⟨D, V, ⟨es, clock, hb, r⟩, h0, hB, h1, h2, h3⟩ := h
  exact ⟨D, V, ⟨es, clock, (k.heap (Array.getElem?_eq_some_iff.1 hb).1).trans hb, r⟩, h0, Nat.le_trans hB k.size_le, h1, fun x hx => idrow_kept (h2 x hx) k, h3⟩
theorem Groups.congr {B : Nat} {f g : Id2 → List Id2} {b m : Nat} {w : World} (h : Groups B f b m w) (k : ∀ x, WfI x → g x = f x) : Groups B g b m w := by
  obtain ⟨D, V, h0, h1, hB, h2, h3, h4⟩ := h
  exact ⟨D, V, h0, h1, hB, h2, fun x hx => by rw [k x hx]; exact h3 x hx, h4⟩

/-- v is the list at x. -/
def GroupAt (B : Nat) (f : Id2 → List Id2) (b m : Nat) (x : Id2) (v : Value) (w : World) : Prop :=
  ∃ (D : DataW Unit) (V : Id2 → Value), w.ownsMap Try.prog 39 sliceD b m D ∧ b < B ∧ B ≤ w.heap.size ∧ v = V x ∧
    (∀ x, WfI x → sliceD (V x) = some (D.atKey (keyI x) .nil, [])) ∧
    (∀ x, WfI x → w.ownsRow B 39 2 (V x) (f x).length (idsCells (f x))) ∧
    (∀ x y, WfI x → WfI y → x ≠ y → (V x).ownBlock = none ∨ (V x).ownBlock ≠ (V y).ownBlock)
theorem GroupAt.kept {B : Nat} {f : Id2 → List Id2} {b m : Nat} {x : Id2} {v : Value} {w w' : World} (h : GroupAt B f b m x v w) (k : Kept w w') : GroupAt B f b m x v w' := by
  obtain ⟨D, V, ⟨es, clock, hb, r⟩, h0, hB, e, h1, h2, h3⟩ := h
  exact ⟨D, V, ⟨es, clock, (k.heap (Array.getElem?_eq_some_iff.1 hb).1).trans hb, r⟩, h0, Nat.le_trans hB k.size_le, e, h1, fun x hx => idrow_kept (h2 x hx) k, h3⟩
theorem GroupAt.row {B : Nat} {f : Id2 → List Id2} {b m : Nat} {x : Id2} {v : Value} {w : World} (h : GroupAt B f b m x v w) (hx : WfI x) : w.ownsRow B 39 2 v (f x).length (idsCells (f x)) := by
  obtain ⟨D, V, _, _, _, rfl, _, h2, _⟩ := h
  exact h2 x hx
theorem GroupAt.slice {B : Nat} {f : Id2 → List Id2} {b m : Nat} {x : Id2} {v : Value} {w : World} (h : GroupAt B f b m x v w) (hx : WfI x) : ∃ A c, v = .slice A (f x).length c := by
  rcases (h.row hx).2 with ⟨hv, h0⟩ | ⟨g, cap, cur, hv, _⟩
  · rw [h0]; exact ⟨_, _, hv⟩
  · exact ⟨_, _, hv⟩
theorem GroupAt.cells {B : Nat} {f : Id2 → List Id2} {b m : Nat} {x : Id2} {A : Option Addr} {c : Nat} {w : World} (h : GroupAt B f b m x (.slice A (f x).length c) w) (hx : WfI x) : CellsAt w w.heap.size A (idsCells (f x)) := CellsAt.of_own (h.row hx)
theorem GroupAt.map {B : Nat} {f : Id2 → List Id2} {b m : Nat} {x : Id2} {v : Value} {w : World} (h : GroupAt B f b m x v w) : Groups B f b m w := by
  obtain ⟨D, V, h0, h1, hB, _, r⟩ := h
  exact ⟨D, V, h0, h1, hB, r⟩

/-! ### 'm[x] = append(m[x], n)' -/
/-- The list of x with n behind it. -/
def growF (f : Id2 → List Id2) (x n : Id2) : Id2 → List Id2 := fun y => if y = x then f x ++ [n] else f y
/-! ### .. at the steps of a region -/
section
variable {ops : Array Oper} {o : Oper} {a : Act} {K : Act → World → Prop} {Q : Exit → Act → World → Prop} {E : Prop} (w : World)
end
end

section
set_option linter.unusedSimpArgs false
set_option linter.unusedVariables false
open Go.ChangeShapes Go.WideShapes Go.ChangeAt Go.RowKit

/-- More, or as much and a greater name. -/
def betterB (n m : Int) (x y : Id2) : Bool := decide (m < n) || (decide (n = m) && lessN y x)
/-- What is gathered of the best one: how much is on it, and its name; noughts at the start. -/
def candOf (g : Id2 → Int) : Option Id2 → Int × Id2
  | none => (0, zid)
  | some y => (g y, y)
theorem cand_id (g : Id2 → Int) (o : Option Id2) : (candOf g o).2 = bestId o := by cases o <;> rfl
theorem zid_less {x : Id2} (h : x ≠ zid) : lessN zid x = true := by
  obtain ⟨a, b⟩ := x
  refine decide_eq_true ?_
  by_cases h0 : a = 0
  · subst h0
    refine Or.inr ⟨rfl, ?_⟩
    rcases Nat.eq_zero_or_pos b with e | e
    · subst e; exact absurd rfl h
    · exact e
  · exact Or.inl (Nat.pos_of_ne_zero h0)
theorem better_first {g : Id2 → Int} {x : Id2} (hx : x ≠ zid) (h0 : 0 ≤ g x) : betterB (g x) 0 x zid = true := by
  unfold betterB
  rw [zid_less hx]
  by_cases e : 0 < g x
  · rw [decide_eq_true e]; rfl
  · rw [decide_eq_true (show g x = 0 by omega)]; simp
theorem better_beats (g : Id2 → Int) (x y : Id2) : betterB (g x) (g y) x y = beats g y x := by
  unfold betterB beats
  rw [show decide (g x = g y) = decide (g y = g x) from by rw [decide_eq_decide]; exact ⟨fun e => e.symm, fun e => e.symm⟩]
theorem cand_hit {g : Id2 → Int} {q : List Id2} {x : Id2} (h : betterB (g x) (candOf g (bestTo g q)).1 x (candOf g (bestTo g q)).2 = true) : candOf g (bestTo g (q ++ [x])) = (g x, x) := by
  cases e : bestTo g q with
  | none => rw [bestTo_first e]; rfl
  | some y =>
    rw [e] at h
    have h' : beats g y x = true := (better_beats g x y).symm.trans h
    rw [bestTo_hit e h']; rfl
theorem cand_miss {g : Id2 → Int} {q : List Id2} {x : Id2} (hx : x ≠ zid) (h0 : 0 ≤ g x) (h : betterB (g x) (candOf g (bestTo g q)).1 x (candOf g (bestTo g q)).2 = false) : candOf g (bestTo g (q ++ [x])) = candOf g (bestTo g q) := by
  cases e : bestTo g q with
  | none =>
    rw [e] at h
    have h' : betterB (g x) 0 x zid = false := h
    rw [better_first hx h0] at h'; cases h'
  | some y =>
    rw [e] at h
    have h' : beats g y x = false := (better_beats g x y).symm.trans h
    rw [bestTo_miss e h']
theorem cand_hit_take {g : Id2 → Int} {q : List Id2} {k : Nat} (hk : k < q.length) (h : betterB (g q[k]) (candOf g (bestTo g (q.take k))).1 q[k] (candOf g (bestTo g (q.take k))).2 = true) : candOf g (bestTo g (q.take (k + 1))) = (g q[k], q[k]) := by
  rw [List.take_succ_eq_append_getElem hk]; exact cand_hit h
theorem cand_miss_take {g : Id2 → Int} {q : List Id2} {k : Nat} (hk : k < q.length) (hx : q[k] ≠ zid) (h0 : 0 ≤ g q[k]) (h : betterB (g q[k]) (candOf g (bestTo g (q.take k))).1 q[k] (candOf g (bestTo g (q.take k))).2 = false) : candOf g (bestTo g (q.take (k + 1))) = candOf g (bestTo g (q.take k)) := by
  rw [List.take_succ_eq_append_getElem hk]; exact cand_miss hx h0 h
/-- Names that are none of the beginning's, each made of words. -/
def Named (q : List Id2) : Prop := ∀ x ∈ q, WfI x ∧ x ≠ zid
theorem kids_named (l : List Bk) (x : Id2) : Named (kidsC l x) := fun y hy => by
  refine ⟨kids_wf l x y hy, fun e => ?_⟩
  cases m : mayB l with
  | false => rw [kidsC_no x m] at hy; cases hy
  | true =>
    rw [kidsC_yes x m] at hy
    obtain ⟨i, hi, e2, _⟩ := mem_kids.1 hy
    have h1 := may_pos m hi
    rw [e2, e, may_zero m] at h1
    cases h1
theorem kidsC_le (l : List Bk) (x : Id2) : (kidsC l x).length ≤ l.length := by
  unfold kidsC
  cases mayB l with
  | false => exact Nat.zero_le _
  | true => exact kidsB_le l x
theorem cand_bounds (k : Cf) (l : List Bk) (v : List Vt) (q : List Id2) : 0 ≤ (candOf (onC k l v) (bestTo (onC k l v) q)).1 ∧ (candOf (onC k l v) (bestTo (onC k l v) q)).1 ≤ 13194139533312 := by
  cases bestTo (onC k l v) q with
  | none => exact ⟨Int.le_refl 0, (by decide : (0 : Int) ≤ 13194139533312)⟩
  | some y => exact on_bounds k l v y
theorem cand_wf {g : Id2 → Int} {q : List Id2} (h : Named q) : WfI (candOf g (bestTo g q)).2 := by
  cases e : bestTo g q with
  | none => exact WfI.zid
  | some y => exact (h y (bestTo_mem e)).1
theorem cand_some {g : Id2 → Int} {q : List Id2} (h : Named q) (h0 : q ≠ []) : (candOf g (bestTo g q)).2 ≠ zid := by
  cases e : bestTo g q with
  | none => exact absurd (bestTo_none e) h0
  | some y => exact (h y (bestTo_mem e)).2
theorem Named.take {q : List Id2} (h : Named q) (k : Nat) : Named (q.take k) := fun x hx => h x (List.mem_of_mem_take hx)

/-! ### The kids of all ids, gathered in one way -/
theorem grow_hit {l : List Bk} {k : Nat} (hk : k < l.length) (y : Id2) : growF (kidsB (l.take k)) l[k].p (nameB l[k]) y = kidsB (l.take (k + 1)) y := by
  unfold growF
  by_cases e : y = l[k].p
  · rw [if_pos e, e, kids_hit hk rfl]
  · rw [if_neg e, kids_miss hk (fun q => e q.symm)]

/-! ### The head -/
theorem best_step {k : Cf} {l : List Bk} {v : List Vt} {x : Id2} {q : List Id2} (hq : kidsC l x = q) (h0 : q ≠ []) : headX k l v x = headX k l v (candOf (onC k l v) (bestTo (onC k l v) q)).2 := by
  subst hq
  cases e : bestTo (onC k l v) (kidsC l x) with
  | none => exact absurd (bestTo_none e) h0
  | some y => exact headX_step e
theorem best_one {k : Cf} {l : List Bk} {v : List Vt} {x y : Id2} (hq : kidsC l x = [y]) : headX k l v x = headX k l v y := by
  refine headX_step ?_
  unfold bestC
  rw [hq]
  rfl
theorem best_leaf {k : Cf} {l : List Bk} {v : List Vt} {x : Id2} (hq : kidsC l x = []) : headX k l v x = x := by
  refine headX_stop ?_
  unfold bestC
  rw [hq]
  rfl
theorem cand_rank {k : Cf} {l : List Bk} {v : List Vt} {x : Id2} (h0 : kidsC l x ≠ []) : rank l x < rank l (candOf (onC k l v) (bestTo (onC k l v) (kidsC l x))).2 := by
  cases e : bestTo (onC k l v) (kidsC l x) with
  | none => exact absurd (bestTo_none e) h0
  | some y => exact (kid_rank (bestTo_mem e)).1
theorem one_rank {l : List Bk} {x y : Id2} (hq : kidsC l x = [y]) : rank l x < rank l y := (kid_rank (by rw [hq]; simp)).1
end

section
open Go.ChangeShapes Go.WideShapes Go.ChangeAt Go.RowKit

/-! ### Less -/
theorem lessN_yes {a b : Nat × Nat} (h : a.1 < b.1 ∨ (a.1 = b.1 ∧ a.2 < b.2)) : lessN a b = true := decide_eq_true h
theorem lessN_no {a b : Nat × Nat} (h : ¬ (a.1 < b.1 ∨ (a.1 = b.1 ∧ a.2 < b.2))) : lessN a b = false := decide_eq_false h
end

section
set_option linter.unusedSimpArgs false
set_option linter.unusedVariables false
open Go.ChangeShapes Go.WideShapes Go.ChangeAt Go.RowKit

theorem better_more {n m : Int} {x y : Id2} (h : m < n) : betterB n m x y = true := by unfold betterB; rw [decide_eq_true h]; rfl
theorem better_same {n m : Int} {x y : Id2} (h : n = m) : betterB n m x y = lessN y x := by unfold betterB; rw [decide_eq_false (show ¬ m < n by omega), decide_eq_true h]; simp
theorem better_less {n m : Int} {x y : Id2} (h : ¬ m < n) (h2 : ¬ n = m) : betterB n m x y = false := by unfold betterB; rw [decide_eq_false h, decide_eq_false h2]; rfl

/-- The three cells of a candidate, in a block of its own. -/
structure Cand (W : World) (z : Nat) (c : Int × Id2) (w' : World) : Prop where
  cells : HasCells w' z [.int .i64 c.1, .int .u64 c.2.1, .int .u64 c.2.2]
  f0 : w'.frozen? ⟨z, 0, none⟩ = false
  f1 : w'.frozen? ⟨z, 1, none⟩ = false
  f2 : w'.frozen? ⟨z, 2, none⟩ = false
  kept : Kept W w'
theorem Cand.keep {W : World} {z : Nat} {c : Int × Id2} {w' w2 : World} (h : Cand W z c w') (k : Kept w' w2) : Cand W z c w2 :=
  ⟨h.cells.kept k, (k.frozen h.cells.1).trans h.f0, (k.frozen h.cells.1).trans h.f1, (k.frozen h.cells.1).trans h.f2, h.kept.trans k⟩
theorem Cand.set {W : World} {z : Nat} {c : Int × Id2} {w' : World} (hz : W.heap.size ≤ z) (h : Cand W z c w') (n : Int) (x : Id2) : Cand W z (n, x) (((w'.setCell ⟨z, 0, none⟩ (.int .i64 n)).setCell ⟨z, 1, none⟩ (.int .u64 x.1)).setCell ⟨z, 2, none⟩ (.int .u64 x.2)) where
  cells := by
    refine ⟨by simpa using h.cells.1, fun j u hu => ?_⟩
    have c0 := h.cells.at0
    have c1 := h.cells.at1
    have c2 := h.cells.at2
    match j, hu with
    | 0, hu =>
      cases hu
      rw [World.cell?_setCell_other _ _ _ _ (by simp), World.cell?_setCell_other _ _ _ _ (by simp), World.cell?_setCell_same' _ _ _ (by simp [c0])]
    | 1, hu =>
      cases hu
      rw [World.cell?_setCell_other _ _ _ _ (by simp), World.cell?_setCell_same' _ _ _ (by rw [World.cell?_setCell_other _ _ _ _ (by simp)]; simp [c1])]
    | 2, hu =>
      cases hu
      rw [World.cell?_setCell_same' _ _ _ (by rw [World.cell?_setCell_other _ _ _ _ (by simp), World.cell?_setCell_other _ _ _ _ (by simp)]; simp [c2])]
    | j + 3, hu => simp at hu
  f0 := by simpa using h.f0
  f1 := by simpa using h.f1
  f2 := by simpa using h.f2
  kept := ((h.kept.setCell (p := ⟨z, 0, none⟩) hz _).setCell (p := ⟨z, 1, none⟩) hz _).setCell (p := ⟨z, 2, none⟩) hz _
end

section
set_option linter.unusedSimpArgs false
set_option linter.unusedVariables false
open Go.ChangeShapes Go.WideShapes Go.ChangeAt Go.RowKit

/-- v is a map of the lists of f, or nil, where f has none. -/
def KidsMap (f : Id2 → List Id2) (v : Value) (w : World) : Prop := (v = .map none ∧ ∀ y, f y = []) ∨ ∃ b m B, v = .map (some b) ∧ Groups B f b m w
theorem KidsMap.kept {f : Id2 → List Id2} {v : Value} {w w' : World} (h : KidsMap f v w) (k : Kept w w') : KidsMap f v w' := by
  rcases h with h | ⟨b, m, B, e, h⟩
  · exact Or.inl h
  · exact Or.inr ⟨b, m, B, e, h.kept k⟩
theorem cell_lt {w : World} {z j : Nat} {u : Value} (h : w.cell? ⟨z, j, none⟩ = some u) : z < w.heap.size := by
  cases q : w.heap[z]? with
  | none => simp [World.cell?, q] at h
  | some o => exact (Array.getElem?_eq_some_iff.1 q).1
/-- Five cells, held. -/
def Five (y : Nat) (x0 x1 x2 x3 x4 : Value) (w : World) : Prop := w.cell? ⟨y, 0, none⟩ = some x0 ∧ w.cell? ⟨y, 1, none⟩ = some x1 ∧ w.cell? ⟨y, 2, none⟩ = some x2 ∧ w.cell? ⟨y, 3, none⟩ = some x3 ∧ w.cell? ⟨y, 4, none⟩ = some x4
theorem five_grown {y : Nat} {x0 x1 x2 x3 x4 : Value} {w w' : World} {row : Option Nat} (h : w.cell? ⟨y, 0, none⟩ = some x0 ∧ w.cell? ⟨y, 1, none⟩ = some x1 ∧ w.cell? ⟨y, 2, none⟩ = some x2 ∧ w.cell? ⟨y, 3, none⟩ = some x3 ∧ w.cell? ⟨y, 4, none⟩ = some x4) (g : w.grownBy w' row) (hne : some y ≠ row) :
    w'.cell? ⟨y, 0, none⟩ = some x0 ∧ w'.cell? ⟨y, 1, none⟩ = some x1 ∧ w'.cell? ⟨y, 2, none⟩ = some x2 ∧ w'.cell? ⟨y, 3, none⟩ = some x3 ∧ w'.cell? ⟨y, 4, none⟩ = some x4 :=
  ⟨g.cell h.1 hne, g.cell h.2.1 hne, g.cell h.2.2.1 hne, g.cell h.2.2.2.1 hne, g.cell h.2.2.2.2 hne⟩
theorem five_kept {y : Nat} {x0 x1 x2 x3 x4 : Value} {w w' : World} (h : w.cell? ⟨y, 0, none⟩ = some x0 ∧ w.cell? ⟨y, 1, none⟩ = some x1 ∧ w.cell? ⟨y, 2, none⟩ = some x2 ∧ w.cell? ⟨y, 3, none⟩ = some x3 ∧ w.cell? ⟨y, 4, none⟩ = some x4) (k : Kept w w') :
    w'.cell? ⟨y, 0, none⟩ = some x0 ∧ w'.cell? ⟨y, 1, none⟩ = some x1 ∧ w'.cell? ⟨y, 2, none⟩ = some x2 ∧ w'.cell? ⟨y, 3, none⟩ = some x3 ∧ w'.cell? ⟨y, 4, none⟩ = some x4 := by
  have hy := cell_lt h.1
  exact ⟨(k.cell (p := ⟨y, 0, none⟩) hy).trans h.1, (k.cell (p := ⟨y, 1, none⟩) hy).trans h.2.1, (k.cell (p := ⟨y, 2, none⟩) hy).trans h.2.2.1, (k.cell (p := ⟨y, 3, none⟩) hy).trans h.2.2.2.1, (k.cell (p := ⟨y, 4, none⟩) hy).trans h.2.2.2.2⟩
theorem HasCells.grown {w w' : World} {z : Nat} {xs : List Value} {row : Option Nat} (h : HasCells w z xs) (g : w.grownBy w' row) (hne : some z ≠ row) : HasCells w' z xs :=
  ⟨Nat.lt_of_lt_of_le h.1 g.size, fun j u hu => g.cell (h.2 j u hu) hne⟩
theorem Groups.lt {B : Nat} {f : Id2 → List Id2} {b m : Nat} {w : World} (h : Groups B f b m w) : b < B ∧ B ≤ w.heap.size := by
  obtain ⟨_, _, _, h0, hB, _⟩ := h
  exact ⟨h0, hB⟩

/-- .. with the whole block known, and all that lay in W as it was. -/
theorem fiveO_grown {W w w' : World} {y : Nat} {x0 x1 x2 x3 x4 : Value} {t : TypeId} {row : Option Nat} (h : w.cell? ⟨y, 0, none⟩ = some x0 ∧ w.cell? ⟨y, 1, none⟩ = some x1 ∧ w.cell? ⟨y, 2, none⟩ = some x2 ∧ w.cell? ⟨y, 3, none⟩ = some x3 ∧ w.cell? ⟨y, 4, none⟩ = some x4 ∧ w.heap[y]? = some (.cells #[x0, x1, x2, x3, x4] t) ∧ Kept W w)
    (g : w.grownBy w' row) (hne : some y ≠ row) (hr : ∀ k, row = some k → W.heap.size ≤ k) :
    w'.cell? ⟨y, 0, none⟩ = some x0 ∧ w'.cell? ⟨y, 1, none⟩ = some x1 ∧ w'.cell? ⟨y, 2, none⟩ = some x2 ∧ w'.cell? ⟨y, 3, none⟩ = some x3 ∧ w'.cell? ⟨y, 4, none⟩ = some x4 ∧ w'.heap[y]? = some (.cells #[x0, x1, x2, x3, x4] t) ∧ Kept W w' :=
  ⟨g.cell h.1 hne, g.cell h.2.1 hne, g.cell h.2.2.1 hne, g.cell h.2.2.2.1 hne, g.cell h.2.2.2.2.1 hne, (g.block y (Array.getElem?_eq_some_iff.1 h.2.2.2.2.2.1).1 hne).trans h.2.2.2.2.2.1, h.2.2.2.2.2.2.grown g hr⟩
theorem fiveO_kept {W w w' : World} {y : Nat} {x0 x1 x2 x3 x4 : Value} {t : TypeId} (h : w.cell? ⟨y, 0, none⟩ = some x0 ∧ w.cell? ⟨y, 1, none⟩ = some x1 ∧ w.cell? ⟨y, 2, none⟩ = some x2 ∧ w.cell? ⟨y, 3, none⟩ = some x3 ∧ w.cell? ⟨y, 4, none⟩ = some x4 ∧ w.heap[y]? = some (.cells #[x0, x1, x2, x3, x4] t) ∧ Kept W w)
    (k : Kept w w') :
    w'.cell? ⟨y, 0, none⟩ = some x0 ∧ w'.cell? ⟨y, 1, none⟩ = some x1 ∧ w'.cell? ⟨y, 2, none⟩ = some x2 ∧ w'.cell? ⟨y, 3, none⟩ = some x3 ∧ w'.cell? ⟨y, 4, none⟩ = some x4 ∧ w'.heap[y]? = some (.cells #[x0, x1, x2, x3, x4] t) ∧ Kept W w' := by
  have hy := cell_lt h.1
  exact ⟨(k.cell (p := ⟨y, 0, none⟩) hy).trans h.1, (k.cell (p := ⟨y, 1, none⟩) hy).trans h.2.1, (k.cell (p := ⟨y, 2, none⟩) hy).trans h.2.2.1, (k.cell (p := ⟨y, 3, none⟩) hy).trans h.2.2.2.1, (k.cell (p := ⟨y, 4, none⟩) hy).trans h.2.2.2.2.1, (k.heap hy).trans h.2.2.2.2.2.1, h.2.2.2.2.2.2.trans k⟩
end

end Go.Proofs.Ytacdiicnfoejoaa
