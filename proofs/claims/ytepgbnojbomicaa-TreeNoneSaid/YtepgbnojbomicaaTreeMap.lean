/-
  Lists of blocks and of ids, cell by cell; the map of a tree's places by their names.
-/
import Derived.Test.YtepgbnojbomicaaTreeName
import Derived.Maps.OwnIn
import Derived.WideKeyPair
import Derived.WalkArith
namespace Go.Proofs.Ytepgbnojbomicaa
open Go.ChangeShapes Go.WideShapes Go.ChangeAt Go.RowKit

def bkCells (b : Bk) : List Value := [.int .i64 b.s, .int .i64 b.f, .int .u64 b.p.1, .int .u64 b.p.2, .int .u64 b.t]
def blockCells (l : List Bk) : List Value := l.flatMap bkCells
def idCells (x : Id2) : List Value := [.int .u64 x.1, .int .u64 x.2]
def idsCells (l : List Id2) : List Value := l.flatMap idCells
theorem blockCells_at : ∀ {l : List Bk} {i : Nat} (hi : i < l.length) {j : Nat} {u : Value}, (bkCells l[i])[j]? = some u → (blockCells l)[i * 5 + j]? = some u
  | b :: l, 0, _, j, u, h => by
    have hj : j < (bkCells b).length := (List.getElem?_eq_some_iff.1 h).1
    show (bkCells b ++ blockCells l)[0 * 5 + j]? = _
    rw [Nat.zero_mul, Nat.zero_add, List.getElem?_append_left hj]; exact h
  | b :: l, i + 1, hi, j, u, h => by
    show (bkCells b ++ blockCells l)[(i + 1) * 5 + j]? = _
    have h5 : (bkCells b).length = 5 := rfl
    rw [List.getElem?_append_right (by omega), h5, show (i + 1) * 5 + j - 5 = i * 5 + j by omega]
    exact blockCells_at (l := l) (by simpa using hi) h
theorem idsCells_at : ∀ {l : List Id2} {i : Nat} (hi : i < l.length) {j : Nat} {u : Value}, (idCells l[i])[j]? = some u → (idsCells l)[i * 2 + j]? = some u
  | b :: l, 0, _, j, u, h => by
    have hj : j < (idCells b).length := (List.getElem?_eq_some_iff.1 h).1
    show (idCells b ++ idsCells l)[0 * 2 + j]? = _
    rw [Nat.zero_mul, Nat.zero_add, List.getElem?_append_left hj]; exact h
  | b :: l, i + 1, hi, j, u, h => by
    show (idCells b ++ idsCells l)[(i + 1) * 2 + j]? = _
    have h5 : (idCells b).length = 2 := rfl
    rw [List.getElem?_append_right (by omega), h5, show (i + 1) * 2 + j - 2 = i * 2 + j by omega]
    exact idsCells_at (l := l) (by simpa using hi) h
theorem blockCells_length (l : List Bk) : (blockCells l).length = l.length * 5 := by
  induction l with
  | nil => rfl
  | cons b l ih => show (bkCells b ++ blockCells l).length = _; rw [List.length_append, ih, List.length_cons]; show 5 + _ = _; omega
theorem idsCells_length (l : List Id2) : (idsCells l).length = l.length * 2 := by
  induction l with
  | nil => rfl
  | cons b l ih => show (idCells b ++ idsCells l).length = _; rw [List.length_append, ih, List.length_cons]; show 2 + _ = _; omega
theorem idsCells_append (l m : List Id2) : idsCells l ++ idsCells m = idsCells (l ++ m) := by simp [idsCells]
theorem idsCells_one (l : List Id2) : ∀ u ∈ idsCells l, u.oneCell' = true := fun u hu => by
  simp only [idsCells, List.mem_flatMap] at hu
  obtain ⟨x, _, hu⟩ := hu
  simp [idCells] at hu
  rcases hu with rfl | rfl <;> rfl
/-- An address that reads is a plain one. -/
theorem plain_of {w : World} {ad : Addr} {u : Value} (h : w.cell? (ad.add 0) = some u) : ∃ B o, ad = ⟨B, o, none⟩ := by
  obtain ⟨B, o, s⟩ := ad
  cases s with
  | none => exact ⟨B, o, rfl⟩
  | some s =>
    have e : (⟨B, o, some s⟩ : Addr).add 0 = ⟨B, o, some s⟩ := rfl
    rw [e] at h
    unfold World.cell? at h
    split at h <;> simp at h
theorem CellsAt.plain {w : World} {B : Nat} {A : Option Addr} {xs : List Value} (h : CellsAt w B A xs) (hn : 0 < xs.length) : ∃ z o, A = some ⟨z, o, none⟩ ∧ z < B ∧ ∀ j u, xs[j]? = some u → w.cell? ⟨z, o + j, none⟩ = some u := by
  obtain ⟨ad, e, hb, hc⟩ := h.some_of hn
  obtain ⟨z, o, rfl⟩ := plain_of (hc 0 _ (List.getElem?_eq_getElem hn))
  exact ⟨z, o, e, hb, fun j u hu => by rw [← add_none]; exact hc j u hu⟩
/-- Block i of a list. -/
theorem block_at {w : World} {B : Nat} {A : Option Addr} {l : List Bk} (h : CellsAt w B A (blockCells l)) {i : Nat} (hi : i < l.length) :
    ∃ z o, A = some ⟨z, o, none⟩ ∧ z < B ∧ w.cell? ⟨z, o + i * 5, none⟩ = some (.int .i64 l[i].s) ∧ w.cell? ⟨z, o + i * 5 + 1, none⟩ = some (.int .i64 l[i].f) ∧ w.cell? ⟨z, o + i * 5 + 2, none⟩ = some (.int .u64 l[i].p.1) ∧ w.cell? ⟨z, o + i * 5 + 3, none⟩ = some (.int .u64 l[i].p.2) ∧ w.cell? ⟨z, o + i * 5 + 4, none⟩ = some (.int .u64 l[i].t) := by
  obtain ⟨z, o, e, hb, hc⟩ := h.plain (by rw [blockCells_length]; omega)
  exact ⟨z, o, e, hb, hc _ _ (blockCells_at hi (j := 0) rfl), hc _ _ (blockCells_at hi (j := 1) rfl), hc _ _ (blockCells_at hi (j := 2) rfl), hc _ _ (blockCells_at hi (j := 3) rfl), hc _ _ (blockCells_at hi (j := 4) rfl)⟩
/-- Id i of a list. -/
theorem id_at {w : World} {B : Nat} {A : Option Addr} {l : List Id2} (h : CellsAt w B A (idsCells l)) {i : Nat} (hi : i < l.length) :
    ∃ z o, A = some ⟨z, o, none⟩ ∧ z < B ∧ w.cell? ⟨z, o + i * 2, none⟩ = some (.int .u64 l[i].1) ∧ w.cell? ⟨z, o + i * 2 + 1, none⟩ = some (.int .u64 l[i].2) := by
  obtain ⟨z, o, e, hb, hc⟩ := h.plain (by rw [idsCells_length]; omega)
  exact ⟨z, o, e, hb, hc _ _ (idsCells_at hi (j := 0) rfl), hc _ _ (idsCells_at hi (j := 1) rfl)⟩

/-! ### The map -/
theorem Try.arrID : WideMaps.ArrKey Try.prog 25 23 2 := ⟨Try.underlying25, by kernel_rfl, by kernel_rfl, by kernel_rfl⟩
theorem Try.keyedID : Maps.Keyed Try.prog 25 := Maps.Keyed.of_law Try.arrID.law
theorem Try.someTypes : ∃ m, Try.prog.types.size = m + 1 := ⟨Try.prog.types.size - 1, (Nat.succ_pred (Nat.pos_iff_ne_zero.1 (of_decide_eq_true (by kernel_rfl)))).symm⟩
/-- What an id reads as, as a key. -/
def keyI (x : Id2) : Lit := .string (keyBytes [.int .u64 x.1, .int .u64 x.2])
theorem wf_u64 {a : Nat} (h : a < 18446744073709551616) : (Lit.int .u64 (a : Int)).wf = true := Go.WalkArith.wf_u64 ⟨by omega, by omega⟩
theorem key_of {x : Id2} (h : WfI x) : keyOf Try.prog 25 (.agg #[.int .u64 x.1, .int .u64 x.2]) = some (keyI x) := WideMaps.keyOf_pair Try.arrID Try.underlying23 Try.someTypes (wf_u64 h.1) (wf_u64 h.2)
theorem keyI_inj {x y : Id2} (hx : WfI x) (hy : WfI y) (e : keyI x = keyI y) : x = y := by
  have k := Try.keyedID.inj (key_of hx) (by rw [e]; exact key_of hy)
  obtain ⟨a, b⟩ := x
  obtain ⟨c, d⟩ := y
  simp at k
  have k1 : (a : Int) = (c : Int) := k.1
  have k2 : (b : Int) = (d : Int) := k.2
  exact Prod.ext (by simp; omega) (by simp; omega)

/-- Block m holds where each of the names ns is. -/
def MapOf (ns : List Id2) (b m : Nat) (D : DataW Unit) (w : World) : Prop :=
  w.ownsMap Try.prog 25 (plainElem Try.prog 3) b m D ∧ ∀ x : Id2, WfI x → (match posN ns x with
    | some i => Maps.has D (keyI x) = true ∧ ∀ z, D.atKey (keyI x) z = .lit (.int .i64 (i : Int))
    | none => Maps.has D (keyI x) = false)
theorem MapOf.made (w : World) : MapOf [] w.heap.size 0 (.map []) (w.alloc (.map #[] 0)) := ⟨World.ownsMap_made w _ _ _, fun _ _ => rfl⟩
theorem MapOf.kept {ns : List Id2} {b m : Nat} {D : DataW Unit} {w w' : World} (h : MapOf ns b m D w) (k : Kept w w') : MapOf ns b m D w' := by
  refine ⟨?_, h.2⟩
  obtain ⟨es, clock, hb, r⟩ := h.1
  exact ⟨es, clock, (k.heap (Array.getElem?_eq_some_iff.1 hb).1).trans hb, r⟩
theorem MapOf.hit {ns : List Id2} {b m : Nat} {D : DataW Unit} {w : World} (h : MapOf ns b m D w) {x : Id2} (hx : WfI x) {i : Nat} (q : posN ns x = some i) : Maps.has D (keyI x) = true ∧ ∀ z, D.atKey (keyI x) z = .lit (.int .i64 (i : Int)) := by
  have := h.2 x hx; rw [q] at this; exact this
theorem MapOf.miss {ns : List Id2} {b m : Nat} {D : DataW Unit} {w : World} (h : MapOf ns b m D w) {x : Id2} (hx : WfI x) (q : posN ns x = none) : Maps.has D (keyI x) = false := by
  have := h.2 x hx; rw [q] at this; exact this
theorem MapOf.put {ns : List Id2} {b m : Nat} {D : DataW Unit} {w : World} (h : MapOf ns b m D w) {n : Id2} (hn : WfI n) (q : posN ns n = none) (x : Id2) (hx : WfI x) : (match posN (ns ++ [n]) x with
    | some i => Maps.has (D.put (keyI n) (.lit (.int .i64 (ns.length : Int)))) (keyI x) = true ∧ ∀ z, (D.put (keyI n) (.lit (.int .i64 (ns.length : Int)))).atKey (keyI x) z = .lit (.int .i64 (i : Int))
    | none => Maps.has (D.put (keyI n) (.lit (.int .i64 (ns.length : Int)))) (keyI x) = false) := by
  have hk : WideAt.IsKeyLit (keyI n) := Try.keyedID.key (key_of hn)
  rw [posN_snoc]
  by_cases e : n = x
  · subst e
    rw [q, if_pos rfl]
    exact ⟨Maps.has_put_same h.1.isMap hk _, fun z => Maps.atKey_put_same h.1.isMap hk _ z⟩
  · have hne : keyI x ≠ keyI n := fun k => e (keyI_inj hn hx k.symm)
    have hx' := h.2 x hx
    cases p : posN ns x with
    | some i =>
      rw [p] at hx'
      simp only
      exact ⟨(Maps.has_put_other hne _).trans hx'.1, fun z => (Maps.atKey_put_other hne _ z).trans (hx'.2 z)⟩
    | none =>
      rw [p] at hx'
      simp only [if_neg e]
      exact (Maps.has_put_other hne _).trans hx'

end Go.Proofs.Ytepgbnojbomicaa
