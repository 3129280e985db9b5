/-
  A map of lists of ids of one's own, filled by append: block b holds, of each id x, the list f x, each in a row of its own.
-/
import Derived.Maps.OwnSet
import Derived.WideKeyEntry
import Derived.Deep.RegionHeld3
import Derived.Test.YtlapcnfhnfkbmaaGreatTreeG
namespace Go.Proofs.YtlapcnfhnfkbmaaGreat
set_option maxRecDepth 100000
set_option linter.unusedVariables false
set_option linter.unusedSimpArgs false
set_option linter.unusedSimpArgs false
set_option linter.unusedVariables false
open Go.ChangeShapes Go.WideShapes Go.ChangeAt Go.RowKit

/-- A slice's own words, as what a map holds: no two slices have the same. -/
def sliceD : Value → Option (DataW Unit × List MemPlace)
  | .slice none 0 0 => some (.nil, [])
  | .slice (some ⟨g, 0, none⟩) n c => some (.slice [.lit (.int .i64 g), .lit (.int .i64 n), .lit (.int .i64 c)] [], [])
  | _ => none
theorem sliceD_nil : sliceD (.slice none 0 0) = some (.nil, []) := rfl
theorem sliceD_some (g n c : Nat) : sliceD (.slice (some ⟨g, 0, none⟩) n c) = some (.slice [.lit (.int .i64 g), .lit (.int .i64 n), .lit (.int .i64 c)] [], []) := rfl
theorem sliceD_own {w : World} {B : Nat} {e : TypeId} {s n : Nat} {v : Value} {xs : List Value} (h : w.ownsRow B e s v n xs) : (v = .slice none 0 0) ∨ ∃ g c, v = .slice (some ⟨g, 0, none⟩) n c := by
  rcases h.2 with ⟨rfl, _⟩ | ⟨g, cap, cur, rfl, _⟩
  · exact Or.inl rfl
  · exact Or.inr ⟨g, cap, rfl⟩
theorem sliceD_inj {u : Value} {d : DataW Unit} {ps : List MemPlace} (hu : sliceD u = some (d, ps)) : ∀ {v : Value}, (v = .slice none 0 0 ∨ ∃ g n c, v = .slice (some ⟨g, 0, none⟩) n c) → sliceD v = some (d, []) → u = v := by
  intro v hv k
  unfold sliceD at hu
  split at hu
  · cases hu
    rcases hv with rfl | ⟨g, n, c, rfl⟩
    · rfl
    · rw [sliceD_some] at k; cases k
  · cases hu
    rcases hv with rfl | ⟨g, n, c, rfl⟩
    · rw [sliceD_nil] at k; cases k
    · rw [sliceD_some] at k
      simp only [Option.some.injEq, Prod.mk.injEq, DataW.slice.injEq, List.cons.injEq, DataW.lit.injEq, Lit.int.injEq, true_and, and_true] at k
      obtain ⟨h1, h2, h3⟩ := k
      have e1 : g = _ := Int.ofNat.inj h1
      have e2 : n = _ := Int.ofNat.inj h2
      have e3 : c = _ := Int.ofNat.inj h3
      rw [e1, e2, e3]
  · cases hu

/-- Block b is such a map; the rows lie from block B on. -/
def Groups (B : Nat) (f : Id2 → List Id2) (b m : Nat) (w : World) : Prop :=
  ∃ (D : DataW Unit) (V : Id2 → Value), w.ownsMap Tryz.prog 35 sliceD b m D ∧ b < B ∧ B ≤ w.heap.size ∧
    (∀ x, WfI x → sliceD (V x) = some (D.atKey (keyI x) .nil, [])) ∧
    (∀ x, WfI x → w.ownsRow B 35 2 (V x) (f x).length (idsCells (f x))) ∧
    (∀ x y, WfI x → WfI y → x ≠ y → (V x).ownBlock = none ∨ (V x).ownBlock ≠ (V y).ownBlock)
theorem Groups.made (w : World) : Groups (w.heap.size + 1) (fun _ => []) w.heap.size 0 (w.alloc (.map #[] 0)) :=
  ⟨.map [], fun _ => .slice none 0 0, World.ownsMap_made w _ _ _, by omega, by simp, fun _ _ => rfl, fun _ _ => World.ownsRow_nil _ _ _ _, fun _ _ _ _ _ => Or.inl rfl⟩
theorem idrow_kept {w w' : World} {B : Nat} {e : TypeId} {s n : Nat} {v : Value} {xs : List Value} (h : w.ownsRow B e s v n xs) (k : Kept w w') : w'.ownsRow B e s v n xs := by
  refine ⟨h.1, ?_⟩
  rcases h.2 with h2 | ⟨g, cap, cur, hv, hg, hh, r⟩
  · exact Or.inl h2
  · exact Or.inr ⟨g, cap, cur, hv, hg, by rw [k.heap (h.lt g (by rw [hv]; rfl)).2]; exact hh, r⟩
theorem Groups.kept {B : Nat} {f : Id2 → List Id2} {b m : Nat} {w w' : World} (h : Groups B f b m w) (k : Kept w w') : Groups B f b m w' := by
  obtain ⟨D, V, ⟨es, clock, hb, r⟩, h0, hB, h1, h2, h3⟩ := h
  exact ⟨D, V, ⟨es, clock, (k.heap (Array.getElem?_eq_some_iff.1 hb).1).trans hb, r⟩, h0, Nat.le_trans hB k.size_le, h1, fun x hx => idrow_kept (h2 x hx) k, h3⟩
theorem Groups.congr {B : Nat} {f g : Id2 → List Id2} {b m : Nat} {w : World} (h : Groups B f b m w) (k : ∀ x, WfI x → g x = f x) : Groups B g b m w := by
  obtain ⟨D, V, h0, h1, hB, h2, h3, h4⟩ := h
  exact ⟨D, V, h0, h1, hB, h2, fun x hx => by rw [k x hx]; exact h3 x hx, h4⟩

/-- v is the list at x. -/
def GroupAt (B : Nat) (f : Id2 → List Id2) (b m : Nat) (x : Id2) (v : Value) (w : World) : Prop :=
  ∃ (D : DataW Unit) (V : Id2 → Value), w.ownsMap Tryz.prog 35 sliceD b m D ∧ b < B ∧ B ≤ w.heap.size ∧ v = V x ∧
    (∀ x, WfI x → sliceD (V x) = some (D.atKey (keyI x) .nil, [])) ∧
    (∀ x, WfI x → w.ownsRow B 35 2 (V x) (f x).length (idsCells (f x))) ∧
    (∀ x y, WfI x → WfI y → x ≠ y → (V x).ownBlock = none ∨ (V x).ownBlock ≠ (V y).ownBlock)
theorem GroupAt.kept {B : Nat} {f : Id2 → List Id2} {b m : Nat} {x : Id2} {v : Value} {w w' : World} (h : GroupAt B f b m x v w) (k : Kept w w') : GroupAt B f b m x v w' := by
  obtain ⟨D, V, ⟨es, clock, hb, r⟩, h0, hB, e, h1, h2, h3⟩ := h
  exact ⟨D, V, ⟨es, clock, (k.heap (Array.getElem?_eq_some_iff.1 hb).1).trans hb, r⟩, h0, Nat.le_trans hB k.size_le, e, h1, fun x hx => idrow_kept (h2 x hx) k, h3⟩
theorem GroupAt.row {B : Nat} {f : Id2 → List Id2} {b m : Nat} {x : Id2} {v : Value} {w : World} (h : GroupAt B f b m x v w) (hx : WfI x) : w.ownsRow B 35 2 v (f x).length (idsCells (f x)) := by
  obtain ⟨D, V, _, _, _, rfl, _, h2, _⟩ := h
  exact h2 x hx
theorem GroupAt.slice {B : Nat} {f : Id2 → List Id2} {b m : Nat} {x : Id2} {v : Value} {w : World} (h : GroupAt B f b m x v w) (hx : WfI x) : ∃ A c, v = .slice A (f x).length c := by
  rcases (h.row hx).2 with ⟨hv, h0⟩ | ⟨g, cap, cur, hv, _⟩
  · rw [h0]; exact ⟨_, _, hv⟩
  · exact ⟨_, _, hv⟩
theorem GroupAt.cells {B : Nat} {f : Id2 → List Id2} {b m : Nat} {x : Id2} {A : Option Addr} {c : Nat} {w : World} (h : GroupAt B f b m x (.slice A (f x).length c) w) (hx : WfI x) : CellsAt w w.heap.size A (idsCells (f x)) := CellsAt.of_own (h.row hx)
theorem GroupAt.map {B : Nat} {f : Id2 → List Id2} {b m : Nat} {x : Id2} {v : Value} {w : World} (h : GroupAt B f b m x v w) : Groups B f b m w := by
  obtain ⟨D, V, h0, h1, hB, _, r⟩ := h
  exact ⟨D, V, h0, h1, hB, r⟩

/-- 'm[x]'. -/
theorem group_look {B : Nat} {f : Id2 → List Id2} {b m : Nat} {w : World} (h : Groups B f b m w) {x : Id2} (hx : WfI x) :
    ∃ v, (Instr.lookup 79 (.map (some b)) (.agg #[.int .u64 x.1, .int .u64 x.2]) false).run Tryz.prog w = .ok v w ∧ GroupAt B f b m x v w := by
  obtain ⟨D, V, h0, h1, hB, h2, h3, h4⟩ := h
  obtain ⟨v, ps, hrun, hv⟩ := h0.lookup Tryz.keyedID Tryz.underlying79 (Tryz.zeroValue69 w) sliceD_nil (key_of hx)
  refine ⟨v, hrun, D, V, h0, h1, hB, ?_, h2, h3, h4⟩
  refine sliceD_inj hv ?_ (h2 x hx)
  rcases sliceD_own (h3 x hx) with e | ⟨g, c, e⟩
  · exact Or.inl e
  · exact Or.inr ⟨g, _, c, e⟩
/-- A nil map. -/
theorem group_nil {x : Id2} (hx : WfI x) (w : World) : (Instr.lookup 79 (.map none) (.agg #[.int .u64 x.1, .int .u64 x.2]) false).run Tryz.prog w = .ok (.slice none 0 0) w := by
  have h1 : (Instr.checkKey true 10000 35 (.agg #[.int .u64 x.1, .int .u64 x.2])).run Tryz.prog w = .ok () w := Tryz.keyedID.check w true (key_of hx)
  have h2 : (Instr.findKey 35 (.agg #[.int .u64 x.1, .int .u64 x.2]) []).run Tryz.prog w = .ok none w := by
    rcases Tryz.keyedID.find w (key_of hx) [] (fun _ h => by cases h) with ⟨h, _⟩ | ⟨j, e, _, h, _⟩
    · exact h
    · simp at h
  have h3 : (zeroValue 69).run Tryz.prog w = .ok (.slice none 0 0) w := Tryz.zeroValue69 w
  simp [Instr.lookup, run_underlying Tryz.underlying79, h1, h2, h3, Result.andThen]

/-! ### 'm[x] = append(m[x], n)' -/
/-- The list of x with n behind it. -/
def growF (f : Id2 → List Id2) (x n : Id2) : Id2 → List Id2 := fun y => if y = x then f x ++ [n] else f y
/-- What 'entryStore' will do, as long as the map's block stays as it is. -/
def Stores (b m : Nat) (x : Id2) (D : DataW Unit) (st : Nat) (es : Array MapEntry) (clock : Nat) : Prop :=
  ∀ (w2 : World) (val : Value) (d : DataW Unit), sliceD val = some (d, []) → w2.heap[b]? = some (.map es clock) →
    ∃ w3, (Instr.entryStore 79 (.map (some b)) (goInt st) val).run Tryz.prog w2 = .ok () w3 ∧ w3.ownsMap Tryz.prog 35 sliceD b (m + 1) (D.put (keyI x) d) ∧ w2.grownBy w3 (some b)
/-- The entry of x is there; v is the list at x. -/
def Pend (B : Nat) (f : Id2 → List Id2) (b m : Nat) (x : Id2) (v : Value) (st : Nat) (w : World) : Prop :=
  b < B ∧ B ≤ w.heap.size ∧ ∃ (D : DataW Unit) (V : Id2 → Value) (es : Array MapEntry) (clock : Nat), w.heap[b]? = some (.map es clock) ∧ Stores b m x D st es clock ∧ Maps.IsMap D ∧ v = V x ∧
    (∀ y, WfI y → sliceD (V y) = some (D.atKey (keyI y) .nil, [])) ∧
    (∀ y, WfI y → w.ownsRow B 35 2 (V y) (f y).length (idsCells (f y))) ∧
    (∀ y z, WfI y → WfI z → y ≠ z → (V y).ownBlock = none ∨ (V y).ownBlock ≠ (V z).ownBlock)
theorem Pend.slice {B : Nat} {f : Id2 → List Id2} {b m : Nat} {x : Id2} {v : Value} {st : Nat} {w : World} (h : Pend B f b m x v st w) (hx : WfI x) : ∃ A c, v = .slice A (f x).length c := by
  obtain ⟨_, _, D, V, es, clock, _, _, _, rfl, _, h2, _⟩ := h
  rcases (h2 x hx).2 with ⟨hv, h0⟩ | ⟨g, cap, cur, hv, _⟩
  · rw [h0]; exact ⟨_, _, hv⟩
  · exact ⟨_, _, hv⟩
theorem entry_val {D : DataW Unit} {w : World} {b m : Nat} (h : w.ownsMap Tryz.prog 35 sliceD b m D) {x : Id2} (hx : WfI x) (hm : m < maxLen) :
    ∃ (v : Value) (ps : List MemPlace) (st : Nat) (es : Array MapEntry) (clock : Nat) (w1 : World), (Instr.mapEntry 79 (.map (some b)) (.agg #[.int .u64 x.1, .int .u64 x.2])).run Tryz.prog w = .ok (.tuple #[v, goInt st]) w1 ∧
      sliceD v = some (D.atKey (keyI x) .nil, ps) ∧ w1.heap[b]? = some (.map es clock) ∧ w.grownBy w1 (some b) ∧ Stores b m x D st es clock := by
  have h0 := h
  obtain ⟨es, clock, hb, F, hs, hD⟩ := h
  obtain ⟨v, st, es1, clock1, hrun, hwho, hstore⟩ := WideElems.entry_then_store (R := sliceD) Tryz.arrID.law Tryz.underlying79 (fun u => Tryz.zeroValue69 u) hb F (key_of hx)
  have hat := WideShapes.atKey_sorted (es.toList.map (WideElems.rg Tryz.prog 35 sliceD)) (Maps.fit_rising Tryz.keyedID F) (keyI x) (Tryz.keyedID.key (key_of hx))
  have hval : ∃ ps, sliceD v = some (D.atKey (keyI x) .nil, ps) := by
    rw [hD]
    rcases hwho with ⟨e0, he0, hk, rfl⟩ | ⟨hno, rfl⟩
    · obtain ⟨y0, hy0⟩ := F.reads e0 he0
      obtain ⟨zv, hzv, hd⟩ := WideElems.rd_val hy0
      have m0 := WideElems.rd_key hy0
      rw [hk, key_of hx] at m0
      refine ⟨zv.2, ?_⟩
      rw [hat.2 (WideElems.rg Tryz.prog 35 sliceD e0) (List.mem_map.2 ⟨e0, he0, rfl⟩) (by rw [WideElems.rg_of hy0]; exact (Option.some.inj m0).symm), WideElems.rg_of hy0, hzv, hd]
    · refine ⟨[], ?_⟩
      rw [hat.1 (fun p hp e1 => ?_)]
      · rfl
      · obtain ⟨e0, he0, rfl⟩ := List.mem_map.1 hp
        obtain ⟨y0, hy0⟩ := F.reads e0 he0
        have m1 := WideElems.rd_key hy0
        rw [WideElems.rg_of hy0] at e1
        rw [e1] at m1
        exact hno e0 he0 (Tryz.keyedID.inj m1 (key_of hx))
  obtain ⟨ps, hps⟩ := hval
  refine ⟨v, ps, st, es1, clock1, _, hrun, hps, ChangeMaps.heap_setBlock_same hb _, ⟨rfl, rfl, rfl, by simp [ChangeMaps.setBlock], fun i _ hi => ChangeMaps.heap_setBlock_other hb _ (fun e1 => hi (by rw [e1]))⟩, ?_⟩
  intro w2 val d hd hw2
  obtain ⟨es', clock', hr2, hup⟩ := hstore w2 val hw2
  obtain ⟨w', hup', hown, _⟩ := h0.update Tryz.keyedID Tryz.underlying79 hm (key_of hx) hd
  rw [hup] at hup'
  injection hup' with _ hup'
  subst hup'
  obtain ⟨es2, clock2, hb2, F2, hs2, hD2⟩ := hown
  rw [ChangeMaps.heap_setBlock_same hb] at hb2
  injection hb2 with hb2
  injection hb2 with hb3 hb4
  subst hb3 hb4
  exact ⟨_, hr2, ⟨es', clock', ChangeMaps.heap_setBlock_same hw2 _, F2, hs2, hD2⟩, ⟨rfl, rfl, rfl, by simp [ChangeMaps.setBlock], fun i _ hi => ChangeMaps.heap_setBlock_other hw2 _ (fun e1 => hi (by rw [e1]))⟩⟩
theorem group_entry {B : Nat} {f : Id2 → List Id2} {b m : Nat} {w : World} (h : Groups B f b m w) {x : Id2} (hx : WfI x) (hm : m < maxLen) :
    ∃ (v : Value) (st : Nat) (w1 : World), (Instr.mapEntry 79 (.map (some b)) (.agg #[.int .u64 x.1, .int .u64 x.2])).run Tryz.prog w = .ok (.tuple #[v, goInt st]) w1 ∧ Pend B f b m x v st w1 ∧ w.grownBy w1 (some b) := by
  obtain ⟨D, V, h0, h1, hB, h2, h3, h4⟩ := h
  obtain ⟨v, ps, st, es, clock, w1, hrun, hv, hb1, hg, hst⟩ := entry_val h0 hx hm
  refine ⟨v, st, w1, hrun, ⟨h1, Nat.le_trans hB hg.size, D, V, es, clock, hb1, hst, h0.isMap, ?_, h2, fun y hy => (h3 y hy).kept hg ?_, h4⟩, hg⟩
  · refine sliceD_inj hv ?_ (h2 x hx)
    rcases sliceD_own (h3 x hx) with e | ⟨g, c, e⟩
    · exact Or.inl e
    · exact Or.inr ⟨g, _, c, e⟩
  · cases q : (V y).ownBlock with
    | none => exact Or.inl rfl
    | some j =>
      have := ((h3 y hy).lt j q).1
      refine Or.inr fun e => ?_
      injection e with e
      omega
/-- Behind the append: the longer list. -/
def Grew (B : Nat) (f : Id2 → List Id2) (b m : Nat) (x n : Id2) (st : Nat) (v' : Value) (w : World) : Prop :=
  b < B ∧ B ≤ w.heap.size ∧ w.ownsRow B 35 2 v' (f x ++ [n]).length (idsCells (f x ++ [n])) ∧ ∃ (D : DataW Unit) (V : Id2 → Value) (es : Array MapEntry) (clock : Nat), w.heap[b]? = some (.map es clock) ∧ Stores b m x D st es clock ∧ Maps.IsMap D ∧
    (∀ y, WfI y → sliceD (V y) = some (D.atKey (keyI y) .nil, [])) ∧
    (∀ y, WfI y → y ≠ x → w.ownsRow B 35 2 (V y) (f y).length (idsCells (f y)) ∧ ((V y).ownBlock = none ∨ (V y).ownBlock ≠ v'.ownBlock)) ∧
    (∀ y z, WfI y → WfI z → y ≠ z → (V y).ownBlock = none ∨ (V y).ownBlock ≠ (V z).ownBlock)
theorem group_store {B : Nat} {f : Id2 → List Id2} {b m : Nat} {x n : Id2} {st : Nat} {v' : Value} {w : World} (h : Grew B f b m x n st v' w) (hx : WfI x) :
    ∃ w', (Instr.entryStore 79 (.map (some b)) (goInt st) v').run Tryz.prog w = .ok () w' ∧ Groups B (growF f x n) b (m + 1) w' ∧ w.grownBy w' (some b) := by
  obtain ⟨h0, hB, hrow, D, V, es, clock, hb, hst, hD, h1, h2, h3⟩ := h
  obtain ⟨d, hd⟩ : ∃ d, sliceD v' = some (d, []) := by
    rcases sliceD_own hrow with rfl | ⟨g, c, rfl⟩
    · exact ⟨_, rfl⟩
    · exact ⟨_, rfl⟩
  obtain ⟨w', hrun, hmap', hgr⟩ := hst w v' d hd hb
  have hown : ∀ {u : Value} {l : List Id2}, w.ownsRow B 35 2 u l.length (idsCells l) → w'.ownsRow B 35 2 u l.length (idsCells l) := fun {u l} h => h.kept hgr (by
    cases q : u.ownBlock with
    | none => exact Or.inl rfl
    | some j =>
      have := (h.lt j q).1
      refine Or.inr fun e => ?_
      injection e with e
      omega)
  refine ⟨w', hrun, ⟨_, fun y => if y = x then v' else V y, hmap', h0, Nat.le_trans hB hgr.size, fun y hy => ?_, fun y hy => ?_, fun y z hy hz hne => ?_⟩, hgr⟩
  · dsimp only
    by_cases e : y = x
    · subst e
      rw [if_pos rfl, Maps.atKey_put_same hD (Tryz.keyedID.key (key_of hx))]
      exact hd
    · rw [if_neg e, Maps.atKey_put_other (fun q => e (keyI_inj hy hx q))]
      exact h1 y hy
  · unfold growF
    dsimp only
    by_cases e : y = x
    · subst e
      rw [if_pos rfl, if_pos rfl]
      exact hown hrow
    · rw [if_neg e, if_neg e]
      exact hown (h2 y hy e).1
  · dsimp only
    by_cases e : y = x
    · subst e
      rw [if_pos rfl, if_neg (fun q => hne q.symm)]
      rcases (h2 z hz (fun q => hne q.symm)).2 with q | q
      · rw [q]
        cases v'.ownBlock with
        | none => exact Or.inl rfl
        | some j => exact Or.inr (by simp)
      · cases r : v'.ownBlock with
        | none => exact Or.inl rfl
        | some j => exact Or.inr (by rw [← r]; exact fun e => q e.symm)
    · rw [if_neg e]
      by_cases e2 : z = x
      · subst e2
        rw [if_pos rfl]
        exact (h2 y hy e).2
      · rw [if_neg e2]
        exact h3 y z hy hz hne

/-! ### .. at the steps of a region -/
section
variable {ops : Array Oper} {o : Oper} {a : Act} {K : Act → World → Prop} {Q : Exit → Act → World → Prop} {E : Prop} (w : World)
theorem step_entry (hgd : Region.wanted o (yielded ops a.tmps) = true) (m x : Operand) (ho : o.op = .mapEntry 79 m x) (B : Nat) (f : Id2 → List Id2) (b k : Nat) (hm : a.eval m = .map (some b)) (HG : Groups B f b k w) (hk : k < maxLen) (i : Id2) (hx : a.eval x = .agg #[.int .u64 i.1, .int .u64 i.2]) (hi : WfI i)
    (h : ∀ A c st w', Pend B f b k i (.slice A (f i).length c) st w' → w.grownBy w' (some b) → K (a.put o.dst (.tuple #[.slice A (f i).length c, .int .i64 (st : Nat)])) w') :
    if Region.wanted o (yielded ops a.tmps) = true then Oper.wp Tryz.prog o a w K Q else E := by
  rw [if_pos hgd]
  obtain ⟨v, st, w1, hrun, hp, hg⟩ := group_entry HG hi hk
  obtain ⟨A, c, rfl⟩ := hp.slice hi
  unfold Oper.wp
  simp only [execOp, ho, hm, hx, hrun, Sem.run_bind, Result.andThen]
  exact h A c st w1 hp hg
theorem step_grew (hgd : Region.wanted o (yielded ops a.tmps) = true) (s y : Operand)
    (ho : o.op = .call { callee := .builtin .append, args := #[s, y], argTypes := #[69, 69] })
    (B : Nat) (f : Id2 → List Id2) (b m : Nat) (x : Id2) (hx : WfI x) (v : Value) (hs : a.eval s = v) (st : Nat) (HP : Pend B f b m x v st w) (B2 : Nat) (A : Option Addr) (c : Nat) (n : Id2) (hy : a.eval y = .slice A 1 c)
    (hr : CellsAt w B2 A (idsCells [n])) (hlen : (f x).length + 1 ≤ 10000000)
    (h : ∀ A' c' w', Grew B f b m x n st (.slice A' ((f x).length + 1) c') w' → w.grownBy w' v.ownBlock → (∀ g, v.ownBlock = some g → B ≤ g) → K (a.put o.dst (.slice A' ((f x).length + 1) c')) w') :
    if Region.wanted o (yielded ops a.tmps) = true then Oper.wp Tryz.prog o a w K Q else E := by
  rw [if_pos hgd]
  obtain ⟨i0, hi0, hz0, hz1, hz2⟩ := info_of Tryz.infoID
  obtain ⟨hbB, hB, D, V, es, clock, hb, hst, hD, rfl, h1, h2, h3⟩ := HP
  have hrow := h2 x hx
  refine wp_app w s y _ ho B 35 i0 _ 2 16 Tryz.underlying69 hi0 hz0 hz1 hz2 rfl (by omega) (V x) (f x).length (idsCells (f x)) hs hrow B2 A 1 c (idsCells [n]) hy (by rw [idsCells_length]; rfl) hr (idsCells_one _)
    (by unfold maxLen; omega) (by omega) hB ?_
  intro v' w' own g hat
  have hle := g.size
  rw [idsCells_append] at own
  have own' : w'.ownsRow B 35 2 v' (f x ++ [n]).length (idsCells (f x ++ [n])) := by rw [List.length_append]; exact own
  obtain ⟨A', c', rfl⟩ : ∃ A' c', v' = .slice A' ((f x).length + 1) c' := by
    rcases own.2 with ⟨_, h0⟩ | ⟨g, cap, cur, hv, _⟩
    · omega
    · exact ⟨_, _, hv⟩
  refine h A' c' w' ⟨hbB, Nat.le_trans hB hle, own', D, V, es, clock, (g.block b (Array.getElem?_eq_some_iff.1 hb).1 fun e => ?_).trans hb, hst, hD, h1, fun z hz hne => ?_, h3⟩ g (fun j hj => (hrow.lt j hj).1)
  · have := (hrow.lt b e.symm).1
    omega
  · refine ⟨(h2 z hz).kept g (h3 z x hz hx hne), ?_⟩
    rcases hat with e | e
    · rw [e]; exact h3 z x hz hx hne
    · rw [e]
      cases q : (V z).ownBlock with
      | none => exact Or.inl rfl
      | some j =>
        have := ((h2 z hz).lt j q).2
        refine Or.inr fun k => ?_
        injection k with k
        omega
theorem step_store (hgd : Region.wanted o (yielded ops a.tmps) = true) (m s x : Operand) (ho : o.op = .entryStore 79 m s x) (B : Nat) (f : Id2 → List Id2) (b k : Nat) (hm : a.eval m = .map (some b)) (i n : Id2) (hi : WfI i) (st : Nat) (hs : a.eval s = .int .i64 (st : Nat)) (v' : Value) (hx : a.eval x = v') (HG : Grew B f b k i n st v' w)
    (h : ∀ w', Groups B (growF f i n) b (k + 1) w' → w.grownBy w' (some b) → K (a.put o.dst undef) w') :
    if Region.wanted o (yielded ops a.tmps) = true then Oper.wp Tryz.prog o a w K Q else E := by
  rw [if_pos hgd]
  obtain ⟨w', hrun, hg, hgr⟩ := group_store HG hi
  unfold Oper.wp
  have hs' : a.eval s = goInt st := hs
  simp only [execOp, ho, hm, hx, hs', hrun, Sem.run_bind, Sem.run_pure, Result.andThen]
  exact h w' hg hgr
end

end Go.Proofs.YtlapcnfhnfkbmaaGreat
