/-
  A map of one's own, whatever its keys and what it holds: block b holds, at each key x, the value f x; asked, stored into, and by an entry.
-/
import Derived.Maps.OwnIn
import Derived.Maps.OwnSet
import Derived.Maps.RangeWalk
import Derived.WideKeyEntry
import Derived.WideKeyPair
import Derived.Deep.RegionHeld3
import Derived.Test.YtacdiicnfoejoaaGround
namespace Go.Proofs.Ytacdiicnfoejoaa
set_option maxRecDepth 100000
set_option linter.unusedVariables false
set_option linter.unusedSimpArgs false
set_option linter.unusedSimpArgs false
set_option linter.unusedVariables false
open Go.ChangeShapes Go.WideShapes Go.ChangeAt Go.RowKit

/-- A kind of keys. -/
structure KeyKind (α : Type) where
  k : TypeId
  key : α → Value
  lit : α → Lit
  wf : α → Prop
  keyed : Maps.Keyed Try.prog k
  kof : ∀ {x : α}, wf x → keyOf Try.prog k (key x) = some (lit x)
  inj : ∀ {x y : α}, wf x → wf y → lit x = lit y → x = y
/-- A kind of what a map holds. -/
structure ValKind (β : Type) where
  e : TypeId
  R : Value → Option (DataW Unit × List MemPlace)
  enc : β → Value
  dat : β → DataW Unit
  ok : β → Prop
  zero : β
  reads : ∀ {y : β}, ok y → R (enc y) = some (dat y, [])
  inv : ∀ {v : Value} {y : β} {ps : List MemPlace}, ok y → R v = some (dat y, ps) → v = enc y
  zok : ok zero
  zrun : ∀ u : World, (zeroValue e).run Try.prog u = .ok (enc zero) u

/-- f with y at x. -/
def setF {α β : Type} [DecidableEq α] (f : α → β) (x : α) (y : β) : α → β := fun z => if z = x then y else f z
theorem setF_same {α β : Type} [DecidableEq α] (f : α → β) (x : α) (y : β) : setF f x y x = y := if_pos rfl
theorem setF_other {α β : Type} [DecidableEq α] {f : α → β} {x z : α} (y : β) (h : z ≠ x) : setF f x y z = f z := if_neg h

section
variable {α β : Type} (K : KeyKind α) (V : ValKind β)
/-- D holds, at each key, what f says. -/
def TieF (f : α → β) (D : DataW Unit) : Prop := ∀ x, K.wf x → V.ok (f x) ∧ D.atKey (K.lit x) (V.dat V.zero) = V.dat (f x)
/-- .. and has the keys that h says. -/
def TieH (h : α → Bool) (D : DataW Unit) : Prop := ∀ x, K.wf x → Maps.has D (K.lit x) = h x
def OwnF (b n : Nat) (f : α → β) (w : World) : Prop := ∃ D, w.ownsMap Try.prog K.k V.R b n D ∧ TieF K V f D
def OwnH (b n : Nat) (f : α → β) (h : α → Bool) (w : World) : Prop := ∃ D, w.ownsMap Try.prog K.k V.R b n D ∧ TieF K V f D ∧ TieH K h D
variable {K V}
theorem OwnH.f {b n : Nat} {f : α → β} {h : α → Bool} {w : World} (H : OwnH K V b n f h w) : OwnF K V b n f w := by
  obtain ⟨D, h1, h2, _⟩ := H; exact ⟨D, h1, h2⟩
theorem ownsMap_keep {P : Program} {k : TypeId} {R : Value → Option (DataW Unit × List MemPlace)} {w w' : World} {b n : Nat} {D : DataW Unit} (h : w.ownsMap P k R b n D) (e : w'.heap[b]? = w.heap[b]?) : w'.ownsMap P k R b n D := by
  obtain ⟨es, clock, hb, r⟩ := h
  exact ⟨es, clock, e.trans hb, r⟩
theorem OwnF.lt {b n : Nat} {f : α → β} {w : World} (H : OwnF K V b n f w) : b < w.heap.size := by
  obtain ⟨D, ⟨es, clock, hb, r⟩, h2⟩ := H
  exact (Array.getElem?_eq_some_iff.1 hb).1
theorem OwnF.at {b n : Nat} {f : α → β} {w w' : World} (H : OwnF K V b n f w) (e : w'.heap[b]? = w.heap[b]?) : OwnF K V b n f w' := by
  obtain ⟨D, h1, h2⟩ := H; exact ⟨D, ownsMap_keep h1 e, h2⟩
theorem OwnH.at {b n : Nat} {f : α → β} {h : α → Bool} {w w' : World} (H : OwnH K V b n f h w) (e : w'.heap[b]? = w.heap[b]?) : OwnH K V b n f h w' := by
  obtain ⟨D, h1, h2⟩ := H; exact ⟨D, ownsMap_keep h1 e, h2⟩
theorem OwnF.kept {b n : Nat} {f : α → β} {w w' : World} (H : OwnF K V b n f w) (k : Kept w w') : OwnF K V b n f w' := H.at (k.heap H.lt)
theorem OwnH.kept {b n : Nat} {f : α → β} {h : α → Bool} {w w' : World} (H : OwnH K V b n f h w) (k : Kept w w') : OwnH K V b n f h w' := H.at (k.heap H.f.lt)
theorem OwnF.mono {b n m : Nat} {f : α → β} {w : World} (H : OwnF K V b n f w) (hn : n ≤ m) : OwnF K V b m f w := by
  obtain ⟨D, h1, h2⟩ := H; exact ⟨D, h1.mono hn, h2⟩
theorem OwnF.congr {b n : Nat} {f g : α → β} {w : World} (H : OwnF K V b n f w) (e : ∀ x, K.wf x → g x = f x) : OwnF K V b n g w := by
  obtain ⟨D, h1, h2⟩ := H; exact ⟨D, h1, fun x hx => by rw [e x hx]; exact h2 x hx⟩
theorem OwnH.congr {b n : Nat} {f g : α → β} {h h' : α → Bool} {w : World} (H : OwnH K V b n f h w) (e : ∀ x, K.wf x → g x = f x) (e' : ∀ x, K.wf x → h' x = h x) : OwnH K V b n g h' w := by
  obtain ⟨D, h1, h2, h3⟩ := H; exact ⟨D, h1, fun x hx => by rw [e x hx]; exact h2 x hx, fun x hx => by rw [e' x hx]; exact h3 x hx⟩
theorem OwnH.made (w : World) : OwnH K V w.heap.size 0 (fun _ => V.zero) (fun _ => false) (w.alloc (.map #[] 0)) :=
  ⟨.map [], World.ownsMap_made w _ _ _, fun _ _ => ⟨V.zok, rfl⟩, fun _ _ => rfl⟩
theorem OwnF.made (w : World) : OwnF K V w.heap.size 0 (fun _ => V.zero) (w.alloc (.map #[] 0)) := (OwnH.made w).f

/-! ### 'm[x]' -/
theorem OwnF.look {t : TypeId} (ht : Try.prog.underlying t = some (.map K.k V.e)) {b n : Nat} {f : α → β} {w : World} (H : OwnF K V b n f w) {x : α} (hx : K.wf x) :
    (Instr.lookup t (.map (some b)) (K.key x) false).run Try.prog w = .ok (V.enc (f x)) w := by
  obtain ⟨D, h1, h2⟩ := H
  obtain ⟨v, ps, hrun, hv⟩ := h1.lookup K.keyed ht (V.zrun w) (V.reads V.zok) (K.kof hx)
  rw [(h2 x hx).2] at hv
  rw [hrun, V.inv (h2 x hx).1 hv]
theorem OwnH.look_ok {t : TypeId} (ht : Try.prog.underlying t = some (.map K.k V.e)) {b n : Nat} {f : α → β} {h : α → Bool} {w : World} (H : OwnH K V b n f h w) {x : α} (hx : K.wf x) :
    (Instr.lookup t (.map (some b)) (K.key x) true).run Try.prog w = .ok (.tuple #[V.enc (f x), .bool (h x)]) w := by
  obtain ⟨D, h1, h2, h3⟩ := H
  obtain ⟨v, ps, hrun, hv⟩ := h1.look_ok K.keyed ht (V.zrun w) (V.reads V.zok) (K.kof hx)
  rw [(h2 x hx).2] at hv
  rw [hrun, V.inv (h2 x hx).1 hv, h3 x hx]
/-- A key that D lacks. -/
theorem TieF.none {f : α → β} {D : DataW Unit} (h : TieF K V f D) {x : α} (hx : K.wf x) (hn : Maps.has D (K.lit x) = false) : V.dat (f x) = V.dat V.zero := by
  rw [← (h x hx).2, Maps.atKey_of_not_has hn]

/-! ### 'm[x] = y' -/
variable [DecidableEq α]
theorem TieF.put {f : α → β} {D : DataW Unit} (h : TieF K V f D) (hD : Maps.IsMap D) {x : α} (hx : K.wf x) {y : β} (hy : V.ok y) : TieF K V (setF f x y) (D.put (K.lit x) (V.dat y)) := fun z hz => by
  have hk : WideAt.IsKeyLit (K.lit x) := K.keyed.key (K.kof hx)
  by_cases e : z = x
  · subst e
    rw [setF_same]
    exact ⟨hy, Maps.atKey_put_same hD hk _ _⟩
  · rw [setF_other _ e]
    have hne : K.lit z ≠ K.lit x := fun q => e (K.inj hz hx q)
    exact ⟨(h z hz).1, (Maps.atKey_put_other hne _ _).trans (h z hz).2⟩
theorem TieH.put {h : α → Bool} {D : DataW Unit} (H : TieH K h D) (hD : Maps.IsMap D) {x : α} (hx : K.wf x) (d : DataW Unit) : TieH K (setF h x true) (D.put (K.lit x) d) := fun z hz => by
  have hk : WideAt.IsKeyLit (K.lit x) := K.keyed.key (K.kof hx)
  by_cases e : z = x
  · subst e
    rw [setF_same]
    exact Maps.has_put_same hD hk _
  · rw [setF_other _ e]
    have hne : K.lit z ≠ K.lit x := fun q => e (K.inj hz hx q)
    exact (Maps.has_put_other hne _).trans (H z hz)
theorem OwnH.update {t : TypeId} (ht : Try.prog.underlying t = some (.map K.k V.e)) {b n : Nat} {f : α → β} {h : α → Bool} {w : World} (H : OwnH K V b n f h w) (hn : n < maxLen) {x : α} (hx : K.wf x) {y : β} (hy : V.ok y) :
    ∃ w', (Instr.mapUpdate t (.map (some b)) (K.key x) (V.enc y)).run Try.prog w = .ok () w' ∧ OwnH K V b (n + 1) (setF f x y) (setF h x true) w' ∧ w.grownBy w' (some b) := by
  obtain ⟨D, h1, h2, h3⟩ := H
  obtain ⟨w', hrun, r1, r2⟩ := h1.update K.keyed ht hn (K.kof hx) (V.reads hy)
  exact ⟨w', hrun, ⟨_, r1, h2.put h1.isMap hx hy, h3.put h1.isMap hx _⟩, r2⟩
theorem OwnF.update {t : TypeId} (ht : Try.prog.underlying t = some (.map K.k V.e)) {b n : Nat} {f : α → β} {w : World} (H : OwnF K V b n f w) (hn : n < maxLen) {x : α} (hx : K.wf x) {y : β} (hy : V.ok y) :
    ∃ w', (Instr.mapUpdate t (.map (some b)) (K.key x) (V.enc y)).run Try.prog w = .ok () w' ∧ OwnF K V b (n + 1) (setF f x y) w' ∧ w.grownBy w' (some b) := by
  obtain ⟨D, h1, h2⟩ := H
  obtain ⟨w', hrun, r1, r2⟩ := h1.update K.keyed ht hn (K.kof hx) (V.reads hy)
  exact ⟨w', hrun, ⟨_, r1, h2.put h1.isMap hx hy⟩, r2⟩

/-! ### By an entry -/
/-- The entry of x is there: 'entryStore' will store at x, as long as the map's block stays as it is. -/
def PendF (K : KeyKind α) (V : ValKind β) (t : TypeId) (b n : Nat) (f : α → β) (x : α) (st : Nat) (w : World) : Prop :=
  OwnF K V b (n + 1) f w ∧ ∀ (w2 : World) (y : β), V.ok y → w2.heap[b]? = w.heap[b]? → ∃ w3, (Instr.entryStore t (.map (some b)) (.int .i64 (st : Nat)) (V.enc y)).run Try.prog w2 = .ok () w3 ∧ OwnF K V b (n + 1) (setF f x y) w3 ∧ w2.grownBy w3 (some b)
theorem PendF.at {t : TypeId} {b n : Nat} {f : α → β} {x : α} {st : Nat} {w w' : World} (h : PendF K V t b n f x st w) (e : w'.heap[b]? = w.heap[b]?) : PendF K V t b n f x st w' :=
  ⟨h.1.at e, fun w2 y hy h2 => h.2 w2 y hy (h2.trans e)⟩
theorem grown_setBlock {w : World} {b : Nat} {es es' : Array MapEntry} {clock clock' : Nat} (hb : w.heap[b]? = some (.map es clock)) : w.grownBy (ChangeMaps.setBlock w b (.map es' clock')) (some b) :=
  ⟨rfl, rfl, rfl, by simp [ChangeMaps.setBlock], fun i _ hi => ChangeMaps.heap_setBlock_other hb _ (fun e1 => hi (by rw [e1]))⟩
theorem OwnF.entry {t : TypeId} (ht : Try.prog.underlying t = some (.map K.k V.e)) (L : WideMaps.KeyLaw Try.prog K.k) {b n : Nat} {f : α → β} {w : World} (H : OwnF K V b n f w) (hn : n < maxLen) {x : α} (hx : K.wf x) :
    ∃ (st : Nat) (w1 : World), (Instr.mapEntry t (.map (some b)) (K.key x)).run Try.prog w = .ok (.tuple #[V.enc (f x), .int .i64 (st : Nat)]) w1 ∧ PendF K V t b n f x st w1 ∧ w.grownBy w1 (some b) := by
  obtain ⟨D, h0, h2⟩ := H
  have h0' := h0
  obtain ⟨es, clock, hb, F, hs, hD⟩ := h0
  obtain ⟨v0, st, es1, clock1, hrun, hwho, hstore⟩ := WideElems.entry_then_store (R := V.R) L ht V.zrun hb F (K.kof hx)
  have hat := WideShapes.atKey_sorted (es.toList.map (WideElems.rg Try.prog K.k V.R)) (Maps.fit_rising K.keyed F) (K.lit x) (K.keyed.key (K.kof hx))
  -- what was there at x
  have hv0 : v0 = V.enc (f x) := by
    obtain ⟨v, ps, hrun2, hv⟩ := h0'.lookup K.keyed ht (V.zrun w) (V.reads V.zok) (K.kof hx)
    rw [(h2 x hx).2] at hv
    have hx2 := (h2 x hx).2
    rcases hwho with ⟨e0, he0, hk, rfl⟩ | ⟨hno, rfl⟩
    · obtain ⟨y0, hy0⟩ := F.reads e0 he0
      obtain ⟨zv, hzv, hd⟩ := WideElems.rd_val hy0
      have m0 := WideElems.rd_key hy0
      rw [hk, K.kof hx] at m0
      rw [hD, hat.2 (WideElems.rg Try.prog K.k V.R e0) (List.mem_map.2 ⟨e0, he0, rfl⟩) (by rw [WideElems.rg_of hy0]; exact (Option.some.inj m0).symm), WideElems.rg_of hy0, hd] at hx2
      refine V.inv (h2 x hx).1 (ps := zv.2) ?_
      rw [hzv, ← hx2]
    · rw [hD, hat.1 (fun p hp e1 => ?_)] at hx2
      · refine V.inv (h2 x hx).1 (ps := []) ?_
        rw [V.reads V.zok, hx2]
      · obtain ⟨e0, he0, rfl⟩ := List.mem_map.1 hp
        obtain ⟨y0, hy0⟩ := F.reads e0 he0
        have m1 := WideElems.rd_key hy0
        rw [WideElems.rg_of hy0] at e1
        rw [e1] at m1
        exact hno e0 he0 (K.keyed.inj m1 (K.kof hx))
  -- the store, as mapUpdate would do it
  have hup : ∀ (w2 : World) (y : β), V.ok y → w2.heap[b]? = some (.map es1 clock1) → ∃ w3, (Instr.entryStore t (.map (some b)) (.int .i64 (st : Nat)) (V.enc y)).run Try.prog w2 = .ok () w3 ∧ OwnF K V b (n + 1) (setF f x y) w3 ∧ w2.grownBy w3 (some b) := by
    intro w2 y hy hw2
    obtain ⟨es', clock', hr2, hu⟩ := hstore w2 (V.enc y) hw2
    obtain ⟨w', hup', hown, _⟩ := h0'.update K.keyed ht hn (K.kof hx) (V.reads hy)
    rw [hu] at hup'
    injection hup' with _ hup'
    subst hup'
    obtain ⟨es2, clock2, hb2, F2, hs2, hD2⟩ := hown
    rw [ChangeMaps.heap_setBlock_same hb] at hb2
    injection hb2 with hb2
    injection hb2 with hb3 hb4
    subst hb3 hb4
    exact ⟨_, hr2, ⟨_, ⟨es', clock', ChangeMaps.heap_setBlock_same hw2 _, F2, hs2, rfl⟩, by rw [← hD2]; exact h2.put h0'.isMap hx hy⟩, grown_setBlock hw2⟩
  refine ⟨st, _, by rw [← hv0]; exact hrun, ⟨?_, fun w2 y hy e => hup w2 y hy (e.trans (ChangeMaps.heap_setBlock_same hb _))⟩, grown_setBlock hb⟩
  -- the map with the entry reads as it did
  have hes1 : (es1 = es ∧ clock1 = clock) ∨ (∃ w', (Instr.mapUpdate t (.map (some b)) (K.key x) (V.enc V.zero)).run Try.prog w = .ok () w' ∧ w' = ChangeMaps.setBlock w b (.map es1 clock1) ∧ f x = f x ∧ V.dat (f x) = V.dat V.zero) := by
    obtain ⟨s1, s2, _⟩ := F.stamped
    rcases L.find w (K.kof hx) es.toList F.keys with ⟨h1, h3⟩ | ⟨j, e0, h1, h3, h4⟩
    · right
      have hr1 : (Instr.mapEntry t (.map (some b)) (K.key x)).run Try.prog w = .ok (.tuple #[V.enc V.zero, goInt clock]) (ChangeMaps.setBlock w b (.map (es.push ⟨K.key x, V.enc V.zero, clock⟩) (clock + 1))) := by
        simp [Instr.mapEntry, run_underlying ht, MapKept.run_getObj_map hb, L.check w false (K.kof hx), h1, V.zrun, MapKept.run_setObj_map _ hb, Result.andThen, ChangeMaps.setBlock]
      have hr2 : (Instr.mapUpdate t (.map (some b)) (K.key x) (V.enc V.zero)).run Try.prog w = .ok () (ChangeMaps.setBlock w b (.map (es.push ⟨K.key x, V.enc V.zero, clock⟩) (clock + 1))) := by
        simp [Instr.mapUpdate, run_underlying ht, MapKept.run_getObj_map hb, L.check w false (K.kof hx), h1, MapKept.run_setObj_map _ hb, Result.andThen, ChangeMaps.setBlock]
      rw [hr1] at hrun
      injection hrun with _ hrun
      refine ⟨_, hr2, hrun, rfl, ?_⟩
      have hx2 := (h2 x hx).2
      rw [hD, hat.1 (fun p hp e1 => ?_)] at hx2
      · exact hx2.symm
      · obtain ⟨e0, he0, rfl⟩ := List.mem_map.1 hp
        obtain ⟨y0, hy0⟩ := F.reads e0 he0
        have m1 := WideElems.rd_key hy0
        rw [WideElems.rg_of hy0] at e1
        rw [e1] at m1
        exact h3 e0 he0 (K.keyed.inj m1 (K.kof hx))
    · left
      have hj : es[j]? = some e0 := by simpa using h3
      have hsame : es.modify j (fun e => { e with key := K.key x }) = es := by
        apply Array.ext'
        rw [Array.toList_modify, ChangeMaps.modify_eq_set _ _ _ _ h3]
        have : ({ e0 with key := K.key x } : MapEntry) = e0 := by rw [← h4]
        rw [this]
        exact WideElems.set_self _ _ _ h3
      have hr1 : (Instr.mapEntry t (.map (some b)) (K.key x)).run Try.prog w = .ok (.tuple #[e0.val, goInt e0.born]) (ChangeMaps.setBlock w b (.map es clock)) := by
        simp [Instr.mapEntry, run_underlying ht, MapKept.run_getObj_map hb, L.check w false (K.kof hx), h1, hj, h4, L.stays w (K.kof hx), hsame, MapKept.run_setObj_map _ hb, Result.andThen, ChangeMaps.setBlock]
      rw [hr1] at hrun
      injection hrun with _ hrun
      have e1 := ChangeMaps.heap_setBlock_same hb (.map es clock)
      rw [hrun, ChangeMaps.heap_setBlock_same hb] at e1
      injection e1 with e1
      injection e1 with e2 e3
      exact ⟨e2, e3⟩
  rcases hes1 with ⟨rfl, rfl⟩ | ⟨w', hr, rfl, _, hz⟩
  · exact ⟨D, (h0'.mono (Nat.le_succ n)).mono (Nat.le_refl _) |> fun h => ownsMap_keep h ((ChangeMaps.heap_setBlock_same hb _).trans hb.symm), h2⟩
  · obtain ⟨w', hup', hown, _⟩ := h0'.update K.keyed ht hn (K.kof hx) (V.reads V.zok)
    rw [hr] at hup'
    injection hup' with _ hup'
    subst hup'
    refine ⟨_, hown, fun z hz' => ?_⟩
    have := h2.put h0'.isMap hx V.zok z hz'
    by_cases e : z = x
    · subst e
      rw [setF_same] at this
      exact ⟨(h2 z hz').1, this.2.trans hz.symm⟩
    · rwa [setF_other _ e] at this
end

end Go.Proofs.Ytacdiicnfoejoaa
