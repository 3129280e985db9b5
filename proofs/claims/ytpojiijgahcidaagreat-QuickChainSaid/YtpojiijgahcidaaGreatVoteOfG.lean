/-
  The two maps of package votes: by who and slot (a struct), and by who; asked, stored into, and gone over in whatever order.
  The closures of package votes that say which slots fit.
  The contract of package votes' call gather: where a vote of each turn is, of the slots that fit.
  The contract of package votes' call lasts: where the last vote of each is.
  The library's contracts of SortFunc at votes and of Compare, laid at this program's numbers.
  Rows of one's own behind the library's sort: what it leaves, in append's words.
  Votes of one's own, put into order by the library's SortFunc.
  The contracts of package votes' calls counted, Of and Last.
-/
import Derived.Maps.OwnIn
import Derived.Maps.RangeWalk
import Derived.DeepKeys4
import Derived.BigQuiet
import Derived.Deep.QuietTactic
import Derived.Shelf.SlSortCmp.NoneTotal
import Derived.Shelf.SlicesG.Cmp
import Derived.Test.YtpojiijgahcidaaGreatRows
import Derived.Sort.Grow
import Derived.Test.YtpojiijgahcidaaGreatVoteG
import Derived.Test.YtpojiijgahcidaaGreatGround
namespace Go.Proofs.YtpojiijgahcidaaGreat
set_option maxRecDepth 100000
set_option linter.unusedVariables false
set_option linter.unusedSimpArgs false
section
open Go.ChangeShapes Go.WideShapes Go.ChangeAt Go.RowKit

/-! ### Keys -/
theorem Tryz.laidOut : laidOutB Tryz.prog = true := by kernel_rfl
theorem Tryz.rowT : (161 : TypeId) < Tryz.prog.types.size := of_decide_eq_true (by kernel_rfl)
theorem Tryz.cellsT : Tryz.prog.cellsOf 161 = 2 := by kernel_rfl
theorem Tryz.cellsI : Tryz.prog.cellsOf 3 = 1 := by kernel_rfl
theorem Tryz.keyTypeT : Tryz.prog.keyType 161 = true := by kernel_rfl
theorem Tryz.wideT : (match Tryz.prog.underlying 161 with | some (.array _ _) | some (.struct _) => true | _ => false) = true := by rw [Tryz.underlying161]
theorem Tryz.keyedT : Maps.Keyed Tryz.prog 161 := Maps.Keyed.of_law (deep_law_laid Tryz.laidOut (m := 2) (by omega) Tryz.rowT (by kernel_rfl) Tryz.wideT)
theorem Tryz.keyedI : Maps.Keyed Tryz.prog 3 := Maps.int_keyed Tryz.underlying3
/-- What a turn reads as, as a key. -/
def kT (f s : Int) : Lit := .string (keyBytes [.int .i64 f, .int .i64 s])
def kW (f : Int) : Lit := .int .i64 f
theorem keyT_of {f s : Int} (hf : Wf64 f) (hs : Wf64 s) : keyOf Tryz.prog 161 (.agg #[.int .i64 f, .int .i64 s]) = some (kT f s) := by
  obtain ⟨m, hm⟩ := Tryz.someTypes
  unfold keyOf
  simp only [Tryz.underlying161]
  rw [if_pos (by simp [Tryz.keyTypeT, Value.formed, Tryz.underlying161, Tryz.cellsT]), hm]
  unfold Program.keyLits
  simp only [Tryz.underlying161, Value.cells]
  rw [if_pos ⟨by rw [Tryz.cellsT]; rfl, by kernel_rfl⟩]
  simp [Tryz.cellsI, Program.keyLits, Tryz.underlying3, hf.wf, hs.wf, kT]
theorem litI {d : Nat} {c : Value} {L : List Lit} (h : Tryz.prog.keyLits (d + 1) 3 [c] = some L) : ∃ a, c = .int .i64 a ∧ Wf64 a ∧ L = [.int .i64 a] := by
  unfold Program.keyLits at h
  rw [Tryz.underlying3] at h
  cases c <;> simp at h
  obtain ⟨⟨rfl, hw⟩, rfl⟩ := h
  exact ⟨_, rfl, Wf64.of hw, rfl⟩
theorem keyT_inv {v : Value} {kl : Lit} (h : keyOf Tryz.prog 161 v = some kl) : ∃ f s : Int, v = .agg #[.int .i64 f, .int .i64 s] ∧ kl = kT f s ∧ Wf64 f ∧ Wf64 s := by
  obtain ⟨xs, L, rfl, h1, rfl⟩ := keyOf_top Tryz.wideT h
  obtain ⟨m, hm⟩ := Tryz.someTypes
  rw [hm] at h1
  unfold Program.keyLits at h1
  simp only [Tryz.underlying161] at h1
  split at h1
  · rename_i hc
    rw [Tryz.cellsT] at hc
    obtain ⟨l⟩ := xs
    match l, hc.1 with
    | [c0, c1], _ =>
      simp only [Option.map_eq_some_iff] at h1
      obtain ⟨ls, h2, rfl⟩ := h1
      simp only [List.mapM_cons, List.mapM_nil, bind, Option.bind_eq_some_iff, pure, Option.some.injEq, Tryz.cellsI] at h2
      obtain ⟨l0, h0, _, ⟨l1, h1, _, rfl, rfl⟩, rfl⟩ := h2
      obtain ⟨a, rfl, wa, rfl⟩ := litI (c := c0) h0
      obtain ⟨b, rfl, wb, rfl⟩ := litI (c := c1) h1
      exact ⟨a, b, rfl, rfl, wa, wb⟩
  · cases h1
theorem kT_inj {f s f' s' : Int} (hf : Wf64 f) (hs : Wf64 s) (hf' : Wf64 f') (hs' : Wf64 s') (e : kT f s = kT f' s') : f = f' ∧ s = s' := by
  have k := Tryz.keyedT.inj (keyT_of hf hs) (by rw [e]; exact keyT_of hf' hs')
  simp at k
  exact k
theorem keyW_of {f : Int} (hf : Wf64 f) : keyOf Tryz.prog 3 (.int .i64 f) = some (kW f) := Maps.keyOf_int_mk Tryz.underlying3 hf.wf
theorem kT_same {f s f' s' : Int} (hf : Wf64 f) (hs : Wf64 s) (hf' : Wf64 f') (hs' : Wf64 s') : (kT f s).sameKey (kT f' s') = decide (f = f' ∧ s = s') := by
  by_cases e : f = f' ∧ s = s'
  · obtain ⟨rfl, rfl⟩ := e
    rw [WideAt.sameKey_self (Tryz.keyedT.key (keyT_of hf hs))]
    simp
  · rw [decide_eq_false e]
    exact Maps.sameKey_ne fun k => e (kT_inj hf hs hf' hs' k)
theorem kW_same {f f' : Int} : (kW f).sameKey (kW f') = decide (f = f') := by
  by_cases e : f = f'
  · subst e
    rw [WideAt.sameKey_self (show WideAt.IsKeyLit (kW f) from trivial)]
    simp
  · rw [decide_eq_false e]
    exact Maps.sameKey_ne fun k => e (by unfold kW at k; injection k)

/-! ### What a map holds -/
def TieT (D : DataW Unit) (g : Turns) : Prop := ∀ f s, Wf64 f → Wf64 s → (match g f s with
    | some i => Maps.has D (kT f s) = true ∧ ∀ z, D.atKey (kT f s) z = .lit (.int .i64 i)
    | none => Maps.has D (kT f s) = false)
def TieW (D : DataW Unit) (h : Whos) : Prop := ∀ f, Wf64 f → (match h f with
    | some i => Maps.has D (kW f) = true ∧ ∀ z, D.atKey (kW f) z = .lit (.int .i64 i)
    | none => Maps.has D (kW f) = false)
abbrev OwnT (b m : Nat) (D : DataW Unit) (w : World) : Prop := w.ownsMap Tryz.prog 161 (plainElem Tryz.prog 3) b m D
abbrev OwnW (b m : Nat) (D : DataW Unit) (w : World) : Prop := w.ownsMap Tryz.prog 3 (plainElem Tryz.prog 3) b m D
theorem ownsMap_kept {P : Program} {k : TypeId} {R : Value → Option (DataW Unit × List MemPlace)} {w w' : World} {b n : Nat} {D : DataW Unit} (h : w.ownsMap P k R b n D) (k' : Kept w w') : w'.ownsMap P k R b n D := by
  obtain ⟨es, clock, hb, r⟩ := h
  exact ⟨es, clock, (k'.heap (Array.getElem?_eq_some_iff.1 hb).1).trans hb, r⟩
theorem ownsMap_lt {P : Program} {k : TypeId} {R : Value → Option (DataW Unit × List MemPlace)} {w : World} {b n : Nat} {D : DataW Unit} (h : w.ownsMap P k R b n D) : b < w.heap.size := by
  obtain ⟨es, clock, hb, r⟩ := h
  exact (Array.getElem?_eq_some_iff.1 hb).1
theorem ranges_kept {P : Program} {k : TypeId} {R : Value → Option (DataW Unit × List MemPlace)} {w w' : World} {b r n : Nat} {D : DataW Unit} {left : Lit → Bool} {cnt : Nat} (h : w.ranges P k R b r n D left cnt) (k' : Kept w w') : w'.ranges P k R b r n D left cnt := by
  obtain ⟨es, clock, since, seen, c0, h1, h2, h3, h4, h5, h6⟩ := h
  exact ⟨es, clock, since, seen, c0, (k'.heap (Array.getElem?_eq_some_iff.1 h1).1).trans h1, h2, h3, h4, (k'.heap (Array.getElem?_eq_some_iff.1 h5).1).trans h5, h6⟩
theorem TieT.made : TieT (.map []) (fun _ _ => none) := fun _ _ _ _ => rfl
theorem TieW.made : TieW (.map []) (fun _ => none) := fun _ _ => rfl
theorem TieT.hit {D : DataW Unit} {g : Turns} (h : TieT D g) {f s i : Int} (hf : Wf64 f) (hs : Wf64 s) (q : g f s = some i) : Maps.has D (kT f s) = true ∧ ∀ z, D.atKey (kT f s) z = .lit (.int .i64 i) := by
  have := h f s hf hs; rw [q] at this; exact this
theorem TieT.miss {D : DataW Unit} {g : Turns} (h : TieT D g) {f s : Int} (hf : Wf64 f) (hs : Wf64 s) (q : g f s = none) : Maps.has D (kT f s) = false := by
  have := h f s hf hs; rw [q] at this; exact this
theorem TieW.hit {D : DataW Unit} {h : Whos} (k : TieW D h) {f i : Int} (hf : Wf64 f) (q : h f = some i) : Maps.has D (kW f) = true ∧ ∀ z, D.atKey (kW f) z = .lit (.int .i64 i) := by
  have := k f hf; rw [q] at this; exact this
theorem TieW.miss {D : DataW Unit} {h : Whos} (k : TieW D h) {f : Int} (hf : Wf64 f) (q : h f = none) : Maps.has D (kW f) = false := by
  have := k f hf; rw [q] at this; exact this
theorem TieT.put {D : DataW Unit} {g : Turns} (h : TieT D g) (hD : Maps.IsMap D) {f s : Int} (i : Int) (hf : Wf64 f) (hs : Wf64 s) : TieT (D.put (kT f s) (.lit (.int .i64 i))) (setT g f s i) := fun f' s' hf' hs' => by
  have hk : WideAt.IsKeyLit (kT f s) := Tryz.keyedT.key (keyT_of hf hs)
  unfold setT
  by_cases e : f' = f ∧ s' = s
  · rw [if_pos e]
    obtain ⟨rfl, rfl⟩ := e
    exact ⟨Maps.has_put_same hD hk _, fun z => Maps.atKey_put_same hD hk _ z⟩
  · rw [if_neg e]
    have hne : kT f' s' ≠ kT f s := fun k => e (kT_inj hf' hs' hf hs k)
    have hx := h f' s' hf' hs'
    cases p : g f' s' with
    | some j =>
      rw [p] at hx
      exact ⟨(Maps.has_put_other hne _).trans hx.1, fun z => (Maps.atKey_put_other hne _ z).trans (hx.2 z)⟩
    | none =>
      rw [p] at hx
      exact (Maps.has_put_other hne _).trans hx
theorem TieW.put {D : DataW Unit} {h : Whos} (k : TieW D h) (hD : Maps.IsMap D) {f : Int} (i : Int) : TieW (D.put (kW f) (.lit (.int .i64 i))) (setW h f i) := fun f' hf' => by
  have hk : WideAt.IsKeyLit (kW f) := trivial
  unfold setW
  by_cases e : f' = f
  · rw [if_pos e]
    subst e
    exact ⟨Maps.has_put_same hD hk _, fun z => Maps.atKey_put_same hD hk _ z⟩
  · rw [if_neg e]
    have hne : kW f' ≠ kW f := fun k => e (by unfold kW at k; injection k)
    have hx := k f' hf'
    cases p : h f' with
    | some j =>
      rw [p] at hx
      exact ⟨(Maps.has_put_other hne _).trans hx.1, fun z => (Maps.atKey_put_other hne _ z).trans (hx.2 z)⟩
    | none =>
      rw [p] at hx
      exact (Maps.has_put_other hne _).trans hx

/-! ### Asking -/
section
variable (w : World) {ops : Array Oper} {rest : List Oper} {o : Oper} {a : Act} {Q : Exit → Act → World → Prop}
theorem wpList_askT (hg : o.guard = none) (m x : Operand) (hop : o.op = Op.lookup 145 m x true) (b n : Nat) (D : DataW Unit) (g : Turns) (hm : a.eval m = .map (some b)) (hM : OwnT b n D w) (hT : TieT D g) (f s : Int) (hx : a.eval x = .agg #[.int .i64 f, .int .i64 s]) (hf : Wf64 f) (hs : Wf64 s)
    (hK : wpList Tryz.prog ops Q rest (a.put o.dst (.tuple #[.int .i64 ((g f s).getD 0), .bool (g f s).isSome])) w) : wpList Tryz.prog ops Q (o :: rest) a w := by
  refine wpList_lookup_own_ok_int w hg m x 145 hop 161 3 .i64 Tryz.keyedT Tryz.underlying145 Tryz.underlying3 (Tryz.zeroValue3 _) b n D hm hM _ _ hx (keyT_of hf hs) ?_
  intro c hat _
  cases q : g f s with
  | some i =>
    have h := hT.hit hf hs q
    rw [h.2] at hat
    cases hat
    rw [h.1]
    rw [q] at hK
    exact hK
  | none =>
    have h := hT.miss hf hs q
    rw [Maps.atKey_of_not_has h] at hat
    cases hat
    rw [h]
    rw [q] at hK
    exact hK
theorem wpList_askW (hg : o.guard = none) (m x : Operand) (hop : o.op = Op.lookup 143 m x true) (b n : Nat) (D : DataW Unit) (h : Whos) (hm : a.eval m = .map (some b)) (hM : OwnW b n D w) (hT : TieW D h) (f : Int) (hx : a.eval x = .int .i64 f) (hf : Wf64 f)
    (hK : wpList Tryz.prog ops Q rest (a.put o.dst (.tuple #[.int .i64 ((h f).getD 0), .bool (h f).isSome])) w) : wpList Tryz.prog ops Q (o :: rest) a w := by
  refine wpList_lookup_own_ok_int w hg m x 143 hop 3 3 .i64 Tryz.keyedI Tryz.underlying143 Tryz.underlying3 (Tryz.zeroValue3 _) b n D hm hM _ _ hx (keyW_of hf) ?_
  intro c hat _
  cases q : h f with
  | some i =>
    have k := hT.hit hf q
    rw [k.2] at hat
    cases hat
    rw [k.1]
    rw [q] at hK
    exact hK
  | none =>
    have k := hT.miss hf q
    rw [Maps.atKey_of_not_has k] at hat
    cases hat
    rw [k]
    rw [q] at hK
    exact hK

theorem wpList_askT_hit (hg : o.guard = none) (m x : Operand) (hop : o.op = Op.lookup 145 m x true) (b n : Nat) (D : DataW Unit) (g : Turns) (hm : a.eval m = .map (some b)) (hM : OwnT b n D w) (hT : TieT D g) (f s : Int) (hx : a.eval x = .agg #[.int .i64 f, .int .i64 s]) (hf : Wf64 f) (hs : Wf64 s) (i : Int) (q : g f s = some i)
    (hK : wpList Tryz.prog ops Q rest (a.put o.dst (.tuple #[.int .i64 i, .bool true])) w) : wpList Tryz.prog ops Q (o :: rest) a w :=
  wpList_askT w hg m x hop b n D g hm hM hT f s hx hf hs (by rw [q]; exact hK)
theorem wpList_askT_miss (hg : o.guard = none) (m x : Operand) (hop : o.op = Op.lookup 145 m x true) (b n : Nat) (D : DataW Unit) (g : Turns) (hm : a.eval m = .map (some b)) (hM : OwnT b n D w) (hT : TieT D g) (f s : Int) (hx : a.eval x = .agg #[.int .i64 f, .int .i64 s]) (hf : Wf64 f) (hs : Wf64 s) (q : g f s = none)
    (hK : wpList Tryz.prog ops Q rest (a.put o.dst (.tuple #[.int .i64 0, .bool false])) w) : wpList Tryz.prog ops Q (o :: rest) a w :=
  wpList_askT w hg m x hop b n D g hm hM hT f s hx hf hs (by rw [q]; exact hK)
theorem wpList_askW_hit (hg : o.guard = none) (m x : Operand) (hop : o.op = Op.lookup 143 m x true) (b n : Nat) (D : DataW Unit) (h : Whos) (hm : a.eval m = .map (some b)) (hM : OwnW b n D w) (hT : TieW D h) (f : Int) (hx : a.eval x = .int .i64 f) (hf : Wf64 f) (i : Int) (q : h f = some i)
    (hK : wpList Tryz.prog ops Q rest (a.put o.dst (.tuple #[.int .i64 i, .bool true])) w) : wpList Tryz.prog ops Q (o :: rest) a w :=
  wpList_askW w hg m x hop b n D h hm hM hT f hx hf (by rw [q]; exact hK)
theorem wpList_askW_miss (hg : o.guard = none) (m x : Operand) (hop : o.op = Op.lookup 143 m x true) (b n : Nat) (D : DataW Unit) (h : Whos) (hm : a.eval m = .map (some b)) (hM : OwnW b n D w) (hT : TieW D h) (f : Int) (hx : a.eval x = .int .i64 f) (hf : Wf64 f) (q : h f = none)
    (hK : wpList Tryz.prog ops Q rest (a.put o.dst (.tuple #[.int .i64 0, .bool false])) w) : wpList Tryz.prog ops Q (o :: rest) a w :=
  wpList_askW w hg m x hop b n D h hm hM hT f hx hf (by rw [q]; exact hK)

/-! ### Going over -/
theorem wpList_nextT (hg : o.guard = none) (it : Operand) (hop : o.op = Op.next it false) (b r n : Nat) (D : DataW Unit) (g : Turns) (hT : TieT D g) (left : Lit → Bool) (t : Int → Int → Bool) (hL : ∀ f s, Wf64 f → Wf64 s → left (kT f s) = t f s) (hLG : ∀ f s, Wf64 f → Wf64 s → t f s = true → g f s ≠ none) (cnt : Nat)
    (hit : a.eval it = .pointer (some ⟨r, 0, none⟩)) (h : w.ranges Tryz.prog 161 (plainElem Tryz.prog 3) b r n D left cnt)
    (hDone : cnt = 0 → (∀ f s, Wf64 f → Wf64 s → t f s = false) → wpList Tryz.prog ops Q rest (a.put o.dst (.tuple #[.bool false])) w)
    (hMore : ∀ (f s i : Int) (left' : Lit → Bool) (w' : World) (cnt' : Nat), Wf64 f → Wf64 s → Wf64 i → g f s = some i → t f s = true → (∀ f' s', Wf64 f' → Wf64 s' → left' (kT f' s') = strT t f s f' s') → w'.ranges Tryz.prog 161 (plainElem Tryz.prog 3) b r n D left' cnt' → cnt' < cnt →
      w.grownBy w' (some r) → (Instr.entry (.pointer (some ⟨r, 0, none⟩))).run Tryz.prog w' = .ok (.tuple #[.agg #[.int .i64 f, .int .i64 s], .int .i64 i]) w' → wpList Tryz.prog ops Q rest (a.put o.dst (.tuple #[.bool true, .agg #[.int .i64 f, .int .i64 s], .int .i64 i])) w') :
    wpList Tryz.prog ops Q (o :: rest) a w := by
  refine wpList_next_ranges w hg it hop 161 Tryz.keyedT (plainElem Tryz.prog 3) (fun x : Int × Int => .agg #[.int .i64 x.1, .int .i64 x.2]) (Value.int .i64) (fun key kl hkey => ?_) (fun v y hv => ?_) b r n D left cnt hit h (fun h0 hl => hDone h0 fun f s hf hs => ?_) ?_
  · obtain ⟨f, s, rfl, _⟩ := keyT_inv hkey
    exact ⟨(f, s), rfl⟩
  · obtain ⟨c, rfl, _⟩ := plainElem_int_inv Tryz.underlying3 hv
    exact ⟨c, rfl⟩
  · rw [← hL f s hf hs]; exact hl _
  · rintro ⟨f0, s0⟩ c kl y w' cnt' hkey hlk hv hat hrg hlt hgr _ hen
    obtain ⟨f, s, e, rfl, hf, hs⟩ := keyT_inv hkey
    simp at e
    obtain ⟨rfl, rfl⟩ := e
    obtain ⟨c', ec, rfl, hwc⟩ := plainElem_int_inv Tryz.underlying3 hv
    cases ec
    have ht : t f0 s0 = true := by rw [← hL f0 s0 hf hs]; exact hlk
    cases q : g f0 s0 with
    | none => exact absurd q (hLG f0 s0 hf hs ht)
    | some i =>
      have k := (hT.hit hf hs q).2 (.lit (.int .i64 0))
      rw [hat] at k
      simp at k
      subst k
      refine hMore f0 s0 c _ w' cnt' hf hs (Wf64.of hwc) q ht (fun f' s' hf' hs' => ?_) hrg hlt hgr hen
      simp only [hL f' s' hf' hs', kT_same hf' hs' hf hs, strT]
theorem wpList_nextW (hg : o.guard = none) (it : Operand) (hop : o.op = Op.next it false) (b r n : Nat) (D : DataW Unit) (h : Whos) (hT : TieW D h) (left : Lit → Bool) (t : Int → Bool) (hL : ∀ f, Wf64 f → left (kW f) = t f) (hLG : ∀ f, Wf64 f → t f = true → h f ≠ none) (cnt : Nat)
    (hit : a.eval it = .pointer (some ⟨r, 0, none⟩)) (hr : w.ranges Tryz.prog 3 (plainElem Tryz.prog 3) b r n D left cnt)
    (hDone : cnt = 0 → (∀ f, Wf64 f → t f = false) → wpList Tryz.prog ops Q rest (a.put o.dst (.tuple #[.bool false])) w)
    (hMore : ∀ (f i : Int) (left' : Lit → Bool) (w' : World) (cnt' : Nat), Wf64 f → Wf64 i → h f = some i → t f = true → (∀ f', Wf64 f' → left' (kW f') = strW t f f') → w'.ranges Tryz.prog 3 (plainElem Tryz.prog 3) b r n D left' cnt' → cnt' < cnt →
      w.grownBy w' (some r) → (Instr.entry (.pointer (some ⟨r, 0, none⟩))).run Tryz.prog w' = .ok (.tuple #[.int .i64 f, .int .i64 i]) w' → wpList Tryz.prog ops Q rest (a.put o.dst (.tuple #[.bool true, .int .i64 f, .int .i64 i])) w') :
    wpList Tryz.prog ops Q (o :: rest) a w := by
  refine wpList_next_ranges_ii w hg it hop 3 3 .i64 .i64 Tryz.keyedI Tryz.underlying3 Tryz.underlying3 b r n D left cnt hit hr (fun h0 hl => hDone h0 fun f hf => ?_) ?_
  · rw [← hL f hf]; exact hl _
  · intro x c w' cnt' hwx hwc hlx hat hrg hlt hgr _ hen
    have ht : t x = true := by rw [← hL x (Wf64.of hwx)]; exact hlx
    cases q : h x with
    | none => exact absurd q (hLG x (Wf64.of hwx) ht)
    | some i =>
      have k := (hT.hit (Wf64.of hwx) q).2 (.lit (.int .i64 0))
      have hat' := hat (.lit (.int .i64 0))
      unfold kW at k
      rw [hat'] at k
      simp at k
      subst k
      refine hMore x c _ w' cnt' (Wf64.of hwx) (Wf64.of hwc) q ht (fun f' hf' => ?_) hrg hlt hgr hen
      have e := kW_same (f := f') (f' := x)
      unfold kW at e
      simp only [show left (kW f') = t f' from hL f' hf', strW, kW] at *
      rw [e]
      simp only [show left (Lit.int .i64 f') = t f' from hL f' hf']
end
theorem TieT.left {D : DataW Unit} {g : Turns} (h : TieT D g) (f s : Int) (hf : Wf64 f) (hs : Wf64 s) : Maps.has D (kT f s) = (g f s).isSome := by
  cases q : g f s with
  | some i => exact (h.hit hf hs q).1
  | none => exact h.miss hf hs q
theorem TieW.left {D : DataW Unit} {h : Whos} (k : TieW D h) (f : Int) (hf : Wf64 f) : Maps.has D (kW f) = (h f).isSome := by
  cases q : h f with
  | some i => exact (k.hit hf q).1
  | none => exact k.miss hf q
end

section
open Go.ChangeShapes Go.WideShapes Go.ChangeAt Go.RowKit

/-- Function g, bound to cb, says which slots fit. -/
def Fits (g : Nat) (cb : Array Value) (q : Int → Bool) (w : World) : Prop := ∀ W, Kept w W → ∀ x, Calls Tryz.prog g (#[.int .i64 x] ++ cb) W fun e w' => e = .returned (.bool (q x)) ∧ Kept W w'
theorem Fits.kept {g : Nat} {cb : Array Value} {q : Int → Bool} {w w' : World} (h : Fits g cb q w) (k : Kept w w') : Fits g cb q w' := fun W hW => h W (k.trans hW)
theorem isFit_any (z : Nat) (s x : Int) (w : World) (hc : HasCells w z [.int .i64 s]) :
    Calls Tryz.prog 101 #[.int .i64 x, .pointer (some ⟨z, 0, none⟩)] w fun e w' => e = .returned (.bool (isQ s x)) ∧ Kept w w' := by
  have c0 := hc.at0
  clear hc
  unfold isQ
  go_enter Tryz.func101, Tryz.ntmps101
  go_wp2_with fail
  go_ret
  exact ⟨rfl, Kept.refl _⟩
theorem isFits (z : Nat) (s : Int) (w : World) (hc : HasCells w z [.int .i64 s]) : Fits 101 #[.pointer (some ⟨z, 0, none⟩)] (isQ s) w := fun W hW x => isFit_any z s x W (hc.kept hW)
theorem only_any (s : Int) (w : World) :
    Calls Tryz.prog 74 #[.int .i64 s] w fun e w' => ∃ z, e = .returned (.func (.func 101) #[] #[.pointer (some ⟨z, 0, none⟩)]) ∧ HasCells w' z [.int .i64 s] ∧ Kept w w' := by
  go_enter Tryz.func74, Tryz.ntmps74
  go_wp2_with fail
  go_ret
  exact ⟨w.heap.size, rfl, HasCells.new w #[.int .i64 s] 3 w.heap.size rfl, (Kept.refl w).alloc _⟩
end

section
open Go.ChangeShapes Go.WideShapes Go.ChangeAt Go.RowKit

/-- What gather hands back. -/
def Gathered (L : List Vt) (q : Int → Bool) (w : World) (e : Ending) (w' : World) : Prop :=
  ∃ b m D g, e = .returned (.map (some b)) ∧ w.heap.size ≤ b ∧ m ≤ L.length ∧ OwnT b m D w' ∧ TieT D g ∧ GOk L q g ∧ Kept w w'
theorem take_vt {L : List Vt} {k : Nat} (hk : k < L.length) : L.take (k + 1) = L.take k ++ [L[k]] := List.take_succ_eq_append_getElem hk
theorem neqV (a b : Vt) (w : World) : Sem.run Tryz.prog (Op.equalIn 10000 47 (.agg #[.int .i64 a.f, .int .i64 a.s, .int .u64 a.p.1, .int .u64 a.p.2]) (.agg #[.int .i64 b.f, .int .i64 b.s, .int .u64 b.p.1, .int .u64 b.p.2])) w = .ok (sameV a b) w := eqV a b w

attribute [local go_sem high] eqV in
set_option maxRecDepth 100000 in
set_option maxHeartbeats 1600000 in
theorem gather_any (A : Option Addr) (c : Nat) (L : List Vt) (hl : L.length ≤ 1000000) (hw : WfVs L) (f : Nat) (cb : Array Value) (q : Int → Bool) (w : World) (hA : CellsAt w w.heap.size A (votesCells L)) (hF : Fits f cb q w)
    (eg : ∀ args w, (callFunc f args).run Tryz.prog w = .ok (.enter f args) w) :
    Calls Tryz.prog 97 #[.slice A L.length c, .func (.func f) #[] cb] w (Gathered L q w) := by
  have HA := Lib.hid hA
  have HW := Lib.hid hw
  have HF := Lib.hid hF
  have hmm := @run_makeMap Tryz.prog
  have HM := Lib.hid (World.ownsMap_made w Tryz.prog 161 (plainElem (H := Unit) Tryz.prog 3))
  clear hA hw hF
  go_enter Tryz.func97, Tryz.ntmps97
  go_wp2_with fail
  go_loopw [14] (fun i w' => ∃ k m D g, k ≤ L.length ∧ m ≤ k ∧ i = .int .i64 (k : Nat) ∧ OwnT w.heap.size m D w' ∧ TieT D g ∧ GOk (L.take k) q g ∧ Kept w w') (fun i _ => L.length - (intOf i).toNat)
  case atStart =>
    exact ⟨0, 0, .map [], fun _ _ => none, by omega, by omega, rfl, HM.out, TieT.made, GOk.nil q, (Kept.refl w).alloc _⟩
  case round =>
    obtain ⟨k, m, D, g, hk, hmk, rfl, hM, hT, hG, hK⟩ := hrel
    have HR := Lib.hid hM
    have HT := Lib.hid hT
    have HG := Lib.hid hG
    have HK := Lib.hid hK
    clear hM hT hG hK HM
    by_cases hlt : k < L.length
    · obtain ⟨z, o, rfl, hb, c0, c1, c2, c3⟩ := vote_at (HA.out.kept HK.out) hlt
      have HX := Lib.hid (HW.out L[k] (List.getElem_mem hlt))
      have HTK := Lib.hid (take_vt hlt)
      generalize L[k] = x at *
      go_wp2_with fail
      refine (HF.out _ (HK.out.alloc (.cells #[.int .i64 x.f, .int .i64 x.s, .int .u64 x.p.1, .int .u64 x.p.2] 47)) x.s).mono ?_
      rintro e W1 ⟨rfl, k1⟩
      have HB1 := Lib.hid ((HasCells.new wr #[.int .i64 x.f, .int .i64 x.s, .int .u64 x.p.1, .int .u64 x.p.2] 47 wr.heap.size rfl).kept k1)
      have HK1 := Lib.hid ((HK.out.alloc (.cells #[.int .i64 x.f, .int .i64 x.s, .int .u64 x.p.1, .int .u64 x.p.2] 47)).trans k1)
      have HM1 := Lib.hid (ownsMap_kept (ownsMap_kept HR.out ((Kept.refl wr).alloc (.cells #[.int .i64 x.f, .int .i64 x.s, .int .u64 x.p.1, .int .u64 x.p.2] 47))) k1)
      clear k1 c0 c1 c2 c3 HR HK
      generalize wr.heap.size = zv at *
      cases hq : q x.s with
      | false =>
        have HE := Lib.hid (HG.out.skip hq)
        clear hq
        go_wp2_with fail
        go_roundw
        case rel => exact ⟨k + 1, m, D, g, by omega, by omega, by go_num, HM1.out, HT.out, by rw [HTK.out]; exact HE.out, HK1.out⟩
        case measure => simp [intOf]; omega
      | true =>
        have HQ := Lib.hid hq
        clear hq
        obtain ⟨c0, c1, c2, c3⟩ := HB1.out.four
        have HB2 := Lib.hid (HB1.out.alloc (.cells #[.int .i64 x.f, .int .i64 x.s] 161))
        have HK2 := Lib.hid (HK1.out.alloc (.cells #[.int .i64 x.f, .int .i64 x.s] 161))
        have HM2 := Lib.hid (ownsMap_kept HM1.out ((Kept.refl W1).alloc (.cells #[.int .i64 x.f, .int .i64 x.s] 161)))
        have HC2 := Lib.hid (HasCells.new W1 #[.int .i64 x.f, .int .i64 x.s] 161 W1.heap.size rfl)
        have hkey := keyT_of HX.out.1 HX.out.2.1
        have hmx : m < maxLen := by unfold maxLen; omega
        cases hg : g x.f x.s with
        | none =>
          have HN := Lib.hid hg
          have HE := Lib.hid (HG.out.first HQ.out hg)
          have HL := Lib.hid (show (L.take k).length = k by rw [List.length_take]; omega)
          have hown := HM2.out
          have hval : plainElem (H := Unit) Tryz.prog 3 (.int .i64 (k : Int)) = some (.lit (.int .i64 (k : Int)), []) := plainElem_int Tryz.underlying3 (Go.WalkArith.wf_i64 (by omega))
          clear hg
          go_wp2_with (first | (at_lookup; refine wpList_askT_miss _ rfl _ _ rfl _ m D g rfl HM2.out HT.out x.f x.s rfl HX.out.1 HX.out.2.1 HN.out ?_) | (at_mapUpdate; refine wpList_mapUpdate_own _ rfl _ _ _ 145 rfl 161 3 Tryz.keyedT Tryz.underlying145 _ _ _ _ rfl hown hmx _ _ _ rfl rfl hkey (.lit (.int .i64 (k : Int))) [] hval ?_; intro w1 hown1 hgrow1))
          go_roundw
          case rel =>
            refine ⟨k + 1, m + 1, D.put (kT x.f x.s) (.lit (.int .i64 (k : Int))), setT g x.f x.s (k : Int), by omega, by omega, by go_num, hown1, HT.out.put hown.isMap _ HX.out.1 HX.out.2.1, ?_, HK2.out.grown hgrow1 (fun i hi => by cases hi; exact Nat.le_refl _)⟩
            rw [HTK.out]
            have := HE.out
            rw [HL.out] at this
            exact this
          case measure => simp [intOf]; omega
        | some i =>
          have HN := Lib.hid hg
          clear hg
          rcases HG.out.at_ HN.out with hi | ⟨n, hn, hi, hnf, hns⟩
          · subst hi
            have HE := Lib.hid (HG.out.more HN.out)
            go_wp2_with (at_lookup; refine wpList_askT_hit _ rfl _ _ rfl _ m D g rfl HM2.out HT.out x.f x.s rfl HX.out.1 HX.out.2.1 (-1) HN.out ?_)
            obtain ⟨d0, d1⟩ := HC2.out.two
            obtain ⟨b0, b1, b2, b3⟩ := HB2.out.four
            clear c0 c1 c2 c3
            generalize W1.alloc (.cells #[.int .i64 x.f, .int .i64 x.s] 161) = W2 at *
            generalize W1.heap.size = zt at *
            go_quiet (fail)
            go_wp2_with fail
            go_roundw
            case rel => exact ⟨k + 1, m, D, g, by omega, by omega, by go_num, ownsMap_kept HM2.out ((Kept.refl _).drewN _), HT.out, by rw [HTK.out]; exact HE.out, HK2.out.drewN _⟩
            case measure => simp [intOf]; omega
          · subst hi
            have hnk : n < k := by rw [List.length_take] at hn; omega
            have hnl : n < L.length := by omega
            have HLn := Lib.hid (show (L.take k)[n] = L[n] from List.getElem_take)
            obtain ⟨z', o', ez, _, e0, e1, e2, e3⟩ := vote_at (HA.out.kept HK2.out) hnl
            obtain ⟨rfl, rfl⟩ : z = z' ∧ o = o' := by injection ez with ez; injection ez with h1 h2; exact ⟨h1, h2⟩
            clear ez
            obtain ⟨d0, d1⟩ := HC2.out.two
            obtain ⟨b0, b1, b2, b3⟩ := HB2.out.four
            have hnn : ¬ ((n : Int) = -1) := by omega
            cases hsame : sameV L[n] x with
            | true =>
              have HE := Lib.hid (HG.out.same hn HN.out (by rw [HLn.out]; exact sameV_iff.1 hsame))
              go_wp2_with (at_lookup; refine wpList_askT_hit _ rfl _ _ rfl _ m D g rfl HM2.out HT.out x.f x.s rfl HX.out.1 HX.out.2.1 (n : Int) HN.out ?_)
              clear c0 c1 c2 c3
              generalize L[n] = y at *
              generalize W1.alloc (.cells #[.int .i64 x.f, .int .i64 x.s] 161) = W2 at *
              generalize W1.heap.size = zt at *
              go_quiet (fail)
              go_wp2_with fail
              go_roundw
              case rel => exact ⟨k + 1, m, D, g, by omega, by omega, by go_num, ownsMap_kept HM2.out ((Kept.refl _).drewN _), HT.out, by rw [HTK.out]; exact HE.out, HK2.out.drewN _⟩
              case measure => simp [intOf]; omega
            | false =>
              have HE := Lib.hid (HG.out.twice hn HN.out (by rw [HLn.out]; exact sameV_no hsame))
              have hval : plainElem (H := Unit) Tryz.prog 3 (.int .i64 (-1)) = some (.lit (.int .i64 (-1)), []) := plainElem_int Tryz.underlying3 (by decide)
              go_wp2_with (at_lookup; refine wpList_askT_hit _ rfl _ _ rfl _ m D g rfl HM2.out HT.out x.f x.s rfl HX.out.1 HX.out.2.1 (n : Int) HN.out ?_)
              clear c0 c1 c2 c3
              generalize L[n] = y at *
              generalize W1.alloc (.cells #[.int .i64 x.f, .int .i64 x.s] 161) = W2 at *
              generalize W1.heap.size = zt at *
              go_quiet (fail)
              have hown := ownsMap_kept HM2.out ((Kept.refl W2).drewN 1)
              go_wp2_with (at_mapUpdate; refine wpList_mapUpdate_own _ rfl _ _ _ 145 rfl 161 3 Tryz.keyedT Tryz.underlying145 _ _ _ _ rfl (ownsMap_kept HM2.out ((Kept.refl W2).drewN _)) hmx _ _ _ rfl rfl hkey (.lit (.int .i64 (-1))) [] hval ?_; intro w1 hown1 hgrow1)
              go_roundw
              case rel =>
                exact ⟨k + 1, m + 1, D.put (kT x.f x.s) (.lit (.int .i64 (-1))), setT g x.f x.s (-1), by omega, by omega, by go_num, hown1, HT.out.put hown.isMap _ HX.out.1 HX.out.2.1, by rw [HTK.out]; exact HE.out, (HK2.out.drewN _).grown hgrow1 (fun i hi => by cases hi; exact Nat.le_refl _)⟩
              case measure => simp [intOf]; omega
    · have hkl : k = L.length := by omega
      subst hkl
      have HTL := Lib.hid (show L.take L.length = L from List.take_length)
      go_wp2_with fail
      go_ret
      have HG2 := HG.out
      rw [HTL.out] at HG2
      exact ⟨w.heap.size, m, D, g, rfl, Nat.le_refl _, hmk, HR.out, HT.out, HG2, HK.out⟩
end

section
open Go.ChangeShapes Go.WideShapes Go.ChangeAt Go.RowKit

/-- What lasts hands back. -/
def Lasted (L : List Vt) (q : Int → Bool) (w : World) (e : Ending) (w' : World) : Prop :=
  ∃ b m D h, e = .returned (.map (some b)) ∧ w.heap.size ≤ b ∧ m ≤ L.length ∧ OwnW b m D w' ∧ TieW D h ∧ HOk L q h ∧ Kept w w'
theorem GOk.wf {L : List Vt} {q : Int → Bool} {g : Turns} (h : GOk L q g) (hw : WfVs L) {f s : Int} (hg : g f s ≠ none) : Wf64 f ∧ Wf64 s := by
  cases e : g f s with
  | none => exact absurd e hg
  | some i =>
    rcases (h.2 _ _ _ e).2 with ⟨_, a, ha, _, _, h1, _, h3, _⟩ | ⟨_, n, hn, _, h1, h3⟩
    · rw [← h1, ← h3]; exact ⟨(hw a ha).1, (hw a ha).2.1⟩
    · rw [← h1, ← h3]; exact ⟨(hw _ (List.getElem_mem hn)).1, (hw _ (List.getElem_mem hn)).2.1⟩
/-- How the loop over the turns stands. -/
def LLoop (L : List Vt) (g : Turns) (b m : Nat) (D : DataW Unit) (w : World) (b' r : Nat) (wr : World) : Prop :=
  ∃ (left : Lit → Bool) (t : Int → Int → Bool) (cnt m' : Nat) (D' : DataW Unit) (h : Whos), wr.ranges Tryz.prog 161 (plainElem Tryz.prog 3) b r m D left cnt ∧
    (∀ f s, Wf64 f → Wf64 s → left (kT f s) = t f s) ∧ (∀ f s, t f s = true → g f s ≠ none) ∧ LInv L g t h ∧ OwnW b' m' D' wr ∧ TieW D' h ∧ m' + cnt ≤ m ∧ Kept w wr
theorem strT_le {t : Int → Int → Bool} {g : Turns} (h : ∀ f s, t f s = true → g f s ≠ none) (f0 s0 : Int) : ∀ f s, strT t f0 s0 f s = true → g f s ≠ none := fun f s k => h f s (by
  unfold strT at k
  exact (Bool.and_eq_true_iff.1 k).1)

set_option maxRecDepth 100000 in
set_option maxHeartbeats 1600000 in
theorem lasts_any (A : Option Addr) (c : Nat) (L : List Vt) (hl : L.length ≤ 1000000) (hw : WfVs L) (b m : Nat) (D : DataW Unit) (g : Turns) (q : Int → Bool) (w : World) (hA : CellsAt w w.heap.size A (votesCells L)) (hM : OwnT b m D w) (hT : TieT D g) (hG : GOk L q g) (hm : m ≤ L.length) :
    Calls Tryz.prog 96 #[.slice A L.length c, .map (some b)] w (Lasted L q w) := by
  have HA := Lib.hid hA
  have HW := Lib.hid hw
  have HT := Lib.hid hT
  have HG := Lib.hid hG
  have HS := Lib.hid hM.size_le
  have hbl := ownsMap_lt hM
  have hown := ownsMap_kept hM ((Kept.refl w).alloc (.map #[] 0))
  have hmm := @run_makeMap Tryz.prog
  have HN := Lib.hid (World.ownsMap_made w Tryz.prog 3 (plainElem (H := Unit) Tryz.prog 3))
  have e1 : (w.alloc (.map #[] 0)).heap.size = w.heap.size + 1 := by simp
  clear hA hw hM hT hG
  go_enter Tryz.func96, Tryz.ntmps96
  go_wp2_with (at_range; refine wpList_range_own _ rfl _ 145 rfl 161 3 Tryz.keyedT Tryz.underlying145 _ b m D rfl hown ?_; intro w0 hrg0 hg0 hs0)
  go_frame
  rw [e1] at hrg0 hs0 ⊢
  have HS0 := Lib.hid (show LLoop L g b m D w w.heap.size (w.heap.size + 1) w0 from ⟨_, fun f s => (g f s).isSome, _, 0, .map [], fun _ => none, hrg0, HT.out.left, (fun f s k e => by simp [e] at k), LInv.start L g, ownsMap_kept HN.out (Kept.grown (Kept.refl _) hg0 (fun k hk => by cases hk)), TieW.made, by rw [Nat.zero_add]; exact HS.out, ((Kept.refl w).alloc _).grown hg0 (fun k hk => by cases hk)⟩)
  clear hrg0 hg0 hs0 HN hown e1
  go_loopw [7] (fun _ wr => LLoop L g b m D w w.heap.size (w.heap.size + 1) wr) (fun _ wr => wr.rangeLeft b (w.heap.size + 1))
  case atStart => exact HS0.out
  case round =>
    clear HS0
    obtain ⟨left, t, cnt, m', D', h, hrg, hL, hLG, hI, hM', hT', hmc, hK⟩ := hrel
    have HR := Lib.hid hrg
    have HL := Lib.hid hL
    have HLG := Lib.hid hLG
    have HI := Lib.hid hI
    have HM := Lib.hid hM'
    have HT' := Lib.hid hT'
    have HK := Lib.hid hK
    clear hL hLG hI hM' hT' hK hrg
    go_wp2_with (at_next; refine wpList_nextT _ rfl _ rfl b (w.heap.size + 1) m D g HT.out left t HL.out (fun f s _ _ => HLG.out f s) cnt rfl HR.out ?_ ?_)
    · intro hc0 hl0
      have HE := Lib.hid (HI.out.done HG.out fun f s k => hl0 f s (HG.out.wf HW.out k).1 (HG.out.wf HW.out k).2)
      clear hl0
      go_wp2_with fail
      go_ret
      exact ⟨w.heap.size, m', D', h, rfl, Nat.le_refl _, by omega, HM.out, HT'.out, HE.out, HK.out⟩
    · intro f s i left' w1 cnt1 hf hs hi hgi hti hL1 hrg1 hlt hg1 hen
      have HM1 := Lib.hid ((HM.out).kept hg1 (by simp))
      have HK1 := Lib.hid (HK.out.grown hg1 (fun k hk => by cases hk; exact Nat.le_succ _))
      have HR1 := Lib.hid hrg1
      have HL1 := Lib.hid hL1
      have HGI := Lib.hid hgi
      have HF := Lib.hid hf
      have HSS := Lib.hid hs
      have HII := Lib.hid hi
      have hm1 := hrg1.left_eq
      have hm0 := HR.out.left_eq
      have hkey := keyW_of hf
      have hmx : m' < maxLen := by unfold maxLen; omega
      have hval : plainElem (H := Unit) Tryz.prog 3 (.int .i64 i) = some (.lit (.int .i64 i), []) := plainElem_int Tryz.underlying3 hi.wf
      clear hL1 hrg1 hg1 hgi hti HM HK hf hs hi
      have HB2 := Lib.hid (HasCells.new w1 #[.int .i64 f, .int .i64 s] 161 w1.heap.size rfl)
      have HK2 := Lib.hid (HK1.out.alloc (.cells #[.int .i64 f, .int .i64 s] 161))
      have HM2 := Lib.hid (ownsMap_kept HM1.out ((Kept.refl w1).alloc (.cells #[.int .i64 f, .int .i64 s] 161)))
      have HR2 := Lib.hid (ranges_kept HR1.out ((Kept.refl w1).alloc (.cells #[.int .i64 f, .int .i64 s] 161)))
      cases hh : h f with
      | none =>
        have HH := Lib.hid hh
        have HE := Lib.hid (LInv.fresh HG.out HI.out HGI.out hh)
        clear hh
        go_wp2_with (at_lookup; refine wpList_askW_miss _ rfl _ _ rfl _ m' D' h rfl HM2.out HT'.out f rfl HF.out HH.out ?_)
        clear hen
        generalize w1.alloc (.cells #[.int .i64 f, .int .i64 s] 161) = W2 at *
        generalize w1.heap.size = zt at *
        obtain ⟨b0, b1⟩ := HB2.out.two
        go_quiet (fail)
        go_wp2_with (at_mapUpdate; refine wpList_mapUpdate_own _ rfl _ _ _ 143 rfl 3 3 Tryz.keyedI Tryz.underlying143 _ _ _ _ rfl (ownsMap_kept HM2.out ((Kept.refl W2).drewN _)) hmx _ _ _ rfl rfl hkey (.lit (.int .i64 i)) [] hval ?_; intro w2 hown2 hgrow2; go_frame)
        have hrg3 := (ranges_kept HR2.out ((Kept.refl W2).drewN _)).kept hgrow2 (fun e => by have := Option.some.inj e; omega) (fun e => by have := Option.some.inj e; omega)
        go_roundw
        case rel => exact ⟨left', strT t f s, cnt1, m' + 1, D'.put (kW f) (.lit (.int .i64 i)), setW h f i, hrg3, HL1.out, strT_le HLG.out f s, HE.out, hown2, HT'.out.put HM2.out.isMap i, by omega, (HK2.out.drewN _).grown hgrow2 (fun k hk => by cases hk; exact Nat.le_refl _)⟩
        case measure => rw [hrg3.left_eq, hm0]; exact hlt
      | some had =>
        have HH := Lib.hid hh
        clear hh
        by_cases hi1 : i = -1
        · subst hi1
          have HE := Lib.hid (HI.out.bad HGI.out)
          go_wp2_with (at_lookup; refine wpList_askW_hit _ rfl _ _ rfl _ m' D' h rfl HM2.out HT'.out f rfl HF.out had HH.out ?_)
          clear hen
          generalize w1.alloc (.cells #[.int .i64 f, .int .i64 s] 161) = W2 at *
          generalize w1.heap.size = zt at *
          obtain ⟨b0, b1⟩ := HB2.out.two
          go_quiet (fail)
          go_wp2_with (at_mapUpdate; refine wpList_mapUpdate_own _ rfl _ _ _ 143 rfl 3 3 Tryz.keyedI Tryz.underlying143 _ _ _ _ rfl (ownsMap_kept HM2.out ((Kept.refl W2).drewN _)) hmx _ _ _ rfl rfl hkey (.lit (.int .i64 (-1))) [] hval ?_; intro w2 hown2 hgrow2; go_frame)
          have hrg3 := (ranges_kept HR2.out ((Kept.refl W2).drewN _)).kept hgrow2 (fun e => by have := Option.some.inj e; omega) (fun e => by have := Option.some.inj e; omega)
          go_roundw
          case rel => exact ⟨left', strT t f s, cnt1, m' + 1, D'.put (kW f) (.lit (.int .i64 (-1))), setW h f (-1), hrg3, HL1.out, strT_le HLG.out f s, HE.out, hown2, HT'.out.put HM2.out.isMap (-1), by omega, (HK2.out.drewN _).grown hgrow2 (fun k hk => by cases hk; exact Nat.le_refl _)⟩
          case measure => rw [hrg3.left_eq, hm0]; exact hlt
        · have hi2 : (i == -1) = false := by simp [hi1]
          by_cases hh1 : had = -1
          · subst hh1
            have HE := Lib.hid (HI.out.still s HH.out)
            go_wp2_with (at_lookup; refine wpList_askW_hit _ rfl _ _ rfl _ m' D' h rfl HM2.out HT'.out f rfl HF.out (-1) HH.out ?_)
            clear hen
            generalize w1.alloc (.cells #[.int .i64 f, .int .i64 s] 161) = W2 at *
            generalize w1.heap.size = zt at *
            obtain ⟨b0, b1⟩ := HB2.out.two
            go_quiet (fail)
            go_wp2_with fail
            have hrg3 := ranges_kept HR2.out ((Kept.refl W2).drewN 1)
            go_roundw
            case rel => exact ⟨left', strT t f s, cnt1, m', D', h, ranges_kept HR2.out ((Kept.refl W2).drewN _), HL1.out, strT_le HLG.out f s, HE.out, ownsMap_kept HM2.out ((Kept.refl W2).drewN _), HT'.out, by omega, HK2.out.drewN _⟩
            case measure => rw [(ranges_kept HR2.out ((Kept.refl W2).drewN _)).left_eq, hm0]; exact hlt
          · obtain ⟨n, hn, rfl⟩ : ∃ (n : Nat) (hn : n < L.length), had = (n : Int) := by
              rcases HI.out.2 _ _ HH.out with ⟨e, _⟩ | ⟨n, hn, e, _⟩
              · exact absurd e hh1
              · exact ⟨n, hn, e⟩
            obtain ⟨z, o, rfl, hb, e0, e1, e2, e3⟩ := vote_at (HA.out.kept HK2.out) hn
            by_cases hlt2 : L[n].s < s
            · have HE := Lib.hid (LInv.later HG.out HI.out hn HGI.out hi1 HH.out hlt2)
              go_wp2_with (at_lookup; refine wpList_askW_hit _ rfl _ _ rfl _ m' D' h rfl HM2.out HT'.out f rfl HF.out (n : Int) HH.out ?_)
              generalize L[n].s = y at *
              clear hen
              generalize w1.alloc (.cells #[.int .i64 f, .int .i64 s] 161) = W2 at *
              generalize w1.heap.size = zt at *
              obtain ⟨b0, b1⟩ := HB2.out.two
              go_quiet (fail)
              go_wp2_with (at_mapUpdate; refine wpList_mapUpdate_own _ rfl _ _ _ 143 rfl 3 3 Tryz.keyedI Tryz.underlying143 _ _ _ _ rfl (ownsMap_kept HM2.out ((Kept.refl W2).drewN _)) hmx _ _ _ rfl rfl hkey (.lit (.int .i64 i)) [] hval ?_; intro w2 hown2 hgrow2; go_frame)
              have hrg3 := (ranges_kept HR2.out ((Kept.refl W2).drewN _)).kept hgrow2 (fun e => by have := Option.some.inj e; omega) (fun e => by have := Option.some.inj e; omega)
              go_roundw
              case rel => exact ⟨left', strT t f s, cnt1, m' + 1, D'.put (kW f) (.lit (.int .i64 i)), setW h f i, hrg3, HL1.out, strT_le HLG.out f s, HE.out, hown2, HT'.out.put HM2.out.isMap i, by omega, (HK2.out.drewN _).grown hgrow2 (fun k hk => by cases hk; exact Nat.le_refl _)⟩
              case measure => rw [hrg3.left_eq, hm0]; exact hlt
            · have HE := Lib.hid (LInv.early HG.out HI.out hn HGI.out hi1 HH.out hlt2)
              go_wp2_with (at_lookup; refine wpList_askW_hit _ rfl _ _ rfl _ m' D' h rfl HM2.out HT'.out f rfl HF.out (n : Int) HH.out ?_)
              generalize L[n].s = y at *
              clear hen
              generalize w1.alloc (.cells #[.int .i64 f, .int .i64 s] 161) = W2 at *
              generalize w1.heap.size = zt at *
              obtain ⟨b0, b1⟩ := HB2.out.two
              go_quiet (fail)
              go_wp2_with fail
              have hrg3 := ranges_kept HR2.out ((Kept.refl W2).drewN 1)
              go_roundw
              case rel => exact ⟨left', strT t f s, cnt1, m', D', h, ranges_kept HR2.out ((Kept.refl W2).drewN _), HL1.out, strT_le HLG.out f s, HE.out, ownsMap_kept HM2.out ((Kept.refl W2).drewN _), HT'.out, by omega, HK2.out.drewN _⟩
              case measure => rw [(ranges_kept HR2.out ((Kept.refl W2).drewN _)).left_eq, hm0]; exact hlt
end

section
open Go.Shelf Go.RowKit

def sortV_ren : Go.Shelf.Ren := ⟨fun | 6 => 98 | 15 => 115 | 14 => 114 | 28 => 127 | 29 => 128 | 20 => 119 | 21 => 120 | 22 => 121 | 23 => 122 | 24 => 123 | 25 => 124 | 26 => 125 | 27 => 126 | 46 => 131 | 47 => 132 | 48 => 133 | 49 => 134 | 50 => 135 | 57 => 138 | n => n, fun | 22 => 27 | 24 => 47 | 25 => 149 | 3 => 3 | 39 => 152 | 0 => 0 | 53 => 125 | 55 => 23 | 4 => 4 | 46 => 169 | 45 => 168 | 50 => 86 | 5 => 5 | 9 => 9 | 66 => 177 | 70 => 181 | 76 => 184 | 77 => 185 | n => n, fun n => n⟩
theorem sortV : Go.Proofs.SlLaysF0.n6 Tryz.prog sortV_ren := {
  mixed := by kernel_rfl,
  f6 := ⟨Tryz.f98.name, by decide, Tryz.func98.trans (congrArg some (by kernel_rfl))⟩,
  f14 := ⟨Tryz.f114.name, by decide, Tryz.func114.trans (congrArg some (by kernel_rfl))⟩,
  f15 := Tryz.func115.trans (congrArg some (by kernel_rfl)),
  f20 := ⟨Tryz.f119.name, by decide, Tryz.func119.trans (congrArg some (by kernel_rfl))⟩,
  f21 := ⟨Tryz.f120.name, by decide, Tryz.func120.trans (congrArg some (by kernel_rfl))⟩,
  f22 := ⟨Tryz.f121.name, by decide, Tryz.func121.trans (congrArg some (by kernel_rfl))⟩,
  f23 := ⟨Tryz.f122.name, by decide, Tryz.func122.trans (congrArg some (by kernel_rfl))⟩,
  f24 := ⟨Tryz.f123.name, by decide, Tryz.func123.trans (congrArg some (by kernel_rfl))⟩,
  f25 := ⟨Tryz.f124.name, by decide, Tryz.func124.trans (congrArg some (by kernel_rfl))⟩,
  f26 := ⟨Tryz.f125.name, by decide, Tryz.func125.trans (congrArg some (by kernel_rfl))⟩,
  f27 := ⟨Tryz.f126.name, by decide, Tryz.func126.trans (congrArg some (by kernel_rfl))⟩,
  f28 := Tryz.func127.trans (congrArg some (by kernel_rfl)),
  f29 := Tryz.func128.trans (congrArg some (by kernel_rfl)),
  f46 := ⟨Tryz.f131.name, by decide, Tryz.func131.trans (congrArg some (by kernel_rfl))⟩,
  f47 := Tryz.func132.trans (congrArg some (by kernel_rfl)),
  f48 := Tryz.func133.trans (congrArg some (by kernel_rfl)),
  f49 := ⟨Tryz.f134.name, by decide, Tryz.func134.trans (congrArg some (by kernel_rfl))⟩,
  f50 := ⟨Tryz.f135.name, by decide, Tryz.func135.trans (congrArg some (by kernel_rfl))⟩,
  f57 := ⟨Tryz.f138.name, by decide, Tryz.func138.trans (congrArg some (by kernel_rfl))⟩,
  t0 := Tryz.underlying0,
  a0 := Tryz.isAgg0,
  z0 := Tryz.sizeOf0,
  v0 := Tryz.zeroValue0,
  t3 := Tryz.underlying3,
  a3 := Tryz.isAgg3,
  z3 := Tryz.sizeOf3,
  v3 := Tryz.zeroValue3,
  t4 := Tryz.underlying4,
  a4 := Tryz.isAgg4,
  z4 := Tryz.sizeOf4,
  v4 := Tryz.zeroValue4,
  t5 := Tryz.underlying5,
  a5 := Tryz.isAgg5,
  z5 := Tryz.sizeOf5,
  v5 := Tryz.zeroValue5,
  t9 := Tryz.underlying9,
  a9 := Tryz.isAgg9,
  z9 := Tryz.sizeOf9,
  v9 := Tryz.zeroValue9,
  t22 := Tryz.underlying27,
  a22 := Tryz.isAgg27,
  z22 := Tryz.sizeOf27,
  v22 := Tryz.zeroValue27,
  t25 := Tryz.underlying149,
  a25 := Tryz.isAgg149,
  z25 := Tryz.sizeOf149,
  v25 := Tryz.zeroValue149,
  t39 := Tryz.underlying152,
  a39 := Tryz.isAgg152,
  z39 := Tryz.sizeOf152,
  v39 := Tryz.zeroValue152,
  t45 := Tryz.underlying168,
  a45 := Tryz.isAgg168,
  z45 := Tryz.sizeOf168,
  v45 := Tryz.zeroValue168,
  t46 := Tryz.underlying169,
  a46 := Tryz.isAgg169,
  z46 := Tryz.sizeOf169,
  v46 := Tryz.zeroValue169,
  t50 := Tryz.underlying86,
  a50 := Tryz.isAgg86,
  z50 := Tryz.sizeOf86,
  v50 := Tryz.zeroValue86,
  t53 := Tryz.underlying125,
  a53 := Tryz.isAgg125,
  z53 := Tryz.sizeOf125,
  v53 := Tryz.zeroValue125,
  t55 := Tryz.underlying23,
  a55 := Tryz.isAgg23,
  z55 := Tryz.sizeOf23,
  v55 := Tryz.zeroValue23,
  t66 := Tryz.underlying177,
  a66 := Tryz.isAgg177,
  z66 := Tryz.sizeOf177,
  v66 := Tryz.zeroValue177,
  t70 := Tryz.underlying181,
  a70 := Tryz.isAgg181,
  z70 := Tryz.sizeOf181,
  v70 := Tryz.zeroValue181,
  t76 := Tryz.underlying184,
  a76 := Tryz.isAgg184,
  z76 := Tryz.sizeOf184,
  v76 := Tryz.zeroValue184,
  t77 := Tryz.underlying185,
  a77 := Tryz.isAgg185,
  z77 := Tryz.sizeOf185,
  v77 := Tryz.zeroValue185 }
def cmpI_ren : Go.Shelf.Ren := ⟨fun | 5 => 100 | 7 => 116 | n => n, fun | 22 => 3 | 3 => 3 | 4 => 4 | n => n, fun n => n⟩
theorem cmpI : Go.Proofs.SlLaysC2.n5 Tryz.prog cmpI_ren := {
  mixed := by kernel_rfl,
  f5 := ⟨Tryz.f100.name, by decide, Tryz.func100.trans (congrArg some (by kernel_rfl))⟩,
  f7 := ⟨Tryz.f116.name, by decide, Tryz.func116.trans (congrArg some (by kernel_rfl))⟩,
  t3 := Tryz.underlying3,
  a3 := Tryz.isAgg3,
  z3 := Tryz.sizeOf3,
  v3 := Tryz.zeroValue3,
  t4 := Tryz.underlying4,
  a4 := Tryz.isAgg4,
  z4 := Tryz.sizeOf4,
  v4 := Tryz.zeroValue4,
  t22 := Tryz.underlying3,
  a22 := Tryz.isAgg3,
  z22 := Tryz.sizeOf3,
  v22 := Tryz.zeroValue3 }
end

section
open Go.ChangeShapes Go.WideShapes Go.ChangeAt Go.RowKit Go.Sort

section
variable {α : Type} [Inhabited α] (enc : α → Value)
theorem holds_row {w : World} {g : Nat} {cur : Array Value} {e : TypeId} {d : Array α} (hb : w.heap[g]? = some (.cells cur e (0, 0))) (ht : cur.toList.take d.size = d.toList.map enc) : Holds enc w g 0 d := by
  intro j hj
  refine ⟨?_, by simp [World.frozen?, hb]⟩
  have h1 : (cur.toList.take d.size)[j]? = (d.toList.map enc)[j]? := by rw [ht]
  rw [List.getElem?_take_of_lt hj] at h1
  simp only [World.cell?, hb, Nat.zero_add]
  simp only [Option.isSome_none, Bool.false_eq_true, if_false]
  rw [← Array.getElem?_toList, h1]
  simp [hj]
theorem heap_rowed {w : World} {g n : Nat} {os : Array Obj} {cur : Array Value} {e : TypeId} {fr : Nat × Nat} (d : Array α) (hb : w.heap[g]? = some (.cells cur e fr)) :
    (grow (putRow enc (Sort.ahead w n) g 0 d) os).heap[g]? = some (.cells (putCells enc 0 d cur) e fr) := by
  have hg : g < w.heap.size := (Array.getElem?_eq_some_iff.1 hb).1
  rw [heap_grow_old _ _ (by simpa using hg)]
  simp [putRow, mapBlock, Sort.ahead, Array.getElem?_modify, hb, onCells]
theorem grownBy_rowed {w : World} {g n : Nat} {os : Array Obj} (d : Array α) : w.grownBy (grow (putRow enc (Sort.ahead w n) g 0 d) os) (some g) := by
  refine ⟨rfl, rfl, rfl, by simp, fun k hk hne => ?_⟩
  rw [heap_grow_old _ _ (by simpa using hk)]
  have : g ≠ k := fun e => hne (by rw [e])
  simp [putRow, mapBlock, Sort.ahead, Array.getElem?_modify, this]
theorem take_rowed (cur : Array Value) (d : Array α) (h : d.size ≤ cur.size) : (putCells enc 0 d cur).toList.take d.size = d.toList.map enc := by
  apply List.ext_getElem?
  intro j
  by_cases hj : j < d.size
  · rw [List.getElem?_take_of_lt hj, Array.getElem?_toList]
    simp [putCells, hj, show j < cur.size by omega]
  · rw [List.getElem?_take_eq_none (by omega), List.getElem?_eq_none (by simp; omega)]
/-- BEHIND THE SORT the same slice owns what was laid. -/
theorem ownsRow_rowed {w : World} {base g cap n m size : Nat} {e : TypeId} {os : Array Obj} {cur : Array Value} {d : Array α} (hl : d.size = m * size) (hbase : base ≤ g) (hb : w.heap[g]? = some (.cells cur e (0, 0)))
    (h1 : m ≤ cap) (h2 : cap ≤ maxLen) (h3 : cur.size = cap * size) :
    (grow (putRow enc (Sort.ahead w n) g 0 d) os).ownsRow base e size (.slice (some ⟨g, 0, none⟩) m cap) m (d.toList.map enc) :=
  ⟨by simp [hl], .inr ⟨g, cap, _, rfl, hbase, heap_rowed enc _ hb, h1, h2, by simp [putCells, h3], by rw [← hl]; exact take_rowed enc cur d (by rw [hl, h3]; exact Nat.mul_le_mul_right _ h1)⟩⟩
end
end

section
open Go.ChangeShapes Go.WideShapes Go.ChangeAt Go.RowKit Go.Sort Go.Lib Go.Shelf

instance : Inhabited Vt := ⟨⟨0, 0, (0, 0)⟩⟩
theorem flat_votes (l : List Vt) : (flatK vtCells 4 l.toArray).toList = votesCells l := by
  apply List.ext_getElem?
  intro j
  by_cases hj : j < l.length * 4
  · have hi : j / 4 < l.length := by omega
    have hk : j % 4 < (vtCells l[j / 4]).length := by show j % 4 < 4; omega
    have e := votesCells_at hi (List.getElem?_eq_getElem hk)
    rw [show j / 4 * 4 + j % 4 = j by omega] at e
    rw [e]
    have h2 := get_flatK vtCells 4 l.toArray j (by simpa using hj)
    have h3 : j < (flatK vtCells 4 l.toArray).size := by rw [size_flatK]; simpa using hj
    rw [getElem!_pos (flatK vtCells 4 l.toArray) j h3] at h2
    rw [Array.getElem?_toList, Array.getElem?_eq_getElem h3, h2]
    have h4 : l.toArray[j / 4]! = l[j / 4] := by simp [hi]
    rw [h4, getElem!_pos (vtCells l[j / 4]) (j % 4) hk]
  · rw [List.getElem?_eq_none (by simp; omega), List.getElem?_eq_none (by rw [votesCells_length]; omega)]
def cfV (x y : Vt) : Int := Lib.compareInt x.f y.f
theorem ltV (x y : Vt) : ltOf cfV x y = decide (x.f < y.f) := by
  unfold ltOf cfV Lib.compareInt
  by_cases h1 : x.f < y.f
  · simp [h1]
  · by_cases h2 : y.f < x.f <;> simp [h1, h2]
theorem swoV : SWO (ltOf cfV) where
  irrefl x := by rw [ltV]; simp
  trans x y z h1 h2 := by rw [ltV] at *; simp at *; omega
  ntrans x y z h1 h2 := by rw [ltV] at *; simp at *; omega
set_option maxHeartbeats 1000000 in
/-- The closure: who it is of, compared: two blocks are laid. -/
theorem cmpV_any (x y : Vt) (W : World) : Calls Tryz.prog 99 #[.agg #[.int .i64 x.f, .int .i64 x.s, .int .u64 x.p.1, .int .u64 x.p.2], .agg #[.int .i64 y.f, .int .i64 y.s, .int .u64 y.p.1, .int .u64 y.p.2]] W fun e w' => e = .returned (.int .i64 (cfV x y)) ∧ ∃ q os', w' = grow (W.drewN q) os' := by
  have hcon := fun W' => AnyG.cmp_Compare_int cmpI x.f y.f W'
  change ∀ W', Calls Tryz.prog 100 _ _ _ at hcon
  unfold cfV
  generalize Lib.compareInt x.f y.f = r at hcon ⊢
  go_enter Tryz.func99, Tryz.ntmps99
  go_wp2_with (go_at_call 100; refine (hcon _).mono ?_; rintro e w' ⟨rfl, rfl⟩)
  go_ret
  exact ⟨rfl, 0, _, by rw [alloc_eq_grow, alloc_eq_grow, grow_grow]; rfl⟩
theorem cmpLaysV (blk off size : Nat) (w : World) : CmpLays Tryz.prog 99 #[] vtCells 4 cfV blk off size w :=
  fun _ _ _ _ x y => cmpV_any x y _
theorem perm_of {d d' : Array Vt} (h : PermIn 0 d.size d d') : d'.toList.Perm d.toList := by
  obtain ⟨h1, _, h3⟩ := h
  have e1 : d'.extract 0 d.size = d' := by rw [← h1]; simp
  have e2 : d.extract 0 d.size = d := by simp
  rw [e1, e2] at h3
  exact h3
theorem sorted_of {d : Array Vt} (h : SortedIn (ltOf cfV) 0 d.size d) : d.toList.Pairwise fun a b => a.f ≤ b.f := by
  rw [List.pairwise_iff_getElem]
  intro i j hi hj hij
  have h1 : i < d.size := by simpa using hi
  have h2 : j < d.size := by simpa using hj
  have := h i j (Nat.zero_le _) hij h2
  rw [ltV, getElem!_pos d i h1, getElem!_pos d j h2] at this
  simp at this
  simpa using this

/-- A row of votes, put into order. -/
theorem sortV_any (W w : World) (l : List Vt) (v : Value) (hl : l.length ≤ 10000000) (h : Vts W l v w) :
    Calls Tryz.prog 98 #[v, .func (.func 99) #[] #[]] w fun e w' => e = .returned (.tuple #[]) ∧ ∃ S, S.Perm l ∧ (S.Pairwise fun a b => a.f ≤ b.f) ∧ Vts W S v w' := by
  rcases h.1.2 with ⟨rfl, h0⟩ | ⟨g, cap, cur, rfl, hbase, hb, h1, h2, h3, h4⟩
  · have hcon := AnyF.slices_SortFunc_none sortV none 0 (.func (.func 99) #[] #[]) w
    change Calls Tryz.prog 98 _ _ _ at hcon
    have hn : l = [] := List.eq_nil_of_length_eq_zero h0
    subst hn
    exact hcon.mono fun e w' ⟨he, hw⟩ => ⟨he, [], List.Perm.refl _, List.Pairwise.nil, by rw [hw]; exact h⟩
  · have eg : ∀ args w, (callFunc 99 args).run Tryz.prog w = .ok (.enter 99 args) w := enters_of Tryz.func99 (by kernel_rfl) rfl
    have hH : HoldsK vtCells 4 w g 0 l.toArray := by
      refine holds_row id hb ?_
      rw [size_flatK, List.map_id, flat_votes, ← h4]
      simp
    have hcon := AnyQ.slices_SortFunc sortV 4 Tryz.isAgg47 Tryz.sizeOf47 vtCells (fun _ => rfl) (fun x v hv => by simp [vtCells] at hv; rcases hv with rfl | rfl | rfl | rfl <;> rfl) cfV swoV 99 #[] g 0 cap l.toArray w eg (cmpLaysV g 0 _ w) hH (Array.getElem?_eq_some_iff.1 hb).1 (by simp; omega)
    change Calls Tryz.prog 98 #[.slice (some ⟨g, 0, none⟩) l.length cap, _] _ _ at hcon
    refine hcon.mono ?_
    rintro e w' ⟨he, d', n, os, hp, hs, rfl⟩
    have hsz : d'.size = l.length := by have := hp.1; simpa using this
    have hs' : SortedIn (ltOf cfV) 0 d'.size d' := by rw [hsz]; simpa using hs
    refine ⟨he, d'.toList, by simpa using perm_of hp, sorted_of hs', ?_, ?_⟩
    · have k := ownsRow_rowed (α := Value) id (w := w) (base := W.heap.size) (n := n) (os := os) (m := l.length) (size := 4) (d := flatK vtCells 4 d') (by rw [size_flatK, hsz]) hbase hb h1 h2 h3
      have e1 : (flatK vtCells 4 d').toList.map id = votesCells d'.toList := by
        rw [List.map_id, ← flat_votes]
      rw [e1] at k
      have e2 : d'.toList.length = l.length := by simp [hsz]
      rw [e2]
      exact k
    · exact h.2.grown (grownBy_rowed id _) fun k hk => by cases hk; exact hbase
end

section
open Go.ChangeShapes Go.WideShapes Go.ChangeAt Go.RowKit

theorem row_ne_range {P : Program} {k : TypeId} {R : Value → Option (DataW Unit × List MemPlace)} {w : World} {b r n : Nat} {D : DataW Unit} {left : Lit → Bool} {cnt base : Nat} {e : TypeId} {size : Nat} {v : Value} {m : Nat} {xs : List Value}
    (h : w.ownsRow base e size v m xs) (hr : w.ranges P k R b r n D left cnt) : some b ≠ v.ownBlock ∧ some r ≠ v.ownBlock := by
  obtain ⟨es, clock, _, _, _, hmp, _, _, _, hit, _⟩ := hr
  rcases h.2 with ⟨rfl, _⟩ | ⟨g, cap, cur, rfl, _, hb, _⟩
  · simp [Value.ownBlock]
  · constructor
    · intro e1
      have : b = g := by simpa [Value.ownBlock] using e1
      subst this
      rw [hmp] at hb
      cases hb
    · intro e1
      have : r = g := by simpa [Value.ownBlock] using e1
      subst this
      rw [hit] at hb
      cases hb
/-- How the loop over who has a vote stands. -/
def CLoop (L : List Vt) (q : Int → Bool) (h : Whos) (b m : Nat) (D : DataW Unit) (w : World) (r : Nat) (v : Value) (wr : World) : Prop :=
  ∃ (left : Lit → Bool) (t : Int → Bool) (cnt : Nat) (R : List Vt), wr.ranges Tryz.prog 3 (plainElem Tryz.prog 3) b r m D left cnt ∧
    (∀ f, Wf64 f → left (kW f) = t f) ∧ (∀ f, t f = true → h f ≠ none) ∧ CInv L q t R ∧ Vts w R v wr ∧ R.length + cnt ≤ m
theorem strW_le {t : Int → Bool} {h : Whos} (k : ∀ f, t f = true → h f ≠ none) (f0 : Int) : ∀ f, strW t f0 f = true → h f ≠ none := fun f e => k f (by
  unfold strW at e
  exact (Bool.and_eq_true_iff.1 e).1)
theorem Vts.drewN {W w : World} {l : List Vt} {v : Value} (h : Vts W l v w) (n : Nat) : Vts W l v (w.drewN n) := h.kept ((Kept.refl w).drewN n)
theorem Vts.turned {W w w' : World} {l : List Vt} {v : Value} {r : Nat} (h : Vts W l v w) (hg : w.grownBy w' (some r)) (hr : W.heap.size ≤ r) (hne : some r ≠ v.ownBlock) : Vts W l v w' := by
  refine ⟨⟨h.1.1, ?_⟩, h.2.grown hg fun k hk => by cases hk; exact hr⟩
  rcases h.1.2 with h2 | ⟨g, cap, cur, hv, hb, hh, k⟩
  · exact Or.inl h2
  · refine Or.inr ⟨g, cap, cur, hv, hb, ?_, k⟩
    rw [hg.block g (h.1.lt g (by rw [hv]; rfl)).2 (by rw [hv] at hne; exact fun e => hne e.symm)]
    exact hh
/-- What hands back the votes that count. -/
def Counted (L : List Vt) (q : Int → Bool) (w : World) (e : Ending) (w' : World) : Prop := ∃ R, Cnts L q R ∧ R.length ≤ L.length ∧ VtsNew R w e w'

/-- .. in a row of its own. -/
def CountedOwn (L : List Vt) (q : Int → Bool) (w : World) (e : Ending) (w' : World) : Prop := ∃ R, Cnts L q R ∧ R.length ≤ L.length ∧ ∃ A c, e = .returned (.slice A R.length c) ∧ Vts w R (.slice A R.length c) w'
theorem CountedOwn.counted {L : List Vt} {q : Int → Bool} {w : World} {e : Ending} {w' : World} (h : CountedOwn L q w e w') : Counted L q w e w' := by
  obtain ⟨R, h1, h2, A, c, rfl, h3⟩ := h
  exact ⟨R, h1, h2, h3.new⟩

set_option maxRecDepth 100000 in
set_option maxHeartbeats 1600000 in
theorem countedOwn_any (A : Option Addr) (c : Nat) (L : List Vt) (hl : L.length ≤ 1000000) (hw : WfVs L) (f : Nat) (cb : Array Value) (q : Int → Bool) (w : World) (hA : CellsAt w w.heap.size A (votesCells L)) (hF : Fits f cb q w)
    (eg : ∀ args w, (callFunc f args).run Tryz.prog w = .ok (.enter f args) w) :
    Calls Tryz.prog 73 #[.slice A L.length c, .func (.func f) #[] cb] w (CountedOwn L q w) := by
  have HA := Lib.hid hA
  have HW := Lib.hid hw
  have HF := Lib.hid hF
  clear hA hw hF
  go_enter Tryz.func73, Tryz.ntmps73
  go_wp2_with fail
  refine (gather_any A c L hl HW.out f cb q w HA.out HF.out eg).mono ?_
  rintro e W1 ⟨b1, m1, D1, g1, rfl, hb1, hm1, hM1, hT1, hG1, k1⟩
  have HK1 := Lib.hid k1
  have HM1 := Lib.hid hM1
  have HT1 := Lib.hid hT1
  have HG1 := Lib.hid hG1
  clear k1 hM1 hT1 hG1
  go_wp2_with fail
  refine (lasts_any A c L hl HW.out b1 m1 D1 g1 q W1 (HA.out.kept HK1.out) HM1.out HT1.out HG1.out hm1).mono ?_
  rintro e W2 ⟨b, m, D, h, rfl, hb, hm, hM, hT, hH, k2⟩
  have HK2 := Lib.hid (HK1.out.trans k2)
  have HT := Lib.hid hT
  have HH := Lib.hid hH
  have HS := Lib.hid hM.size_le
  have hown := hM
  have hbw : w.heap.size ≤ b := Nat.le_trans HK1.out.size_le hb
  clear k2 hM hT hH HM1 HT1 HG1 hb1 hm1
  have hzw := HK2.out.size_le
  go_wp2_with (at_range; refine wpList_range_own _ rfl _ 143 rfl 3 3 Tryz.keyedI Tryz.underlying143 _ b m D rfl hown ?_; intro w0 hrg0 hg0 hs0)
  go_frame
  have HS0 := Lib.hid (show CLoop L q h b m D w W2.heap.size (.slice none 0 0) w0 from ⟨_, fun f => (h f).isSome, _, [], hrg0, HT.out.left, (fun f k e => by simp [e] at k), CInv.start HH.out, Vts.none (HK2.out.grown hg0 (fun k hk => by cases hk)), by rw [List.length_nil, Nat.zero_add]; exact HS.out⟩)
  clear hrg0 hg0 hs0 hown
  generalize W2.heap.size = r at *
  go_loopw [5] (fun v wr => CLoop L q h b m D w r v wr) (fun _ wr => wr.rangeLeft b r)
  case atStart => exact HS0.out
  case round =>
    clear HS0
    obtain ⟨left, t, cnt, R, hrg, hL, hLG, hI, hV, hmc⟩ := hrel
    have HR := Lib.hid hrg
    have HL := Lib.hid hL
    have HLG := Lib.hid hLG
    have HI := Lib.hid hI
    have HV := Lib.hid hV
    clear hL hLG hI hV hrg
    go_wp2_with (at_next; refine wpList_nextW _ rfl _ rfl b r m D h HT.out left t HL.out (fun f _ => HLG.out f) cnt rfl HR.out ?_ ?_)
    · intro hc0 hl0
      have HE := Lib.hid (HI.out.done fun v k => hl0 v.f (HW.out v k.1).1)
      clear hl0
      go_wp2_with fail
      have hlen : R.length ≤ 10000000 := by omega
      refine (sortV_any w wr R u5 hlen HV.out).mono ?_
      rintro e W3 ⟨rfl, S, hp, hs, hV3⟩
      have HC := Lib.hid (cnts_of_sorted HE.out hp hs)
      have HSl := Lib.hid hp.length_eq
      obtain ⟨A', c', rfl⟩ := hV3.slice
      have HN := Lib.hid hV3
      clear hp hs hV3 HV
      go_wp2_with fail
      go_ret
      exact ⟨S, HC.out, by rw [HSl.out]; omega, A', c', rfl, HN.out⟩
    · intro f0 i left' w1 cnt1 hf hi hhi hti hL1 hrg1 hlt hg1 hen
      have HV1 := Lib.hid (HV.out.turned hg1 hzw (row_ne_range HV.out.1 HR.out).2)
      have HR1 := Lib.hid hrg1
      have HL1 := Lib.hid hL1
      have HHI := Lib.hid hhi
      have HTI := Lib.hid hti
      have hm0 := HR.out.left_eq
      clear hL1 hrg1 hg1 hhi hti HV hf hi
      by_cases hi1 : i = -1
      · subst hi1
        have HE := Lib.hid (CInv.bad HH.out HI.out HHI.out)
        go_wp2_with fail
        go_roundw
        case rel => exact ⟨left', strW t f0, cnt1, R, HR1.out, HL1.out, strW_le HLG.out f0, HE.out, HV1.out, by omega⟩
        case measure => rw [HR1.out.left_eq, hm0]; exact hlt
      · obtain ⟨n, hn, rfl⟩ : ∃ (n : Nat) (hn : n < L.length), i = (n : Int) := by
          rcases HH.out.2 _ _ HHI.out with ⟨e, _⟩ | ⟨n, hn, e, _⟩
          · exact absurd e hi1
          · exact ⟨n, hn, e⟩
        have HE := Lib.hid (CInv.good HH.out HI.out hn HHI.out HTI.out)
        obtain ⟨z, o, rfl, hzb, e0, e1, e2, e3⟩ := vote_at (HA.out.kept HV1.out.2) hn
        have hll : R.length + 1 ≤ 10000000 := by omega
        generalize L[n] = y at *
        have HR2 := Lib.hid (HR1.out.alloc (.cells #[.int .i64 y.f, .int .i64 y.s, .int .u64 y.p.1, .int .u64 y.p.2] 47))
        have HV2 := Lib.hid (HV1.out.alloc (.cells #[.int .i64 y.f, .int .i64 y.s, .int .u64 y.p.1, .int .u64 y.p.2] 47))
        have hne := row_ne_range HV2.out.1 HR2.out
        go_wp2_with (refine wpList_vts _ rfl _ _ rfl w R _ rfl HV2.out _ _ 1 1 [y] rfl rfl (votes_one_at (HasCells.new _ _ _ _ rfl)) hll ?_; intro v' w' HV' hg')
        have hrg3 := HR2.out.kept hg' hne.1 hne.2
        go_roundw
        case rel => exact ⟨left', strW t f0, cnt1, R ++ [y], hrg3, HL1.out, strW_le HLG.out f0, HE.out, HV', by rw [List.length_append, List.length_singleton]; omega⟩
        case measure => rw [hrg3.left_eq, hm0]; exact hlt

theorem counted_any (A : Option Addr) (c : Nat) (L : List Vt) (hl : L.length ≤ 1000000) (hw : WfVs L) (f : Nat) (cb : Array Value) (q : Int → Bool) (w : World) (hA : CellsAt w w.heap.size A (votesCells L)) (hF : Fits f cb q w)
    (eg : ∀ args w, (callFunc f args).run Tryz.prog w = .ok (.enter f args) w) :
    Calls Tryz.prog 73 #[.slice A L.length c, .func (.func f) #[] cb] w (Counted L q w) :=
  (countedOwn_any A c L hl hw f cb q w hA hF eg).mono fun _ _ h => h.counted
set_option maxHeartbeats 800000 in
theorem ofVOwn_any (A : Option Addr) (c : Nat) (L : List Vt) (hl : L.length ≤ 1000000) (hw : WfVs L) (s : Int) (w : World) (hA : CellsAt w w.heap.size A (votesCells L)) :
    Calls Tryz.prog 45 #[.slice A L.length c, .int .i64 s] w (CountedOwn L (isQ s) w) := by
  have HA := Lib.hid hA
  have HW := Lib.hid hw
  have eg : ∀ args w, (callFunc 101 args).run Tryz.prog w = .ok (.enter 101 args) w := enters_of Tryz.func101 (by kernel_rfl) rfl
  clear hA hw
  go_enter Tryz.func45, Tryz.ntmps45
  go_wp2_with fail
  refine (only_any s w).mono ?_
  rintro e W1 ⟨z, rfl, hz, k1⟩
  have HZ := Lib.hid hz
  have HK := Lib.hid k1
  clear hz k1
  go_wp2_with fail
  refine (countedOwn_any A c L hl HW.out _ _ (isQ s) W1 (HA.out.kept HK.out) (isFits z s W1 HZ.out) eg).mono ?_
  rintro e W2 ⟨R, hC, hR, A', c', rfl, hc⟩
  have HE := Lib.hid (show CountedOwn L (isQ s) w (.returned (.slice A' R.length c')) W2 from ⟨R, hC, hR, A', c', rfl, hc.lower HK.out⟩)
  clear hC hR hc
  go_wp2_with fail
  go_ret
  exact HE.out
theorem ofV_any (A : Option Addr) (c : Nat) (L : List Vt) (hl : L.length ≤ 1000000) (hw : WfVs L) (s : Int) (w : World) (hA : CellsAt w w.heap.size A (votesCells L)) :
    Calls Tryz.prog 45 #[.slice A L.length c, .int .i64 s] w (Counted L (isQ s) w) :=
  (ofVOwn_any A c L hl hw s w hA).mono fun _ _ h => h.counted
end

end Go.Proofs.YtpojiijgahcidaaGreat
