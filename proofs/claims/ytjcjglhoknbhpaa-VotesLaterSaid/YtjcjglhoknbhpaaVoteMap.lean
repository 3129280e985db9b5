/-
  The two maps of package votes: by who and slot (a struct), and by who; asked, stored into, and gone over in whatever order.
-/
import Derived.Test.YtjcjglhoknbhpaaVoteRow
import Derived.Maps.OwnIn
import Derived.Maps.RangeWalk
import Derived.DeepKeys4
namespace Go.Proofs.Ytjcjglhoknbhpaa
open Go.ChangeShapes Go.WideShapes Go.ChangeAt Go.RowKit

/-! ### Keys -/
theorem Try.laidOut : laidOutB Try.prog = true := by kernel_rfl
theorem Try.rowT : (43 : TypeId) < Try.prog.types.size := of_decide_eq_true (by kernel_rfl)
theorem Try.cellsT : Try.prog.cellsOf 43 = 2 := by kernel_rfl
theorem Try.cellsI : Try.prog.cellsOf 3 = 1 := by kernel_rfl
theorem Try.keyTypeT : Try.prog.keyType 43 = true := by kernel_rfl
theorem Try.wideT : (match Try.prog.underlying 43 with | some (.array _ _) | some (.struct _) => true | _ => false) = true := by rw [Try.underlying43]
theorem Try.keyedT : Maps.Keyed Try.prog 43 := Maps.Keyed.of_law (deep_law_laid Try.laidOut (m := 2) (by omega) Try.rowT (by kernel_rfl) Try.wideT)
theorem Try.keyedI : Maps.Keyed Try.prog 3 := Maps.int_keyed Try.underlying3
/-- What a turn reads as, as a key. -/
def kT (f s : Int) : Lit := .string (keyBytes [.int .i64 f, .int .i64 s])
def kW (f : Int) : Lit := .int .i64 f
theorem keyT_of {f s : Int} (hf : Wf64 f) (hs : Wf64 s) : keyOf Try.prog 43 (.agg #[.int .i64 f, .int .i64 s]) = some (kT f s) := by
  obtain ⟨m, hm⟩ := Try.someTypes
  unfold keyOf
  simp only [Try.underlying43]
  rw [if_pos (by simp [Try.keyTypeT, Value.formed, Try.underlying43, Try.cellsT]), hm]
  unfold Program.keyLits
  simp only [Try.underlying43, Value.cells]
  rw [if_pos ⟨by rw [Try.cellsT]; rfl, by kernel_rfl⟩]
  simp [Try.cellsI, Program.keyLits, Try.underlying3, hf.wf, hs.wf, kT]
theorem litI {d : Nat} {c : Value} {L : List Lit} (h : Try.prog.keyLits (d + 1) 3 [c] = some L) : ∃ a, c = .int .i64 a ∧ Wf64 a ∧ L = [.int .i64 a] := by
  unfold Program.keyLits at h
  rw [Try.underlying3] at h
  cases c <;> simp at h
  obtain ⟨⟨rfl, hw⟩, rfl⟩ := h
  exact ⟨_, rfl, Wf64.of hw, rfl⟩
theorem keyT_inv {v : Value} {kl : Lit} (h : keyOf Try.prog 43 v = some kl) : ∃ f s : Int, v = .agg #[.int .i64 f, .int .i64 s] ∧ kl = kT f s ∧ Wf64 f ∧ Wf64 s := by
  obtain ⟨xs, L, rfl, h1, rfl⟩ := keyOf_top Try.wideT h
  obtain ⟨m, hm⟩ := Try.someTypes
  rw [hm] at h1
  unfold Program.keyLits at h1
  simp only [Try.underlying43] at h1
  split at h1
  · rename_i hc
    rw [Try.cellsT] at hc
    obtain ⟨l⟩ := xs
    match l, hc.1 with
    | [c0, c1], _ =>
      simp only [Option.map_eq_some_iff] at h1
      obtain ⟨ls, h2, rfl⟩ := h1
      simp only [List.mapM_cons, List.mapM_nil, bind, Option.bind_eq_some_iff, pure, Option.some.injEq, Try.cellsI] at h2
      obtain ⟨l0, h0, _, ⟨l1, h1, _, rfl, rfl⟩, rfl⟩ := h2
      obtain ⟨a, rfl, wa, rfl⟩ := litI (c := c0) h0
      obtain ⟨b, rfl, wb, rfl⟩ := litI (c := c1) h1
      exact ⟨a, b, rfl, rfl, wa, wb⟩
  · cases h1
theorem kT_inj {f s f' s' : Int} (hf : Wf64 f) (hs : Wf64 s) (hf' : Wf64 f') (hs' : Wf64 s') (e : kT f s = kT f' s') : f = f' ∧ s = s' := by
  have k := Try.keyedT.inj (keyT_of hf hs) (by rw [e]; exact keyT_of hf' hs')
  simp at k
  exact k
theorem keyW_of {f : Int} (hf : Wf64 f) : keyOf Try.prog 3 (.int .i64 f) = some (kW f) := Maps.keyOf_int_mk Try.underlying3 hf.wf
theorem kT_same {f s f' s' : Int} (hf : Wf64 f) (hs : Wf64 s) (hf' : Wf64 f') (hs' : Wf64 s') : (kT f s).sameKey (kT f' s') = decide (f = f' ∧ s = s') := by
  by_cases e : f = f' ∧ s = s'
  · obtain ⟨rfl, rfl⟩ := e
    rw [WideAt.sameKey_self (Try.keyedT.key (keyT_of hf hs))]
    simp
  · rw [decide_eq_false e]
    exact Maps.sameKey_ne fun k => e (kT_inj hf hs hf' hs' k)
theorem kW_same {f f' : Int} : (kW f).sameKey (kW f') = decide (f = f') := by
  by_cases e : f = f'
  · subst e
    rw [WideAt.sameKey_self (show WideAt.IsKeyLit (kW f) from trivial)]
    simp
  · rw [decide_eq_false e]
    exact Maps.sameKey_ne fun k => e (by unfold kW at k; injection k)

/-! ### What a map holds -/
def TieT (D : DataW Unit) (g : Turns) : Prop := ∀ f s, Wf64 f → Wf64 s → (match g f s with
    | some i => Maps.has D (kT f s) = true ∧ ∀ z, D.atKey (kT f s) z = .lit (.int .i64 i)
    | none => Maps.has D (kT f s) = false)
def TieW (D : DataW Unit) (h : Whos) : Prop := ∀ f, Wf64 f → (match h f with
    | some i => Maps.has D (kW f) = true ∧ ∀ z, D.atKey (kW f) z = .lit (.int .i64 i)
    | none => Maps.has D (kW f) = false)
abbrev OwnT (b m : Nat) (D : DataW Unit) (w : World) : Prop := w.ownsMap Try.prog 43 (plainElem Try.prog 3) b m D
abbrev OwnW (b m : Nat) (D : DataW Unit) (w : World) : Prop := w.ownsMap Try.prog 3 (plainElem Try.prog 3) b m D
theorem ownsMap_kept {P : Program} {k : TypeId} {R : Value → Option (DataW Unit × List MemPlace)} {w w' : World} {b n : Nat} {D : DataW Unit} (h : w.ownsMap P k R b n D) (k' : Kept w w') : w'.ownsMap P k R b n D := by
  obtain ⟨es, clock, hb, r⟩ := h
  exact ⟨es, clock, (k'.heap (Array.getElem?_eq_some_iff.1 hb).1).trans hb, r⟩
theorem ownsMap_lt {P : Program} {k : TypeId} {R : Value → Option (DataW Unit × List MemPlace)} {w : World} {b n : Nat} {D : DataW Unit} (h : w.ownsMap P k R b n D) : b < w.heap.size := by
  obtain ⟨es, clock, hb, r⟩ := h
  exact (Array.getElem?_eq_some_iff.1 hb).1
theorem ranges_kept {P : Program} {k : TypeId} {R : Value → Option (DataW Unit × List MemPlace)} {w w' : World} {b r n : Nat} {D : DataW Unit} {left : Lit → Bool} {cnt : Nat} (h : w.ranges P k R b r n D left cnt) (k' : Kept w w') : w'.ranges P k R b r n D left cnt := by
  obtain ⟨es, clock, since, seen, c0, h1, h2, h3, h4, h5, h6⟩ := h
  exact ⟨es, clock, since, seen, c0, (k'.heap (Array.getElem?_eq_some_iff.1 h1).1).trans h1, h2, h3, h4, (k'.heap (Array.getElem?_eq_some_iff.1 h5).1).trans h5, h6⟩
theorem TieT.made : TieT (.map []) (fun _ _ => none) := fun _ _ _ _ => rfl
theorem TieW.made : TieW (.map []) (fun _ => none) := fun _ _ => rfl
theorem TieT.hit {D : DataW Unit} {g : Turns} (h : TieT D g) {f s i : Int} (hf : Wf64 f) (hs : Wf64 s) (q : g f s = some i) : Maps.has D (kT f s) = true ∧ ∀ z, D.atKey (kT f s) z = .lit (.int .i64 i) := by
  have := h f s hf hs; rw [q] at this; exact this
theorem TieT.miss {D : DataW Unit} {g : Turns} (h : TieT D g) {f s : Int} (hf : Wf64 f) (hs : Wf64 s) (q : g f s = none) : Maps.has D (kT f s) = false := by
  have := h f s hf hs; rw [q] at this; exact this
theorem TieW.hit {D : DataW Unit} {h : Whos} (k : TieW D h) {f i : Int} (hf : Wf64 f) (q : h f = some i) : Maps.has D (kW f) = true ∧ ∀ z, D.atKey (kW f) z = .lit (.int .i64 i) := by
  have := k f hf; rw [q] at this; exact this
theorem TieW.miss {D : DataW Unit} {h : Whos} (k : TieW D h) {f : Int} (hf : Wf64 f) (q : h f = none) : Maps.has D (kW f) = false := by
  have := k f hf; rw [q] at this; exact this
theorem TieT.put {D : DataW Unit} {g : Turns} (h : TieT D g) (hD : Maps.IsMap D) {f s : Int} (i : Int) (hf : Wf64 f) (hs : Wf64 s) : TieT (D.put (kT f s) (.lit (.int .i64 i))) (setT g f s i) := fun f' s' hf' hs' => by
  have hk : WideAt.IsKeyLit (kT f s) := Try.keyedT.key (keyT_of hf hs)
  unfold setT
  by_cases e : f' = f ∧ s' = s
  · rw [if_pos e]
    obtain ⟨rfl, rfl⟩ := e
    exact ⟨Maps.has_put_same hD hk _, fun z => Maps.atKey_put_same hD hk _ z⟩
  · rw [if_neg e]
    have hne : kT f' s' ≠ kT f s := fun k => e (kT_inj hf' hs' hf hs k)
    have hx := h f' s' hf' hs'
    cases p : g f' s' with
    | some j =>
      rw [p] at hx
      exact ⟨(Maps.has_put_other hne _).trans hx.1, fun z => (Maps.atKey_put_other hne _ z).trans (hx.2 z)⟩
    | none =>
      rw [p] at hx
      exact (Maps.has_put_other hne _).trans hx
theorem TieW.put {D : DataW Unit} {h : Whos} (k : TieW D h) (hD : Maps.IsMap D) {f : Int} (i : Int) : TieW (D.put (kW f) (.lit (.int .i64 i))) (setW h f i) := fun f' hf' => by
  have hk : WideAt.IsKeyLit (kW f) := trivial
  unfold setW
  by_cases e : f' = f
  · rw [if_pos e]
    subst e
    exact ⟨Maps.has_put_same hD hk _, fun z => Maps.atKey_put_same hD hk _ z⟩
  · rw [if_neg e]
    have hne : kW f' ≠ kW f := fun k => e (by unfold kW at k; injection k)
    have hx := k f' hf'
    cases p : h f' with
    | some j =>
      rw [p] at hx
      exact ⟨(Maps.has_put_other hne _).trans hx.1, fun z => (Maps.atKey_put_other hne _ z).trans (hx.2 z)⟩
    | none =>
      rw [p] at hx
      exact (Maps.has_put_other hne _).trans hx

/-! ### Asking -/
section
variable (w : World) {ops : Array Oper} {rest : List Oper} {o : Oper} {a : Act} {Q : Exit → Act → World → Prop}
theorem wpList_askT (hg : o.guard = none) (m x : Operand) (hop : o.op = Op.lookup 38 m x true) (b n : Nat) (D : DataW Unit) (g : Turns) (hm : a.eval m = .map (some b)) (hM : OwnT b n D w) (hT : TieT D g) (f s : Int) (hx : a.eval x = .agg #[.int .i64 f, .int .i64 s]) (hf : Wf64 f) (hs : Wf64 s)
    (hK : wpList Try.prog ops Q rest (a.put o.dst (.tuple #[.int .i64 ((g f s).getD 0), .bool (g f s).isSome])) w) : wpList Try.prog ops Q (o :: rest) a w := by
  refine wpList_lookup_own_ok_int w hg m x 38 hop 43 3 .i64 Try.keyedT Try.underlying38 Try.underlying3 (Try.zeroValue3 _) b n D hm hM _ _ hx (keyT_of hf hs) ?_
  intro c hat _
  cases q : g f s with
  | some i =>
    have h := hT.hit hf hs q
    rw [h.2] at hat
    cases hat
    rw [h.1]
    rw [q] at hK
    exact hK
  | none =>
    have h := hT.miss hf hs q
    rw [Maps.atKey_of_not_has h] at hat
    cases hat
    rw [h]
    rw [q] at hK
    exact hK
theorem wpList_askW (hg : o.guard = none) (m x : Operand) (hop : o.op = Op.lookup 52 m x true) (b n : Nat) (D : DataW Unit) (h : Whos) (hm : a.eval m = .map (some b)) (hM : OwnW b n D w) (hT : TieW D h) (f : Int) (hx : a.eval x = .int .i64 f) (hf : Wf64 f)
    (hK : wpList Try.prog ops Q rest (a.put o.dst (.tuple #[.int .i64 ((h f).getD 0), .bool (h f).isSome])) w) : wpList Try.prog ops Q (o :: rest) a w := by
  refine wpList_lookup_own_ok_int w hg m x 52 hop 3 3 .i64 Try.keyedI Try.underlying52 Try.underlying3 (Try.zeroValue3 _) b n D hm hM _ _ hx (keyW_of hf) ?_
  intro c hat _
  cases q : h f with
  | some i =>
    have k := hT.hit hf q
    rw [k.2] at hat
    cases hat
    rw [k.1]
    rw [q] at hK
    exact hK
  | none =>
    have k := hT.miss hf q
    rw [Maps.atKey_of_not_has k] at hat
    cases hat
    rw [k]
    rw [q] at hK
    exact hK

theorem wpList_askT_hit (hg : o.guard = none) (m x : Operand) (hop : o.op = Op.lookup 38 m x true) (b n : Nat) (D : DataW Unit) (g : Turns) (hm : a.eval m = .map (some b)) (hM : OwnT b n D w) (hT : TieT D g) (f s : Int) (hx : a.eval x = .agg #[.int .i64 f, .int .i64 s]) (hf : Wf64 f) (hs : Wf64 s) (i : Int) (q : g f s = some i)
    (hK : wpList Try.prog ops Q rest (a.put o.dst (.tuple #[.int .i64 i, .bool true])) w) : wpList Try.prog ops Q (o :: rest) a w :=
  wpList_askT w hg m x hop b n D g hm hM hT f s hx hf hs (by rw [q]; exact hK)
theorem wpList_askT_miss (hg : o.guard = none) (m x : Operand) (hop : o.op = Op.lookup 38 m x true) (b n : Nat) (D : DataW Unit) (g : Turns) (hm : a.eval m = .map (some b)) (hM : OwnT b n D w) (hT : TieT D g) (f s : Int) (hx : a.eval x = .agg #[.int .i64 f, .int .i64 s]) (hf : Wf64 f) (hs : Wf64 s) (q : g f s = none)
    (hK : wpList Try.prog ops Q rest (a.put o.dst (.tuple #[.int .i64 0, .bool false])) w) : wpList Try.prog ops Q (o :: rest) a w :=
  wpList_askT w hg m x hop b n D g hm hM hT f s hx hf hs (by rw [q]; exact hK)
theorem wpList_askW_hit (hg : o.guard = none) (m x : Operand) (hop : o.op = Op.lookup 52 m x true) (b n : Nat) (D : DataW Unit) (h : Whos) (hm : a.eval m = .map (some b)) (hM : OwnW b n D w) (hT : TieW D h) (f : Int) (hx : a.eval x = .int .i64 f) (hf : Wf64 f) (i : Int) (q : h f = some i)
    (hK : wpList Try.prog ops Q rest (a.put o.dst (.tuple #[.int .i64 i, .bool true])) w) : wpList Try.prog ops Q (o :: rest) a w :=
  wpList_askW w hg m x hop b n D h hm hM hT f hx hf (by rw [q]; exact hK)
theorem wpList_askW_miss (hg : o.guard = none) (m x : Operand) (hop : o.op = Op.lookup 52 m x true) (b n : Nat) (D : DataW Unit) (h : Whos) (hm : a.eval m = .map (some b)) (hM : OwnW b n D w) (hT : TieW D h) (f : Int) (hx : a.eval x = .int .i64 f) (hf : Wf64 f) (q : h f = none)
    (hK : wpList Try.prog ops Q rest (a.put o.dst (.tuple #[.int .i64 0, .bool false])) w) : wpList Try.prog ops Q (o :: rest) a w :=
  wpList_askW w hg m x hop b n D h hm hM hT f hx hf (by rw [q]; exact hK)

/-! ### Going over -/
theorem wpList_nextT (hg : o.guard = none) (it : Operand) (hop : o.op = Op.next it false) (b r n : Nat) (D : DataW Unit) (g : Turns) (hT : TieT D g) (left : Lit → Bool) (t : Int → Int → Bool) (hL : ∀ f s, Wf64 f → Wf64 s → left (kT f s) = t f s) (hLG : ∀ f s, Wf64 f → Wf64 s → t f s = true → g f s ≠ none) (cnt : Nat)
    (hit : a.eval it = .pointer (some ⟨r, 0, none⟩)) (h : w.ranges Try.prog 43 (plainElem Try.prog 3) b r n D left cnt)
    (hDone : cnt = 0 → (∀ f s, Wf64 f → Wf64 s → t f s = false) → wpList Try.prog ops Q rest (a.put o.dst (.tuple #[.bool false])) w)
    (hMore : ∀ (f s i : Int) (left' : Lit → Bool) (w' : World) (cnt' : Nat), Wf64 f → Wf64 s → Wf64 i → g f s = some i → t f s = true → (∀ f' s', Wf64 f' → Wf64 s' → left' (kT f' s') = strT t f s f' s') → w'.ranges Try.prog 43 (plainElem Try.prog 3) b r n D left' cnt' → cnt' < cnt →
      w.grownBy w' (some r) → (Instr.entry (.pointer (some ⟨r, 0, none⟩))).run Try.prog w' = .ok (.tuple #[.agg #[.int .i64 f, .int .i64 s], .int .i64 i]) w' → wpList Try.prog ops Q rest (a.put o.dst (.tuple #[.bool true, .agg #[.int .i64 f, .int .i64 s], .int .i64 i])) w') :
    wpList Try.prog ops Q (o :: rest) a w := by
  refine wpList_next_ranges w hg it hop 43 Try.keyedT (plainElem Try.prog 3) (fun x : Int × Int => .agg #[.int .i64 x.1, .int .i64 x.2]) (Value.int .i64) (fun key kl hkey => ?_) (fun v y hv => ?_) b r n D left cnt hit h (fun h0 hl => hDone h0 fun f s hf hs => ?_) ?_
  · obtain ⟨f, s, rfl, _⟩ := keyT_inv hkey
    exact ⟨(f, s), rfl⟩
  · obtain ⟨c, rfl, _⟩ := plainElem_int_inv Try.underlying3 hv
    exact ⟨c, rfl⟩
  · rw [← hL f s hf hs]; exact hl _
  · rintro ⟨f0, s0⟩ c kl y w' cnt' hkey hlk hv hat hrg hlt hgr _ hen
    obtain ⟨f, s, e, rfl, hf, hs⟩ := keyT_inv hkey
    simp at e
    obtain ⟨rfl, rfl⟩ := e
    obtain ⟨c', ec, rfl, hwc⟩ := plainElem_int_inv Try.underlying3 hv
    cases ec
    have ht : t f0 s0 = true := by rw [← hL f0 s0 hf hs]; exact hlk
    cases q : g f0 s0 with
    | none => exact absurd q (hLG f0 s0 hf hs ht)
    | some i =>
      have k := (hT.hit hf hs q).2 (.lit (.int .i64 0))
      rw [hat] at k
      simp at k
      subst k
      refine hMore f0 s0 c _ w' cnt' hf hs (Wf64.of hwc) q ht (fun f' s' hf' hs' => ?_) hrg hlt hgr hen
      simp only [hL f' s' hf' hs', kT_same hf' hs' hf hs, strT]
theorem wpList_nextW (hg : o.guard = none) (it : Operand) (hop : o.op = Op.next it false) (b r n : Nat) (D : DataW Unit) (h : Whos) (hT : TieW D h) (left : Lit → Bool) (t : Int → Bool) (hL : ∀ f, Wf64 f → left (kW f) = t f) (hLG : ∀ f, Wf64 f → t f = true → h f ≠ none) (cnt : Nat)
    (hit : a.eval it = .pointer (some ⟨r, 0, none⟩)) (hr : w.ranges Try.prog 3 (plainElem Try.prog 3) b r n D left cnt)
    (hDone : cnt = 0 → (∀ f, Wf64 f → t f = false) → wpList Try.prog ops Q rest (a.put o.dst (.tuple #[.bool false])) w)
    (hMore : ∀ (f i : Int) (left' : Lit → Bool) (w' : World) (cnt' : Nat), Wf64 f → Wf64 i → h f = some i → t f = true → (∀ f', Wf64 f' → left' (kW f') = strW t f f') → w'.ranges Try.prog 3 (plainElem Try.prog 3) b r n D left' cnt' → cnt' < cnt →
      w.grownBy w' (some r) → (Instr.entry (.pointer (some ⟨r, 0, none⟩))).run Try.prog w' = .ok (.tuple #[.int .i64 f, .int .i64 i]) w' → wpList Try.prog ops Q rest (a.put o.dst (.tuple #[.bool true, .int .i64 f, .int .i64 i])) w') :
    wpList Try.prog ops Q (o :: rest) a w := by
  refine wpList_next_ranges_ii w hg it hop 3 3 .i64 .i64 Try.keyedI Try.underlying3 Try.underlying3 b r n D left cnt hit hr (fun h0 hl => hDone h0 fun f hf => ?_) ?_
  · rw [← hL f hf]; exact hl _
  · intro x c w' cnt' hwx hwc hlx hat hrg hlt hgr _ hen
    have ht : t x = true := by rw [← hL x (Wf64.of hwx)]; exact hlx
    cases q : h x with
    | none => exact absurd q (hLG x (Wf64.of hwx) ht)
    | some i =>
      have k := (hT.hit (Wf64.of hwx) q).2 (.lit (.int .i64 0))
      have hat' := hat (.lit (.int .i64 0))
      unfold kW at k
      rw [hat'] at k
      simp at k
      subst k
      refine hMore x c _ w' cnt' (Wf64.of hwx) (Wf64.of hwc) q ht (fun f' hf' => ?_) hrg hlt hgr hen
      have e := kW_same (f := f') (f' := x)
      unfold kW at e
      simp only [show left (kW f') = t f' from hL f' hf', strW, kW] at *
      rw [e]
      simp only [show left (Lit.int .i64 f') = t f' from hL f' hf']
end
theorem TieT.left {D : DataW Unit} {g : Turns} (h : TieT D g) (f s : Int) (hf : Wf64 f) (hs : Wf64 s) : Maps.has D (kT f s) = (g f s).isSome := by
  cases q : g f s with
  | some i => exact (h.hit hf hs q).1
  | none => exact h.miss hf hs q
theorem TieW.left {D : DataW Unit} {h : Whos} (k : TieW D h) (f : Int) (hf : Wf64 f) : Maps.has D (kW f) = (h f).isSome := by
  cases q : h f with
  | some i => exact (k.hit hf q).1
  | none => exact k.miss hf q

end Go.Proofs.Ytjcjglhoknbhpaa
