/-
  The two maps of package votes: by who and slot (a struct), and by who; asked, stored into, and gone over in whatever order.
  The closures of package votes that say which slots fit.
  The contract of package votes' call gather: where a vote of each turn is, of the slots that fit.
  The contract of package votes' call lasts: where the last vote of each is.
  Rows of one's own behind the library's sort: what it leaves, in append's words.
  Votes of one's own, put into order by the library's SortFunc.
  The contracts of package votes' calls counted, Of and Last.
-/
import Derived.Maps.OwnIn
import Derived.Maps.RangeWalk
import Derived.DeepKeys4
import Derived.BigQuiet
import Derived.Deep.QuietTactic
import Derived.Sort.Grow
import Derived.Shelf.SlSortCmp.NoneTotal
import Derived.Shelf.SlicesG.Cmp
import Derived.Test.YtacdiicnfoejoaaRows
import Derived.Test.YtacdiicnfoejoaaVoteG
import Derived.Test.YtacdiicnfoejoaaGround
namespace Go.Proofs.Ytacdiicnfoejoaa
set_option maxRecDepth 100000
set_option linter.unusedVariables false
set_option linter.unusedSimpArgs false
section
open Go.ChangeShapes Go.WideShapes Go.ChangeAt Go.RowKit

/-! ### Keys -/
theorem Try.laidOut : laidOutB Try.prog = true := by kernel_rfl
theorem Try.cellsI : Try.prog.cellsOf 3 = 1 := by kernel_rfl
theorem Try.keyedI : Maps.Keyed Try.prog 3 := Maps.int_keyed Try.underlying3
/-- What a turn reads as, as a key. -/
def kT (f s : Int) : Lit := .string (keyBytes [.int .i64 f, .int .i64 s])
def kW (f : Int) : Lit := .int .i64 f
theorem litI {d : Nat} {c : Value} {L : List Lit} (h : Try.prog.keyLits (d + 1) 3 [c] = some L) : ∃ a, c = .int .i64 a ∧ Wf64 a ∧ L = [.int .i64 a] := by
  unfold Program.keyLits at h
  rw [Try.underlying3] at h
  cases c <;> simp at h
  obtain ⟨⟨rfl, hw⟩, rfl⟩ := h
  exact ⟨_, rfl, Wf64.of hw, rfl⟩
theorem keyW_of {f : Int} (hf : Wf64 f) : keyOf Try.prog 3 (.int .i64 f) = some (kW f) := Maps.keyOf_int_mk Try.underlying3 hf.wf
theorem kW_same {f f' : Int} : (kW f).sameKey (kW f') = decide (f = f') := by
  by_cases e : f = f'
  · subst e
    rw [WideAt.sameKey_self (show WideAt.IsKeyLit (kW f) from trivial)]
    simp
  · rw [decide_eq_false e]
    exact Maps.sameKey_ne fun k => e (by unfold kW at k; injection k)

/-! ### What a map holds -/
def TieT (D : DataW Unit) (g : Turns) : Prop := ∀ f s, Wf64 f → Wf64 s → (match g f s with
    | some i => Maps.has D (kT f s) = true ∧ ∀ z, D.atKey (kT f s) z = .lit (.int .i64 i)
    | none => Maps.has D (kT f s) = false)
def TieW (D : DataW Unit) (h : Whos) : Prop := ∀ f, Wf64 f → (match h f with
    | some i => Maps.has D (kW f) = true ∧ ∀ z, D.atKey (kW f) z = .lit (.int .i64 i)
    | none => Maps.has D (kW f) = false)
abbrev OwnW (b m : Nat) (D : DataW Unit) (w : World) : Prop := w.ownsMap Try.prog 3 (plainElem Try.prog 3) b m D
theorem ownsMap_kept {P : Program} {k : TypeId} {R : Value → Option (DataW Unit × List MemPlace)} {w w' : World} {b n : Nat} {D : DataW Unit} (h : w.ownsMap P k R b n D) (k' : Kept w w') : w'.ownsMap P k R b n D := by
  obtain ⟨es, clock, hb, r⟩ := h
  exact ⟨es, clock, (k'.heap (Array.getElem?_eq_some_iff.1 hb).1).trans hb, r⟩
theorem ownsMap_lt {P : Program} {k : TypeId} {R : Value → Option (DataW Unit × List MemPlace)} {w : World} {b n : Nat} {D : DataW Unit} (h : w.ownsMap P k R b n D) : b < w.heap.size := by
  obtain ⟨es, clock, hb, r⟩ := h
  exact (Array.getElem?_eq_some_iff.1 hb).1
theorem ranges_kept {P : Program} {k : TypeId} {R : Value → Option (DataW Unit × List MemPlace)} {w w' : World} {b r n : Nat} {D : DataW Unit} {left : Lit → Bool} {cnt : Nat} (h : w.ranges P k R b r n D left cnt) (k' : Kept w w') : w'.ranges P k R b r n D left cnt := by
  obtain ⟨es, clock, since, seen, c0, h1, h2, h3, h4, h5, h6⟩ := h
  exact ⟨es, clock, since, seen, c0, (k'.heap (Array.getElem?_eq_some_iff.1 h1).1).trans h1, h2, h3, h4, (k'.heap (Array.getElem?_eq_some_iff.1 h5).1).trans h5, h6⟩
theorem TieT.made : TieT (.map []) (fun _ _ => none) := fun _ _ _ _ => rfl
theorem TieW.made : TieW (.map []) (fun _ => none) := fun _ _ => rfl
theorem TieT.hit {D : DataW Unit} {g : Turns} (h : TieT D g) {f s i : Int} (hf : Wf64 f) (hs : Wf64 s) (q : g f s = some i) : Maps.has D (kT f s) = true ∧ ∀ z, D.atKey (kT f s) z = .lit (.int .i64 i) := by
  have := h f s hf hs; rw [q] at this; exact this
theorem TieT.miss {D : DataW Unit} {g : Turns} (h : TieT D g) {f s : Int} (hf : Wf64 f) (hs : Wf64 s) (q : g f s = none) : Maps.has D (kT f s) = false := by
  have := h f s hf hs; rw [q] at this; exact this
theorem TieW.hit {D : DataW Unit} {h : Whos} (k : TieW D h) {f i : Int} (hf : Wf64 f) (q : h f = some i) : Maps.has D (kW f) = true ∧ ∀ z, D.atKey (kW f) z = .lit (.int .i64 i) := by
  have := k f hf; rw [q] at this; exact this
theorem TieW.miss {D : DataW Unit} {h : Whos} (k : TieW D h) {f : Int} (hf : Wf64 f) (q : h f = none) : Maps.has D (kW f) = false := by
  have := k f hf; rw [q] at this; exact this
theorem TieW.put {D : DataW Unit} {h : Whos} (k : TieW D h) (hD : Maps.IsMap D) {f : Int} (i : Int) : TieW (D.put (kW f) (.lit (.int .i64 i))) (setW h f i) := fun f' hf' => by
  have hk : WideAt.IsKeyLit (kW f) := trivial
  unfold setW
  by_cases e : f' = f
  · rw [if_pos e]
    subst e
    exact ⟨Maps.has_put_same hD hk _, fun z => Maps.atKey_put_same hD hk _ z⟩
  · rw [if_neg e]
    have hne : kW f' ≠ kW f := fun k => e (by unfold kW at k; injection k)
    have hx := k f' hf'
    cases p : h f' with
    | some j =>
      rw [p] at hx
      exact ⟨(Maps.has_put_other hne _).trans hx.1, fun z => (Maps.atKey_put_other hne _ z).trans (hx.2 z)⟩
    | none =>
      rw [p] at hx
      exact (Maps.has_put_other hne _).trans hx

/-! ### Asking -/
section
variable (w : World) {ops : Array Oper} {rest : List Oper} {o : Oper} {a : Act} {Q : Exit → Act → World → Prop}
/-! ### Going over -/
theorem wpList_nextW (hg : o.guard = none) (it : Operand) (hop : o.op = Op.next it false) (b r n : Nat) (D : DataW Unit) (h : Whos) (hT : TieW D h) (left : Lit → Bool) (t : Int → Bool) (hL : ∀ f, Wf64 f → left (kW f) = t f) (hLG : ∀ f, Wf64 f → t f = true → h f ≠ none) (cnt : Nat)
    (hit : a.eval it = .pointer (some ⟨r, 0, none⟩)) (hr : w.ranges Try.prog 3 (plainElem Try.prog 3) b r n D left cnt)
    (hDone : cnt = 0 → (∀ f, Wf64 f → t f = false) → wpList Try.prog ops Q rest (a.put o.dst (.tuple #[.bool false])) w)
    (hMore : ∀ (f i : Int) (left' : Lit → Bool) (w' : World) (cnt' : Nat), Wf64 f → Wf64 i → h f = some i → t f = true → (∀ f', Wf64 f' → left' (kW f') = strW t f f') → w'.ranges Try.prog 3 (plainElem Try.prog 3) b r n D left' cnt' → cnt' < cnt →
      w.grownBy w' (some r) → (Instr.entry (.pointer (some ⟨r, 0, none⟩))).run Try.prog w' = .ok (.tuple #[.int .i64 f, .int .i64 i]) w' → wpList Try.prog ops Q rest (a.put o.dst (.tuple #[.bool true, .int .i64 f, .int .i64 i])) w') :
    wpList Try.prog ops Q (o :: rest) a w := by
  refine wpList_next_ranges_ii w hg it hop 3 3 .i64 .i64 Try.keyedI Try.underlying3 Try.underlying3 b r n D left cnt hit hr (fun h0 hl => hDone h0 fun f hf => ?_) ?_
  · rw [← hL f hf]; exact hl _
  · intro x c w' cnt' hwx hwc hlx hat hrg hlt hgr _ hen
    have ht : t x = true := by rw [← hL x (Wf64.of hwx)]; exact hlx
    cases q : h x with
    | none => exact absurd q (hLG x (Wf64.of hwx) ht)
    | some i =>
      have k := (hT.hit (Wf64.of hwx) q).2 (.lit (.int .i64 0))
      have hat' := hat (.lit (.int .i64 0))
      unfold kW at k
      rw [hat'] at k
      simp at k
      subst k
      refine hMore x c _ w' cnt' (Wf64.of hwx) (Wf64.of hwc) q ht (fun f' hf' => ?_) hrg hlt hgr hen
      have e := kW_same (f := f') (f' := x)
      unfold kW at e
      simp only [show left (kW f') = t f' from hL f' hf', strW, kW] at *
      rw [e]
      simp only [show left (Lit.int .i64 f') = t f' from hL f' hf']
end
theorem TieT.left {D : DataW Unit} {g : Turns} (h : TieT D g) (f s : Int) (hf : Wf64 f) (hs : Wf64 s) : Maps.has D (kT f s) = (g f s).isSome := by
  cases q : g f s with
  | some i => exact (h.hit hf hs q).1
  | none => exact h.miss hf hs q
theorem TieW.left {D : DataW Unit} {h : Whos} (k : TieW D h) (f : Int) (hf : Wf64 f) : Maps.has D (kW f) = (h f).isSome := by
  cases q : h f with
  | some i => exact (k.hit hf q).1
  | none => exact k.miss hf q
end

section
open Go.ChangeShapes Go.WideShapes Go.ChangeAt Go.RowKit

/-- Function g, bound to cb, says which slots fit. -/
def Fits (g : Nat) (cb : Array Value) (q : Int → Bool) (w : World) : Prop := ∀ W, Kept w W → ∀ x, Calls Try.prog g (#[.int .i64 x] ++ cb) W fun e w' => e = .returned (.bool (q x)) ∧ Kept W w'
theorem Fits.kept {g : Nat} {cb : Array Value} {q : Int → Bool} {w w' : World} (h : Fits g cb q w) (k : Kept w w') : Fits g cb q w' := fun W hW => h W (k.trans hW)
end

section
open Go.ChangeShapes Go.WideShapes Go.ChangeAt Go.RowKit

theorem take_vt {L : List Vt} {k : Nat} (hk : k < L.length) : L.take (k + 1) = L.take k ++ [L[k]] := List.take_succ_eq_append_getElem hk
theorem neqV (a b : Vt) (w : World) : Sem.run Try.prog (Op.equalIn 10000 45 (.agg #[.int .i64 a.f, .int .i64 a.s, .int .u64 a.p.1, .int .u64 a.p.2]) (.agg #[.int .i64 b.f, .int .i64 b.s, .int .u64 b.p.1, .int .u64 b.p.2])) w = .ok (sameV a b) w := eqV a b w
end

section
open Go.ChangeShapes Go.WideShapes Go.ChangeAt Go.RowKit

/-- What lasts hands back. -/
def Lasted (L : List Vt) (q : Int → Bool) (w : World) (e : Ending) (w' : World) : Prop :=
  ∃ b m D h, e = .returned (.map (some b)) ∧ w.heap.size ≤ b ∧ m ≤ L.length ∧ OwnW b m D w' ∧ TieW D h ∧ HOk L q h ∧ Kept w w'
theorem GOk.wf {L : List Vt} {q : Int → Bool} {g : Turns} (h : GOk L q g) (hw : WfVs L) {f s : Int} (hg : g f s ≠ none) : Wf64 f ∧ Wf64 s := by
  cases e : g f s with
  | none => exact absurd e hg
  | some i =>
    rcases (h.2 _ _ _ e).2 with ⟨_, a, ha, _, _, h1, _, h3, _⟩ | ⟨_, n, hn, _, h1, h3⟩
    · rw [← h1, ← h3]; exact ⟨(hw a ha).1, (hw a ha).2.1⟩
    · rw [← h1, ← h3]; exact ⟨(hw _ (List.getElem_mem hn)).1, (hw _ (List.getElem_mem hn)).2.1⟩
theorem strT_le {t : Int → Int → Bool} {g : Turns} (h : ∀ f s, t f s = true → g f s ≠ none) (f0 s0 : Int) : ∀ f s, strT t f0 s0 f s = true → g f s ≠ none := fun f s k => h f s (by
  unfold strT at k
  exact (Bool.and_eq_true_iff.1 k).1)
end

section
open Go.ChangeShapes Go.WideShapes Go.ChangeAt Go.RowKit Go.Sort

section
variable {α : Type} [Inhabited α] (enc : α → Value)
theorem holds_row {w : World} {g : Nat} {cur : Array Value} {e : TypeId} {d : Array α} (hb : w.heap[g]? = some (.cells cur e (0, 0))) (ht : cur.toList.take d.size = d.toList.map enc) : Holds enc w g 0 d := by
  intro j hj
  refine ⟨?_, by simp [World.frozen?, hb]⟩
  have h1 : (cur.toList.take d.size)[j]? = (d.toList.map enc)[j]? := by rw [ht]
  rw [List.getElem?_take_of_lt hj] at h1
  simp only [World.cell?, hb, Nat.zero_add]
  simp only [Option.isSome_none, Bool.false_eq_true, if_false]
  rw [← Array.getElem?_toList, h1]
  simp [hj]
theorem heap_rowed {w : World} {g n : Nat} {os : Array Obj} {cur : Array Value} {e : TypeId} {fr : Nat × Nat} (d : Array α) (hb : w.heap[g]? = some (.cells cur e fr)) :
    (grow (putRow enc (Sort.ahead w n) g 0 d) os).heap[g]? = some (.cells (putCells enc 0 d cur) e fr) := by
  have hg : g < w.heap.size := (Array.getElem?_eq_some_iff.1 hb).1
  rw [heap_grow_old _ _ (by simpa using hg)]
  simp [putRow, mapBlock, Sort.ahead, Array.getElem?_modify, hb, onCells]
theorem grownBy_rowed {w : World} {g n : Nat} {os : Array Obj} (d : Array α) : w.grownBy (grow (putRow enc (Sort.ahead w n) g 0 d) os) (some g) := by
  refine ⟨rfl, rfl, rfl, by simp, fun k hk hne => ?_⟩
  rw [heap_grow_old _ _ (by simpa using hk)]
  have : g ≠ k := fun e => hne (by rw [e])
  simp [putRow, mapBlock, Sort.ahead, Array.getElem?_modify, this]
theorem take_rowed (cur : Array Value) (d : Array α) (h : d.size ≤ cur.size) : (putCells enc 0 d cur).toList.take d.size = d.toList.map enc := by
  apply List.ext_getElem?
  intro j
  by_cases hj : j < d.size
  · rw [List.getElem?_take_of_lt hj, Array.getElem?_toList]
    simp [putCells, hj, show j < cur.size by omega]
  · rw [List.getElem?_take_eq_none (by omega), List.getElem?_eq_none (by simp; omega)]
/-- BEHIND THE SORT the same slice owns what was laid. -/
theorem ownsRow_rowed {w : World} {base g cap n m size : Nat} {e : TypeId} {os : Array Obj} {cur : Array Value} {d : Array α} (hl : d.size = m * size) (hbase : base ≤ g) (hb : w.heap[g]? = some (.cells cur e (0, 0)))
    (h1 : m ≤ cap) (h2 : cap ≤ maxLen) (h3 : cur.size = cap * size) :
    (grow (putRow enc (Sort.ahead w n) g 0 d) os).ownsRow base e size (.slice (some ⟨g, 0, none⟩) m cap) m (d.toList.map enc) :=
  ⟨by simp [hl], .inr ⟨g, cap, _, rfl, hbase, heap_rowed enc _ hb, h1, h2, by simp [putCells, h3], by rw [← hl]; exact take_rowed enc cur d (by rw [hl, h3]; exact Nat.mul_le_mul_right _ h1)⟩⟩
end
end

section
open Go.ChangeShapes Go.WideShapes Go.ChangeAt Go.RowKit Go.Sort Go.Lib Go.Shelf

instance : Inhabited Vt := ⟨⟨0, 0, (0, 0)⟩⟩
theorem flat_votes (l : List Vt) : (flatK vtCells 4 l.toArray).toList = votesCells l := by
  apply List.ext_getElem?
  intro j
  by_cases hj : j < l.length * 4
  · have hi : j / 4 < l.length := by omega
    have hk : j % 4 < (vtCells l[j / 4]).length := by show j % 4 < 4; omega
    have e := votesCells_at hi (List.getElem?_eq_getElem hk)
    rw [show j / 4 * 4 + j % 4 = j by omega] at e
    rw [e]
    have h2 := get_flatK vtCells 4 l.toArray j (by simpa using hj)
    have h3 : j < (flatK vtCells 4 l.toArray).size := by rw [size_flatK]; simpa using hj
    rw [getElem!_pos (flatK vtCells 4 l.toArray) j h3] at h2
    rw [Array.getElem?_toList, Array.getElem?_eq_getElem h3, h2]
    have h4 : l.toArray[j / 4]! = l[j / 4] := by simp [hi]
    rw [h4, getElem!_pos (vtCells l[j / 4]) (j % 4) hk]
  · rw [List.getElem?_eq_none (by simp; omega), List.getElem?_eq_none (by rw [votesCells_length]; omega)]
def cfV (x y : Vt) : Int := Lib.compareInt x.f y.f
theorem ltV (x y : Vt) : ltOf cfV x y = decide (x.f < y.f) := by
  unfold ltOf cfV Lib.compareInt
  by_cases h1 : x.f < y.f
  · simp [h1]
  · by_cases h2 : y.f < x.f <;> simp [h1, h2]
theorem swoV : SWO (ltOf cfV) where
  irrefl x := by rw [ltV]; simp
  trans x y z h1 h2 := by rw [ltV] at *; simp at *; omega
  ntrans x y z h1 h2 := by rw [ltV] at *; simp at *; omega
theorem perm_of {d d' : Array Vt} (h : PermIn 0 d.size d d') : d'.toList.Perm d.toList := by
  obtain ⟨h1, _, h3⟩ := h
  have e1 : d'.extract 0 d.size = d' := by rw [← h1]; simp
  have e2 : d.extract 0 d.size = d := by simp
  rw [e1, e2] at h3
  exact h3
theorem sorted_of {d : Array Vt} (h : SortedIn (ltOf cfV) 0 d.size d) : d.toList.Pairwise fun a b => a.f ≤ b.f := by
  rw [List.pairwise_iff_getElem]
  intro i j hi hj hij
  have h1 : i < d.size := by simpa using hi
  have h2 : j < d.size := by simpa using hj
  have := h i j (Nat.zero_le _) hij h2
  rw [ltV, getElem!_pos d i h1, getElem!_pos d j h2] at this
  simp at this
  simpa using this
end

section
open Go.ChangeShapes Go.WideShapes Go.ChangeAt Go.RowKit

theorem row_ne_range {P : Program} {k : TypeId} {R : Value → Option (DataW Unit × List MemPlace)} {w : World} {b r n : Nat} {D : DataW Unit} {left : Lit → Bool} {cnt base : Nat} {e : TypeId} {size : Nat} {v : Value} {m : Nat} {xs : List Value}
    (h : w.ownsRow base e size v m xs) (hr : w.ranges P k R b r n D left cnt) : some b ≠ v.ownBlock ∧ some r ≠ v.ownBlock := by
  obtain ⟨es, clock, _, _, _, hmp, _, _, _, hit, _⟩ := hr
  rcases h.2 with ⟨rfl, _⟩ | ⟨g, cap, cur, rfl, _, hb, _⟩
  · simp [Value.ownBlock]
  · constructor
    · intro e1
      have : b = g := by simpa [Value.ownBlock] using e1
      subst this
      rw [hmp] at hb
      cases hb
    · intro e1
      have : r = g := by simpa [Value.ownBlock] using e1
      subst this
      rw [hit] at hb
      cases hb
/-- How the loop over who has a vote stands. -/
def CLoop (L : List Vt) (q : Int → Bool) (h : Whos) (b m : Nat) (D : DataW Unit) (w : World) (r : Nat) (v : Value) (wr : World) : Prop :=
  ∃ (left : Lit → Bool) (t : Int → Bool) (cnt : Nat) (R : List Vt), wr.ranges Try.prog 3 (plainElem Try.prog 3) b r m D left cnt ∧
    (∀ f, Wf64 f → left (kW f) = t f) ∧ (∀ f, t f = true → h f ≠ none) ∧ CInv L q t R ∧ Vts w R v wr ∧ R.length + cnt ≤ m
theorem strW_le {t : Int → Bool} {h : Whos} (k : ∀ f, t f = true → h f ≠ none) (f0 : Int) : ∀ f, strW t f0 f = true → h f ≠ none := fun f e => k f (by
  unfold strW at e
  exact (Bool.and_eq_true_iff.1 e).1)
theorem Vts.drewN {W w : World} {l : List Vt} {v : Value} (h : Vts W l v w) (n : Nat) : Vts W l v (w.drewN n) := h.kept ((Kept.refl w).drewN n)
theorem Vts.turned {W w w' : World} {l : List Vt} {v : Value} {r : Nat} (h : Vts W l v w) (hg : w.grownBy w' (some r)) (hr : W.heap.size ≤ r) (hne : some r ≠ v.ownBlock) : Vts W l v w' := by
  refine ⟨⟨h.1.1, ?_⟩, h.2.grown hg fun k hk => by cases hk; exact hr⟩
  rcases h.1.2 with h2 | ⟨g, cap, cur, hv, hb, hh, k⟩
  · exact Or.inl h2
  · refine Or.inr ⟨g, cap, cur, hv, hb, ?_, k⟩
    rw [hg.block g (h.1.lt g (by rw [hv]; rfl)).2 (by rw [hv] at hne; exact fun e => hne e.symm)]
    exact hh
/-- What hands back the votes that count. -/
def Counted (L : List Vt) (q : Int → Bool) (w : World) (e : Ending) (w' : World) : Prop := ∃ R, Cnts L q R ∧ R.length ≤ L.length ∧ VtsNew R w e w'

/-- .. in a row of its own. -/
def CountedOwn (L : List Vt) (q : Int → Bool) (w : World) (e : Ending) (w' : World) : Prop := ∃ R, Cnts L q R ∧ R.length ≤ L.length ∧ ∃ A c, e = .returned (.slice A R.length c) ∧ Vts w R (.slice A R.length c) w'
theorem CountedOwn.counted {L : List Vt} {q : Int → Bool} {w : World} {e : Ending} {w' : World} (h : CountedOwn L q w e w') : Counted L q w e w' := by
  obtain ⟨R, h1, h2, A, c, rfl, h3⟩ := h
  exact ⟨R, h1, h2, h3.new⟩
end

end Go.Proofs.Ytacdiicnfoejoaa
