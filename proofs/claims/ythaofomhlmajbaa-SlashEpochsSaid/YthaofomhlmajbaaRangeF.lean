/-
  Going over a map of one's own, whatever its keys and what it holds; and over a map of lists.
-/
import Derived.Sort.MapsRangeIn
import Derived.Maps.RangeWalk
import Derived.Test.YthaofomhlmajbaaGroupF
namespace Go.Proofs.Ythaofomhlmajbaa
set_option maxRecDepth 100000
set_option linter.unusedVariables false
set_option linter.unusedSimpArgs false
set_option linter.unusedSimpArgs false
set_option linter.unusedVariables false
set_option linter.unusedSectionVars false
open Go.ChangeShapes Go.WideShapes Go.ChangeAt Go.RowKit

section
variable {α β : Type} (K : KeyKind α) (V : ValKind β)
/-- Block r goes over the map of block b, which holds f at each key that h tells; those that t tells are still to come, cnt of them at most. -/
def RangeF (b r n : Nat) (f : α → β) (h t : α → Bool) (cnt : Nat) (w : World) : Prop :=
  ∃ D left, w.ranges Try.prog K.k V.R b r n D left cnt ∧ TieF K V f D ∧ TieH K h D ∧ ∀ x, K.wf x → left (K.lit x) = t x
variable {K V}
theorem RangeF.at {b r n : Nat} {f : α → β} {h t : α → Bool} {cnt : Nat} {w w' : World} (H : RangeF K V b r n f h t cnt w) (e1 : w'.heap[b]? = w.heap[b]?) (e2 : w'.heap[r]? = w.heap[r]?) : RangeF K V b r n f h t cnt w' := by
  obtain ⟨D, left, hr, h2⟩ := H
  obtain ⟨es, clock, since, seen, c0, h1, h3, h4, h5, h6, h7⟩ := hr
  exact ⟨D, left, ⟨es, clock, since, seen, c0, e1.trans h1, h3, h4, h5, e2.trans h6, h7⟩, h2⟩
theorem RangeF.lt {b r n : Nat} {f : α → β} {h t : α → Bool} {cnt : Nat} {w : World} (H : RangeF K V b r n f h t cnt w) : b < w.heap.size ∧ r < w.heap.size := by
  obtain ⟨D, left, hr, h2⟩ := H
  obtain ⟨es, clock, since, seen, c0, h1, h3, h4, h5, h6, h7⟩ := hr
  exact ⟨(Array.getElem?_eq_some_iff.1 h1).1, (Array.getElem?_eq_some_iff.1 h6).1⟩
/-- A map of one's own, and which keys it has. -/
theorem OwnF.keys {b n : Nat} {f : α → β} {w : World} (H : OwnF K V b n f w) : ∃ h : α → Bool, OwnH K V b n f h w ∧ ∀ x, K.wf x → h x = false → V.dat (f x) = V.dat V.zero := by
  obtain ⟨D, h1, h2⟩ := H
  exact ⟨fun x => Maps.has D (K.lit x), ⟨D, h1, h2, fun _ _ => rfl⟩, fun x hx hn => h2.none hx hn⟩
variable [DecidableEq α]
theorem lit_same {x y : α} (hx : K.wf x) (hy : K.wf y) : (K.lit x).sameKey (K.lit y) = decide (x = y) := by
  by_cases e : x = y
  · subst e
    rw [WideAt.sameKey_self (K.keyed.key (K.kof hx))]
    simp
  · rw [decide_eq_false e]
    exact Maps.sameKey_ne fun k => e (K.inj hx hy k)
/-- One has come. -/
def offF (t : α → Bool) (x : α) : α → Bool := fun z => t z && !decide (z = x)
theorem RangeF.start {b n r : Nat} {f : α → β} {h : α → Bool} {w' : World} {D : DataW Unit} (h2 : TieF K V f D) (h3 : TieH K h D) (hr : w'.ranges Try.prog K.k V.R b r n D (Maps.has D) (Maps.size D)) : RangeF K V b r n f h h (Maps.size D) w' :=
  ⟨D, Maps.has D, hr, h2, h3, fun x hx => h3 x hx⟩
section
variable (w : World) {ops : Array Oper} {rest : List Oper} {o : Oper} {a : Act} {Q : Exit → Act → World → Prop}
theorem wpList_rangeF (hg : o.guard = none) (m : Operand) (t : TypeId) (hop : o.op = Op.range t m) (ht : Try.prog.underlying t = some (.map K.k V.e)) (b n : Nat) (f : α → β) (h : α → Bool) (hm : a.eval m = .map (some b)) (H : OwnH K V b n f h w)
    (hK : ∀ cnt w', cnt ≤ n → RangeF K V b w.heap.size n f h h cnt w' → w.grownBy w' none → w'.heap.size = w.heap.size + 1 → wpList Try.prog ops Q rest (a.put o.dst (.pointer (some ⟨w.heap.size, 0, none⟩))) w') :
    wpList Try.prog ops Q (o :: rest) a w := by
  obtain ⟨D, h1, h2, h3⟩ := H
  refine wpList_range_own w hg m t hop K.k V.e K.keyed ht V.R b n D hm h1 ?_
  intro w' hr g hs
  exact hK _ w' h1.size_le (RangeF.start h2 h3 hr) g hs
theorem RangeF.step {b r n : Nat} {f : α → β} {h t : α → Bool} {cnt' : Nat} {w' : World} {D : DataW Unit} {left : Lit → Bool} (h2 : TieF K V f D) (h3 : TieH K h D) (h4 : ∀ x, K.wf x → left (K.lit x) = t x) {x : α} (hx : K.wf x) (hr : w'.ranges Try.prog K.k V.R b r n D (fun z => left z && !z.sameKey (K.lit x)) cnt') : RangeF K V b r n f h (offF t x) cnt' w' :=
  ⟨D, _, hr, h2, h3, fun z hz => by show (left (K.lit z) && !(K.lit z).sameKey (K.lit x)) = _; rw [h4 z hz, lit_same hz hx]; rfl⟩
theorem RangeF.came {f : α → β} {h t : α → Bool} {D : DataW Unit} {left : Lit → Bool} (h2 : TieF K V f D) (h3 : TieH K h D) (h4 : ∀ x, K.wf x → left (K.lit x) = t x) {x : α} (hx : K.wf x) {v : Value} {y : DataW Unit × List MemPlace} (hl : left (K.lit x) = true) (hv : V.R v = some y) (hat : ∀ zd, D.atKey (K.lit x) zd = y.1) : t x = true ∧ h x = true ∧ v = V.enc (f x) := by
  refine ⟨by rw [← h4 x hx]; exact hl, by rw [← h3 x hx]; exact Maps.has_true_of_atKey hat, ?_⟩
  have k := (h2 x hx).2
  rw [hat] at k
  exact V.inv (ps := y.2) (h2 x hx).1 (by rw [hv, ← k])
theorem wpList_nextF (hg : o.guard = none) (it : Operand) (hop : o.op = Op.next it false) (hinv : ∀ v kl, keyOf Try.prog K.k v = some kl → ∃ x, v = K.key x ∧ kl = K.lit x ∧ K.wf x) (b r n : Nat) (f : α → β) (h t : α → Bool) (cnt : Nat) (hit : a.eval it = .pointer (some ⟨r, 0, none⟩)) (H : RangeF K V b r n f h t cnt w)
    (hDone : cnt = 0 → (∀ x, K.wf x → t x = false) → wpList Try.prog ops Q rest (a.put o.dst (.tuple #[.bool false])) w)
    (hMore : ∀ (x : α) (w' : World) (cnt' : Nat), K.wf x → t x = true → h x = true → RangeF K V b r n f h (offF t x) cnt' w' → cnt' < cnt → w.grownBy w' (some r) → w'.heap.size = w.heap.size →
      (Instr.entry (.pointer (some ⟨r, 0, none⟩))).run Try.prog w' = .ok (.tuple #[K.key x, V.enc (f x)]) w' → wpList Try.prog ops Q rest (a.put o.dst (.tuple #[.bool true, K.key x, V.enc (f x)])) w') :
    wpList Try.prog ops Q (o :: rest) a w := by
  obtain ⟨D, left, hr, h2, h3, h4⟩ := H
  refine wpList_next_ranges w hg it hop K.k K.keyed V.R K.key id (fun key kl hk => by obtain ⟨x, e, _⟩ := hinv key kl hk; exact ⟨x, e⟩) (fun v y _ => ⟨v, rfl⟩) b r n D left cnt hit hr (fun h0 hl => hDone h0 fun x hx => by rw [← h4 x hx]; exact hl _) ?_
  intro x0 c kl y w' cnt' hkey hlk hv hat hrg hlt hgr hsz hen
  obtain ⟨x, e, rfl, hx⟩ := hinv _ kl hkey
  obtain ⟨p1, p2, p3⟩ := RangeF.came h2 h3 h4 hx hlk hv hat
  simp only [id] at hen p3
  rw [e, p3] at hen
  simp only [id]
  rw [e, p3]
  exact hMore x w' cnt' hx p1 p2 (RangeF.step h2 h3 h4 hx hrg) hlt hgr hsz hen
end
section
variable {F : Fence} {nF : Nat} (w : World) {ops : Array Oper} {rest : List Oper} {o : Oper} {a : Act} {Q : Exit → Act → World → Prop}
theorem wpListIn_rangeF (hg : o.guard = none) (m : Operand) (t : TypeId) (hop : o.op = Op.range t m) (ht : Try.prog.underlying t = some (.map K.k V.e)) (b n : Nat) (f : α → β) (h : α → Bool) (hm : a.eval m = .map (some b)) (H : OwnH K V b n f h w)
    (hK : ∀ cnt w', cnt ≤ n → RangeF K V b w.heap.size n f h h cnt w' → w.grownBy w' none → w'.heap.size = w.heap.size + 1 → wpListIn F nF Try.prog ops Q rest (a.put o.dst (.pointer (some ⟨w.heap.size, 0, none⟩))) w') :
    wpListIn F nF Try.prog ops Q (o :: rest) a w := by
  obtain ⟨D, h1, h2, h3⟩ := H
  refine wpListIn_range_own w hg m t hop K.k V.e K.keyed ht V.R b n D hm h1 ?_
  intro w' hr g hs
  exact hK _ w' h1.size_le (RangeF.start h2 h3 hr) g hs
theorem wpListIn_nextF (hg : o.guard = none) (it : Operand) (hop : o.op = Op.next it false) (hinv : ∀ v kl, keyOf Try.prog K.k v = some kl → ∃ x, v = K.key x ∧ kl = K.lit x ∧ K.wf x) (b r n : Nat) (f : α → β) (h t : α → Bool) (cnt : Nat) (hit : a.eval it = .pointer (some ⟨r, 0, none⟩)) (H : RangeF K V b r n f h t cnt w)
    (hDone : cnt = 0 → (∀ x, K.wf x → t x = false) → wpListIn F nF Try.prog ops Q rest (a.put o.dst (.tuple #[.bool false])) w)
    (hMore : ∀ (x : α) (w' : World) (cnt' : Nat), K.wf x → t x = true → h x = true → RangeF K V b r n f h (offF t x) cnt' w' → cnt' < cnt → w.grownBy w' (some r) → w'.heap.size = w.heap.size →
      (Instr.entry (.pointer (some ⟨r, 0, none⟩))).run Try.prog w' = .ok (.tuple #[K.key x, V.enc (f x)]) w' → wpListIn F nF Try.prog ops Q rest (a.put o.dst (.tuple #[.bool true, K.key x, V.enc (f x)])) w') :
    wpListIn F nF Try.prog ops Q (o :: rest) a w := by
  obtain ⟨D, left, hr, h2, h3, h4⟩ := H
  refine wpListIn_next_ranges w hg it hop K.k K.keyed V.R K.key id (fun key kl hk => by obtain ⟨x, e, _⟩ := hinv key kl hk; exact ⟨x, e⟩) (fun v y _ => ⟨v, rfl⟩) b r n D left cnt hit hr (fun h0 hl => hDone h0 fun x hx => by rw [← h4 x hx]; exact hl _) ?_
  intro x0 c kl y w' cnt' hkey hlk hv hat hrg hlt hgr hsz hen
  obtain ⟨x, e, rfl, hx⟩ := hinv _ kl hkey
  obtain ⟨p1, p2, p3⟩ := RangeF.came h2 h3 h4 hx hlk hv hat
  simp only [id] at hen p3
  rw [e, p3] at hen
  simp only [id]
  rw [e, p3]
  exact hMore x w' cnt' hx p1 p2 (RangeF.step h2 h3 h4 hx hrg) hlt hgr hsz hen
end
end

/-! ### Over a map of lists -/
section
variable {α γ : Type} (K : KeyKind α) (S : RowKind γ)
/-- .. of lists: all of it lies in blocks from lo on, ahead of hi. -/
def RangeG (lo hi b r n : Nat) (f : α → List γ) (h t : α → Bool) (cnt : Nat) (w : World) : Prop :=
  ∃ V : α → Value, RangeF K (sliceV S.sl S.szero) b r n V h t cnt w ∧ (lo ≤ b ∧ b < hi) ∧ (lo ≤ r ∧ r < hi) ∧ hi ≤ w.heap.size ∧
    ∀ x, K.wf x → w.ownsRow lo S.e S.s (V x) (f x).length (S.cells (f x)) ∧ ∀ j, (V x).ownBlock = some j → j < hi
variable {K S}
theorem RangeG.off {lo hi b r n : Nat} {f : α → List γ} {h t : α → Bool} {cnt : Nat} {w w' : World} {row : Option Nat} (H : RangeG K S lo hi b r n f h t cnt w) (g : w.grownBy w' row) (hrow : ∀ j, row = some j → j < lo ∨ hi ≤ j) : RangeG K S lo hi b r n f h t cnt w' := by
  obtain ⟨V, h1, h2, h3, h4, h5⟩ := H
  have hk : ∀ j, lo ≤ j → j < hi → w'.heap[j]? = w.heap[j]? := fun j p q => g.block j (by omega) fun e => by have := hrow j e.symm; omega
  refine ⟨V, h1.at (hk b h2.1 h2.2) (hk r h3.1 h3.2), h2, h3, Nat.le_trans h4 g.size, fun x hx => ⟨(h5 x hx).1.kept g ?_, (h5 x hx).2⟩⟩
  cases q : (V x).ownBlock with
  | none => exact Or.inl rfl
  | some j =>
    refine Or.inr fun e => ?_
    have p1 := ((h5 x hx).1.lt j q).1
    have p2 := (h5 x hx).2 j q
    have := hrow j e.symm
    omega
theorem RangeG.kept {lo hi b r n : Nat} {f : α → List γ} {h t : α → Bool} {cnt : Nat} {w w' : World} (H : RangeG K S lo hi b r n f h t cnt w) (k : Kept w w') : RangeG K S lo hi b r n f h t cnt w' := by
  obtain ⟨V, h1, h2, h3, h4, h5⟩ := H
  exact ⟨V, h1.at (k.heap h1.lt.1) (k.heap h1.lt.2), h2, h3, Nat.le_trans h4 k.size_le, fun x hx => ⟨grow_kept (h5 x hx).1 k, (h5 x hx).2⟩⟩
/-- A map of lists, where none has come: all its lists are empty, whatever they are. -/
theorem Group.empty {b m : Nat} {w : World} (H : OwnF K (sliceV S.sl S.szero) b m (fun _ => .slice none 0 0) w) (B : Nat) (hb : b < B) (hB : B ≤ w.heap.size) : Group K S B (fun _ => []) b m w :=
  ⟨fun _ => .slice none 0 0, H, hb, hB, fun x _ => by
    have : S.cells [] = [] := List.eq_nil_of_length_eq_zero (by rw [S.len]; simp)
    rw [this]; exact World.ownsRow_nil _ _ _ _, fun _ _ _ _ _ => Or.inl rfl⟩
theorem Group.off {B : Nat} {f : α → List γ} {b m : Nat} {w w' : World} {row : Option Nat} (H : Group K S B f b m w) (g : w.grownBy w' row) (hrow : ∀ j, row = some j → j ≠ b ∧ j < B) : Group K S B f b m w' := by
  obtain ⟨V, h0, hb, hB, h1, h2⟩ := H
  refine ⟨V, h0.at (g.block b h0.lt fun e => (hrow b e.symm).1 rfl), hb, Nat.le_trans hB g.size, fun x hx => (h1 x hx).kept g ?_, h2⟩
  cases q : (V x).ownBlock with
  | none => exact Or.inl rfl
  | some j =>
    refine Or.inr fun e => ?_
    have p1 := ((h1 x hx).lt j q).1
    have := (hrow j e.symm).2
    omega
/-- The lists of a map, which a loop over it holds. -/
theorem Group.ranged {B : Nat} {f : α → List γ} {b m : Nat} {w : World} (H : Group K S B f b m w) : ∃ (V : α → Value) (h : α → Bool), OwnH K (sliceV S.sl S.szero) b m V h w ∧ b < B ∧ (∀ x, K.wf x → w.ownsRow B S.e S.s (V x) (f x).length (S.cells (f x))) ∧ ∀ x, K.wf x → h x = false → f x = [] := by
  obtain ⟨V, h0, hb, hB, h1, h2⟩ := H
  obtain ⟨h, hH, hn⟩ := h0.keys
  refine ⟨V, h, hH, hb, h1, fun x hx hf => ?_⟩
  have e := hn x hx hf
  have hv : V x = .slice none 0 0 := by
    have hp : plainS (V x) := plainS_own (h1 x hx)
    have k : sliceR (.slice none 0 0) = some ((sliceV S.sl S.szero).dat (V x), []) := by rw [e]; exact (sliceV S.sl S.szero).reads (sliceV S.sl S.szero).zok
    exact ((sliceV S.sl S.szero).inv (v := .slice none 0 0) (y := V x) (ps := []) hp k).symm
  have hr := h1 x hx
  rw [hv] at hr
  obtain ⟨A, c, e2⟩ := row_form hr
  injection e2 with _ e3
  exact List.eq_nil_of_length_eq_zero e3.symm
section
variable [DecidableEq α] (w : World) {ops : Array Oper} {rest : List Oper} {o : Oper} {a : Act} {Q : Exit → Act → World → Prop}
theorem wpList_rangeG (hg : o.guard = none) (m : Operand) (t : TypeId) (hop : o.op = Op.range t m) (ht : Try.prog.underlying t = some (.map K.k S.sl)) (B : Nat) (f : α → List γ) (b n lo : Nat) (hlo : lo ≤ b) (hm : a.eval m = .map (some b)) (H : Group K S B f b n w)
    (hK : ∀ h cnt w', cnt ≤ n → (∀ x, K.wf x → h x = false → f x = []) → RangeG K S lo (w.heap.size + 1) b w.heap.size n f h h cnt w' → w.grownBy w' none → w'.heap.size = w.heap.size + 1 → wpList Try.prog ops Q rest (a.put o.dst (.pointer (some ⟨w.heap.size, 0, none⟩))) w') :
    wpList Try.prog ops Q (o :: rest) a w := by
  obtain ⟨V, h, hH, hb, h1, h2⟩ := H.ranged
  refine wpList_rangeF w hg m t hop ht b n V h hm hH ?_
  intro cnt w' hc hr g hs
  have hbl := hH.f.lt
  refine hK h cnt w' hc h2 ⟨V, hr, ⟨hlo, by omega⟩, ⟨by omega, by omega⟩, by omega, fun x hx => ⟨?_, fun j q => ?_⟩⟩ g hs
  · have k := (h1 x hx).kept g (by cases q : (V x).ownBlock with | none => exact Or.inl rfl | some j => exact Or.inr (by simp))
    refine ⟨k.1, ?_⟩
    rcases k.2 with k2 | ⟨g0, cap, cur, hv, hg0, r⟩
    · exact Or.inl k2
    · exact Or.inr ⟨g0, cap, cur, hv, by omega, r⟩
  · have := ((h1 x hx).lt j q).2
    omega
theorem wpList_nextG (hg : o.guard = none) (it : Operand) (hop : o.op = Op.next it false) (hinv : ∀ v kl, keyOf Try.prog K.k v = some kl → ∃ x, v = K.key x ∧ kl = K.lit x ∧ K.wf x) (lo hi b r n : Nat) (f : α → List γ) (h t : α → Bool) (cnt : Nat) (hit : a.eval it = .pointer (some ⟨r, 0, none⟩)) (H : RangeG K S lo hi b r n f h t cnt w)
    (hDone : cnt = 0 → (∀ x, K.wf x → t x = false) → wpList Try.prog ops Q rest (a.put o.dst (.tuple #[.bool false])) w)
    (hMore : ∀ (x : α) (A : Option Addr) (c : Nat) (w' : World) (cnt' : Nat), K.wf x → t x = true → h x = true → RangeG K S lo hi b r n f h (offF t x) cnt' w' → cnt' < cnt → w.grownBy w' (some r) → CellsAt w' w'.heap.size A (S.cells (f x)) →
      (Instr.entry (.pointer (some ⟨r, 0, none⟩))).run Try.prog w' = .ok (.tuple #[K.key x, .slice A (f x).length c]) w' → wpList Try.prog ops Q rest (a.put o.dst (.tuple #[.bool true, K.key x, .slice A (f x).length c])) w') :
    wpList Try.prog ops Q (o :: rest) a w := by
  obtain ⟨V, h1, h2, h3, h4, h5⟩ := H
  refine wpList_nextF w hg it hop hinv b r n V h t cnt hit h1 hDone ?_
  intro x w' cnt' hx p1 p2 hr hlt hgr hsz hen
  have hrow : ∀ z, K.wf z → w'.ownsRow lo S.e S.s (V z) (f z).length (S.cells (f z)) := fun z hz => (h5 z hz).1.kept hgr (by
    cases q : (V z).ownBlock with
    | none => exact Or.inl rfl
    | some j =>
      refine Or.inr fun e => ?_
      injection e with e
      subst e
      rcases (h5 z hz).1.2 with ⟨hv, _⟩ | ⟨g0, cap, cur, hv, hg0, hh, _⟩
      · rw [hv] at q; cases q
      · rw [hv] at q
        have e2 : g0 = j := by injection q
        subst e2
        obtain ⟨D, left, hrg, _⟩ := h1
        obtain ⟨es, clock, since, seen, c0, _, _, _, _, h6, _⟩ := hrg
        rw [hh] at h6
        cases h6)
  obtain ⟨A, c, e⟩ := row_form (hrow x hx)
  have he : (sliceV S.sl S.szero).enc (V x) = .slice A (f x).length c := e
  rw [he] at hen ⊢
  refine hMore x A c w' cnt' hx p1 p2 ⟨V, hr, h2, h3, by omega, fun z hz => ⟨hrow z hz, (h5 z hz).2⟩⟩ hlt hgr ?_ hen
  have k := hrow x hx
  rw [e] at k
  exact CellsAt.of_own k
end
end

end Go.Proofs.Ythaofomhlmajbaa
