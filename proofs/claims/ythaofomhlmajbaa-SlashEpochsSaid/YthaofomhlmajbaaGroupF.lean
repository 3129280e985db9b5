/-
  A map of lists of one's own, whatever the keys and the elements: block b holds, at each key x, the list f x, in a row of its own; asked, and one more put behind a list.
-/
import Derived.Test.YthaofomhlmajbaaOwnMap
import Derived.Test.YthaofomhlmajbaaGround
namespace Go.Proofs.Ythaofomhlmajbaa
set_option maxRecDepth 100000
set_option linter.unusedVariables false
set_option linter.unusedSimpArgs false
set_option linter.unusedSimpArgs false
set_option linter.unusedVariables false
open Go.ChangeShapes Go.WideShapes Go.ChangeAt Go.RowKit

/-- A slice's own words, as what a map holds: no two slices have the same. -/
def sliceR : Value → Option (DataW Unit × List MemPlace)
  | .slice none 0 0 => some (.nil, [])
  | .slice (some ⟨g, 0, none⟩) n c => some (.slice [.lit (.int .i64 g), .lit (.int .i64 n), .lit (.int .i64 c)] [], [])
  | _ => none
theorem sliceR_nil : sliceR (.slice none 0 0) = some (.nil, []) := rfl
theorem sliceR_some (g n c : Nat) : sliceR (.slice (some ⟨g, 0, none⟩) n c) = some (.slice [.lit (.int .i64 g), .lit (.int .i64 n), .lit (.int .i64 c)] [], []) := rfl
def plainS (v : Value) : Prop := v = .slice none 0 0 ∨ ∃ g n c : Nat, v = .slice (some ⟨g, 0, none⟩) n c
theorem plainS_own {w : World} {B : Nat} {e : TypeId} {s n : Nat} {v : Value} {xs : List Value} (h : w.ownsRow B e s v n xs) : plainS v := by
  rcases h.2 with ⟨rfl, _⟩ | ⟨g, cap, cur, rfl, _⟩
  · exact Or.inl rfl
  · exact Or.inr ⟨g, n, cap, rfl⟩
theorem sliceR_inj {u : Value} {d : DataW Unit} {ps : List MemPlace} (hu : sliceR u = some (d, ps)) : ∀ {v : Value}, plainS v → sliceR v = some (d, []) → u = v := by
  intro v hv k
  unfold sliceR at hu
  split at hu
  · cases hu
    rcases hv with rfl | ⟨g, n, c, rfl⟩
    · rfl
    · rw [sliceR_some] at k; cases k
  · cases hu
    rcases hv with rfl | ⟨g, n, c, rfl⟩
    · rw [sliceR_nil] at k; cases k
    · rw [sliceR_some] at k
      simp only [Option.some.injEq, Prod.mk.injEq, DataW.slice.injEq, List.cons.injEq, DataW.lit.injEq, Lit.int.injEq, true_and, and_true] at k
      obtain ⟨h1, h2, h3⟩ := k
      have e1 : g = _ := Int.ofNat.inj h1
      have e2 : n = _ := Int.ofNat.inj h2
      have e3 : c = _ := Int.ofNat.inj h3
      rw [e1, e2, e3]
  · cases hu
def sliceV (e : TypeId) (hz : ∀ u : World, (zeroValue e).run Try.prog u = .ok (.slice none 0 0) u) : ValKind Value where
  e := e
  R := sliceR
  enc := id
  dat v := ((sliceR v).map (·.1)).getD .nil
  ok := plainS
  zero := .slice none 0 0
  reads := fun {y} h => by
    rcases h with rfl | ⟨g, n, c, rfl⟩
    · rfl
    · rfl
  inv := fun {v y ps} h k => sliceR_inj k h (by
    rcases h with rfl | ⟨g, n, c, rfl⟩
    · rfl
    · rfl)
  zok := Or.inl rfl
  zrun := hz

/-- A kind of rows. -/
structure RowKind (γ : Type) where
  sl : TypeId
  e : TypeId
  s : Nat
  by' : Nat
  z : Value
  cells : List γ → List Value
  under : Try.prog.underlying sl = some (.slice e)
  szero : ∀ u : World, (zeroValue sl).run Try.prog u = .ok (.slice none 0 0) u
  info : (Try.prog.info? e).map (fun i => (i.zero, i.size, i.bytes)) = some (some z, s, by')
  zsize : z.cells.size = s
  len : ∀ l, (cells l).length = l.length * s
  app : ∀ l m, cells l ++ cells m = cells (l ++ m)
  one : ∀ l, ∀ u ∈ cells l, u.oneCell' = true
  pos : 0 < s
  small : by' ≤ 100

section
variable {α γ : Type} (K : KeyKind α) (S : RowKind γ)
/-- Block b is such a map; the rows lie from block B on. -/
def Group (B : Nat) (f : α → List γ) (b m : Nat) (w : World) : Prop :=
  ∃ V : α → Value, OwnF K (sliceV S.sl S.szero) b m V w ∧ b < B ∧ B ≤ w.heap.size ∧ (∀ x, K.wf x → w.ownsRow B S.e S.s (V x) (f x).length (S.cells (f x))) ∧
    (∀ x y, K.wf x → K.wf y → x ≠ y → (V x).ownBlock = none ∨ (V x).ownBlock ≠ (V y).ownBlock)
variable {K S}
theorem grow_kept {w w' : World} {B : Nat} {e : TypeId} {s n : Nat} {v : Value} {xs : List Value} (h : w.ownsRow B e s v n xs) (k : Kept w w') : w'.ownsRow B e s v n xs := by
  refine ⟨h.1, ?_⟩
  rcases h.2 with h2 | ⟨g, cap, cur, hv, hg, hh, r⟩
  · exact Or.inl h2
  · exact Or.inr ⟨g, cap, cur, hv, hg, by rw [k.heap (h.lt g (by rw [hv]; rfl)).2]; exact hh, r⟩
theorem Group.made (w : World) : Group K S (w.heap.size + 1) (fun _ => []) w.heap.size 0 (w.alloc (.map #[] 0)) :=
  ⟨fun _ => .slice none 0 0, OwnF.made w, by omega, by simp, fun x _ => by
    have : S.cells [] = [] := List.eq_nil_of_length_eq_zero (by rw [S.len]; simp)
    rw [this]; exact World.ownsRow_nil _ _ _ _, fun _ _ _ _ _ => Or.inl rfl⟩
theorem Group.kept {B : Nat} {f : α → List γ} {b m : Nat} {w w' : World} (h : Group K S B f b m w) (k : Kept w w') : Group K S B f b m w' := by
  obtain ⟨V, h0, hb, hB, h1, h2⟩ := h
  exact ⟨V, h0.kept k, hb, Nat.le_trans hB k.size_le, fun x hx => grow_kept (h1 x hx) k, h2⟩
theorem Group.congr {B : Nat} {f g : α → List γ} {b m : Nat} {w : World} (h : Group K S B f b m w) (k : ∀ x, K.wf x → g x = f x) : Group K S B g b m w := by
  obtain ⟨V, h0, hb, hB, h1, h2⟩ := h
  exact ⟨V, h0, hb, hB, fun x hx => by rw [k x hx]; exact h1 x hx, h2⟩
theorem Group.lt {B : Nat} {f : α → List γ} {b m : Nat} {w : World} (h : Group K S B f b m w) : b < w.heap.size := by
  obtain ⟨V, h0, _⟩ := h; exact h0.lt
theorem row_form {w : World} {B : Nat} {e : TypeId} {s n : Nat} {v : Value} {xs : List Value} (h : w.ownsRow B e s v n xs) : ∃ A c, v = .slice A n c := by
  rcases h.2 with ⟨hv, h0⟩ | ⟨g, cap, cur, hv, _⟩
  · rw [h0]; exact ⟨_, _, hv⟩
  · exact ⟨_, _, hv⟩
/-- 'm[x]'. -/
theorem Group.look {t : TypeId} (ht : Try.prog.underlying t = some (.map K.k S.sl)) {B : Nat} {f : α → List γ} {b m : Nat} {w : World} (h : Group K S B f b m w) {x : α} (hx : K.wf x) :
    ∃ A c, (Instr.lookup t (.map (some b)) (K.key x) false).run Try.prog w = .ok (.slice A (f x).length c) w ∧ CellsAt w w.heap.size A (S.cells (f x)) := by
  obtain ⟨V, h0, hb, hB, h1, h2⟩ := h
  have hrun := h0.look (t := t) ht hx
  obtain ⟨A, c, e⟩ := row_form (h1 x hx)
  refine ⟨A, c, by rw [hrun, ← e]; rfl, ?_⟩
  have h3 := h1 x hx
  rw [e] at h3
  exact CellsAt.of_own h3

/-! ### One more behind a list -/
variable [DecidableEq α]
/-- The list of x with n behind it. -/
def growG (f : α → List γ) (x : α) (n : γ) : α → List γ := setF f x (f x ++ [n])
variable (K S)
/-- v is the list at x; M tells how the map will be stored into. -/
def GPend (M : (α → Value) → World → Prop) (B : Nat) (f : α → List γ) (b : Nat) (x : α) (v : Value) (w : World) : Prop :=
  b < B ∧ B ≤ w.heap.size ∧ ∃ V : α → Value, M V w ∧ v = V x ∧ (∀ y, K.wf y → w.ownsRow B S.e S.s (V y) (f y).length (S.cells (f y))) ∧
    (∀ y z, K.wf y → K.wf z → y ≠ z → (V y).ownBlock = none ∨ (V y).ownBlock ≠ (V z).ownBlock)
/-- Behind the append: the longer list. -/
def GGrew (M : (α → Value) → World → Prop) (B : Nat) (f : α → List γ) (b : Nat) (x : α) (n : γ) (v' : Value) (w : World) : Prop :=
  b < B ∧ B ≤ w.heap.size ∧ w.ownsRow B S.e S.s v' (f x ++ [n]).length (S.cells (f x ++ [n])) ∧ ∃ V : α → Value, M V w ∧
    (∀ y, K.wf y → y ≠ x → w.ownsRow B S.e S.s (V y) (f y).length (S.cells (f y)) ∧ ((V y).ownBlock = none ∨ (V y).ownBlock ≠ v'.ownBlock)) ∧
    (∀ y z, K.wf y → K.wf z → y ≠ z → (V y).ownBlock = none ∨ (V y).ownBlock ≠ (V z).ownBlock)
/-- How by an entry. -/
def ByEntry (t : TypeId) (b m : Nat) (x : α) (st : Nat) (V : α → Value) (w : World) : Prop := PendF K (sliceV S.sl S.szero) t b m V x st w
/-- How by a key. -/
def ByKey (b m : Nat) (V : α → Value) (w : World) : Prop := OwnF K (sliceV S.sl S.szero) b m V w
variable {K S}
theorem ByEntry.at {t : TypeId} {b m : Nat} {x : α} {st : Nat} {V : α → Value} {w w' : World} (h : ByEntry K S t b m x st V w) (e : w'.heap[b]? = w.heap[b]?) : ByEntry K S t b m x st V w' := PendF.at h e
omit [DecidableEq α] in
theorem ByKey.at {b m : Nat} {V : α → Value} {w w' : World} (h : ByKey K S b m V w) (e : w'.heap[b]? = w.heap[b]?) : ByKey K S b m V w' := OwnF.at h e
omit [DecidableEq α] in
theorem GPend.slice {M : (α → Value) → World → Prop} {B : Nat} {f : α → List γ} {b : Nat} {x : α} {v : Value} {w : World} (h : GPend K S M B f b x v w) (hx : K.wf x) : ∃ A c, v = .slice A (f x).length c := by
  obtain ⟨_, _, V, _, rfl, h2, _⟩ := h
  exact row_form (h2 x hx)
theorem Group.entry {t : TypeId} (ht : Try.prog.underlying t = some (.map K.k S.sl)) (L : WideMaps.KeyLaw Try.prog K.k) {B : Nat} {f : α → List γ} {b m : Nat} {w : World} (h : Group K S B f b m w) (hm : m < maxLen) {x : α} (hx : K.wf x) :
    ∃ A c st w1, (Instr.mapEntry t (.map (some b)) (K.key x)).run Try.prog w = .ok (.tuple #[.slice A (f x).length c, .int .i64 (st : Nat)]) w1 ∧ GPend K S (ByEntry K S t b m x st) B f b x (.slice A (f x).length c) w1 ∧ w.grownBy w1 (some b) := by
  obtain ⟨V, h0, hb, hB, h1, h2⟩ := h
  obtain ⟨st, w1, hrun, hp, hg⟩ := h0.entry (t := t) ht L hm hx
  obtain ⟨A, c, e⟩ := row_form (h1 x hx)
  refine ⟨A, c, st, w1, by rw [hrun, ← e]; rfl, ⟨hb, Nat.le_trans hB hg.size, V, hp, e.symm, fun y hy => (h1 y hy).kept hg ?_, h2⟩, hg⟩
  cases q : (V y).ownBlock with
  | none => exact Or.inl rfl
  | some j =>
    have := ((h1 y hy).lt j q).1
    refine Or.inr fun e => ?_
    injection e with e
    omega
omit [DecidableEq α] in
theorem Group.bykey {B : Nat} {f : α → List γ} {b m : Nat} {w : World} (h : Group K S B f b m w) {t : TypeId} (ht : Try.prog.underlying t = some (.map K.k S.sl)) {x : α} (hx : K.wf x) :
    ∃ A c, (∀ w', ByKey K S b m (fun y => .slice none 0 0) w' → True) ∧ (Instr.lookup t (.map (some b)) (K.key x) false).run Try.prog w = .ok (.slice A (f x).length c) w ∧ GPend K S (ByKey K S b m) B f b x (.slice A (f x).length c) w := by
  obtain ⟨V, h0, hb, hB, h1, h2⟩ := h
  have hrun := h0.look (t := t) ht hx
  obtain ⟨A, c, e⟩ := row_form (h1 x hx)
  exact ⟨A, c, fun _ _ => trivial, by rw [hrun, ← e]; rfl, ⟨hb, hB, V, h0, e.symm, h1, h2⟩⟩
omit [DecidableEq α] in
theorem GPend.kept {M : (α → Value) → World → Prop} {b : Nat} (hM : ∀ V w w', M V w → w'.heap[b]? = w.heap[b]? → M V w') {B : Nat} {f : α → List γ} {x : α} {v : Value} {w w' : World} (h : GPend K S M B f b x v w) (k : Kept w w') : GPend K S M B f b x v w' := by
  obtain ⟨hb, hB, V, h0, e, h1, h2⟩ := h
  exact ⟨hb, Nat.le_trans hB k.size_le, V, hM V w w' h0 (k.heap (by omega)), e, fun y hy => grow_kept (h1 y hy) k, h2⟩
omit [DecidableEq α] in
/-- append. -/
theorem wp_gapp {o : Oper} {a : Act} {Kc : Act → World → Prop} {Q : Exit → Act → World → Prop} (w : World) (s y : Operand)
    (ho : o.op = .call { callee := .builtin .append, args := #[s, y], argTypes := #[S.sl, S.sl] })
    (M : (α → Value) → World → Prop) (B : Nat) (f : α → List γ) (b : Nat) (x : α) (hx : K.wf x) (v : Value) (hs : a.eval s = v) (HP : GPend K S M B f b x v w) (hM : ∀ V w', M V w → w'.heap[b]? = w.heap[b]? → M V w')
    (B2 : Nat) (A : Option Addr) (c : Nat) (n : γ) (hy : a.eval y = .slice A 1 c)
    (hr : CellsAt w B2 A (S.cells [n])) (hlen : (f x).length + 1 ≤ 1000000)
    (h : ∀ A' c' w', GGrew K S M B f b x n (.slice A' ((f x).length + 1) c') w' → w.grownBy w' v.ownBlock → (∀ g, v.ownBlock = some g → B ≤ g) → Kc (a.put o.dst (.slice A' ((f x).length + 1) c')) w') : o.wp Try.prog a w Kc Q := by
  obtain ⟨i0, hi0, hz0, hz1, hz2⟩ := info_of S.info
  obtain ⟨hbB, hB, V, hMV, rfl, h2, h3⟩ := HP
  have hrow := h2 x hx
  have hsm := S.small
  have hpo := S.pos
  refine wp_app w s y _ ho B S.e i0 S.z S.s S.by' S.under hi0 hz0 hz1 hz2 S.zsize S.pos (V x) (f x).length (S.cells (f x)) hs hrow B2 A 1 c (S.cells [n]) hy (by rw [S.len]; simp) hr (S.one _)
    (by unfold maxLen; omega) ?_ hB ?_
  · have : ((f x).length + 1) * S.by' ≤ 1000000 * 100 := Nat.mul_le_mul hlen hsm
    omega
  intro v' w' own g hat
  have hle := g.size
  rw [S.app] at own
  have own' : w'.ownsRow B S.e S.s v' (f x ++ [n]).length (S.cells (f x ++ [n])) := by rw [List.length_append]; exact own
  obtain ⟨A', c', rfl⟩ : ∃ A' c', v' = .slice A' ((f x).length + 1) c' := by
    rcases own.2 with ⟨_, h0⟩ | ⟨g, cap, cur, hv, _⟩
    · omega
    · exact ⟨_, _, hv⟩
  refine h A' c' w' ⟨hbB, Nat.le_trans hB hle, own', V, hM V w' hMV (g.block b (by omega) fun e => ?_), fun z hz hne => ?_, h3⟩ g (fun j hj => (hrow.lt j hj).1)
  · have := (hrow.lt b e.symm).1
    omega
  · refine ⟨(h2 z hz).kept g (h3 z x hz hx hne), ?_⟩
    rcases hat with e | e
    · rw [e]; exact h3 z x hz hx hne
    · rw [e]
      cases q : (V z).ownBlock with
      | none => exact Or.inl rfl
      | some j =>
        have := ((h2 z hz).lt j q).2
        refine Or.inr fun k => ?_
        injection k with k
        omega
/-- The longer list is stored. -/
theorem GGrew.stored {t : TypeId} {M : (α → Value) → World → Prop} {B : Nat} {f : α → List γ} {b m : Nat} {x : α} {n : γ} {v' : Value} {w w' : World} (h : GGrew K S M B f b x n v' w) (hx : K.wf x)
    (hown : ∀ V, M V w → OwnF K (sliceV S.sl S.szero) b m (setF V x v') w') (hgr : w.grownBy w' (some b)) : Group K S B (growG f x n) b m w' := by
  obtain ⟨h0, hB, hrow, V, hMV, h2, h3⟩ := h
  have hk : ∀ {u : Value} {l : List γ}, w.ownsRow B S.e S.s u l.length (S.cells l) → w'.ownsRow B S.e S.s u l.length (S.cells l) := fun {u l} h => h.kept hgr (by
    cases q : u.ownBlock with
    | none => exact Or.inl rfl
    | some j =>
      have := (h.lt j q).1
      refine Or.inr fun e => ?_
      injection e with e
      omega)
  refine ⟨setF V x v', hown V hMV, h0, Nat.le_trans hB hgr.size, fun y hy => ?_, fun y z hy hz hne => ?_⟩
  · unfold growG
    by_cases e : y = x
    · subst e
      rw [setF_same, setF_same]
      exact hk hrow
    · rw [setF_other _ e, setF_other _ e]
      exact hk (h2 y hy e).1
  · by_cases e : y = x
    · subst e
      rw [setF_same, setF_other _ (fun q => hne q.symm)]
      rcases (h2 z hz (fun q => hne q.symm)).2 with q | q
      · rw [q]
        cases v'.ownBlock with
        | none => exact Or.inl rfl
        | some j => exact Or.inr (by simp)
      · cases r : v'.ownBlock with
        | none => exact Or.inl rfl
        | some j => exact Or.inr (by rw [← r]; exact fun e => q e.symm)
    · rw [setF_other _ e]
      by_cases e2 : z = x
      · subst e2
        rw [setF_same]
        exact (h2 y hy e).2
      · rw [setF_other _ e2]
        exact h3 y z hy hz hne
theorem Group.store {t : TypeId} {B : Nat} {f : α → List γ} {b m : Nat} {x : α} {n : γ} {st : Nat} {v' : Value} {w : World} (h : GGrew K S (ByEntry K S t b m x st) B f b x n v' w) (hx : K.wf x) :
    ∃ w', (Instr.entryStore t (.map (some b)) (.int .i64 (st : Nat)) v').run Try.prog w = .ok () w' ∧ Group K S B (growG f x n) b (m + 1) w' ∧ w.grownBy w' (some b) := by
  have h' := h
  obtain ⟨h0, hB, hrow, V, hMV, h2, h3⟩ := h
  obtain ⟨w', hrun, hown, hgr⟩ := hMV.2 w v' (plainS_own hrow) rfl
  refine ⟨w', hrun, GGrew.stored (t := t) (M := fun V' w => V' = V ∧ ByEntry K S t b m x st V' w) ⟨h0, hB, hrow, V, ⟨rfl, hMV⟩, h2, h3⟩ hx (fun V' hV => by rw [hV.1]; exact hown) hgr, hgr⟩
theorem Group.update {t : TypeId} (ht : Try.prog.underlying t = some (.map K.k S.sl)) {B : Nat} {f : α → List γ} {b m : Nat} {x : α} {n : γ} {v' : Value} {w : World} (h : GGrew K S (ByKey K S b m) B f b x n v' w) (hm : m < maxLen) (hx : K.wf x) :
    ∃ w', (Instr.mapUpdate t (.map (some b)) (K.key x) v').run Try.prog w = .ok () w' ∧ Group K S B (growG f x n) b (m + 1) w' ∧ w.grownBy w' (some b) := by
  obtain ⟨h0, hB, hrow, V, hMV, h2, h3⟩ := h
  obtain ⟨w', hrun, hown, hgr⟩ := OwnF.update (t := t) ht hMV hm hx (plainS_own hrow)
  refine ⟨w', hrun, GGrew.stored (t := t) (M := fun V' w => V' = V ∧ ByKey K S b m V' w) ⟨h0, hB, hrow, V, ⟨rfl, hMV⟩, h2, h3⟩ hx (fun V' hV => by rw [hV.1]; exact hown) hgr, hgr⟩

/-! ### .. at the walk's operations -/
variable {ops : Array Oper} {rest : List Oper} {o : Oper} {a : Act} {Q : Exit → Act → World → Prop} (w : World)
theorem wpList_gentry (hgd : o.guard = none) (t : TypeId) (ht : Try.prog.underlying t = some (.map K.k S.sl)) (L : WideMaps.KeyLaw Try.prog K.k) (mo x : Operand) (ho : o.op = .mapEntry t mo x) (B : Nat) (f : α → List γ) (b k : Nat) (hm : a.eval mo = .map (some b)) (HG : Group K S B f b k w) (hk : k < maxLen) (i : α) (hx : a.eval x = K.key i) (hi : K.wf i)
    (h : ∀ A c st w', GPend K S (ByEntry K S t b k i st) B f b i (.slice A (f i).length c) w' → w.grownBy w' (some b) → wpList Try.prog ops Q rest (a.put o.dst (.tuple #[.slice A (f i).length c, .int .i64 (st : Nat)])) w') : wpList Try.prog ops Q (o :: rest) a w := by
  refine wpList_plain hgd fun _ hK => ?_
  obtain ⟨A, c, st, w1, hrun, hp, hg⟩ := HG.entry ht L hk hi
  unfold Oper.wp
  simp only [execOp, ho, hm, hx, hrun, Sem.run_bind, Result.andThen]
  exact hK _ _ (h A c st w1 hp hg)
omit [DecidableEq α] in
theorem wpList_gapp (hgd : o.guard = none) (s y : Operand)
    (ho : o.op = .call { callee := .builtin .append, args := #[s, y], argTypes := #[S.sl, S.sl] })
    (M : (α → Value) → World → Prop) (B : Nat) (f : α → List γ) (b : Nat) (x : α) (hx : K.wf x) (v : Value) (hs : a.eval s = v) (HP : GPend K S M B f b x v w) (hM : ∀ V w', M V w → w'.heap[b]? = w.heap[b]? → M V w')
    (B2 : Nat) (A : Option Addr) (c : Nat) (n : γ) (hy : a.eval y = .slice A 1 c)
    (hr : CellsAt w B2 A (S.cells [n])) (hlen : (f x).length + 1 ≤ 1000000)
    (h : ∀ A' c' w', GGrew K S M B f b x n (.slice A' ((f x).length + 1) c') w' → w.grownBy w' v.ownBlock → (∀ g, v.ownBlock = some g → B ≤ g) → wpList Try.prog ops Q rest (a.put o.dst (.slice A' ((f x).length + 1) c')) w') : wpList Try.prog ops Q (o :: rest) a w :=
  wpList_plain hgd fun _ hK => wp_gapp w s y ho M B f b x hx v hs HP hM B2 A c n hy hr hlen fun A' c' w' h1 h2 h3 => hK _ _ (h A' c' w' h1 h2 h3)
theorem wpList_gstore (hgd : o.guard = none) (t : TypeId) (mo s x : Operand) (ho : o.op = .entryStore t mo s x) (B : Nat) (f : α → List γ) (b k : Nat) (hm : a.eval mo = .map (some b)) (i : α) (n : γ) (hi : K.wf i) (st : Nat) (hs : a.eval s = .int .i64 (st : Nat)) (v' : Value) (hx : a.eval x = v') (HG : GGrew K S (ByEntry K S t b k i st) B f b i n v' w)
    (h : ∀ w', Group K S B (growG f i n) b (k + 1) w' → w.grownBy w' (some b) → wpList Try.prog ops Q rest (a.put o.dst undef) w') : wpList Try.prog ops Q (o :: rest) a w := by
  refine wpList_plain hgd fun _ hK => ?_
  obtain ⟨w', hrun, hg, hgr⟩ := Group.store HG hi
  unfold Oper.wp
  simp only [execOp, ho, hm, hx, hs, hrun, Sem.run_bind, Sem.run_pure, Result.andThen]
  exact hK _ _ (h w' hg hgr)
end

end Go.Proofs.Ythaofomhlmajbaa
