/-
  Plain mathematics of package ffg: which links may be, and are strong; what is justified, and final; lists in order.
-/
import Derived.Test.YthaofomhlmajbaaWeighMath
import Derived.Test.YthaofomhlmajbaaMixG
namespace Go.Proofs.Ythaofomhlmajbaa
set_option maxRecDepth 100000
set_option linter.unusedVariables false
set_option linter.unusedSimpArgs false
set_option linter.unusedSimpArgs false
set_option linter.unusedVariables false

/-- A checkpoint: its epoch, its root. -/
structure Ck where
  e : Int
  r : Nat × Nat
/-- A link: whose, from which, to which. -/
structure Lk where
  f : Int
  s : Ck
  t : Ck
theorem Ck.same {a b : Ck} (h1 : a.e = b.e) (h2 : a.r = b.r) : a = b := by cases a; cases b; simp only at h1 h2; subst h1 h2; rfl
theorem Lk.same {a b : Lk} (h1 : a.f = b.f) (h2 : a.s = b.s) (h3 : a.t = b.t) : a = b := by cases a; cases b; simp only at h1 h2 h3; subst h1 h2 h3; rfl
instance : DecidableEq Ck := fun a b => decidable_of_iff (a.e = b.e ∧ a.r = b.r) ⟨fun h => Ck.same h.1 h.2, fun h => by subst h; exact ⟨rfl, rfl⟩⟩
instance : DecidableEq Lk := fun a b => decidable_of_iff (a.f = b.f ∧ a.s = b.s ∧ a.t = b.t) ⟨fun h => Lk.same h.1 h.2.1 h.2.2, fun h => by subst h; exact ⟨rfl, rfl, rfl⟩⟩
def firstK : Ck := ⟨0, zid⟩
def sameK (a b : Ck) : Bool := decide (a = b)
theorem sameK_iff {a b : Ck} : sameK a b = true ↔ a = b := decide_eq_true_iff
theorem sameK_yes {a b : Ck} (h : a = b) : sameK a b = true := decide_eq_true h
theorem sameK_no {a b : Ck} (h : ¬ a = b) : sameK a b = false := decide_eq_false h

/-! ### The order in which checkpoints stand -/
def lessK (a b : Ck) : Bool := decide (a.e < b.e ∨ (a.e = b.e ∧ (a.r.1 < b.r.1 ∨ (a.r.1 = b.r.1 ∧ a.r.2 < b.r.2))))
theorem lessK_iff {a b : Ck} : lessK a b = true ↔ a.e < b.e ∨ (a.e = b.e ∧ (a.r.1 < b.r.1 ∨ (a.r.1 = b.r.1 ∧ a.r.2 < b.r.2))) := decide_eq_true_iff
theorem lessK_eq (a b : Ck) : lessK a b = (decide (a.e < b.e) || (decide (a.e = b.e) && lessN a.r b.r)) := by
  unfold lessK lessN
  rw [Bool.eq_iff_iff, decide_eq_true_iff, Bool.or_eq_true, Bool.and_eq_true, decide_eq_true_iff, decide_eq_true_iff, decide_eq_true_iff]
theorem lessK_not (a : Ck) : ¬ lessK a a = true := fun h => by rw [lessK_iff] at h; omega
theorem lessK_trans {a b c : Ck} (h : lessK a b = true) (k : lessK b c = true) : lessK a c = true := by rw [lessK_iff] at *; omega
theorem lessK_total {a b : Ck} (h : a ≠ b) (k : lessK a b = false) : lessK b a = true := by
  rw [lessK_iff]
  have k' : ¬ lessK a b = true := by rw [k]; simp
  rw [lessK_iff] at k'
  refine Decidable.byContradiction fun q => h (Ck.same (by omega) (Prod.ext (by omega) (by omega)))
def Rise (R : List Ck) : Prop := R.Pairwise fun a b => lessK a b = true
theorem rise_of {α : Type} {r : α → α → Prop} (hi : ∀ a, ¬ r a a) (ht : ∀ a b c, r a b → r b c → r a c) : ∀ {R S : List α}, R.Pairwise r → S.Pairwise r → (∀ v, v ∈ R ↔ v ∈ S) → R = S
  | [], [], _, _, _ => rfl
  | [], b :: S, _, _, h => by have := (h b).2 List.mem_cons_self; simp at this
  | a :: R, [], _, _, h => by have := (h a).1 List.mem_cons_self; simp at this
  | a :: R, b :: S, hR, hS, h => by
    have hR' := List.pairwise_cons.1 hR
    have hS' := List.pairwise_cons.1 hS
    have e : a = b := by
      rcases List.mem_cons.1 ((h a).1 List.mem_cons_self) with e | e
      · exact e
      · rcases List.mem_cons.1 ((h b).2 List.mem_cons_self) with e' | e'
        · exact e'.symm
        · exact absurd (ht _ _ _ (hS'.1 a e) (hR'.1 b e')) (hi _)
    subst e
    congr 1
    refine rise_of hi ht hR'.2 hS'.2 fun v => ⟨fun hv => ?_, fun hv => ?_⟩
    · rcases List.mem_cons.1 ((h v).1 (List.mem_cons_of_mem _ hv)) with e | e
      · subst e; exact absurd (hR'.1 v hv) (hi v)
      · exact e
    · rcases List.mem_cons.1 ((h v).2 (List.mem_cons_of_mem _ hv)) with e | e
      · subst e; exact absurd (hS'.1 v hv) (hi v)
      · exact e
theorem Rise.one {R S : List Ck} (hR : Rise R) (hS : Rise S) (h : ∀ v, v ∈ R ↔ v ∈ S) : R = S := rise_of (r := fun a b => lessK a b = true) lessK_not (fun _ _ _ => lessK_trans) hR hS h
theorem Rise.nodup {R : List Ck} (h : Rise R) : R.Nodup := List.Pairwise.imp (R := fun a b => lessK a b = true) (S := fun a b => a ≠ b) (fun {a b} q e => lessK_not a (by rw [← e] at q; exact q)) h
theorem Rise.at {R : List Ck} (h : Rise R) {i j : Nat} (hi : i < j) (hj : j < R.length) : lessK (R[i]'(by omega)) R[j] = true := List.pairwise_iff_getElem.1 h i j (by omega) hj hi

/-! ### Links -/
def mayL (k : Cf) (l : List Bk) (x : Lk) : Bool := mayC k && mayB l && decide (0 ≤ x.f ∧ x.f < k.ws.length ∧ 0 ≤ x.s.e ∧ x.s.e < x.t.e ∧ x.t.e ≤ 1048576) && underC l x.s.r x.t.r
theorem mayL_iff {k : Cf} {l : List Bk} {x : Lk} : mayL k l x = true ↔ mayC k = true ∧ mayB l = true ∧ (0 ≤ x.f ∧ x.f < k.ws.length ∧ 0 ≤ x.s.e ∧ x.s.e < x.t.e ∧ x.t.e ≤ 1048576) ∧ underC l x.s.r x.t.r = true := by
  unfold mayL
  rw [Bool.and_eq_true, Bool.and_eq_true, Bool.and_eq_true, decide_eq_true_iff]
  constructor
  · rintro ⟨⟨⟨a, b⟩, c⟩, d⟩; exact ⟨a, b, c, d⟩
  · rintro ⟨a, b, c, d⟩; exact ⟨⟨⟨a, b⟩, c⟩, d⟩
def fineC (k : Cf) (l : List Bk) (v : List Lk) : List Lk := v.filter (mayL k l)
theorem fineC_nil (k : Cf) (l : List Bk) : fineC k l [] = [] := rfl
theorem fineC_hit {k : Cf} {l : List Bk} {x : Lk} (v : List Lk) (h : mayL k l x = true) : fineC k l (v ++ [x]) = fineC k l v ++ [x] := by simp [fineC, h]
theorem fineC_miss {k : Cf} {l : List Bk} {x : Lk} (v : List Lk) (h : mayL k l x = false) : fineC k l (v ++ [x]) = fineC k l v := by simp [fineC, h]
theorem fineC_length (k : Cf) (l : List Bk) (v : List Lk) : (fineC k l v).length ≤ v.length := List.length_filter_le _ _
theorem mem_fineC {k : Cf} {l : List Bk} {v : List Lk} {x : Lk} : x ∈ fineC k l v ↔ x ∈ v ∧ mayL k l x = true := List.mem_filter
def hitK (s t : Ck) (x : Lk) : Bool := sameK x.s s && sameK x.t t
theorem hitK_iff {s t : Ck} {x : Lk} : hitK s t x = true ↔ x.s = s ∧ x.t = t := by unfold hitK; rw [Bool.and_eq_true, sameK_iff, sameK_iff]
/-- Who has a link from s to t. -/
def whoK (v : List Lk) (s t : Ck) : List Int := (v.filter (hitK s t)).map Lk.f
theorem whoK_nil (s t : Ck) : whoK [] s t = [] := rfl
theorem whoK_hit {s t : Ck} {x : Lk} (v : List Lk) (h : hitK s t x = true) : whoK (v ++ [x]) s t = whoK v s t ++ [x.f] := by simp [whoK, h]
theorem whoK_miss {s t : Ck} {x : Lk} (v : List Lk) (h : hitK s t x = false) : whoK (v ++ [x]) s t = whoK v s t := by simp [whoK, h]
theorem whoK_length (v : List Lk) (s t : Ck) : (whoK v s t).length ≤ v.length := by
  unfold whoK; rw [List.length_map]; exact List.length_filter_le _ _
theorem mem_whoK {v : List Lk} {s t : Ck} {f : Int} : f ∈ whoK v s t ↔ ∃ x ∈ v, x.s = s ∧ x.t = t ∧ x.f = f := by
  unfold whoK
  rw [List.mem_map]
  constructor
  · rintro ⟨x, hx, e⟩
    obtain ⟨h1, h2⟩ := List.mem_filter.1 hx
    exact ⟨x, h1, (hitK_iff.1 h2).1, (hitK_iff.1 h2).2, e⟩
  · rintro ⟨x, h1, h2, h3, e⟩
    exact ⟨x, List.mem_filter.2 ⟨h1, hitK_iff.2 ⟨h2, h3⟩⟩, e⟩
def strongK (k : Cf) (v : List Lk) (s t : Ck) : Bool := decide (0 < (whoK v s t).length ∧ 2 * totalC k ≤ 3 * weightC k (whoK v s t))
theorem strongK_iff {k : Cf} {v : List Lk} {s t : Ck} : strongK k v s t = true ↔ 0 < (whoK v s t).length ∧ 2 * totalC k ≤ 3 * weightC k (whoK v s t) := decide_eq_true_iff
def strongC (k : Cf) (l : List Bk) (v : List Lk) (s t : Ck) : Bool := strongK k (fineC k l v) s t
theorem strong_some {k : Cf} {v : List Lk} {s t : Ck} (h : strongK k v s t = true) : ∃ x ∈ v, x.s = s ∧ x.t = t := by
  obtain ⟨h1, _⟩ := strongK_iff.1 h
  obtain ⟨x, hx, a, b, _⟩ := mem_whoK.1 (List.getElem_mem h1)
  exact ⟨x, hx, a, b⟩
theorem strong_more {k : Cf} {v w : List Lk} {s t : Ck} (hw : ∀ x ∈ v, x ∈ w) (h : strongK k v s t = true) : strongK k w s t = true := by
  have hm : ∀ f ∈ whoK v s t, f ∈ whoK w s t := fun f hf => by
    obtain ⟨x, hx, r⟩ := mem_whoK.1 hf
    exact mem_whoK.2 ⟨x, hw x hx, r⟩
  obtain ⟨h1, h2⟩ := strongK_iff.1 h
  refine strongK_iff.2 ⟨List.length_pos_of_mem (hm _ (List.getElem_mem h1)), ?_⟩
  have := weight_mono k hm
  omega
theorem strong_mem {k : Cf} {v w : List Lk} (hw : ∀ x, x ∈ v ↔ x ∈ w) (s t : Ck) : strongK k v s t = strongK k w s t := by
  rw [Bool.eq_iff_iff]
  exact ⟨strong_more fun x hx => (hw x).1 hx, strong_more fun x hx => (hw x).2 hx⟩
theorem strong_may {k : Cf} {l : List Bk} {v : List Lk} {s t : Ck} (h : strongC k l v s t = true) : mayC k = true ∧ mayB l = true ∧ 0 ≤ s.e ∧ s.e < t.e ∧ t.e ≤ 1048576 ∧ underC l s.r t.r = true := by
  obtain ⟨x, hx, rfl, rfl⟩ := strong_some h
  obtain ⟨a, b, c, d⟩ := mayL_iff.1 (mem_fineC.1 hx).2
  exact ⟨a, b, c.2.2.1, c.2.2.2.1, c.2.2.2.2, d⟩

/-! ### What is justified -/
inductive JustK (k : Cf) (v : List Lk) : Ck → Prop
  | first : JustK k v firstK
  | next {s t : Ck} : JustK k v s → strongK k v s t = true → JustK k v t
theorem just_more {k : Cf} {v w : List Lk} (hw : ∀ x ∈ v, x ∈ w) {x : Ck} (h : JustK k v x) : JustK k w x := by
  induction h with
  | first => exact .first
  | next _ hs ih => exact .next ih (strong_more hw hs)
theorem just_bounds {k : Cf} {l : List Bk} {v : List Lk} {x : Ck} (h : JustK k (fineC k l v) x) : x = firstK ∨ (1 ≤ x.e ∧ x.e ≤ 1048576) := by
  cases h with
  | first => exact Or.inl rfl
  | next hs h =>
    have := strong_may (l := l) h
    exact Or.inr (by omega)
/-- R is what is justified, in order; nothing, if k or l may not be. -/
def Justs (k : Cf) (l : List Bk) (v : List Lk) (R : List Ck) : Prop := Rise R ∧ ∀ x, x ∈ R ↔ (mayC k = true ∧ mayB l = true ∧ JustK k (fineC k l v) x)
theorem Justs.one {k : Cf} {l : List Bk} {v : List Lk} {R S : List Ck} (hR : Justs k l v R) (hS : Justs k l v S) : R = S := hR.1.one hS.1 fun x => (hR.2 x).trans (hS.2 x).symm
theorem justs_none {k : Cf} {l : List Bk} (v : List Lk) (h : ¬ (mayC k = true ∧ mayB l = true)) : Justs k l v [] := ⟨List.Pairwise.nil, fun x => ⟨fun q => (by cases q), fun q => absurd ⟨q.1, q.2.1⟩ h⟩⟩
theorem Justs.none {k : Cf} {l : List Bk} {v : List Lk} {R : List Ck} (hR : Justs k l v R) (h : ¬ (mayC k = true ∧ mayB l = true)) : R = [] := hR.one (justs_none v h)
theorem Justs.more {k : Cf} {l : List Bk} {v w : List Lk} {R S : List Ck} (hR : Justs k l v R) (hS : Justs k l w S) (hw : ∀ x ∈ v, x ∈ w) {x : Ck} (h : x ∈ R) : x ∈ S := by
  obtain ⟨a, b, c⟩ := (hR.2 x).1 h
  refine (hS.2 x).2 ⟨a, b, just_more (fun y hy => ?_) c⟩
  obtain ⟨h1, h2⟩ := mem_fineC.1 hy
  exact mem_fineC.2 ⟨hw y h1, h2⟩
theorem Justs.mem {k : Cf} {l : List Bk} {v w : List Lk} {R S : List Ck} (hR : Justs k l v R) (hS : Justs k l w S) (hw : ∀ x, x ∈ v ↔ x ∈ w) : R = S :=
  hR.1.one hS.1 fun x => ⟨fun h => hR.more hS (fun y hy => (hw y).1 hy) h, fun h => hS.more hR (fun y hy => (hw y).2 hy) h⟩
theorem first_least {x : Ck} (h : 1 ≤ x.e) : lessK firstK x = true := lessK_iff.2 (Or.inl (by show (0 : Int) < x.e; omega))
theorem Justs.head {k : Cf} {l : List Bk} {v : List Lk} {R : List Ck} (hR : Justs k l v R) (h : mayC k = true ∧ mayB l = true) : ∃ S, R = firstK :: S := by
  have hf : firstK ∈ R := (hR.2 _).2 ⟨h.1, h.2, .first⟩
  match R, hR, hf with
  | [], _, hf => cases hf
  | a :: S, hR, hf =>
    refine ⟨S, ?_⟩
    rcases List.mem_cons.1 hf with e | e
    · rw [e]
    · have h1 : lessK a firstK = true := (List.pairwise_cons.1 hR.1).1 _ e
      rcases just_bounds ((hR.2 a).1 List.mem_cons_self).2.2 with e2 | e2
      · rw [e2]
      · exact absurd (lessK_trans h1 (first_least e2.1)) (lessK_not _)
/-- Whatever is justified, but the first one, is so by one ahead. -/
theorem Justs.from {k : Cf} {l : List Bk} {v : List Lk} {R : List Ck} (hR : Justs k l v R) {x : Ck} (hx : x ∈ R) (hn : x ≠ firstK) : ∃ s ∈ R, strongC k l v s x = true := by
  obtain ⟨a, b, c⟩ := (hR.2 x).1 hx
  cases c with
  | first => exact absurd rfl hn
  | next hs h => exact ⟨_, (hR.2 _).2 ⟨a, b, hs⟩, h⟩

/-! ### What is final -/
def FinalK (k : Cf) (l : List Bk) (v : List Lk) (x : Ck) : Prop := x = firstK ∨ ∃ t, strongC k l v x t = true ∧ (t.e = x.e + 1 ∨ (t.e = x.e + 2 ∧ ∃ m, JustK k (fineC k l v) m ∧ m.e = x.e + 1 ∧ underC l x.r m.r = true ∧ underC l m.r t.r = true))
open Classical in
noncomputable def finalB (k : Cf) (l : List Bk) (v : List Lk) (x : Ck) : Bool := decide (FinalK k l v x)
theorem finalB_iff {k : Cf} {l : List Bk} {v : List Lk} {x : Ck} : finalB k l v x = true ↔ FinalK k l v x := @decide_eq_true_iff _ (Classical.propDecidable _)
theorem finalB_yes {k : Cf} {l : List Bk} {v : List Lk} {x : Ck} (h : FinalK k l v x) : finalB k l v x = true := finalB_iff.2 h
theorem finalB_no {k : Cf} {l : List Bk} {v : List Lk} {x : Ck} (h : ¬ FinalK k l v x) : finalB k l v x = false := by rw [Bool.eq_false_iff]; exact fun e => h (finalB_iff.1 e)
theorem final_more {k : Cf} {l : List Bk} {v w : List Lk} (hw : ∀ x ∈ v, x ∈ w) {x : Ck} (h : FinalK k l v x) : FinalK k l w x := by
  have hf : ∀ y ∈ fineC k l v, y ∈ fineC k l w := fun y hy => mem_fineC.2 ⟨hw y (mem_fineC.1 hy).1, (mem_fineC.1 hy).2⟩
  rcases h with e | ⟨t, h1, h2⟩
  · exact Or.inl e
  · refine Or.inr ⟨t, strong_more hf h1, ?_⟩
    rcases h2 with h2 | ⟨h2, m, h3, h4⟩
    · exact Or.inl h2
    · exact Or.inr ⟨h2, m, just_more hf h3, h4⟩
/-- F is what is final, in order. -/
def Finals (k : Cf) (l : List Bk) (v : List Lk) (F : List Ck) : Prop := ∃ R, Justs k l v R ∧ F = R.filter (finalB k l v)
theorem Finals.one {k : Cf} {l : List Bk} {v : List Lk} {F G : List Ck} (hF : Finals k l v F) (hG : Finals k l v G) : F = G := by
  obtain ⟨R, hR, rfl⟩ := hF
  obtain ⟨S, hS, rfl⟩ := hG
  rw [hR.one hS]
theorem Finals.mem_iff {k : Cf} {l : List Bk} {v : List Lk} {F : List Ck} (hF : Finals k l v F) {x : Ck} : x ∈ F ↔ (mayC k = true ∧ mayB l = true ∧ JustK k (fineC k l v) x) ∧ FinalK k l v x := by
  obtain ⟨R, hR, rfl⟩ := hF
  rw [List.mem_filter, hR.2, finalB_iff]
theorem Finals.rise {k : Cf} {l : List Bk} {v : List Lk} {F : List Ck} (hF : Finals k l v F) : Rise F := by
  obtain ⟨R, hR, rfl⟩ := hF
  exact List.Pairwise.sublist List.filter_sublist hR.1
theorem Finals.just {k : Cf} {l : List Bk} {v : List Lk} {R F : List Ck} (hR : Justs k l v R) (hF : Finals k l v F) {x : Ck} (h : x ∈ F) : x ∈ R := (hR.2 x).2 (hF.mem_iff.1 h).1
theorem Finals.more {k : Cf} {l : List Bk} {v w : List Lk} {F G : List Ck} (hF : Finals k l v F) (hG : Finals k l w G) (hw : ∀ x ∈ v, x ∈ w) {x : Ck} (h : x ∈ F) : x ∈ G := by
  obtain ⟨⟨a, b, c⟩, d⟩ := hF.mem_iff.1 h
  refine hG.mem_iff.2 ⟨⟨a, b, just_more (fun y hy => ?_) c⟩, final_more hw d⟩
  exact mem_fineC.2 ⟨hw y (mem_fineC.1 hy).1, (mem_fineC.1 hy).2⟩
theorem Finals.mem {k : Cf} {l : List Bk} {v w : List Lk} {F G : List Ck} (hF : Finals k l v F) (hG : Finals k l w G) (hw : ∀ x, x ∈ v ↔ x ∈ w) : F = G :=
  hF.rise.one hG.rise fun x => ⟨fun h => hF.more hG (fun y hy => (hw y).1 hy) h, fun h => hG.more hF (fun y hy => (hw y).2 hy) h⟩
theorem Finals.none {k : Cf} {l : List Bk} {v : List Lk} {F : List Ck} (hF : Finals k l v F) (h : ¬ (mayC k = true ∧ mayB l = true)) : F = [] := by
  obtain ⟨R, hR, rfl⟩ := hF
  rw [hR.none h]; rfl
theorem Finals.head {k : Cf} {l : List Bk} {v : List Lk} {F : List Ck} (hF : Finals k l v F) (h : mayC k = true ∧ mayB l = true) : ∃ S, F = firstK :: S := by
  obtain ⟨R, hR, rfl⟩ := hF
  obtain ⟨S, rfl⟩ := hR.head h
  exact ⟨S.filter (finalB k l v), by rw [List.filter_cons_of_pos (finalB_yes (Or.inl rfl))]⟩

/-! ### Gone through till nothing more comes -/
theorem nodup_le {α : Type} [DecidableEq α] : ∀ {l m : List α}, l.Nodup → (∀ x ∈ l, x ∈ m) → l.length ≤ m.length
  | [], _, _, _ => Nat.zero_le _
  | x :: l, m, hn, h => by
    have hx := h x List.mem_cons_self
    have hn' := List.nodup_cons.1 hn
    have ih := nodup_le (l := l) (m := m.erase x) hn'.2 fun y hy => by
      have hy' := h y (List.mem_cons_of_mem _ hy)
      exact (List.mem_erase_of_ne (fun e => hn'.1 (by rw [← e]; exact hy))).2 hy'
    rw [List.length_erase_of_mem hx] at ih
    have : 0 < m.length := List.length_pos_of_mem hx
    rw [List.length_cons]; omega
/-- What is gathered on the way. -/
structure Run (k : Cf) (v : List Lk) (R : List Ck) : Prop where
  rise : Rise R
  first : firstK ∈ R
  sound : ∀ x ∈ R, JustK k v x
  led : ∀ x ∈ R, x = firstK ∨ ∃ y ∈ v, y.t = x
theorem Run.start (k : Cf) (v : List Lk) : Run k v [firstK] := ⟨by simp [Rise], by simp, fun x hx => by rw [show x = firstK by simpa using hx]; exact .first, fun x hx => Or.inl (by simpa using hx)⟩
theorem Run.length_le {k : Cf} {v : List Lk} {R : List Ck} (h : Run k v R) : R.length ≤ v.length + 1 := by
  have := nodup_le (m := firstK :: v.map Lk.t) h.rise.nodup fun x hx => by
    rcases h.led x hx with e | ⟨y, hy, e⟩
    · rw [e]; exact List.mem_cons_self
    · exact List.mem_cons_of_mem _ (List.mem_map.2 ⟨y, hy, e⟩)
  simpa using this
/-- Nothing more comes by link x. -/
def Shut (k : Cf) (v : List Lk) (R : List Ck) (x : Lk) : Prop := x.s ∈ R → strongK k v x.s x.t = true → x.t ∈ R
theorem Run.all {k : Cf} {v : List Lk} {R : List Ck} (h : Run k v R) (hs : ∀ x ∈ v, Shut k v R x) {x : Ck} (hx : JustK k v x) : x ∈ R := by
  induction hx with
  | first => exact h.first
  | next _ hs' ih =>
    obtain ⟨y, hy, rfl, rfl⟩ := strong_some hs'
    exact hs y hy ih hs'
theorem Run.justs {k : Cf} {l : List Bk} {v : List Lk} {R : List Ck} (h : Run k (fineC k l v) R) (hs : ∀ x ∈ fineC k l v, Shut k (fineC k l v) R x) (hm : mayC k = true ∧ mayB l = true) : Justs k l v R :=
  ⟨h.rise, fun x => ⟨fun hx => ⟨hm.1, hm.2, h.sound x hx⟩, fun hx => h.all hs hx.2.2⟩⟩
/-- One more is put into its place. -/
structure Put (R : List Ck) (x : Ck) (S : List Ck) : Prop where
  rise : Rise S
  mem : ∀ y, y ∈ S ↔ y ∈ R ∨ y = x
  len : S.length = R.length + 1
theorem Run.put {k : Cf} {v : List Lk} {R S : List Ck} (h : Run k v R) {x : Lk} (hx : x ∈ v) (h1 : x.s ∈ R) (h2 : strongK k v x.s x.t = true) (hp : Put R x.t S) : Run k v S where
  rise := hp.rise
  first := (hp.mem _).2 (Or.inl h.first)
  sound := fun y hy => by
    rcases (hp.mem y).1 hy with hy | rfl
    · exact h.sound y hy
    · exact .next (h.sound _ h1) h2
  led := fun y hy => by
    rcases (hp.mem y).1 hy with hy | rfl
    · exact h.led y hy
    · exact Or.inr ⟨x, hx, rfl⟩
/-- A list cut where x belongs. -/
theorem put_cut {R : List Ck} (hR : Rise R) {x : Ck} (hx : x ∉ R) {n : Nat} (hn : n ≤ R.length) (h1 : ∀ j (hj : j < R.length), n ≤ j → lessK x R[j] = true) (h2 : n = 0 ∨ ∃ h : n - 1 < R.length, lessK x R[n - 1] = false) :
    Put R x (R.take n ++ x :: R.drop n) := by
  have hlow : ∀ j (hj : j < R.length), j < n → lessK R[j] x = true := fun j hj hjn => by
    rcases h2 with h2 | ⟨h, h2⟩
    · omega
    · have h3 : lessK R[n - 1] x = true := lessK_total (fun e => hx (e ▸ List.getElem_mem h)) h2
      by_cases e : j = n - 1
      · subst e; exact h3
      · exact lessK_trans (hR.at (by omega) h) h3
  refine ⟨?_, fun y => ?_, ?_⟩
  · refine List.pairwise_append.2 ⟨hR.sublist (List.take_sublist _ _), List.pairwise_cons.2 ⟨fun y hy => ?_, hR.sublist (List.drop_sublist _ _)⟩, fun a ha b hb => ?_⟩
    · obtain ⟨i, hi, rfl⟩ := List.mem_iff_getElem.1 hy
      rw [List.getElem_drop]
      exact h1 _ _ (by omega)
    · obtain ⟨i, hi, rfl⟩ := List.mem_iff_getElem.1 ha
      rw [List.length_take] at hi
      rw [List.getElem_take]
      have ha' := hlow i (by omega) (by omega)
      rcases List.mem_cons.1 hb with rfl | hb
      · exact ha'
      · obtain ⟨j, hj, rfl⟩ := List.mem_iff_getElem.1 hb
        rw [List.getElem_drop]
        exact lessK_trans ha' (h1 _ _ (by omega))
  · constructor
    · intro hy
      rcases List.mem_append.1 hy with hy | hy
      · exact Or.inl (List.mem_of_mem_take hy)
      · rcases List.mem_cons.1 hy with rfl | hy
        · exact Or.inr rfl
        · exact Or.inl (List.mem_of_mem_drop hy)
    · rintro (hy | rfl)
      · rw [← List.take_append_drop n R] at hy
        rcases List.mem_append.1 hy with hy | hy
        · exact List.mem_append_left _ hy
        · exact List.mem_append_right _ (List.mem_cons_of_mem _ hy)
      · exact List.mem_append_right _ List.mem_cons_self
  · rw [List.length_append, List.length_cons, List.length_take, List.length_drop]; omega

end Go.Proofs.Ythaofomhlmajbaa
