/-
  Plain mathematics of package slash: which two links nobody may have both, who has such; what it tells of two checkpoints that are final.
-/
import Derived.Test.YthaofomhlmajbaaFfgMath
import Derived.Test.YthaofomhlmajbaaVoteG
namespace Go.Proofs.Ythaofomhlmajbaa
set_option maxRecDepth 100000
set_option linter.unusedVariables false
set_option linter.unusedSimpArgs false
set_option linter.unusedSimpArgs false
set_option linter.unusedVariables false

def spansL (a b : Lk) : Bool := decide (a.s.e < b.s.e ∧ b.t.e < a.t.e)
def pairL (a b : Lk) : Bool := decide (a.f = b.f ∧ ((a.s.e < b.s.e ∧ b.t.e < a.t.e) ∨ (b.s.e < a.s.e ∧ a.t.e < b.t.e) ∨ (a ≠ b ∧ a.t.e = b.t.e)))
theorem pairL_iff {a b : Lk} : pairL a b = true ↔ a.f = b.f ∧ ((a.s.e < b.s.e ∧ b.t.e < a.t.e) ∨ (b.s.e < a.s.e ∧ a.t.e < b.t.e) ∨ (a ≠ b ∧ a.t.e = b.t.e)) := decide_eq_true_iff
theorem pairL_comm (a b : Lk) : pairL a b = pairL b a := by
  rw [Bool.eq_iff_iff, pairL_iff, pairL_iff]
  constructor
  · rintro ⟨e, h | h | ⟨h, h2⟩⟩
    · exact ⟨e.symm, Or.inr (Or.inl h)⟩
    · exact ⟨e.symm, Or.inl h⟩
    · exact ⟨e.symm, Or.inr (Or.inr ⟨fun q => h q.symm, h2.symm⟩)⟩
  · rintro ⟨e, h | h | ⟨h, h2⟩⟩
    · exact ⟨e.symm, Or.inr (Or.inl h)⟩
    · exact ⟨e.symm, Or.inl h⟩
    · exact ⟨e.symm, Or.inr (Or.inr ⟨fun q => h q.symm, h2.symm⟩)⟩
theorem pairL_self (a : Lk) : pairL a a = false := by
  rw [Bool.eq_false_iff]
  intro h
  rcases (pairL_iff.1 h).2 with h | h | h
  · omega
  · omega
  · exact h.1 rfl
/-- Somebody has two links that are a pair. -/
def Guil (v : List Lk) (f : Int) : Prop := ∃ a ∈ v, a.f = f ∧ ∃ b ∈ v, pairL a b = true
def Guils (v : List Lk) (G : List Int) : Prop := G.Pairwise (fun a b => a < b) ∧ ∀ f, f ∈ G ↔ Guil v f
theorem Guils.one {v : List Lk} {G H : List Int} (hG : Guils v G) (hH : Guils v H) : G = H := rise_eq (fun f => f) hG.1 hH.1 fun f => (hG.2 f).trans (hH.2 f).symm
theorem guil_more {v w : List Lk} (h : ∀ x ∈ v, x ∈ w) {f : Int} (g : Guil v f) : Guil w f := by
  obtain ⟨a, ha, e, b, hb, p⟩ := g
  exact ⟨a, h a ha, e, b, h b hb, p⟩
theorem guil_new {v : List Lk} {a : Lk} {f : Int} (g : Guil (v ++ [a]) f) : Guil v f ∨ f = a.f := by
  obtain ⟨x, hx, e, y, hy, p⟩ := g
  have hxy := (pairL_iff.1 p).1
  rcases List.mem_append.1 hx with hx | hx
  · rcases List.mem_append.1 hy with hy | hy
    · exact Or.inl ⟨x, hx, e, y, hy, p⟩
    · rw [List.mem_singleton] at hy; subst hy; exact Or.inr (by omega)
  · rw [List.mem_singleton] at hx; subst hx; exact Or.inr e.symm
theorem guil_none {v : List Lk} (h : ∀ f, ¬ Guil v f) : Guils v [] := ⟨List.Pairwise.nil, fun f => ⟨fun q => (by cases q), fun q => absurd q (h f)⟩⟩
theorem guil_twice (a : Lk) : Guils [a, a] [] := guil_none fun f ⟨x, hx, _, y, hy, p⟩ => by
  have ex : x = a := by simpa using hx
  have ey : y = a := by simpa using hy
  rw [ex, ey, pairL_self] at p
  cases p
/-- Those of one. -/
def ofL (v : List Lk) (f : Int) : List Lk := v.filter fun x => decide (x.f = f)
theorem mem_ofL {v : List Lk} {f : Int} {x : Lk} : x ∈ ofL v f ↔ x ∈ v ∧ x.f = f := by unfold ofL; rw [List.mem_filter, decide_eq_true_iff]
theorem ofL_hit {v : List Lk} {f : Int} {x : Lk} (h : x.f = f) : ofL (v ++ [x]) f = ofL v f ++ [x] := by simp [ofL, h]
theorem ofL_miss {v : List Lk} {f : Int} {x : Lk} (h : ¬ x.f = f) : ofL (v ++ [x]) f = ofL v f := by simp [ofL, h]
theorem ofL_length (v : List Lk) (f : Int) : (ofL v f).length ≤ v.length := List.length_filter_le _ _
theorem guil_own {v : List Lk} {f : Int} : Guil v f ↔ Guil (ofL v f) f := by
  constructor
  · rintro ⟨a, ha, e, b, hb, p⟩
    have := (pairL_iff.1 p).1
    exact ⟨a, mem_ofL.2 ⟨ha, e⟩, e, b, mem_ofL.2 ⟨hb, by omega⟩, p⟩
  · exact guil_more fun x hx => (mem_ofL.1 hx).1
theorem guil_only {v : List Lk} {f g : Int} (h : Guil (ofL v f) g) : g = f := by
  obtain ⟨a, ha, e, _⟩ := h
  rw [← e]; exact (mem_ofL.1 ha).2
theorem guil_two {v : List Lk} {f : Int} (h : Guil v f) : 1 < (ofL v f).length := by
  obtain ⟨a, ha, e, b, hb, p⟩ := guil_own.1 h
  rcases hl : ofL v f with _ | ⟨x, _ | ⟨y, r⟩⟩
  · rw [hl] at ha; cases ha
  · rw [hl] at ha hb
    have ex : a = x := by simpa using ha
    have ey : b = x := by simpa using hb
    rw [ex, ey, pairL_self] at p
    cases p
  · simp

/-! ### Two strong links share a third -/
theorem weigh_share {p q : Nat → Bool} {ws : List Int} (h : ∀ x ∈ ws, 0 ≤ x ∧ x ≤ 1099511627776) : ∀ n, weighTo p ws n + weighTo q ws n ≤ weighTo (fun _ => true) ws n + weighTo (fun i => p i && q i) ws n
  | 0 => by show (0 : Int) + 0 ≤ 0 + 0; omega
  | n + 1 => by
    have ih := weigh_share (p := p) (q := q) h n
    have hw := weight_at h n
    show weighTo p ws n + _ + (weighTo q ws n + _) ≤ weighTo (fun _ => true) ws n + _ + (weighTo (fun i => p i && q i) ws n + _)
    cases hp : p n <;> cases hq : q n <;> simp [hp, hq] <;> omega
def bothI (a b : List Int) : List Int := a.filter fun f => decide (f ∈ b)
theorem mem_bothI {a b : List Int} {f : Int} : f ∈ bothI a b ↔ f ∈ a ∧ f ∈ b := by unfold bothI; rw [List.mem_filter, decide_eq_true_iff]
theorem weight_share (k : Cf) (a b : List Int) : weightC k a + weightC k b ≤ totalC k + weightC k (bothI a b) := by
  unfold weightC totalC
  split
  · rename_i hm
    have h := weigh_share (p := inList a) (q := inList b) (mayC_yes hm).2.2.1 k.ws.length
    have e : (fun i => inList a i && inList b i) = inList (bothI a b) := by
      funext i
      unfold inList
      rw [Bool.eq_iff_iff, Bool.and_eq_true, decide_eq_true_iff, decide_eq_true_iff, decide_eq_true_iff, mem_bothI]
    rw [e] at h
    exact h
  · omega
/-- Where all who have both of two strong links have a pair, the guilty weigh a third. -/
theorem third_of {k : Cf} {l : List Bk} {v : List Lk} {G : List Int} (hG : Guils v G) {s t s' t' : Ck} (h : strongC k l v s t = true) (h' : strongC k l v s' t' = true)
    (hp : ∀ a b : Lk, a.s = s → a.t = t → b.s = s' → b.t = t' → a.f = b.f → pairL a b = true) : totalC k ≤ 3 * weightC k G := by
  have h1 := (strongK_iff.1 h).2
  have h2 := (strongK_iff.1 h').2
  have h3 := weight_share k (whoK (fineC k l v) s t) (whoK (fineC k l v) s' t')
  have h4 : weightC k (bothI (whoK (fineC k l v) s t) (whoK (fineC k l v) s' t')) ≤ weightC k G := weight_mono k fun f hf => by
    obtain ⟨qa, qb⟩ := mem_bothI.1 hf
    obtain ⟨a, ha, e1, e2, ef⟩ := mem_whoK.1 qa
    obtain ⟨b, hb, e3, e4, eg⟩ := mem_whoK.1 qb
    exact (hG.2 _).2 ⟨a, (mem_fineC.1 ha).1, ef, b, (mem_fineC.1 hb).1, hp a b e1 e2 e3 e4 (ef.trans eg.symm)⟩
  omega
section
variable {k : Cf} {l : List Bk} {v : List Lk} {G : List Int} (hG : Guils v G)
include hG
/-- Two that are justified, of one epoch. -/
theorem third_epoch {x y : Ck} (hx : JustK k (fineC k l v) x) (hy : JustK k (fineC k l v) y) (he : x.e = y.e) (hn : x ≠ y) : totalC k ≤ 3 * weightC k G := by
  cases hx with
  | first =>
    rcases just_bounds hy with e | e
    · exact absurd e.symm hn
    · have : firstK.e = 0 := rfl
      omega
  | next _ h =>
    cases hy with
    | first =>
      have := strong_may (l := l) h
      have e0 : firstK.e = 0 := rfl
      omega
    | next _ h' =>
      refine third_of hG h h' fun a b e1 e2 e3 e4 ef => pairL_iff.2 ⟨ef, Or.inr (Or.inr ⟨fun q => ?_, ?_⟩)⟩
      · rw [← e2, ← e4, q] at hn; exact hn rfl
      · rw [e2, e4]; exact he
omit hG in
theorem just_stands (hm : mayB l = true) {x : Ck} (hx : JustK k (fineC k l v) x) : standsB l x.r = true := by
  cases hx with
  | first => exact standsB_iff.2 (Or.inr rfl)
  | next _ h => exact (under_stands (strong_may (l := l) h).2.2.2.2.2).2.2
/-- What is justified from a final one's epoch on stands on it. -/
theorem third_final (hm : mayB l = true) {x : Ck} (hx : JustK k (fineC k l v) x) (hf : FinalK k l v x) {y : Ck} (hy : JustK k (fineC k l v) y) (he : x.e ≤ y.e) : underC l x.r y.r = true ∨ totalC k ≤ 3 * weightC k G := by
  induction hy with
  | first =>
    rcases just_bounds hx with e | e
    · rw [e]; exact Or.inl (under_own hm (standsB_iff.2 (Or.inr rfl)))
    · have e0 : firstK.e = 0 := rfl
      omega
  | @next s y hs h ih =>
    have hb := strong_may (l := l) h
    have hy : JustK k (fineC k l v) y := .next hs h
    by_cases h1 : x.e ≤ s.e
    · rcases ih h1 with q | q
      · exact Or.inl (under_trans q hb.2.2.2.2.2)
      · exact Or.inr q
    · have same : ∀ z, JustK k (fineC k l v) z → underC l x.r z.r = true → y.e = z.e → underC l x.r y.r = true ∨ totalC k ≤ 3 * weightC k G := fun z hz hu e => by
        by_cases q : y = z
        · rw [q]; exact Or.inl hu
        · exact Or.inr (third_epoch hG hy hz e q)
      have wide : ∀ t, strongC k l v x t = true → t.e < y.e → totalC k ≤ 3 * weightC k G := fun t ht hlt =>
        third_of hG (s := s) (t := y) (s' := x) (t' := t) h ht fun a b e1 e2 e3 e4 ef => pairL_iff.2 ⟨ef, Or.inl ⟨by rw [e1, e3]; omega, by rw [e2, e4]; exact hlt⟩⟩
      by_cases h2 : y.e = x.e
      · exact same x hx (under_own hm (just_stands hm hx)) h2
      · rcases hf with e | ⟨t, ht, h3⟩
        · have e0 : x.e = 0 := by rw [e]; rfl
          have hs0 := strong_may (l := l) h
          omega
        · have hbt := strong_may ht
          have jt : JustK k (fineC k l v) t := .next hx ht
          rcases h3 with h3 | ⟨h3, m, hmj, h4, h5, h6⟩
          · by_cases h7 : y.e = t.e
            · exact same t jt hbt.2.2.2.2.2 h7
            · exact Or.inr (wide t ht (by omega))
          · by_cases h7 : y.e = t.e
            · exact same t jt hbt.2.2.2.2.2 h7
            · by_cases h8 : y.e = m.e
              · exact same m hmj h5 h8
              · exact Or.inr (wide t ht (by omega))
theorem third_finals {F : List Ck} (hF : Finals k l v F) {x y : Ck} (hx : x ∈ F) (hy : y ∈ F) (h1 : underC l x.r y.r = false) (h2 : underC l y.r x.r = false) : totalC k ≤ 3 * weightC k G := by
  obtain ⟨⟨_, hm, jx⟩, fx⟩ := hF.mem_iff.1 hx
  obtain ⟨⟨_, _, jy⟩, fy⟩ := hF.mem_iff.1 hy
  rcases Int.le_total x.e y.e with e | e
  · rcases third_final hG hm jx fx jy e with q | q
    · rw [h1] at q; cases q
    · exact q
  · rcases third_final hG hm jy fy jx e with q | q
    · rw [h2] at q; cases q
    · exact q
theorem third_justs {R : List Ck} (hR : Justs k l v R) {i : Nat} (hi : i < R.length) (h1 : 1 ≤ i) (e : R[i].e = (R[i - 1]'(by omega)).e) : totalC k ≤ 3 * weightC k G := by
  have hx := ((hR.2 _).1 (List.getElem_mem hi)).2.2
  have hy := ((hR.2 _).1 (List.getElem_mem (show i - 1 < R.length by omega))).2.2
  refine third_epoch hG hx hy e fun q => ?_
  have := hR.1.at (show i - 1 < i by omega) hi
  rw [q] at this
  exact lessK_not _ this
end

/-! ### One behind the other -/
structure Rises (who : Int) (top : Int) (X : List Lk) : Prop where
  own : ∀ a ∈ X, a.f = who ∧ a.s.e < a.t.e ∧ a.t.e ≤ top
  up : X.Pairwise fun a b => a.t.e ≤ b.s.e
theorem Rises.nil (who : Int) : Rises who 0 [] := ⟨fun _ h => (by cases h), List.Pairwise.nil⟩
theorem Rises.next {who top : Int} {X : List Lk} (h : Rises who top X) {x : Lk} (h1 : x.f = who) (h2 : x.s.e = top) (h3 : top < x.t.e) : Rises who x.t.e (X ++ [x]) where
  own := fun a ha => by
    rcases List.mem_append.1 ha with q | q
    · have := h.own a q; exact ⟨this.1, this.2.1, by omega⟩
    · rw [List.mem_singleton] at q; subst q; exact ⟨h1, by omega, by omega⟩
  up := List.pairwise_append.2 ⟨h.up, List.pairwise_singleton _ _, fun a ha b hb => by
    rw [List.mem_singleton] at hb; subst hb
    have := h.own a ha
    omega⟩
theorem Rises.none {who top : Int} {X : List Lk} (h : Rises who top X) : Guils X [] := guil_none fun f ⟨a, ha, _, b, hb, p⟩ => by
  obtain ⟨i, hi, rfl⟩ := List.mem_iff_getElem.1 ha
  obtain ⟨j, hj, rfl⟩ := List.mem_iff_getElem.1 hb
  have hw := List.pairwise_iff_getElem.1 h.up
  have oa := h.own _ (List.getElem_mem hi)
  have ob := h.own _ (List.getElem_mem hj)
  have q := (pairL_iff.1 p).2
  rcases Nat.lt_trichotomy i j with g | g | g
  · have := hw i j hi hj g
    rcases q with q | q | q <;> omega
  · subst g; rw [pairL_self] at p; cases p
  · have := hw j i hj hi g
    rcases q with q | q | q <;> omega

/-! ### Two links -/
theorem guil_pair {a b : Lk} (h : pairL a b = true) : Guils [a, b] [a.f] := by
  refine ⟨List.pairwise_singleton _ _, fun f => ⟨fun q => ?_, fun q => ?_⟩⟩
  · rw [List.mem_singleton] at q; exact ⟨a, by simp, q.symm, b, by simp, h⟩
  · obtain ⟨x, hx, e, _⟩ := q
    have hf := (pairL_iff.1 h).1
    rcases List.mem_cons.1 hx with rfl | hx
    · rw [e]; simp
    · rw [List.mem_singleton] at hx; subst hx; rw [← e, ← hf]; simp
theorem guil_apart {a b : Lk} (h : pairL a b = false) : Guils [a, b] [] := guil_none fun f ⟨x, hx, _, y, hy, p⟩ => by
  have hba : pairL b a = false := by rw [pairL_comm]; exact h
  rcases List.mem_cons.1 hx with rfl | hx
  · rcases List.mem_cons.1 hy with rfl | hy
    · rw [pairL_self] at p; cases p
    · rw [List.mem_singleton] at hy; subst hy; rw [h] at p; cases p
  · rw [List.mem_singleton] at hx; subst hx
    rcases List.mem_cons.1 hy with rfl | hy
    · rw [hba] at p; cases p
    · rw [List.mem_singleton] at hy; subst hy; rw [pairL_self] at p; cases p

end Go.Proofs.Ythaofomhlmajbaa
