/-
  Plain mathematics for layer 11's laws.
-/
import Derived.Test.YthaofomhlmajbaaFfgMath
import Derived.Test.YthaofomhlmajbaaFfgOpen
import Derived.Test.YthaofomhlmajbaaFfgRefG
namespace Go.Proofs.Ythaofomhlmajbaa
set_option maxRecDepth 100000
set_option linter.unusedVariables false
set_option linter.unusedSimpArgs false
set_option linter.unusedSimpArgs false
set_option linter.unusedVariables false
open Go.ChangeShapes Go.WideShapes Go.ChangeAt Go.RowKit

/-! ### FfgEpochs -/
def hitE (k : Cf) (l : List Bk) (x y : Lk) : Bool := sameK y.s x.s && (sameK y.t x.t && mayL k l y)
def seenE (k : Cf) (l : List Bk) (v : List Lk) (x : Lk) (j : Nat) : Bool := (v.take j).any (hitE k l x)
theorem seenE_zero (k : Cf) (l : List Bk) (v : List Lk) (x : Lk) : seenE k l v x 0 = false := by simp [seenE]
theorem seenE_step {k : Cf} {l : List Bk} {v : List Lk} {x : Lk} {j : Nat} (hj : j < v.length) : seenE k l v x (j + 1) = (seenE k l v x j || hitE k l x v[j]) := by
  unfold seenE
  rw [List.take_succ_eq_append_getElem hj, List.any_append]
  simp
theorem seenE_strong {k : Cf} {l : List Bk} {v : List Lk} {x : Lk} (h : strongC k l v x.s x.t = true) : seenE k l v x v.length = true := by
  obtain ⟨y, hy, h1, h2⟩ := strong_some h
  obtain ⟨h3, h4⟩ := mem_fineC.1 hy
  unfold seenE
  rw [List.take_length, List.any_eq_true]
  exact ⟨y, h3, by unfold hitE; rw [sameK_yes h1, sameK_yes h2, h4]; rfl⟩
theorem strong_back {k : Cf} {l : List Bk} {v : List Lk} {x : Lk} (h : x.t.e ≤ x.s.e) : strongC k l v x.s x.t = false ∧ mayL k l x = false := by
  constructor
  · rw [Bool.eq_false_iff]
    intro e
    have := strong_may e
    omega
  · rw [Bool.eq_false_iff]
    intro e
    have := (mayL_iff.1 e).2.2.1
    omega

/-! ### FfgWeak -/
def fromsK (v : List Lk) : List Int := v.map Lk.f
theorem fromsK_snoc (v : List Lk) (x : Lk) : fromsK (v ++ [x]) = fromsK v ++ [x.f] := by simp [fromsK]
theorem fromsK_take {v : List Lk} {j : Nat} (hj : j < v.length) : fromsK (v.take (j + 1)) = fromsK (v.take j) ++ [v[j].f] := by rw [List.take_succ_eq_append_getElem hj, fromsK_snoc]
theorem fromsK_length (v : List Lk) : (fromsK v).length = v.length := by simp [fromsK]
theorem weak_all {k : Cf} {l : List Bk} {v : List Lk} (h : ¬ 2 * totalC k ≤ 3 * weightC k (fromsK v)) (s t : Ck) : strongC k l v s t = false := by
  rw [Bool.eq_false_iff]
  intro e
  have h2 := (strongK_iff.1 e).2
  have : weightC k (whoK (fineC k l v) s t) ≤ weightC k (fromsK v) := weight_mono k fun f hf => by
    obtain ⟨x, hx, _, _, rfl⟩ := mem_whoK.1 hf
    exact List.mem_map.2 ⟨x, (mem_fineC.1 hx).1, rfl⟩
  omega
theorem weak_just {k : Cf} {l : List Bk} {v : List Lk} (h : ∀ s t, strongC k l v s t = false) {R : List Ck} (hR : Justs k l v R) : R.length ≤ 1 := by
  have h1 : ∀ x ∈ R, x = firstK := fun x hx => by
    have q := ((hR.2 x).1 hx).2.2
    cases q with
    | first => rfl
    | next _ hs =>
      have hs' : strongC k l v _ x = true := hs
      rw [h] at hs'; cases hs'
  have := nodup_le (m := [firstK]) hR.1.nodup fun x hx => by rw [h1 x hx]; simp
  simpa using this
theorem weak_final {k : Cf} {l : List Bk} {v : List Lk} (h : ∀ s t, strongC k l v s t = false) {F : List Ck} (hF : Finals k l v F) : F.length ≤ 1 := by
  obtain ⟨R, hR, rfl⟩ := hF
  exact Nat.le_trans (List.length_filter_le _ _) (weak_just h hR)

/-! ### FfgGrounds -/
def groundG (k : Cf) (l : List Bk) (v : List Lk) (x y : Ck) : Bool := decide (y.e < x.e) && (underC l y.r x.r && strongC k l v y x)
def seenG (k : Cf) (l : List Bk) (v : List Lk) (R : List Ck) (x : Ck) (m : Nat) : Bool := (R.take m).any (groundG k l v x)
theorem seenG_zero (k : Cf) (l : List Bk) (v : List Lk) (R : List Ck) (x : Ck) : seenG k l v R x 0 = false := by simp [seenG]
theorem seenG_step {k : Cf} {l : List Bk} {v : List Lk} {R : List Ck} {x : Ck} {m : Nat} (hm : m < R.length) : seenG k l v R x (m + 1) = (seenG k l v R x m || groundG k l v x R[m]) := by
  unfold seenG
  rw [List.take_succ_eq_append_getElem hm, List.any_append]
  simp
theorem seenG_all {k : Cf} {l : List Bk} {v : List Lk} {R : List Ck} (hR : Justs k l v R) {i : Nat} (hi : i < R.length) (h1 : 1 ≤ i) : seenG k l v R R[i] i = true ∧ ¬ R[i].e < (R[i - 1]'(by omega)).e ∧ (R[i - 1]'(by omega)) ≠ R[i] := by
  have hm := List.getElem_mem hi
  have hup := hR.1.at (show i - 1 < i by omega) hi
  have hn : R[i] ≠ firstK := fun e => by
    obtain ⟨m1, m2, _⟩ := (hR.2 _).1 hm
    obtain ⟨S, hS⟩ := hR.head ⟨m1, m2⟩
    have h0 : R[0]'(by omega) = firstK := by simp [hS]
    have := hR.1.at (show 0 < i by omega) hi
    rw [h0, e] at this
    exact lessK_not _ this
  refine ⟨?_, fun h => ?_, fun e => ?_⟩
  · obtain ⟨s, hs, hst⟩ := hR.from hm hn
    have hb := strong_may hst
    obtain ⟨j, hj, rfl⟩ := List.mem_iff_getElem.1 hs
    have hji : j < i := by
      rcases Nat.lt_trichotomy j i with q | q | q
      · exact q
      · subst q; omega
      · have := lessK_iff.1 (hR.1.at q hj); omega
    unfold seenG
    rw [List.any_eq_true]
    refine ⟨R[j], List.mem_take_iff_getElem.2 ⟨j, by omega, rfl⟩, ?_⟩
    unfold groundG
    rw [decide_eq_true hb.2.2.2.1, hb.2.2.2.2.2, hst]; rfl
  · have := lessK_iff.1 hup; omega
  · rw [e] at hup; exact lessK_not _ hup

theorem just_wf {k : Cf} {l : List Bk} {v : List Lk} (hv : WfLks v) {R : List Ck} (hR : Justs k l v R) {x : Ck} (hx : x ∈ R) : WfK x := by
  have q := ((hR.2 x).1 hx).2.2
  cases q with
  | first => exact ⟨⟨by decide, by decide⟩, by decide, by decide⟩
  | next _ hs =>
    obtain ⟨y, hy, _, rfl⟩ := strong_some hs
    exact (hv y (mem_fineC.1 hy).1).2.2

/-! ### FfgOrder -/
theorem from_lks {w : World} {B : Nat} {A : Option Addr} {l : List Lk} (h : CellsAt w B A (lksCells l)) (c k : Nat) (hk : k ≤ l.length) (hc : l.length ≤ c) :
    ∃ A', (∀ w', (Instr.slice 29 (.slice A l.length c) (some (.int .i64 (k : Int))) none none).run Try.prog w' = .ok (.slice A' (l.length - k) (c - k)) w') ∧ CellsAt w B A' (lksCells (l.drop k)) := by
  obtain ⟨i, hi, _, hs, _⟩ := info_of Try.infoLk
  refine ⟨_, fun w' => run_from _ _ i Try.underlying29 hi A l.length c k hk w', ?_⟩
  have e : lksCells l = lksCells (l.take k) ++ lksCells (l.drop k) := by rw [lksCells_append, List.take_append_drop]
  by_cases q : c = k
  · have : l.drop k = [] := List.drop_eq_nil_of_le (by omega)
    rw [this]
    exact CellsAt.nil
  · rw [if_neg q, hs]
    rw [e] at h
    have := cells_from h
    rw [lksCells_length, List.length_take, Nat.min_eq_left hk] at this
    exact this

/-! ### FfgMore -/
theorem more_mem (v : List Lk) (x : Lk) : ∀ y ∈ v, y ∈ v ++ [x] := fun y hy => List.mem_append_left _ hy
theorem just_empty {k : Cf} {l : List Bk} {v : List Lk} {R : List Ck} (hR : Justs k l v R) (h : R.length = 0) : ¬ (mayC k = true ∧ mayB l = true) := fun q => by
  obtain ⟨S, rfl⟩ := hR.head q
  simp at h
theorem just_some {k : Cf} {l : List Bk} {v : List Lk} {R : List Ck} (hR : Justs k l v R) (h : ¬ R.length = 0) : mayC k = true ∧ mayB l = true := by
  have hm := List.getElem_mem (show 0 < R.length by omega)
  have := (hR.2 _).1 hm
  exact ⟨this.1, this.2.1⟩
theorem order_mem (v : List Lk) (n : Nat) : ∀ x, x ∈ v ↔ x ∈ [] ++ v.drop n ++ v := fun x => by
  rw [List.nil_append, List.mem_append]
  exact ⟨Or.inr, fun h => h.elim List.mem_of_mem_drop id⟩

end Go.Proofs.Ythaofomhlmajbaa
