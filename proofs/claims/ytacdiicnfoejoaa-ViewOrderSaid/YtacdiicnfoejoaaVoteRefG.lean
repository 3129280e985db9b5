/-
  The contract of package votes' call Doubles.
  Lists that are the same, held against one another; is a vote there; votes of all but one.
  The contract of marigoldref07.double.
  The contracts of marigoldref07.put and who.
  The contracts of marigoldref07.Doubles and Of.
-/
import Derived.Shelf.Sort.Plain
import Derived.Shelf.Slices.In.SortNone
import Derived.Test.YtacdiicnfoejoaaRows
import Derived.Test.YtacdiicnfoejoaaVoteOfG
import Derived.Test.YtacdiicnfoejoaaGround
import Derived.Test.YtacdiicnfoejoaaVoteG
namespace Go.Proofs.Ytacdiicnfoejoaa
set_option maxRecDepth 100000
set_option linter.unusedVariables false
set_option linter.unusedSimpArgs false
section
open Go.ChangeShapes Go.WideShapes Go.ChangeAt Go.RowKit

theorem Ints.none {W w : World} (k : Kept W w) : Ints W [] (.slice none 0 0) w := ⟨World.ownsRow_nil _ _ _ _, k⟩
theorem Ints.slice {W w : World} {l : List Int} {v : Value} (h : Ints W l v w) : ∃ A c, v = .slice A l.length c := by
  rcases h.1.2 with ⟨hv, h0⟩ | ⟨g, cap, cur, hv, _⟩
  · rw [h0]; exact ⟨_, _, hv⟩
  · exact ⟨_, _, hv⟩
theorem Ints.turned {W w w' : World} {l : List Int} {v : Value} {r : Nat} (h : Ints W l v w) (hg : w.grownBy w' (some r)) (hr : W.heap.size ≤ r) (hne : some r ≠ v.ownBlock) : Ints W l v w' := by
  refine ⟨⟨h.1.1, ?_⟩, h.2.grown hg fun k hk => by cases hk; exact hr⟩
  rcases h.1.2 with h2 | ⟨g, cap, cur, hv, hb, hh, k⟩
  · exact Or.inl h2
  · refine Or.inr ⟨g, cap, cur, hv, hb, ?_, k⟩
    rw [hg.block g (h.1.lt g (by rw [hv]; rfl)).2 (by rw [hv] at hne; exact fun e => hne e.symm)]
    exact hh
/-- append of numbers, and where. -/
theorem wpList_nums {ops : Array Oper} {rest : List Oper} {o : Oper} {a : Act} {Q : Exit → Act → World → Prop} (w : World) (hgd : o.guard = none) (s x : Operand)
    (ho : o.op = .call { callee := .builtin .append, args := #[s, x], argTypes := #[22, 22] })
    (W : World) (l : List Int) (v : Value) (hs : a.eval s = v) (HB : Ints W l v w) (B : Nat) (A : Option Addr) (m c : Nat) (news : List Int) (hx : a.eval x = .slice A m c) (hl : news.length = m)
    (hr : CellsAt w B A (intCells news)) (hlen : l.length + m ≤ 10000000)
    (h : ∀ v' w', Ints W (l ++ news) v' w' → w.grownBy w' v.ownBlock → wpList Try.prog ops Q rest (a.put o.dst v') w') : wpList Try.prog ops Q (o :: rest) a w := by
  obtain ⟨i0, hi0, hz0, hz1, hz2⟩ := info_three Try.infoI
  refine wpList_app w hgd s x _ ho W.heap.size 3 i0 _ 1 8 Try.underlying22 hi0 hz0 hz1 hz2 rfl (by omega) v l.length (intCells l) hs HB.1 B A m c (intCells news) hx (by simp [hl]) hr (intCells_one _)
    (by unfold maxLen; omega) (by omega) HB.2.size_le ?_
  intro v' w' own g _
  refine h v' w' ⟨?_, HB.2.grown g fun i hi => (HB.1.lt i hi).1⟩ g
  rw [intCells_append] at own
  rw [List.length_append, hl]
  exact own
/-- What hands back the numbers of l, as a list that is new. -/
def NumsNew (l : List Int) (w : World) (e : Ending) (w' : World) : Prop :=
  ∃ A c, e = .returned (.slice A l.length c) ∧ CellsAt w' w'.heap.size A (intCells l) ∧ Kept w w'
theorem Ints.new {W w : World} {l : List Int} {A : Option Addr} {c : Nat} (h : Ints W l (.slice A l.length c) w) : NumsNew l W (.returned (.slice A l.length c)) w := ⟨A, c, rfl, CellsAt.of_own h.1, h.2⟩
/-- What hands back who is double. -/
def Doubled (L : List Vt) (s : Int) (w : World) (e : Ending) (w' : World) : Prop := ∃ R, Dbls L s R ∧ R.length ≤ L.length ∧ NumsNew R w e w'
end

section
open Go.ChangeShapes Go.WideShapes Go.ChangeAt Go.RowKit

theorem num_at {w : World} {B : Nat} {A : Option Addr} {l : List Int} (h : CellsAt w B A (intCells l)) {i : Nat} (hi : i < l.length) : ∃ z o, A = some ⟨z, o, none⟩ ∧ z < B ∧ w.cell? ⟨z, o + i, none⟩ = some (.int .i64 l[i]) := by
  obtain ⟨z, o, e, hb, hc⟩ := h.plain (by rw [intCells_length]; omega)
  exact ⟨z, o, e, hb, hc i _ (by simp [intCells, hi])⟩

theorem sameV_self (v : Vt) : sameV v v = true := sameV_iff.2 rfl
attribute [local go_sem high] eqV in
set_option maxRecDepth 100000 in
set_option maxHeartbeats 1600000 in
theorem votes_same (A : Option Addr) (ca : Nat) (B : Option Addr) (cb : Nat) (l : List Vt) (w : World) (hl : l.length ≤ 1000000) (hA : CellsAt w w.heap.size A (votesCells l)) (hB : CellsAt w w.heap.size B (votesCells l)) :
    Calls Try.prog 32 #[.slice A l.length ca, .slice B l.length cb] w fun e w' => e = .returned (.bool true) ∧ Kept w w' := by
  have HA := Lib.hid hA
  have HB := Lib.hid hB
  clear hA hB
  go_enter Try.func32, Try.ntmps32
  go_wp2_with fail
  go_loopw [5] (fun i w' => ∃ j : Nat, j ≤ l.length ∧ i = .int .i64 (j : Nat) ∧ Kept w w') (fun i _ => l.length - (intOf i).toNat)
  case atStart => exact ⟨0, by omega, rfl, Kept.refl _⟩
  case round =>
    obtain ⟨j, hj, rfl, hKr⟩ := hrel
    have HR := Lib.hid hKr
    clear hKr
    by_cases hlt : j < l.length
    · obtain ⟨z, o, rfl, hb, c0, c1, c2, c3⟩ := vote_at (HA.out.kept HR.out) hlt
      obtain ⟨z', o', rfl, hb', d0, d1, d2, d3⟩ := vote_at (HB.out.kept HR.out) hlt
      have hss := sameV_self l[j]
      generalize l[j] = x at *
      go_wp2_with fail
      go_quiet (fail)
      go_wp2_with fail
      go_roundw
      case rel => exact ⟨j + 1, by omega, by go_num, HR.out.drewN _⟩
      case measure => simp [intOf]; omega
    · have hjl : j = l.length := by omega
      subst hjl
      go_wp2_with fail
      go_ret
      exact ⟨rfl, HR.out⟩
end

section
open Go.ChangeShapes Go.WideShapes Go.ChangeAt Go.RowKit

theorem dblB_dec (L : List Vt) (s f : Int) : ∃ b : Bool, b = true ↔ Dbl L s f := by
  by_cases h : Dbl L s f
  · exact ⟨true, by simp [h]⟩
  · exact ⟨false, by simp [h]⟩
/-- Is somebody double in a slot? -/
noncomputable def dblB (L : List Vt) (s f : Int) : Bool := (dblB_dec L s f).choose
theorem dblB_iff {L : List Vt} {s f : Int} : dblB L s f = true ↔ Dbl L s f := (dblB_dec L s f).choose_spec
theorem dblB_no {L : List Vt} {s f : Int} (h : ¬ Dbl L s f) : dblB L s f = false := by
  cases e : dblB L s f with
  | false => rfl
  | true => exact absurd (dblB_iff.1 e) h
def sameP (x y : Nat × Nat) : Bool := decide (x.1 = y.1 ∧ x.2 = y.2)
theorem eqP (x y : Nat × Nat) (w : World) : Sem.run Try.prog (Op.equalIn 10000 39 (.agg #[.int .u64 x.1, .int .u64 x.2]) (.agg #[.int .u64 y.1, .int .u64 y.2])) w = .ok (sameP x y) w := by
  rw [eqId10]
  congr 1
  rw [Bool.eq_iff_iff]
  unfold sameP
  simp
  omega
theorem sameP_yes {a b : Vt} (h : sameP a.p b.p = true) (h1 : a.f = b.f) (h2 : a.s = b.s) : a = b := by
  unfold sameP at h
  rw [decide_eq_true_iff] at h
  exact sameV_iff.1 (decide_eq_true ⟨h1, h2, h.1, h.2⟩)
theorem sameP_no {a b : Vt} (h : sameP a.p b.p = false) (h1 : a.f = b.f) (h2 : a.s = b.s) : a ≠ b := fun e => by
  subst e
  unfold sameP at h
  simp at h
theorem dbl_snoc {M : List Vt} {x : Vt} {s f : Int} (h : ¬ Dbl M s f) (hx : ∀ b ∈ M, ¬ (x.f = f ∧ b.f = f ∧ x.s = s ∧ b.s = s ∧ x ≠ b)) : ¬ Dbl (M ++ [x]) s f := by
  rintro ⟨a, ha, b, hb, h1, h2, h3, h4, ne⟩
  rcases List.mem_append.1 ha with ha' | ha
  · rcases List.mem_append.1 hb with hb | hb
    · exact h ⟨a, ha', b, hb, h1, h2, h3, h4, ne⟩
    · have : b = x := by simpa using hb
      subst this
      exact hx a ha' ⟨h2, h1, h4, h3, fun e => ne e.symm⟩
  · have : a = x := by simpa using ha
    subst this
    rcases List.mem_append.1 hb with hb | hb
    · exact hx b hb ⟨h1, h2, h3, h4, ne⟩
    · exact ne (show b = a by simpa using hb).symm
end

section
open Go.ChangeShapes Go.WideShapes Go.ChangeAt Go.RowKit

theorem upto_ints (A : Option Addr) (n c k : Nat) (hk : k ≤ c) (w : World) : (Instr.slice 22 (.slice A n c) none (some (.int .i64 (k : Int))) none).run Try.prog w = .ok (.slice A k c) w := by
  obtain ⟨i, hi, _⟩ := info_of Try.infoI
  exact run_upto _ _ i Try.underlying22 hi A n c k hk w
theorem cells_ints_take {w : World} {B : Nat} {A : Option Addr} {l : List Int} (h : CellsAt w B A (intCells l)) (k : Nat) : CellsAt w B A (intCells (l.take k)) := by
  have e : intCells l = intCells (l.take k) ++ intCells (l.drop k) := by rw [intCells_append, List.take_append_drop]
  rw [e] at h
  exact cells_prefix h
theorem from_ints {w : World} {B : Nat} {A : Option Addr} {l : List Int} (h : CellsAt w B A (intCells l)) (c k : Nat) (hk : k ≤ l.length) (hc : l.length ≤ c) :
    ∃ A', (∀ w', (Instr.slice 22 (.slice A l.length c) (some (.int .i64 (k : Int))) none none).run Try.prog w' = .ok (.slice A' (l.length - k) (c - k)) w') ∧ CellsAt w B A' (intCells (l.drop k)) := by
  obtain ⟨i, hi, _, hs, _⟩ := info_of Try.infoI
  refine ⟨_, fun w' => run_from _ _ i Try.underlying22 hi A l.length c k hk w', ?_⟩
  have e : intCells l = intCells (l.take k) ++ intCells (l.drop k) := by rw [intCells_append, List.take_append_drop]
  by_cases q : c = k
  · have : l.drop k = [] := List.drop_eq_nil_of_le (by omega)
    rw [this]
    exact CellsAt.nil
  · rw [if_neg q, hs]
    rw [e] at h
    have := cells_from h
    rw [intCells_length, List.length_take, Nat.min_eq_left hk] at this
    rw [Nat.mul_one]
    exact this
/-- Put into a list that rises. -/
theorem put_ok {l : List Int} {n : Int} {k : Nat} (hS : l.Pairwise fun a b => a < b) (hlo : ∀ x ∈ l.take k, x < n) (hhi : ∀ x ∈ l.drop k, n < x) :
    ([] ++ l.take k ++ [n] ++ l.drop k).Pairwise (fun a b => a < b) ∧ ∀ x, x ∈ [] ++ l.take k ++ [n] ++ l.drop k ↔ x ∈ l ∨ x = n := by
  have e := List.take_append_drop k l
  rw [← e, List.pairwise_append] at hS
  constructor
  · rw [List.nil_append, List.pairwise_append, List.pairwise_append]
    refine ⟨⟨hS.1, List.pairwise_singleton _ _, fun a ha b hb => ?_⟩, hS.2.1, fun a ha b hb => ?_⟩
    · rw [show b = n by simpa using hb]; exact hlo a ha
    · rcases List.mem_append.1 ha with h | h
      · exact hS.2.2 a h b hb
      · rw [show a = n by simpa using h]; exact hhi b hb
  · intro x
    have : x ∈ l ↔ x ∈ l.take k ∨ x ∈ l.drop k := by rw [← List.mem_append, e]
    rw [this]
    simp only [List.nil_append, List.mem_append, List.mem_singleton]
    constructor
    · rintro ((h | h) | h)
      · exact Or.inl (Or.inl h)
      · exact Or.inr h
      · exact Or.inl (Or.inr h)
    · rintro ((h | h) | h)
      · exact Or.inl (Or.inl h)
      · exact Or.inr h
      · exact Or.inl (Or.inr h)
theorem low_of {l : List Int} {n : Int} {k : Nat} (hk : k < l.length) (hS : l.Pairwise fun a b => a < b) (h : l[k] < n) : ∀ x ∈ l.take (k + 1), x < n := fun x hx => by
  rw [List.take_succ_eq_append_getElem hk] at hx
  rcases List.mem_append.1 hx with h1 | h1
  · obtain ⟨i, hi, rfl⟩ := List.mem_iff_getElem.1 h1
    have hik : i < k := by rw [List.length_take] at hi; omega
    rw [List.getElem_take]
    have := List.pairwise_iff_getElem.1 hS i k (by omega) hk hik
    omega
  · rw [show x = l[k] by simpa using h1]; exact h
def Putted (l : List Int) (n : Int) (w : World) (e : Ending) (w' : World) : Prop := ∃ (R : List Int) (A' : Option Addr) (c' : Nat), (R.Pairwise fun a b => a < b) ∧ (∀ x, x ∈ R ↔ x ∈ l ∨ x = n) ∧ R.length ≤ l.length + 1 ∧ R.length ≤ c' ∧ e = .returned (.slice A' R.length c') ∧ CellsAt w' w'.heap.size A' (intCells R) ∧ Kept w w'
theorem Ints.slice_le {W w : World} {l : List Int} {v : Value} (h : Ints W l v w) : ∃ A c, v = .slice A l.length c ∧ l.length ≤ c := by
  rcases h.1.2 with ⟨hv, h0⟩ | ⟨g, cap, cur, hv, _, _, hc, _⟩
  · exact ⟨Option.none, 0, by rw [h0]; exact hv, by omega⟩
  · exact ⟨_, _, hv, hc⟩

/-- What hands back who has a vote. -/
def Whod (l : List Vt) (w : World) (e : Ending) (w' : World) : Prop := ∃ R : List Int, (R.Pairwise fun a b => a < b) ∧ (∀ x, x ∈ R ↔ ∃ a ∈ l, a.f = x) ∧ R.length ≤ l.length ∧ NumsNew R w e w'
/-- How the loop of who stands. -/
def WhoLoop (l : List Vt) (w : World) (v i : Value) (w' : World) : Prop := ∃ (j : Nat) (R : List Int) (A' : Option Addr) (c' : Nat), j ≤ l.length ∧ i = .int .i64 (j : Nat) ∧ v = .slice A' R.length c' ∧ R.length ≤ c' ∧ CellsAt w' w'.heap.size A' (intCells R) ∧ (R.Pairwise fun a b => a < b) ∧ (∀ x, x ∈ R ↔ ∃ a ∈ l.take j, a.f = x) ∧ R.length ≤ j ∧ Kept w w'
theorem who_mem {M : List Vt} {x : Vt} {R S : List Int} (hR : ∀ y, y ∈ R ↔ ∃ a ∈ M, a.f = y) (hS : ∀ y, y ∈ S ↔ y ∈ R ∨ y = x.f) (y : Int) : y ∈ S ↔ ∃ a ∈ M ++ [x], a.f = y := by
  rw [hS, hR]
  constructor
  · rintro (⟨a, ha, e⟩ | e)
    · exact ⟨a, List.mem_append_left _ ha, e⟩
    · exact ⟨x, by simp, e.symm⟩
  · rintro ⟨a, ha, e⟩
    rcases List.mem_append.1 ha with h | h
    · exact Or.inl ⟨a, h, e⟩
    · rw [show a = x by simpa using h] at e; exact Or.inr e.symm
end

section
open Go.ChangeShapes Go.WideShapes Go.ChangeAt Go.RowKit

theorem take_num {N : List Int} {j : Nat} (h : j < N.length) : N.take (j + 1) = N.take j ++ [N[j]] := List.take_succ_eq_append_getElem h
theorem rise_below {N : List Int} (hN : N.Pairwise fun a b => a < b) {j : Nat} (h : j < N.length) : ∀ x ∈ N.take j, x < N[j] := fun x hx => by
  obtain ⟨i, hi, rfl⟩ := List.mem_iff_getElem.1 hx
  rw [List.length_take] at hi
  rw [List.getElem_take]
  exact List.pairwise_iff_getElem.1 hN i j (by omega) h (by omega)
/-- Who is double, of the first ones. -/
def DUp (l : List Vt) (s : Int) (N R : List Int) : Prop := (R.Pairwise fun a b => a < b) ∧ (∀ x, x ∈ R ↔ x ∈ N ∧ Dbl l s x)
theorem DUp.yes {l : List Vt} {s : Int} {M R : List Int} {f : Int} (h : DUp l s M R) (hb : ∀ x ∈ M, x < f) (hd : Dbl l s f) : DUp l s (M ++ [f]) (R ++ [f]) := by
  refine ⟨?_, fun x => ?_⟩
  · rw [List.pairwise_append]
    refine ⟨h.1, List.pairwise_singleton _ _, fun a ha b hb' => ?_⟩
    rw [show b = f by simpa using hb']
    exact hb a ((h.2 a).1 ha).1
  · rw [List.mem_append, h.2 x, List.mem_append]
    constructor
    · rintro (⟨h1, h2⟩ | h1)
      · exact ⟨Or.inl h1, h2⟩
      · have : x = f := by simpa using h1
        rw [this]; exact ⟨Or.inr (by simp), hd⟩
    · rintro ⟨h1 | h1, h2⟩
      · exact Or.inl ⟨h1, h2⟩
      · exact Or.inr h1
theorem DUp.no {l : List Vt} {s : Int} {M R : List Int} {f : Int} (h : DUp l s M R) (hd : ¬ Dbl l s f) : DUp l s (M ++ [f]) R := by
  refine ⟨h.1, fun x => ?_⟩
  rw [h.2 x, List.mem_append]
  constructor
  · rintro ⟨h1, h2⟩; exact ⟨Or.inl h1, h2⟩
  · rintro ⟨h1 | h1, h2⟩
    · exact ⟨h1, h2⟩
    · rw [show x = f by simpa using h1] at h2; exact absurd h2 hd
theorem DUp.done {l : List Vt} {s : Int} {N R : List Int} (h : DUp l s N R) (hN : ∀ x, x ∈ N ↔ ∃ a ∈ l, a.f = x) : Dbls l s R := by
  refine ⟨h.1, fun x => (h.2 x).trans ⟨fun k => k.2, fun d => ⟨(hN x).2 ?_, d⟩⟩⟩
  obtain ⟨a, ha, _, _, h1, _⟩ := d
  exact ⟨a, ha, h1⟩
/-- The votes that count, of the first ones. -/
def CUp (l : List Vt) (q : Int → Bool) (N : List Int) (R : List Vt) : Prop := (R.Pairwise fun a b => a.f < b.f) ∧ (∀ u, u ∈ R ↔ u.f ∈ N ∧ Cnt l q u)
theorem CUp.yes {l : List Vt} {q : Int → Bool} {M : List Int} {R : List Vt} {f : Int} (h : CUp l q M R) (hb : ∀ x ∈ M, x < f) {v : Vt} (hv : Cnt l q v) (hf : v.f = f) : CUp l q (M ++ [f]) (R ++ [v]) := by
  refine ⟨?_, fun u => ?_⟩
  · rw [List.pairwise_append]
    refine ⟨h.1, List.pairwise_singleton _ _, fun a ha b hb' => ?_⟩
    rw [show b = v by simpa using hb', hf]
    exact hb a.f ((h.2 a).1 ha).1
  · rw [List.mem_append, h.2 u, List.mem_append]
    constructor
    · rintro (⟨h1, h2⟩ | h1)
      · exact ⟨Or.inl h1, h2⟩
      · have : u = v := by simpa using h1
        rw [this]; exact ⟨Or.inr (by simp [hf]), hv⟩
    · rintro ⟨h1 | h1, h2⟩
      · exact Or.inl ⟨h1, h2⟩
      · right
        rw [cnt_one h2 hv ((show u.f = f by simpa using h1).trans hf.symm)]
        simp
theorem CUp.no {l : List Vt} {q : Int → Bool} {M : List Int} {R : List Vt} {f : Int} (h : CUp l q M R) (hd : ∀ u, Cnt l q u → u.f ≠ f) : CUp l q (M ++ [f]) R := by
  refine ⟨h.1, fun u => ?_⟩
  rw [h.2 u, List.mem_append]
  constructor
  · rintro ⟨h1, h2⟩; exact ⟨Or.inl h1, h2⟩
  · rintro ⟨h1 | h1, h2⟩
    · exact ⟨h1, h2⟩
    · exact absurd (show u.f = f by simpa using h1) (hd u h2)
theorem CUp.done {l : List Vt} {q : Int → Bool} {N : List Int} {R : List Vt} (h : CUp l q N R) (hN : ∀ x, x ∈ N ↔ ∃ a ∈ l, a.f = x) : Cnts l q R :=
  ⟨h.1, fun u => (h.2 u).trans ⟨fun k => k.2, fun c => ⟨(hN _).2 ⟨u, c.1, rfl⟩, c⟩⟩⟩
end

end Go.Proofs.Ytacdiicnfoejoaa
