/-
  The contract of package votes' call Doubles.
  Lists that are the same, held against one another; is a vote there; votes of all but one.
  The contract of marigoldref07.double.
  The contracts of marigoldref07.put and who.
  The contracts of marigoldref07.Doubles and Of.
-/
import Derived.Shelf.Sort.Plain
import Derived.Shelf.Slices.In.SortNone
import Derived.Test.YtpojiijgahcidaaGreatRows
import Derived.Test.YtpojiijgahcidaaGreatVoteOfG
import Derived.Test.YtpojiijgahcidaaGreatGround
import Derived.Test.YtpojiijgahcidaaGreatVoteG
namespace Go.Proofs.YtpojiijgahcidaaGreat
set_option maxRecDepth 100000
set_option linter.unusedVariables false
set_option linter.unusedSimpArgs false
section
open Go.ChangeShapes Go.WideShapes Go.ChangeAt Go.RowKit

theorem Ints.none {W w : World} (k : Kept W w) : Ints W [] (.slice none 0 0) w := ⟨World.ownsRow_nil _ _ _ _, k⟩
theorem Ints.slice {W w : World} {l : List Int} {v : Value} (h : Ints W l v w) : ∃ A c, v = .slice A l.length c := by
  rcases h.1.2 with ⟨hv, h0⟩ | ⟨g, cap, cur, hv, _⟩
  · rw [h0]; exact ⟨_, _, hv⟩
  · exact ⟨_, _, hv⟩
theorem Ints.turned {W w w' : World} {l : List Int} {v : Value} {r : Nat} (h : Ints W l v w) (hg : w.grownBy w' (some r)) (hr : W.heap.size ≤ r) (hne : some r ≠ v.ownBlock) : Ints W l v w' := by
  refine ⟨⟨h.1.1, ?_⟩, h.2.grown hg fun k hk => by cases hk; exact hr⟩
  rcases h.1.2 with h2 | ⟨g, cap, cur, hv, hb, hh, k⟩
  · exact Or.inl h2
  · refine Or.inr ⟨g, cap, cur, hv, hb, ?_, k⟩
    rw [hg.block g (h.1.lt g (by rw [hv]; rfl)).2 (by rw [hv] at hne; exact fun e => hne e.symm)]
    exact hh
/-- append of numbers, and where. -/
theorem wpList_nums {ops : Array Oper} {rest : List Oper} {o : Oper} {a : Act} {Q : Exit → Act → World → Prop} (w : World) (hgd : o.guard = none) (s x : Operand)
    (ho : o.op = .call { callee := .builtin .append, args := #[s, x], argTypes := #[22, 22] })
    (W : World) (l : List Int) (v : Value) (hs : a.eval s = v) (HB : Ints W l v w) (B : Nat) (A : Option Addr) (m c : Nat) (news : List Int) (hx : a.eval x = .slice A m c) (hl : news.length = m)
    (hr : CellsAt w B A (intCells news)) (hlen : l.length + m ≤ 10000000)
    (h : ∀ v' w', Ints W (l ++ news) v' w' → w.grownBy w' v.ownBlock → wpList Tryz.prog ops Q rest (a.put o.dst v') w') : wpList Tryz.prog ops Q (o :: rest) a w := by
  obtain ⟨i0, hi0, hz0, hz1, hz2⟩ := info_three Tryz.infoI
  refine wpList_app w hgd s x _ ho W.heap.size 3 i0 _ 1 8 Tryz.underlying22 hi0 hz0 hz1 hz2 rfl (by omega) v l.length (intCells l) hs HB.1 B A m c (intCells news) hx (by simp [hl]) hr (intCells_one _)
    (by unfold maxLen; omega) (by omega) HB.2.size_le ?_
  intro v' w' own g _
  refine h v' w' ⟨?_, HB.2.grown g fun i hi => (HB.1.lt i hi).1⟩ g
  rw [intCells_append] at own
  rw [List.length_append, hl]
  exact own
/-- What hands back the numbers of l, as a list that is new. -/
def NumsNew (l : List Int) (w : World) (e : Ending) (w' : World) : Prop :=
  ∃ A c, e = .returned (.slice A l.length c) ∧ CellsAt w' w'.heap.size A (intCells l) ∧ Kept w w'
theorem Ints.new {W w : World} {l : List Int} {A : Option Addr} {c : Nat} (h : Ints W l (.slice A l.length c) w) : NumsNew l W (.returned (.slice A l.length c)) w := ⟨A, c, rfl, CellsAt.of_own h.1, h.2⟩
/-- How the loop over the turns stands. -/
def DLoop (g : Turns) (slot : Int) (b m : Nat) (D : DataW Unit) (w : World) (r : Nat) (v : Value) (wr : World) : Prop :=
  ∃ (left : Lit → Bool) (t : Int → Int → Bool) (cnt : Nat) (R : List Int), wr.ranges Tryz.prog 161 (plainElem Tryz.prog 3) b r m D left cnt ∧
    (∀ f s, Wf64 f → Wf64 s → left (kT f s) = t f s) ∧ (∀ f s, t f s = true → g f s ≠ none) ∧ DInv g slot t R ∧ Ints w R v wr ∧ R.length + cnt ≤ m
/-- What hands back who is double. -/
def Doubled (L : List Vt) (s : Int) (w : World) (e : Ending) (w' : World) : Prop := ∃ R, Dbls L s R ∧ R.length ≤ L.length ∧ NumsNew R w e w'
end

section
open Go.ChangeShapes Go.WideShapes Go.ChangeAt Go.RowKit

theorem num_at {w : World} {B : Nat} {A : Option Addr} {l : List Int} (h : CellsAt w B A (intCells l)) {i : Nat} (hi : i < l.length) : ∃ z o, A = some ⟨z, o, none⟩ ∧ z < B ∧ w.cell? ⟨z, o + i, none⟩ = some (.int .i64 l[i]) := by
  obtain ⟨z, o, e, hb, hc⟩ := h.plain (by rw [intCells_length]; omega)
  exact ⟨z, o, e, hb, hc i _ (by simp [intCells, hi])⟩

theorem sameV_self (v : Vt) : sameV v v = true := sameV_iff.2 rfl
end

section
open Go.ChangeShapes Go.WideShapes Go.ChangeAt Go.RowKit

theorem dblB_dec (L : List Vt) (s f : Int) : ∃ b : Bool, b = true ↔ Dbl L s f := by
  by_cases h : Dbl L s f
  · exact ⟨true, by simp [h]⟩
  · exact ⟨false, by simp [h]⟩
/-- Is somebody double in a slot? -/
noncomputable def dblB (L : List Vt) (s f : Int) : Bool := (dblB_dec L s f).choose
theorem dblB_iff {L : List Vt} {s f : Int} : dblB L s f = true ↔ Dbl L s f := (dblB_dec L s f).choose_spec
theorem dblB_no {L : List Vt} {s f : Int} (h : ¬ Dbl L s f) : dblB L s f = false := by
  cases e : dblB L s f with
  | false => rfl
  | true => exact absurd (dblB_iff.1 e) h
def sameP (x y : Nat × Nat) : Bool := decide (x.1 = y.1 ∧ x.2 = y.2)
theorem eqP (x y : Nat × Nat) (w : World) : Sem.run Tryz.prog (Op.equalIn 10000 31 (.agg #[.int .u64 x.1, .int .u64 x.2]) (.agg #[.int .u64 y.1, .int .u64 y.2])) w = .ok (sameP x y) w := by
  rw [eqId10]
  congr 1
  rw [Bool.eq_iff_iff]
  unfold sameP
  simp
  omega
theorem sameP_yes {a b : Vt} (h : sameP a.p b.p = true) (h1 : a.f = b.f) (h2 : a.s = b.s) : a = b := by
  unfold sameP at h
  rw [decide_eq_true_iff] at h
  exact sameV_iff.1 (decide_eq_true ⟨h1, h2, h.1, h.2⟩)
theorem sameP_no {a b : Vt} (h : sameP a.p b.p = false) (h1 : a.f = b.f) (h2 : a.s = b.s) : a ≠ b := fun e => by
  subst e
  unfold sameP at h
  simp at h
theorem dbl_snoc {M : List Vt} {x : Vt} {s f : Int} (h : ¬ Dbl M s f) (hx : ∀ b ∈ M, ¬ (x.f = f ∧ b.f = f ∧ x.s = s ∧ b.s = s ∧ x ≠ b)) : ¬ Dbl (M ++ [x]) s f := by
  rintro ⟨a, ha, b, hb, h1, h2, h3, h4, ne⟩
  rcases List.mem_append.1 ha with ha' | ha
  · rcases List.mem_append.1 hb with hb | hb
    · exact h ⟨a, ha', b, hb, h1, h2, h3, h4, ne⟩
    · have : b = x := by simpa using hb
      subst this
      exact hx a ha' ⟨h2, h1, h4, h3, fun e => ne e.symm⟩
  · have : a = x := by simpa using ha
    subst this
    rcases List.mem_append.1 hb with hb | hb
    · exact hx b hb ⟨h1, h2, h3, h4, ne⟩
    · exact ne (show b = a by simpa using hb).symm

attribute [local go_sem high] eqP in
set_option maxRecDepth 100000 in
set_option maxHeartbeats 8000000 in
theorem refDouble_any (A : Option Addr) (c : Nat) (l : List Vt) (hl : l.length ≤ 1000000) (slot who : Int) (w : World) (hA : CellsAt w w.heap.size A (votesCells l)) :
    Calls Tryz.prog 90 #[.slice A l.length c, .int .i64 slot, .int .i64 who] w fun e w' => e = .returned (.bool (dblB l slot who)) ∧ Kept w w' := by
  have HA := Lib.hid hA
  clear hA
  go_enter Tryz.func90, Tryz.ntmps90
  go_wp2_with fail
  go_loopw [7] (fun i w' => ∃ j : Nat, j ≤ l.length ∧ i = .int .i64 (j : Nat) ∧ Kept w w' ∧ ¬ Dbl (l.take j) slot who) (fun i _ => l.length - (intOf i).toNat)
  case atStart => exact ⟨0, by omega, rfl, Kept.refl _, fun ⟨a, ha, _⟩ => by simp at ha⟩
  case round =>
    obtain ⟨j, hj, rfl, hKr, hN⟩ := hrel
    have HV := Lib.hid hKr
    have HN := Lib.hid hN
    clear hKr hN
    by_cases hlt : j < l.length
    · have HT := Lib.hid (take_vt hlt)
      have HX := Lib.hid (List.getElem_mem hlt)
      obtain ⟨x, hx⟩ : ∃ x, x = l[j] := ⟨_, rfl⟩
      rw [← hx] at HT HX
      have HE := Lib.hid hx
      clear hx
      go_wp2_with fail
      generalize wr = V0 at *
      go_loopw [8] (fun i w' => ∃ k : Nat, k ≤ j ∧ i = .int .i64 (k : Nat) ∧ Kept V0 w' ∧ ∀ b ∈ l.take k, ¬ (x.f = who ∧ b.f = who ∧ x.s = slot ∧ b.s = slot ∧ x ≠ b)) (fun i _ => j - (intOf i).toNat)
      case atStart => exact ⟨0, by omega, rfl, Kept.refl _, fun b hb => by simp at hb⟩
      case round =>
        obtain ⟨k, hk, rfl, hKr, hN2⟩ := hrel
        have HQ := Lib.hid hKr
        have HN2 := Lib.hid hN2
        clear hKr hN2
        by_cases hlk : k < j
        · have hkl : k < l.length := by omega
          obtain ⟨z, o, rfl, hb, c0, c1, c2, c3⟩ := vote_at (HA.out.kept (HV.out.trans HQ.out)) hlt
          obtain ⟨zz, oo, ez, _, d0, d1, d2, d3⟩ := vote_at (HA.out.kept (HV.out.trans HQ.out)) hkl
          obtain ⟨rfl, rfl⟩ : z = zz ∧ o = oo := by injection ez with ez; injection ez with e1 e2; exact ⟨e1, e2⟩
          clear ez
          rw [← HE.out] at c0 c1 c2 c3
          have HTk := Lib.hid (take_vt hkl)
          have HY := Lib.hid (List.getElem_mem hkl)
          obtain ⟨y, hy⟩ : ∃ y, y = l[k] := ⟨_, rfl⟩
          rw [← hy] at d0 d1 d2 d3 HTk HY
          clear hy
          by_cases h1 : x.f = who
          · by_cases h2 : y.f = who
            · by_cases h3 : x.s = slot
              · by_cases h4 : y.s = slot
                · cases hs : sameP x.p y.p with
                  | true =>
                    have HNY := Lib.hid (show ¬ (x.f = who ∧ y.f = who ∧ x.s = slot ∧ y.s = slot ∧ x ≠ y) from fun q => q.2.2.2.2 (sameP_yes hs (q.1.trans q.2.1.symm) (q.2.2.1.trans q.2.2.2.1.symm)))
                    rw [h1] at c0
                    rw [h2] at d0
                    rw [h3] at c1
                    rw [h4] at d1
                    clear h1 h2 h3 h4
                    go_wp2_with fail
                    go_quiet (fail)
                    go_wp2_with fail
                    go_roundw
                    case rel =>
                      refine ⟨k + 1, by omega, by go_num, HQ.out.drewN _, ?_⟩
                      rw [HTk.out]
                      intro b hb
                      rcases List.mem_append.1 hb with h | h
                      · exact HN2.out b h
                      · rw [show b = y by simpa using h]
                        exact HNY.out
                    case measure => simp [intOf]; omega
                  | false =>
                    have HD := Lib.hid (show dblB l slot who = true from dblB_iff.2 ⟨x, HX.out, y, HY.out, h1, h2, h3, h4, (sameP_no hs (h1.trans h2.symm) (h3.trans h4.symm))⟩)
                    rw [h1] at c0
                    rw [h2] at d0
                    rw [h3] at c1
                    rw [h4] at d1
                    clear h1 h2 h3 h4
                    go_wp2_with fail
                    go_quiet (fail)
                    go_wp2_with fail
                    go_ret
                    exact ⟨by rw [HD.out]; rfl, HV.out.trans (HQ.out.drewN _)⟩
                · have HNY := Lib.hid (show ¬ (x.f = who ∧ y.f = who ∧ x.s = slot ∧ y.s = slot ∧ x ≠ y) from fun q => h4 q.2.2.2.1)
                  have h4b : (y.s == slot) = false := by simp [h4]
                  clear h4
                  rw [h1] at c0
                  rw [h2] at d0
                  rw [h3] at c1
                  clear h1 h2 h3
                  go_wp2_with fail
                  go_quiet (fail)
                  go_wp2_with fail
                  go_roundw
                  case rel =>
                    refine ⟨k + 1, by omega, by go_num, HQ.out.drewN _, ?_⟩
                    rw [HTk.out]
                    intro b hb
                    rcases List.mem_append.1 hb with h | h
                    · exact HN2.out b h
                    · rw [show b = y by simpa using h]
                      exact HNY.out
                  case measure => simp [intOf]; omega
              · have HNY := Lib.hid (show ¬ (x.f = who ∧ y.f = who ∧ x.s = slot ∧ y.s = slot ∧ x ≠ y) from fun q => h3 q.2.2.1)
                have h3b : (x.s == slot) = false := by simp [h3]
                clear h3
                rw [h1] at c0
                rw [h2] at d0
                clear h1 h2
                go_wp2_with fail
                go_quiet (fail)
                go_wp2_with fail
                go_roundw
                case rel =>
                  refine ⟨k + 1, by omega, by go_num, HQ.out.drewN _, ?_⟩
                  rw [HTk.out]
                  intro b hb
                  rcases List.mem_append.1 hb with h | h
                  · exact HN2.out b h
                  · rw [show b = y by simpa using h]
                    exact HNY.out
                case measure => simp [intOf]; omega
            · have HNY := Lib.hid (show ¬ (x.f = who ∧ y.f = who ∧ x.s = slot ∧ y.s = slot ∧ x ≠ y) from fun q => h2 q.2.1)
              have h2b : (y.f == who) = false := by simp [h2]
              clear h2
              rw [h1] at c0
              clear h1
              go_wp2_with fail
              go_quiet (fail)
              go_wp2_with fail
              go_roundw
              case rel =>
                refine ⟨k + 1, by omega, by go_num, HQ.out.drewN _, ?_⟩
                rw [HTk.out]
                intro b hb
                rcases List.mem_append.1 hb with h | h
                · exact HN2.out b h
                · rw [show b = y by simpa using h]
                  exact HNY.out
              case measure => simp [intOf]; omega
          · have HNY := Lib.hid (show ¬ (x.f = who ∧ y.f = who ∧ x.s = slot ∧ y.s = slot ∧ x ≠ y) from fun q => h1 q.1)
            have h1b : (x.f == who) = false := by simp [h1]
            clear h1
            go_wp2_with fail
            go_quiet (fail)
            go_wp2_with fail
            go_roundw
            case rel =>
              refine ⟨k + 1, by omega, by go_num, HQ.out.drewN _, ?_⟩
              rw [HTk.out]
              intro b hb
              rcases List.mem_append.1 hb with h | h
              · exact HN2.out b h
              · rw [show b = y by simpa using h]
                exact HNY.out
            case measure => simp [intOf]; omega
        · have hkl : k = j := by omega
          subst hkl
          have HD := Lib.hid (dbl_snoc HN.out HN2.out)
          go_wp2_with fail
          go_roundw
          case rel => exact ⟨k + 1, by omega, by go_num, HV.out.trans HQ.out, by rw [HT.out]; exact HD.out⟩
          case measure => simp [intOf]; omega
    · have hjl : j = l.length := by omega
      subst hjl
      have HD := Lib.hid (show dblB l slot who = false from dblB_no (by have := HN.out; rwa [List.take_length] at this))
      go_wp2_with fail
      go_ret
      exact ⟨by rw [HD.out]; rfl, HV.out⟩
end

section
open Go.ChangeShapes Go.WideShapes Go.ChangeAt Go.RowKit

theorem upto_ints (A : Option Addr) (n c k : Nat) (hk : k ≤ c) (w : World) : (Instr.slice 22 (.slice A n c) none (some (.int .i64 (k : Int))) none).run Tryz.prog w = .ok (.slice A k c) w := by
  obtain ⟨i, hi, _⟩ := info_of Tryz.infoI
  exact run_upto _ _ i Tryz.underlying22 hi A n c k hk w
theorem cells_ints_take {w : World} {B : Nat} {A : Option Addr} {l : List Int} (h : CellsAt w B A (intCells l)) (k : Nat) : CellsAt w B A (intCells (l.take k)) := by
  have e : intCells l = intCells (l.take k) ++ intCells (l.drop k) := by rw [intCells_append, List.take_append_drop]
  rw [e] at h
  exact cells_prefix h
theorem from_ints {w : World} {B : Nat} {A : Option Addr} {l : List Int} (h : CellsAt w B A (intCells l)) (c k : Nat) (hk : k ≤ l.length) (hc : l.length ≤ c) :
    ∃ A', (∀ w', (Instr.slice 22 (.slice A l.length c) (some (.int .i64 (k : Int))) none none).run Tryz.prog w' = .ok (.slice A' (l.length - k) (c - k)) w') ∧ CellsAt w B A' (intCells (l.drop k)) := by
  obtain ⟨i, hi, _, hs, _⟩ := info_of Tryz.infoI
  refine ⟨_, fun w' => run_from _ _ i Tryz.underlying22 hi A l.length c k hk w', ?_⟩
  have e : intCells l = intCells (l.take k) ++ intCells (l.drop k) := by rw [intCells_append, List.take_append_drop]
  by_cases q : c = k
  · have : l.drop k = [] := List.drop_eq_nil_of_le (by omega)
    rw [this]
    exact CellsAt.nil
  · rw [if_neg q, hs]
    rw [e] at h
    have := cells_from h
    rw [intCells_length, List.length_take, Nat.min_eq_left hk] at this
    rw [Nat.mul_one]
    exact this
/-- Put into a list that rises. -/
theorem put_ok {l : List Int} {n : Int} {k : Nat} (hS : l.Pairwise fun a b => a < b) (hlo : ∀ x ∈ l.take k, x < n) (hhi : ∀ x ∈ l.drop k, n < x) :
    ([] ++ l.take k ++ [n] ++ l.drop k).Pairwise (fun a b => a < b) ∧ ∀ x, x ∈ [] ++ l.take k ++ [n] ++ l.drop k ↔ x ∈ l ∨ x = n := by
  have e := List.take_append_drop k l
  rw [← e, List.pairwise_append] at hS
  constructor
  · rw [List.nil_append, List.pairwise_append, List.pairwise_append]
    refine ⟨⟨hS.1, List.pairwise_singleton _ _, fun a ha b hb => ?_⟩, hS.2.1, fun a ha b hb => ?_⟩
    · rw [show b = n by simpa using hb]; exact hlo a ha
    · rcases List.mem_append.1 ha with h | h
      · exact hS.2.2 a h b hb
      · rw [show a = n by simpa using h]; exact hhi b hb
  · intro x
    have : x ∈ l ↔ x ∈ l.take k ∨ x ∈ l.drop k := by rw [← List.mem_append, e]
    rw [this]
    simp only [List.nil_append, List.mem_append, List.mem_singleton]
    constructor
    · rintro ((h | h) | h)
      · exact Or.inl (Or.inl h)
      · exact Or.inr h
      · exact Or.inl (Or.inr h)
    · rintro ((h | h) | h)
      · exact Or.inl (Or.inl h)
      · exact Or.inr h
      · exact Or.inl (Or.inr h)
theorem low_of {l : List Int} {n : Int} {k : Nat} (hk : k < l.length) (hS : l.Pairwise fun a b => a < b) (h : l[k] < n) : ∀ x ∈ l.take (k + 1), x < n := fun x hx => by
  rw [List.take_succ_eq_append_getElem hk] at hx
  rcases List.mem_append.1 hx with h1 | h1
  · obtain ⟨i, hi, rfl⟩ := List.mem_iff_getElem.1 h1
    have hik : i < k := by rw [List.length_take] at hi; omega
    rw [List.getElem_take]
    have := List.pairwise_iff_getElem.1 hS i k (by omega) hk hik
    omega
  · rw [show x = l[k] by simpa using h1]; exact h
def Putted (l : List Int) (n : Int) (w : World) (e : Ending) (w' : World) : Prop := ∃ (R : List Int) (A' : Option Addr) (c' : Nat), (R.Pairwise fun a b => a < b) ∧ (∀ x, x ∈ R ↔ x ∈ l ∨ x = n) ∧ R.length ≤ l.length + 1 ∧ R.length ≤ c' ∧ e = .returned (.slice A' R.length c') ∧ CellsAt w' w'.heap.size A' (intCells R) ∧ Kept w w'
theorem Ints.slice_le {W w : World} {l : List Int} {v : Value} (h : Ints W l v w) : ∃ A c, v = .slice A l.length c ∧ l.length ≤ c := by
  rcases h.1.2 with ⟨hv, h0⟩ | ⟨g, cap, cur, hv, _, _, hc, _⟩
  · exact ⟨Option.none, 0, by rw [h0]; exact hv, by omega⟩
  · exact ⟨_, _, hv, hc⟩

set_option maxRecDepth 100000 in
set_option maxHeartbeats 4000000 in
theorem refPut_any (A : Option Addr) (c : Nat) (l : List Int) (hl : l.length ≤ 1000000) (hlc : l.length ≤ c) (hS : l.Pairwise fun a b => a < b) (n : Int) (w : World) (hA : CellsAt w w.heap.size A (intCells l)) :
    Calls Tryz.prog 109 #[.slice A l.length c, .int .i64 n] w (Putted l n w) := by
  have HA := Lib.hid hA
  have HS := Lib.hid hS
  clear hA hS
  go_enter Tryz.func109, Tryz.ntmps109
  go_wp2_with fail
  go_loopw [5] (fun i w' => ∃ k : Nat, k ≤ l.length ∧ i = .int .i64 (k : Nat) ∧ w' = w ∧ ∀ x ∈ l.drop k, n < x) (fun i _ => (intOf i).toNat)
  case atStart => exact ⟨l.length, by omega, rfl, rfl, fun x hx => by simp at hx⟩
  case round =>
    obtain ⟨k, hk, rfl, rfl, hN⟩ := hrel
    have HN := Lib.hid hN
    clear hN
    cases k with
    | zero =>
      have HL := Lib.hid (show (l.take 0).length = 0 by rw [List.length_take]; omega)
      have HLd := Lib.hid (show (l.drop 0).length = l.length from List.length_drop)
      have hup : ∀ w', (Instr.slice 22 (.slice A l.length c) none (some (.int .i64 0)) none).run Tryz.prog w' = .ok (.slice A 0 c) w' := fun w' => upto_ints A l.length c 0 (by omega) w'
      obtain ⟨A', hfr0, hA'⟩ := from_ints HA.out c 0 hk hlc
      have hfr : ∀ w', (Instr.slice 22 (.slice A l.length c) (some (.int .i64 0)) none none).run Tryz.prog w' = .ok (.slice A' l.length c) w' := hfr0
      have HD := Lib.hid hA'
      have HTk := Lib.hid (cells_ints_take HA.out 0)
      have hb1 : ([] : List Int).length + 0 ≤ 10000000 := by simp <;> omega
      have hb2 : ([] ++ l.take 0).length + 1 ≤ 10000000 := by simp <;> omega
      have hb3 : ([] ++ l.take 0 ++ [n]).length + l.length ≤ 10000000 := by simp <;> omega
      have HP := Lib.hid (put_ok HS.out (fun x hx => by simp at hx) HN.out)
      clear hA' hfr0
      go_wp2_with (first | (refine wpList_nums _ rfl _ _ rfl wr ([] ++ l.take 0 ++ [n]) _ rfl HV2 _ _ _ _ (l.drop 0) rfl HLd.out (HD.out.kept HV2.2) hb3 ?_; intro v3 w3 HV3 _) | (refine wpList_nums _ rfl _ _ rfl wr ([] ++ l.take 0) _ rfl (HV1.alloc _) _ _ 1 1 [n] rfl rfl (CellsAt.one _ (.int .i64 n) _ _ rfl) hb2 ?_; intro v2 w2 HV2 _) | (refine wpList_nums _ rfl _ _ rfl wr [] _ rfl (Ints.nil wr) _ _ _ _ (l.take 0) rfl HL.out HTk.out hb1 ?_; intro v1 w1 HV1 _))
      obtain ⟨A3, c3, rfl, hc3⟩ := HV3.slice_le
      have HC3 := Lib.hid hc3
      clear hc3
      go_ret
      exact ⟨_, A3, c3, HP.out.1, HP.out.2, by simp <;> omega, HC3.out, rfl, CellsAt.of_own HV3.1, HV3.2⟩
    | succ k =>
      obtain ⟨z, o, rfl, hz, c0⟩ := num_at HA.out (show k < l.length by omega)
      have HX := Lib.hid (List.drop_eq_getElem_cons (show k < l.length by omega))
      have HM := Lib.hid (List.getElem_mem (show k < l.length by omega))
      have HLo := Lib.hid (low_of (n := n) (show k < l.length by omega) HS.out)
      generalize l[k] = x at *
      by_cases hx : n < x
      · go_wp2_with fail
        go_roundw
        case rel =>
          refine ⟨k, by omega, by go_num, by first | rfl | trivial, ?_⟩
          rw [HX.out]
          intro y hy
          rcases List.mem_cons.1 hy with h | h
          · rw [h]; exact hx
          · exact HN.out y h
        case measure => simp [intOf]
      · by_cases he : x = n
        · subst he
          have HP := Lib.hid (show Putted l x wr (.returned (.slice (some ⟨z, o, none⟩) l.length c)) wr from ⟨l, _, _, HS.out, fun y => ⟨Or.inl, fun h => h.elim id (fun e => by rw [e]; exact HM.out)⟩, by omega, hlc, rfl, HA.out, Kept.refl _⟩)
          go_wp2_with fail
          go_ret
          exact HP.out
        · have hlo : x < n := by omega
          have HL := Lib.hid (show (l.take (k + 1)).length = (k + 1) by rw [List.length_take]; omega)
          have HLd := Lib.hid (show (l.drop (k + 1)).length = (l.length - (k + 1)) from List.length_drop)
          have hup : ∀ w', (Instr.slice 22 (.slice (some ⟨z, o, none⟩) l.length c) none (some (.int .i64 ((k : Int) + 1))) none).run Tryz.prog w' = .ok (.slice (some ⟨z, o, none⟩) (k + 1) c) w' := fun w' => upto_ints (some ⟨z, o, none⟩) l.length c (k + 1) (by omega) w'
          obtain ⟨A', hfr0, hA'⟩ := from_ints HA.out c (k + 1) hk hlc
          have hfr : ∀ w', (Instr.slice 22 (.slice (some ⟨z, o, none⟩) l.length c) (some (.int .i64 ((k : Int) + 1))) none none).run Tryz.prog w' = .ok (.slice A' (l.length - (k + 1)) (c - (k + 1))) w' := hfr0
          have HD := Lib.hid hA'
          have HTk := Lib.hid (cells_ints_take HA.out (k + 1))
          have hb1 : ([] : List Int).length + (k + 1) ≤ 10000000 := by simp <;> omega
          have hb2 : ([] ++ l.take (k + 1)).length + 1 ≤ 10000000 := by simp <;> omega
          have hb3 : ([] ++ l.take (k + 1) ++ [n]).length + (l.length - (k + 1)) ≤ 10000000 := by simp <;> omega
          have HP := Lib.hid (put_ok HS.out (HLo.out hlo) HN.out)
          clear hA' hfr0
          go_wp2_with (first | (refine wpList_nums _ rfl _ _ rfl wr ([] ++ l.take (k + 1) ++ [n]) _ rfl HV2 _ _ _ _ (l.drop (k + 1)) rfl HLd.out (HD.out.kept HV2.2) hb3 ?_; intro v3 w3 HV3 _) | (refine wpList_nums _ rfl _ _ rfl wr ([] ++ l.take (k + 1)) _ rfl (HV1.alloc _) _ _ 1 1 [n] rfl rfl (CellsAt.one _ (.int .i64 n) _ _ rfl) hb2 ?_; intro v2 w2 HV2 _) | (refine wpList_nums _ rfl _ _ rfl wr [] _ rfl (Ints.nil wr) _ _ _ _ (l.take (k + 1)) rfl HL.out HTk.out hb1 ?_; intro v1 w1 HV1 _))
          obtain ⟨A3, c3, rfl, hc3⟩ := HV3.slice_le
          have HC3 := Lib.hid hc3
          clear hc3
          go_ret
          exact ⟨_, A3, c3, HP.out.1, HP.out.2, by simp <;> omega, HC3.out, rfl, CellsAt.of_own HV3.1, HV3.2⟩
/-- What hands back who has a vote. -/
def Whod (l : List Vt) (w : World) (e : Ending) (w' : World) : Prop := ∃ R : List Int, (R.Pairwise fun a b => a < b) ∧ (∀ x, x ∈ R ↔ ∃ a ∈ l, a.f = x) ∧ R.length ≤ l.length ∧ NumsNew R w e w'
/-- How the loop of who stands. -/
def WhoLoop (l : List Vt) (w : World) (v i : Value) (w' : World) : Prop := ∃ (j : Nat) (R : List Int) (A' : Option Addr) (c' : Nat), j ≤ l.length ∧ i = .int .i64 (j : Nat) ∧ v = .slice A' R.length c' ∧ R.length ≤ c' ∧ CellsAt w' w'.heap.size A' (intCells R) ∧ (R.Pairwise fun a b => a < b) ∧ (∀ x, x ∈ R ↔ ∃ a ∈ l.take j, a.f = x) ∧ R.length ≤ j ∧ Kept w w'
theorem who_mem {M : List Vt} {x : Vt} {R S : List Int} (hR : ∀ y, y ∈ R ↔ ∃ a ∈ M, a.f = y) (hS : ∀ y, y ∈ S ↔ y ∈ R ∨ y = x.f) (y : Int) : y ∈ S ↔ ∃ a ∈ M ++ [x], a.f = y := by
  rw [hS, hR]
  constructor
  · rintro (⟨a, ha, e⟩ | e)
    · exact ⟨a, List.mem_append_left _ ha, e⟩
    · exact ⟨x, by simp, e.symm⟩
  · rintro ⟨a, ha, e⟩
    rcases List.mem_append.1 ha with h | h
    · exact Or.inl ⟨a, h, e⟩
    · rw [show a = x by simpa using h] at e; exact Or.inr e.symm

set_option maxRecDepth 100000 in
set_option maxHeartbeats 4000000 in
theorem refWho_any (A : Option Addr) (c : Nat) (l : List Vt) (hl : l.length ≤ 900000) (w : World) (hA : CellsAt w w.heap.size A (votesCells l)) :
    Calls Tryz.prog 89 #[.slice A l.length c] w (Whod l w) := by
  have HA := Lib.hid hA
  clear hA
  go_enter Tryz.func89, Tryz.ntmps89
  go_wp2_with fail
  go_loopw [3, 4] (fun v i w' => WhoLoop l w v i w') (fun _ i _ => l.length - (intOf i).toNat)
  case atStart => exact ⟨0, [], none, 0, by omega, rfl, rfl, by simp, CellsAt.nil, List.Pairwise.nil, fun x => by simp, by simp, Kept.refl _⟩
  case round =>
    obtain ⟨j, R, A1, c1, hj, rfl, rfl, hRc, hC, hP, hM, hRl, hK⟩ := hrel
    have HC := Lib.hid hC
    have HP := Lib.hid hP
    have HM := Lib.hid hM
    have HK := Lib.hid hK
    clear hC hP hM hK
    by_cases hlt : j < l.length
    · obtain ⟨z, o, rfl, hb, c0, _, _, _⟩ := vote_at (HA.out.kept HK.out) hlt
      have HT := Lib.hid (take_vt hlt)
      generalize l[j] = x at *
      go_wp2_with fail
      refine (refPut_any A1 c1 R (by omega) hRc HP.out x.f wr HC.out).mono ?_
      rintro e W1 ⟨S, A2, c2, hS, hSm, hSl, hSc, rfl, hc, k⟩
      have HS := Lib.hid hS
      have HSm := Lib.hid (who_mem HM.out hSm)
      have HSC := Lib.hid hc
      have HK1 := Lib.hid (HK.out.trans k)
      clear hS hSm hc k HK HC HP HM c0
      go_wp2_with fail
      go_roundw
      case rel => exact ⟨j + 1, S, A2, c2, by omega, by go_num, rfl, hSc, HSC.out, HS.out, by rw [HT.out]; exact HSm.out, by omega, HK1.out⟩
      case measure => simp [intOf]; omega
    · have hjl : j = l.length := by omega
      subst hjl
      have HN := Lib.hid (show Whod l w (.returned (.slice A1 R.length c1)) wr from ⟨R, HP.out, by have := HM.out; rwa [List.take_length] at this, hRl, A1, c1, rfl, HC.out, HK.out⟩)
      go_wp2_with fail
      go_ret
      exact HN.out
end

section
open Go.ChangeShapes Go.WideShapes Go.ChangeAt Go.RowKit

theorem take_num {N : List Int} {j : Nat} (h : j < N.length) : N.take (j + 1) = N.take j ++ [N[j]] := List.take_succ_eq_append_getElem h
theorem rise_below {N : List Int} (hN : N.Pairwise fun a b => a < b) {j : Nat} (h : j < N.length) : ∀ x ∈ N.take j, x < N[j] := fun x hx => by
  obtain ⟨i, hi, rfl⟩ := List.mem_iff_getElem.1 hx
  rw [List.length_take] at hi
  rw [List.getElem_take]
  exact List.pairwise_iff_getElem.1 hN i j (by omega) h (by omega)
/-- Who is double, of the first ones. -/
def DUp (l : List Vt) (s : Int) (N R : List Int) : Prop := (R.Pairwise fun a b => a < b) ∧ (∀ x, x ∈ R ↔ x ∈ N ∧ Dbl l s x)
theorem DUp.yes {l : List Vt} {s : Int} {M R : List Int} {f : Int} (h : DUp l s M R) (hb : ∀ x ∈ M, x < f) (hd : Dbl l s f) : DUp l s (M ++ [f]) (R ++ [f]) := by
  refine ⟨?_, fun x => ?_⟩
  · rw [List.pairwise_append]
    refine ⟨h.1, List.pairwise_singleton _ _, fun a ha b hb' => ?_⟩
    rw [show b = f by simpa using hb']
    exact hb a ((h.2 a).1 ha).1
  · rw [List.mem_append, h.2 x, List.mem_append]
    constructor
    · rintro (⟨h1, h2⟩ | h1)
      · exact ⟨Or.inl h1, h2⟩
      · have : x = f := by simpa using h1
        rw [this]; exact ⟨Or.inr (by simp), hd⟩
    · rintro ⟨h1 | h1, h2⟩
      · exact Or.inl ⟨h1, h2⟩
      · exact Or.inr h1
theorem DUp.no {l : List Vt} {s : Int} {M R : List Int} {f : Int} (h : DUp l s M R) (hd : ¬ Dbl l s f) : DUp l s (M ++ [f]) R := by
  refine ⟨h.1, fun x => ?_⟩
  rw [h.2 x, List.mem_append]
  constructor
  · rintro ⟨h1, h2⟩; exact ⟨Or.inl h1, h2⟩
  · rintro ⟨h1 | h1, h2⟩
    · exact ⟨h1, h2⟩
    · rw [show x = f by simpa using h1] at h2; exact absurd h2 hd
theorem DUp.done {l : List Vt} {s : Int} {N R : List Int} (h : DUp l s N R) (hN : ∀ x, x ∈ N ↔ ∃ a ∈ l, a.f = x) : Dbls l s R := by
  refine ⟨h.1, fun x => (h.2 x).trans ⟨fun k => k.2, fun d => ⟨(hN x).2 ?_, d⟩⟩⟩
  obtain ⟨a, ha, _, _, h1, _⟩ := d
  exact ⟨a, ha, h1⟩
/-- The votes that count, of the first ones. -/
def CUp (l : List Vt) (q : Int → Bool) (N : List Int) (R : List Vt) : Prop := (R.Pairwise fun a b => a.f < b.f) ∧ (∀ u, u ∈ R ↔ u.f ∈ N ∧ Cnt l q u)
theorem CUp.yes {l : List Vt} {q : Int → Bool} {M : List Int} {R : List Vt} {f : Int} (h : CUp l q M R) (hb : ∀ x ∈ M, x < f) {v : Vt} (hv : Cnt l q v) (hf : v.f = f) : CUp l q (M ++ [f]) (R ++ [v]) := by
  refine ⟨?_, fun u => ?_⟩
  · rw [List.pairwise_append]
    refine ⟨h.1, List.pairwise_singleton _ _, fun a ha b hb' => ?_⟩
    rw [show b = v by simpa using hb', hf]
    exact hb a.f ((h.2 a).1 ha).1
  · rw [List.mem_append, h.2 u, List.mem_append]
    constructor
    · rintro (⟨h1, h2⟩ | h1)
      · exact ⟨Or.inl h1, h2⟩
      · have : u = v := by simpa using h1
        rw [this]; exact ⟨Or.inr (by simp [hf]), hv⟩
    · rintro ⟨h1 | h1, h2⟩
      · exact Or.inl ⟨h1, h2⟩
      · right
        rw [cnt_one h2 hv ((show u.f = f by simpa using h1).trans hf.symm)]
        simp
theorem CUp.no {l : List Vt} {q : Int → Bool} {M : List Int} {R : List Vt} {f : Int} (h : CUp l q M R) (hd : ∀ u, Cnt l q u → u.f ≠ f) : CUp l q (M ++ [f]) R := by
  refine ⟨h.1, fun u => ?_⟩
  rw [h.2 u, List.mem_append]
  constructor
  · rintro ⟨h1, h2⟩; exact ⟨Or.inl h1, h2⟩
  · rintro ⟨h1 | h1, h2⟩
    · exact ⟨h1, h2⟩
    · exact absurd (show u.f = f by simpa using h1) (hd u h2)
theorem CUp.done {l : List Vt} {q : Int → Bool} {N : List Int} {R : List Vt} (h : CUp l q N R) (hN : ∀ x, x ∈ N ↔ ∃ a ∈ l, a.f = x) : Cnts l q R :=
  ⟨h.1, fun u => (h.2 u).trans ⟨fun k => k.2, fun c => ⟨(hN _).2 ⟨u, c.1, rfl⟩, c⟩⟩⟩

set_option maxRecDepth 100000 in
set_option maxHeartbeats 4000000 in
theorem refOfV_any (A : Option Addr) (c : Nat) (l : List Vt) (hl : l.length ≤ 900000) (slot : Int) (w : World) (hA : CellsAt w w.heap.size A (votesCells l)) :
    Calls Tryz.prog 64 #[.slice A l.length c, .int .i64 slot] w (Counted l (isQ slot) w) := by
  have HA := Lib.hid hA
  clear hA
  go_enter Tryz.func64, Tryz.ntmps64
  go_wp2_with fail
  refine (refWho_any A c l hl w HA.out).mono ?_
  rintro e W ⟨N, hP, hM, hNl, A1, c1, rfl, hC, k⟩
  have HP := Lib.hid hP
  have HM := Lib.hid hM
  have HC := Lib.hid hC
  have HA1 := Lib.hid (HA.out.kept k)
  have HK := Lib.hid k
  clear hP hM hC k HA
  go_wp2_with fail
  go_loopw [5, 7] (fun v i w' => ∃ (j : Nat) (R : List Vt), j ≤ N.length ∧ i = .int .i64 (j : Nat) ∧ Vts W R v w' ∧ CUp l (isQ slot) (N.take j) R ∧ R.length ≤ j) (fun _ i _ => N.length - (intOf i).toNat)
  case atStart => exact ⟨0, [], by omega, rfl, Vts.nil W, ⟨List.Pairwise.nil, fun x => by simp⟩, by simp⟩
  case round =>
    obtain ⟨j, R, hj, rfl, hV, hU, hRl⟩ := hrel
    have HV := Lib.hid hV
    have HU := Lib.hid hU
    clear hV hU
    by_cases hlt : j < N.length
    · obtain ⟨z, o, rfl, hb, c0⟩ := num_at (HC.out.kept HV.out.2) hlt
      have HT := Lib.hid (take_num hlt)
      have HB := Lib.hid (rise_below HP.out hlt)
      obtain ⟨f, hf⟩ : ∃ f, f = N[j] := ⟨_, rfl⟩
      rw [← hf] at c0 HT HB
      have HF := Lib.hid hf
      clear hf
      go_wp2_with fail
      refine (refDouble_any A c l (by omega) slot f wr (HA1.out.kept HV.out.2)).mono ?_
      rintro e W1 ⟨rfl, k⟩
      have HV1 := Lib.hid (HV.out.kept k)
      clear k c0 HV
      have hll : R.length + 1 ≤ 10000000 := by omega
      cases hd : dblB l slot f with
      | true =>
        have HD := Lib.hid (HU.out.no (f := f) (fun u hu e => hu.2.2.1 slot (isQ_iff.2 rfl) (by rw [e]; exact dblB_iff.1 hd)))
        clear hd
        go_wp2_with fail
        go_roundw
        case rel => exact ⟨j + 1, R, by omega, by go_num, HV1.out, by rw [HT.out]; exact HD.out, by omega⟩
        case measure => simp [intOf]; omega
      | false =>
        have HND := Lib.hid (show ¬ Dbl l slot f from fun d => by rw [dblB_iff.2 d] at hd; cases hd)
        clear hd
        go_wp2_with fail
        generalize W1 = V0 at *
        obtain ⟨u0, hu0⟩ : ∃ u0, u0 = u5 := ⟨_, rfl⟩
        have HV0 := Lib.hid (show Vts W R u0 V0 by rw [hu0]; exact HV1.out)
        rw [← hu0]
        clear hu0 HV1
        go_loopw [5, 9] (fun v i w' => ∃ k : Nat, k ≤ l.length ∧ i = .int .i64 (k : Nat) ∧ v = u0 ∧ Kept V0 w' ∧ ∀ b ∈ l.take k, ¬ (b.f = f ∧ b.s = slot)) (fun _ i _ => l.length - (intOf i).toNat)
        case atStart => exact ⟨0, by omega, rfl, rfl, Kept.refl _, fun b hb => by simp at hb⟩
        case round =>
          obtain ⟨k, hk, rfl, rfl, hKr, hN2⟩ := hrel
          have HQ := Lib.hid (HV0.out.kept hKr)
          have HQ0 := Lib.hid hKr
          have HN2 := Lib.hid hN2
          clear hKr hN2
          by_cases hlk : k < l.length
          · obtain ⟨za, oa, rfl, hba, d0, d1, d2, d3⟩ := vote_at (HA1.out.kept HQ.out.2) hlk
            obtain ⟨zz, oo, ez, _, c0⟩ := num_at (HC.out.kept HQ.out.2) hlt
            obtain ⟨rfl, rfl⟩ : z = zz ∧ o = oo := by injection ez with ez; injection ez with e1 e2; exact ⟨e1, e2⟩
            rw [← HF.out] at c0
            clear ez
            have HTk := Lib.hid (take_vt hlk)
            have HY := Lib.hid (List.getElem_mem hlk)
            obtain ⟨y, hy⟩ : ∃ y, y = l[k]'hlk := ⟨_, rfl⟩
            rw [← hy] at d0 d1 d2 d3 HTk HY
            have HE := Lib.hid hy
            clear hy
            by_cases h1 : y.f = f
            · by_cases h2 : y.s = slot
              · have HCt := Lib.hid (show Cnt l (isQ slot) y from by have := own_counts HY.out (by rw [h1, h2]; exact HND.out); rw [h2] at this; exact this)
                have HD := Lib.hid (HU.out.yes HB.out HCt.out h1)
                rw [h1] at d0
                rw [h2] at d1
                go_wp2_with fail
                go_quiet (fail)
                have HQ2 := Lib.hid (HQ.out.kept ((Kept.refl wr).drewN nq))
                obtain ⟨zb, ob, ez, _, g0, g1, g2, g3⟩ := vote_at (HA1.out.kept HQ2.out.2) hlk
                obtain ⟨rfl, rfl⟩ : za = zb ∧ oa = ob := by injection ez with ez; injection ez with e1 e2; exact ⟨e1, e2⟩
                rw [← HE.out] at g0 g1 g2 g3
                clear ez c0 d0 d1 d2 d3 h1 h2
                generalize wr.drewN nq = V1 at *
                go_wp2_with (refine wpList_vts _ rfl _ _ rfl W R _ rfl (HQ2.out.alloc _) _ _ 1 1 [y] rfl rfl (votes_one_at (HasCells.new _ _ _ _ rfl)) hll ?_; intro v' w' HV' _)
                go_roundw
                case rel => exact ⟨j + 1, R ++ [y], by omega, by go_num, HV', by rw [HT.out]; exact HD.out, by simp; omega⟩
                case measure => simp [intOf]; omega
              · have HNY := Lib.hid (show ¬ (y.f = f ∧ y.s = slot) from fun q => h2 q.2)
                rw [h1] at d0
                have h2b : (y.s == slot) = false := by simp [h2]
                clear h2
                go_wp2_with fail
                go_quiet (fail)
                go_wp2_with fail
                go_roundw
                case rel =>
                  refine ⟨k + 1, by omega, by go_num, rfl, HQ0.out.drewN _, ?_⟩
                  rw [HTk.out]
                  intro b hb
                  rcases List.mem_append.1 hb with h | h
                  · exact HN2.out b h
                  · rw [show b = y by simpa using h]; exact HNY.out
                case measure => simp [intOf]; omega
            · have HNY := Lib.hid (show ¬ (y.f = f ∧ y.s = slot) from fun q => h1 q.1)
              have h1b : (y.f == f) = false := by simp [h1]
              clear h1
              go_wp2_with fail
              go_quiet (fail)
              go_wp2_with fail
              go_roundw
              case rel =>
                refine ⟨k + 1, by omega, by go_num, rfl, HQ0.out.drewN _, ?_⟩
                rw [HTk.out]
                intro b hb
                rcases List.mem_append.1 hb with h | h
                · exact HN2.out b h
                · rw [show b = y by simpa using h]; exact HNY.out
              case measure => simp [intOf]; omega
          · have hkl : k = l.length := by omega
            subst hkl
            have HD := Lib.hid (HU.out.no (f := f) (fun u hu e => by have := HN2.out; rw [List.take_length] at this; exact this u hu.1 ⟨e, isQ_iff.1 hu.2.1⟩))
            go_wp2_with fail
            go_roundw
            case rel => exact ⟨j + 1, R, by omega, by go_num, HQ.out, by rw [HT.out]; exact HD.out, by omega⟩
            case measure => simp [intOf]; omega
    · have hjl : j = N.length := by omega
      subst hjl
      have HD := Lib.hid (HU.out.done (by rw [List.take_length]; exact HM.out))
      obtain ⟨A', c', rfl⟩ := HV.out.slice
      have HN := Lib.hid (show Counted l (isQ slot) w (.returned (.slice A' R.length c')) wr from ⟨R, HD.out, by omega, A', c', rfl, CellsAt.of_own HV.out.1, HK.out.trans HV.out.2⟩)
      go_wp2_with fail
      go_ret
      exact HN.out
end

end Go.Proofs.YtpojiijgahcidaaGreat
