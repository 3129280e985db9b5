/-
  The contracts of marigoldref07.put and who.
-/
import Derived.Test.YtlapcnfhnfkbmaaGreatVoteRef
namespace Go.Proofs.YtlapcnfhnfkbmaaGreat
set_option maxRecDepth 100000
set_option linter.unusedVariables false
set_option linter.unusedSimpArgs false
open Go.ChangeShapes Go.WideShapes Go.ChangeAt Go.RowKit

theorem upto_ints (A : Option Addr) (n c k : Nat) (hk : k ≤ c) (w : World) : (Instr.slice 22 (.slice A n c) none (some (.int .i64 (k : Int))) none).run Tryz.prog w = .ok (.slice A k c) w := by
  obtain ⟨i, hi, _⟩ := info_of Tryz.infoI
  exact run_upto _ _ i Tryz.underlying22 hi A n c k hk w
theorem cells_ints_take {w : World} {B : Nat} {A : Option Addr} {l : List Int} (h : CellsAt w B A (intCells l)) (k : Nat) : CellsAt w B A (intCells (l.take k)) := by
  have e : intCells l = intCells (l.take k) ++ intCells (l.drop k) := by rw [intCells_append, List.take_append_drop]
  rw [e] at h
  exact cells_prefix h
theorem from_ints {w : World} {B : Nat} {A : Option Addr} {l : List Int} (h : CellsAt w B A (intCells l)) (c k : Nat) (hk : k ≤ l.length) (hc : l.length ≤ c) :
    ∃ A', (∀ w', (Instr.slice 22 (.slice A l.length c) (some (.int .i64 (k : Int))) none none).run Tryz.prog w' = .ok (.slice A' (l.length - k) (c - k)) w') ∧ CellsAt w B A' (intCells (l.drop k)) := by
  obtain ⟨i, hi, _, hs, _⟩ := info_of Tryz.infoI
  refine ⟨_, fun w' => run_from _ _ i Tryz.underlying22 hi A l.length c k hk w', ?_⟩
  have e : intCells l = intCells (l.take k) ++ intCells (l.drop k) := by rw [intCells_append, List.take_append_drop]
  by_cases q : c = k
  · have : l.drop k = [] := List.drop_eq_nil_of_le (by omega)
    rw [this]
    exact CellsAt.nil
  · rw [if_neg q, hs]
    rw [e] at h
    have := cells_from h
    rw [intCells_length, List.length_take, Nat.min_eq_left hk] at this
    rw [Nat.mul_one]
    exact this
/-- Put into a list that rises. -/
theorem put_ok {l : List Int} {n : Int} {k : Nat} (hS : l.Pairwise fun a b => a < b) (hlo : ∀ x ∈ l.take k, x < n) (hhi : ∀ x ∈ l.drop k, n < x) :
    ([] ++ l.take k ++ [n] ++ l.drop k).Pairwise (fun a b => a < b) ∧ ∀ x, x ∈ [] ++ l.take k ++ [n] ++ l.drop k ↔ x ∈ l ∨ x = n := by
  have e := List.take_append_drop k l
  rw [← e, List.pairwise_append] at hS
  constructor
  · rw [List.nil_append, List.pairwise_append, List.pairwise_append]
    refine ⟨⟨hS.1, List.pairwise_singleton _ _, fun a ha b hb => ?_⟩, hS.2.1, fun a ha b hb => ?_⟩
    · rw [show b = n by simpa using hb]; exact hlo a ha
    · rcases List.mem_append.1 ha with h | h
      · exact hS.2.2 a h b hb
      · rw [show a = n by simpa using h]; exact hhi b hb
  · intro x
    have : x ∈ l ↔ x ∈ l.take k ∨ x ∈ l.drop k := by rw [← List.mem_append, e]
    rw [this]
    simp only [List.nil_append, List.mem_append, List.mem_singleton]
    constructor
    · rintro ((h | h) | h)
      · exact Or.inl (Or.inl h)
      · exact Or.inr h
      · exact Or.inl (Or.inr h)
    · rintro ((h | h) | h)
      · exact Or.inl (Or.inl h)
      · exact Or.inr h
      · exact Or.inl (Or.inr h)
theorem low_of {l : List Int} {n : Int} {k : Nat} (hk : k < l.length) (hS : l.Pairwise fun a b => a < b) (h : l[k] < n) : ∀ x ∈ l.take (k + 1), x < n := fun x hx => by
  rw [List.take_succ_eq_append_getElem hk] at hx
  rcases List.mem_append.1 hx with h1 | h1
  · obtain ⟨i, hi, rfl⟩ := List.mem_iff_getElem.1 h1
    have hik : i < k := by rw [List.length_take] at hi; omega
    rw [List.getElem_take]
    have := List.pairwise_iff_getElem.1 hS i k (by omega) hk hik
    omega
  · rw [show x = l[k] by simpa using h1]; exact h
def Putted (l : List Int) (n : Int) (w : World) (e : Ending) (w' : World) : Prop := ∃ (R : List Int) (A' : Option Addr) (c' : Nat), (R.Pairwise fun a b => a < b) ∧ (∀ x, x ∈ R ↔ x ∈ l ∨ x = n) ∧ R.length ≤ l.length + 1 ∧ R.length ≤ c' ∧ e = .returned (.slice A' R.length c') ∧ CellsAt w' w'.heap.size A' (intCells R) ∧ Kept w w'
theorem Ints.slice_le {W w : World} {l : List Int} {v : Value} (h : Ints W l v w) : ∃ A c, v = .slice A l.length c ∧ l.length ≤ c := by
  rcases h.1.2 with ⟨hv, h0⟩ | ⟨g, cap, cur, hv, _, _, hc, _⟩
  · exact ⟨Option.none, 0, by rw [h0]; exact hv, by omega⟩
  · exact ⟨_, _, hv, hc⟩

set_option maxRecDepth 100000 in
set_option maxHeartbeats 4000000 in
theorem refPut_any (A : Option Addr) (c : Nat) (l : List Int) (hl : l.length ≤ 1000000) (hlc : l.length ≤ c) (hS : l.Pairwise fun a b => a < b) (n : Int) (w : World) (hA : CellsAt w w.heap.size A (intCells l)) :
    Calls Tryz.prog 80 #[.slice A l.length c, .int .i64 n] w (Putted l n w) := by
  have HA := Lib.hid hA
  have HS := Lib.hid hS
  clear hA hS
  go_enter Tryz.func80, Tryz.ntmps80
  go_wp2_with fail
  go_loopw [5] (fun i w' => ∃ k : Nat, k ≤ l.length ∧ i = .int .i64 (k : Nat) ∧ w' = w ∧ ∀ x ∈ l.drop k, n < x) (fun i _ => (intOf i).toNat)
  case atStart => exact ⟨l.length, by omega, rfl, rfl, fun x hx => by simp at hx⟩
  case round =>
    obtain ⟨k, hk, rfl, rfl, hN⟩ := hrel
    have HN := Lib.hid hN
    clear hN
    cases k with
    | zero =>
      have HL := Lib.hid (show (l.take 0).length = 0 by rw [List.length_take]; omega)
      have HLd := Lib.hid (show (l.drop 0).length = l.length from List.length_drop)
      have hup : ∀ w', (Instr.slice 22 (.slice A l.length c) none (some (.int .i64 0)) none).run Tryz.prog w' = .ok (.slice A 0 c) w' := fun w' => upto_ints A l.length c 0 (by omega) w'
      obtain ⟨A', hfr0, hA'⟩ := from_ints HA.out c 0 hk hlc
      have hfr : ∀ w', (Instr.slice 22 (.slice A l.length c) (some (.int .i64 0)) none none).run Tryz.prog w' = .ok (.slice A' l.length c) w' := hfr0
      have HD := Lib.hid hA'
      have HTk := Lib.hid (cells_ints_take HA.out 0)
      have hb1 : ([] : List Int).length + 0 ≤ 10000000 := by simp <;> omega
      have hb2 : ([] ++ l.take 0).length + 1 ≤ 10000000 := by simp <;> omega
      have hb3 : ([] ++ l.take 0 ++ [n]).length + l.length ≤ 10000000 := by simp <;> omega
      have HP := Lib.hid (put_ok HS.out (fun x hx => by simp at hx) HN.out)
      clear hA' hfr0
      go_wp2_with (first | (refine wpList_nums _ rfl _ _ rfl wr ([] ++ l.take 0 ++ [n]) _ rfl HV2 _ _ _ _ (l.drop 0) rfl HLd.out (HD.out.kept HV2.2) hb3 ?_; intro v3 w3 HV3 _) | (refine wpList_nums _ rfl _ _ rfl wr ([] ++ l.take 0) _ rfl (HV1.alloc _) _ _ 1 1 [n] rfl rfl (CellsAt.one _ (.int .i64 n) _ _ rfl) hb2 ?_; intro v2 w2 HV2 _) | (refine wpList_nums _ rfl _ _ rfl wr [] _ rfl (Ints.nil wr) _ _ _ _ (l.take 0) rfl HL.out HTk.out hb1 ?_; intro v1 w1 HV1 _))
      obtain ⟨A3, c3, rfl, hc3⟩ := HV3.slice_le
      have HC3 := Lib.hid hc3
      clear hc3
      go_ret
      exact ⟨_, A3, c3, HP.out.1, HP.out.2, by simp <;> omega, HC3.out, rfl, CellsAt.of_own HV3.1, HV3.2⟩
    | succ k =>
      obtain ⟨z, o, rfl, hz, c0⟩ := num_at HA.out (show k < l.length by omega)
      have HX := Lib.hid (List.drop_eq_getElem_cons (show k < l.length by omega))
      have HM := Lib.hid (List.getElem_mem (show k < l.length by omega))
      have HLo := Lib.hid (low_of (n := n) (show k < l.length by omega) HS.out)
      generalize l[k] = x at *
      by_cases hx : n < x
      · go_wp2_with fail
        go_roundw
        case rel =>
          refine ⟨k, by omega, by go_num, by first | rfl | trivial, ?_⟩
          rw [HX.out]
          intro y hy
          rcases List.mem_cons.1 hy with h | h
          · rw [h]; exact hx
          · exact HN.out y h
        case measure => simp [intOf]
      · by_cases he : x = n
        · subst he
          have HP := Lib.hid (show Putted l x wr (.returned (.slice (some ⟨z, o, none⟩) l.length c)) wr from ⟨l, _, _, HS.out, fun y => ⟨Or.inl, fun h => h.elim id (fun e => by rw [e]; exact HM.out)⟩, by omega, hlc, rfl, HA.out, Kept.refl _⟩)
          go_wp2_with fail
          go_ret
          exact HP.out
        · have hlo : x < n := by omega
          have HL := Lib.hid (show (l.take (k + 1)).length = (k + 1) by rw [List.length_take]; omega)
          have HLd := Lib.hid (show (l.drop (k + 1)).length = (l.length - (k + 1)) from List.length_drop)
          have hup : ∀ w', (Instr.slice 22 (.slice (some ⟨z, o, none⟩) l.length c) none (some (.int .i64 ((k : Int) + 1))) none).run Tryz.prog w' = .ok (.slice (some ⟨z, o, none⟩) (k + 1) c) w' := fun w' => upto_ints (some ⟨z, o, none⟩) l.length c (k + 1) (by omega) w'
          obtain ⟨A', hfr0, hA'⟩ := from_ints HA.out c (k + 1) hk hlc
          have hfr : ∀ w', (Instr.slice 22 (.slice (some ⟨z, o, none⟩) l.length c) (some (.int .i64 ((k : Int) + 1))) none none).run Tryz.prog w' = .ok (.slice A' (l.length - (k + 1)) (c - (k + 1))) w' := hfr0
          have HD := Lib.hid hA'
          have HTk := Lib.hid (cells_ints_take HA.out (k + 1))
          have hb1 : ([] : List Int).length + (k + 1) ≤ 10000000 := by simp <;> omega
          have hb2 : ([] ++ l.take (k + 1)).length + 1 ≤ 10000000 := by simp <;> omega
          have hb3 : ([] ++ l.take (k + 1) ++ [n]).length + (l.length - (k + 1)) ≤ 10000000 := by simp <;> omega
          have HP := Lib.hid (put_ok HS.out (HLo.out hlo) HN.out)
          clear hA' hfr0
          go_wp2_with (first | (refine wpList_nums _ rfl _ _ rfl wr ([] ++ l.take (k + 1) ++ [n]) _ rfl HV2 _ _ _ _ (l.drop (k + 1)) rfl HLd.out (HD.out.kept HV2.2) hb3 ?_; intro v3 w3 HV3 _) | (refine wpList_nums _ rfl _ _ rfl wr ([] ++ l.take (k + 1)) _ rfl (HV1.alloc _) _ _ 1 1 [n] rfl rfl (CellsAt.one _ (.int .i64 n) _ _ rfl) hb2 ?_; intro v2 w2 HV2 _) | (refine wpList_nums _ rfl _ _ rfl wr [] _ rfl (Ints.nil wr) _ _ _ _ (l.take (k + 1)) rfl HL.out HTk.out hb1 ?_; intro v1 w1 HV1 _))
          obtain ⟨A3, c3, rfl, hc3⟩ := HV3.slice_le
          have HC3 := Lib.hid hc3
          clear hc3
          go_ret
          exact ⟨_, A3, c3, HP.out.1, HP.out.2, by simp <;> omega, HC3.out, rfl, CellsAt.of_own HV3.1, HV3.2⟩
/-- What hands back who has a vote. -/
def Whod (l : List Vt) (w : World) (e : Ending) (w' : World) : Prop := ∃ R : List Int, (R.Pairwise fun a b => a < b) ∧ (∀ x, x ∈ R ↔ ∃ a ∈ l, a.f = x) ∧ R.length ≤ l.length ∧ NumsNew R w e w'
/-- How the loop of who stands. -/
def WhoLoop (l : List Vt) (w : World) (v i : Value) (w' : World) : Prop := ∃ (j : Nat) (R : List Int) (A' : Option Addr) (c' : Nat), j ≤ l.length ∧ i = .int .i64 (j : Nat) ∧ v = .slice A' R.length c' ∧ R.length ≤ c' ∧ CellsAt w' w'.heap.size A' (intCells R) ∧ (R.Pairwise fun a b => a < b) ∧ (∀ x, x ∈ R ↔ ∃ a ∈ l.take j, a.f = x) ∧ R.length ≤ j ∧ Kept w w'
theorem who_mem {M : List Vt} {x : Vt} {R S : List Int} (hR : ∀ y, y ∈ R ↔ ∃ a ∈ M, a.f = y) (hS : ∀ y, y ∈ S ↔ y ∈ R ∨ y = x.f) (y : Int) : y ∈ S ↔ ∃ a ∈ M ++ [x], a.f = y := by
  rw [hS, hR]
  constructor
  · rintro (⟨a, ha, e⟩ | e)
    · exact ⟨a, List.mem_append_left _ ha, e⟩
    · exact ⟨x, by simp, e.symm⟩
  · rintro ⟨a, ha, e⟩
    rcases List.mem_append.1 ha with h | h
    · exact Or.inl ⟨a, h, e⟩
    · rw [show a = x by simpa using h] at e; exact Or.inr e.symm

set_option maxRecDepth 100000 in
set_option maxHeartbeats 4000000 in
theorem refWho_any (A : Option Addr) (c : Nat) (l : List Vt) (hl : l.length ≤ 900000) (w : World) (hA : CellsAt w w.heap.size A (votesCells l)) :
    Calls Tryz.prog 52 #[.slice A l.length c] w (Whod l w) := by
  have HA := Lib.hid hA
  clear hA
  go_enter Tryz.func52, Tryz.ntmps52
  go_wp2_with fail
  go_loopw [3, 4] (fun v i w' => WhoLoop l w v i w') (fun _ i _ => l.length - (intOf i).toNat)
  case atStart => exact ⟨0, [], none, 0, by omega, rfl, rfl, by simp, CellsAt.nil, List.Pairwise.nil, fun x => by simp, by simp, Kept.refl _⟩
  case round =>
    obtain ⟨j, R, A1, c1, hj, rfl, rfl, hRc, hC, hP, hM, hRl, hK⟩ := hrel
    have HC := Lib.hid hC
    have HP := Lib.hid hP
    have HM := Lib.hid hM
    have HK := Lib.hid hK
    clear hC hP hM hK
    by_cases hlt : j < l.length
    · obtain ⟨z, o, rfl, hb, c0, _, _, _⟩ := vote_at (HA.out.kept HK.out) hlt
      have HT := Lib.hid (take_vt hlt)
      generalize l[j] = x at *
      go_wp2_with fail
      refine (refPut_any A1 c1 R (by omega) hRc HP.out x.f wr HC.out).mono ?_
      rintro e W1 ⟨S, A2, c2, hS, hSm, hSl, hSc, rfl, hc, k⟩
      have HS := Lib.hid hS
      have HSm := Lib.hid (who_mem HM.out hSm)
      have HSC := Lib.hid hc
      have HK1 := Lib.hid (HK.out.trans k)
      clear hS hSm hc k HK HC HP HM c0
      go_wp2_with fail
      go_roundw
      case rel => exact ⟨j + 1, S, A2, c2, by omega, by go_num, rfl, hSc, HSC.out, HS.out, by rw [HT.out]; exact HSm.out, by omega, HK1.out⟩
      case measure => simp [intOf]; omega
    · have hjl : j = l.length := by omega
      subst hjl
      have HN := Lib.hid (show Whod l w (.returned (.slice A1 R.length c1)) wr from ⟨R, HP.out, by have := HM.out; rwa [List.take_length] at this, hRl, A1, c1, rfl, HC.out, HK.out⟩)
      go_wp2_with fail
      go_ret
      exact HN.out

end Go.Proofs.YtlapcnfhnfkbmaaGreat
