/-
  The contract of marigoldref07.double.
-/
import Derived.Test.YtlapcnfhnfkbmaaGreatVoteSame
namespace Go.Proofs.YtlapcnfhnfkbmaaGreat
set_option maxRecDepth 100000
set_option linter.unusedVariables false
set_option linter.unusedSimpArgs false
open Go.ChangeShapes Go.WideShapes Go.ChangeAt Go.RowKit

theorem dblB_dec (L : List Vt) (s f : Int) : ∃ b : Bool, b = true ↔ Dbl L s f := by
  by_cases h : Dbl L s f
  · exact ⟨true, by simp [h]⟩
  · exact ⟨false, by simp [h]⟩
/-- Is somebody double in a slot? -/
noncomputable def dblB (L : List Vt) (s f : Int) : Bool := (dblB_dec L s f).choose
theorem dblB_iff {L : List Vt} {s f : Int} : dblB L s f = true ↔ Dbl L s f := (dblB_dec L s f).choose_spec
theorem dblB_no {L : List Vt} {s f : Int} (h : ¬ Dbl L s f) : dblB L s f = false := by
  cases e : dblB L s f with
  | false => rfl
  | true => exact absurd (dblB_iff.1 e) h
def sameP (x y : Nat × Nat) : Bool := decide (x.1 = y.1 ∧ x.2 = y.2)
theorem eqP (x y : Nat × Nat) (w : World) : Sem.run Tryz.prog (Op.equalIn 10000 35 (.agg #[.int .u64 x.1, .int .u64 x.2]) (.agg #[.int .u64 y.1, .int .u64 y.2])) w = .ok (sameP x y) w := by
  rw [eqId10]
  congr 1
  rw [Bool.eq_iff_iff]
  unfold sameP
  simp
  omega
theorem sameP_yes {a b : Vt} (h : sameP a.p b.p = true) (h1 : a.f = b.f) (h2 : a.s = b.s) : a = b := by
  unfold sameP at h
  rw [decide_eq_true_iff] at h
  exact sameV_iff.1 (decide_eq_true ⟨h1, h2, h.1, h.2⟩)
theorem sameP_no {a b : Vt} (h : sameP a.p b.p = false) (h1 : a.f = b.f) (h2 : a.s = b.s) : a ≠ b := fun e => by
  subst e
  unfold sameP at h
  simp at h
theorem dbl_snoc {M : List Vt} {x : Vt} {s f : Int} (h : ¬ Dbl M s f) (hx : ∀ b ∈ M, ¬ (x.f = f ∧ b.f = f ∧ x.s = s ∧ b.s = s ∧ x ≠ b)) : ¬ Dbl (M ++ [x]) s f := by
  rintro ⟨a, ha, b, hb, h1, h2, h3, h4, ne⟩
  rcases List.mem_append.1 ha with ha' | ha
  · rcases List.mem_append.1 hb with hb | hb
    · exact h ⟨a, ha', b, hb, h1, h2, h3, h4, ne⟩
    · have : b = x := by simpa using hb
      subst this
      exact hx a ha' ⟨h2, h1, h4, h3, fun e => ne e.symm⟩
  · have : a = x := by simpa using ha
    subst this
    rcases List.mem_append.1 hb with hb | hb
    · exact hx b hb ⟨h1, h2, h3, h4, ne⟩
    · exact ne (show b = a by simpa using hb).symm

attribute [local go_sem high] eqP in
set_option maxRecDepth 100000 in
set_option maxHeartbeats 8000000 in
theorem refDouble_any (A : Option Addr) (c : Nat) (l : List Vt) (hl : l.length ≤ 1000000) (slot who : Int) (w : World) (hA : CellsAt w w.heap.size A (votesCells l)) :
    Calls Tryz.prog 53 #[.slice A l.length c, .int .i64 slot, .int .i64 who] w fun e w' => e = .returned (.bool (dblB l slot who)) ∧ Kept w w' := by
  have HA := Lib.hid hA
  clear hA
  go_enter Tryz.func53, Tryz.ntmps53
  go_wp2_with fail
  go_loopw [7] (fun i w' => ∃ j : Nat, j ≤ l.length ∧ i = .int .i64 (j : Nat) ∧ Kept w w' ∧ ¬ Dbl (l.take j) slot who) (fun i _ => l.length - (intOf i).toNat)
  case atStart => exact ⟨0, by omega, rfl, Kept.refl _, fun ⟨a, ha, _⟩ => by simp at ha⟩
  case round =>
    obtain ⟨j, hj, rfl, hKr, hN⟩ := hrel
    have HV := Lib.hid hKr
    have HN := Lib.hid hN
    clear hKr hN
    by_cases hlt : j < l.length
    · have HT := Lib.hid (take_vt hlt)
      have HX := Lib.hid (List.getElem_mem hlt)
      obtain ⟨x, hx⟩ : ∃ x, x = l[j] := ⟨_, rfl⟩
      rw [← hx] at HT HX
      have HE := Lib.hid hx
      clear hx
      go_wp2_with fail
      generalize wr = V0 at *
      go_loopw [8] (fun i w' => ∃ k : Nat, k ≤ j ∧ i = .int .i64 (k : Nat) ∧ Kept V0 w' ∧ ∀ b ∈ l.take k, ¬ (x.f = who ∧ b.f = who ∧ x.s = slot ∧ b.s = slot ∧ x ≠ b)) (fun i _ => j - (intOf i).toNat)
      case atStart => exact ⟨0, by omega, rfl, Kept.refl _, fun b hb => by simp at hb⟩
      case round =>
        obtain ⟨k, hk, rfl, hKr, hN2⟩ := hrel
        have HQ := Lib.hid hKr
        have HN2 := Lib.hid hN2
        clear hKr hN2
        by_cases hlk : k < j
        · have hkl : k < l.length := by omega
          obtain ⟨z, o, rfl, hb, c0, c1, c2, c3⟩ := vote_at (HA.out.kept (HV.out.trans HQ.out)) hlt
          obtain ⟨zz, oo, ez, _, d0, d1, d2, d3⟩ := vote_at (HA.out.kept (HV.out.trans HQ.out)) hkl
          obtain ⟨rfl, rfl⟩ : z = zz ∧ o = oo := by injection ez with ez; injection ez with e1 e2; exact ⟨e1, e2⟩
          clear ez
          rw [← HE.out] at c0 c1 c2 c3
          have HTk := Lib.hid (take_vt hkl)
          have HY := Lib.hid (List.getElem_mem hkl)
          obtain ⟨y, hy⟩ : ∃ y, y = l[k] := ⟨_, rfl⟩
          rw [← hy] at d0 d1 d2 d3 HTk HY
          clear hy
          by_cases h1 : x.f = who
          · by_cases h2 : y.f = who
            · by_cases h3 : x.s = slot
              · by_cases h4 : y.s = slot
                · cases hs : sameP x.p y.p with
                  | true =>
                    have HNY := Lib.hid (show ¬ (x.f = who ∧ y.f = who ∧ x.s = slot ∧ y.s = slot ∧ x ≠ y) from fun q => q.2.2.2.2 (sameP_yes hs (q.1.trans q.2.1.symm) (q.2.2.1.trans q.2.2.2.1.symm)))
                    rw [h1] at c0
                    rw [h2] at d0
                    rw [h3] at c1
                    rw [h4] at d1
                    clear h1 h2 h3 h4
                    go_wp2_with fail
                    go_quiet (fail)
                    go_wp2_with fail
                    go_roundw
                    case rel =>
                      refine ⟨k + 1, by omega, by go_num, HQ.out.drewN _, ?_⟩
                      rw [HTk.out]
                      intro b hb
                      rcases List.mem_append.1 hb with h | h
                      · exact HN2.out b h
                      · rw [show b = y by simpa using h]
                        exact HNY.out
                    case measure => simp [intOf]; omega
                  | false =>
                    have HD := Lib.hid (show dblB l slot who = true from dblB_iff.2 ⟨x, HX.out, y, HY.out, h1, h2, h3, h4, (sameP_no hs (h1.trans h2.symm) (h3.trans h4.symm))⟩)
                    rw [h1] at c0
                    rw [h2] at d0
                    rw [h3] at c1
                    rw [h4] at d1
                    clear h1 h2 h3 h4
                    go_wp2_with fail
                    go_quiet (fail)
                    go_wp2_with fail
                    go_ret
                    exact ⟨by rw [HD.out]; rfl, HV.out.trans (HQ.out.drewN _)⟩
                · have HNY := Lib.hid (show ¬ (x.f = who ∧ y.f = who ∧ x.s = slot ∧ y.s = slot ∧ x ≠ y) from fun q => h4 q.2.2.2.1)
                  have h4b : (y.s == slot) = false := by simp [h4]
                  clear h4
                  rw [h1] at c0
                  rw [h2] at d0
                  rw [h3] at c1
                  clear h1 h2 h3
                  go_wp2_with fail
                  go_quiet (fail)
                  go_wp2_with fail
                  go_roundw
                  case rel =>
                    refine ⟨k + 1, by omega, by go_num, HQ.out.drewN _, ?_⟩
                    rw [HTk.out]
                    intro b hb
                    rcases List.mem_append.1 hb with h | h
                    · exact HN2.out b h
                    · rw [show b = y by simpa using h]
                      exact HNY.out
                  case measure => simp [intOf]; omega
              · have HNY := Lib.hid (show ¬ (x.f = who ∧ y.f = who ∧ x.s = slot ∧ y.s = slot ∧ x ≠ y) from fun q => h3 q.2.2.1)
                have h3b : (x.s == slot) = false := by simp [h3]
                clear h3
                rw [h1] at c0
                rw [h2] at d0
                clear h1 h2
                go_wp2_with fail
                go_quiet (fail)
                go_wp2_with fail
                go_roundw
                case rel =>
                  refine ⟨k + 1, by omega, by go_num, HQ.out.drewN _, ?_⟩
                  rw [HTk.out]
                  intro b hb
                  rcases List.mem_append.1 hb with h | h
                  · exact HN2.out b h
                  · rw [show b = y by simpa using h]
                    exact HNY.out
                case measure => simp [intOf]; omega
            · have HNY := Lib.hid (show ¬ (x.f = who ∧ y.f = who ∧ x.s = slot ∧ y.s = slot ∧ x ≠ y) from fun q => h2 q.2.1)
              have h2b : (y.f == who) = false := by simp [h2]
              clear h2
              rw [h1] at c0
              clear h1
              go_wp2_with fail
              go_quiet (fail)
              go_wp2_with fail
              go_roundw
              case rel =>
                refine ⟨k + 1, by omega, by go_num, HQ.out.drewN _, ?_⟩
                rw [HTk.out]
                intro b hb
                rcases List.mem_append.1 hb with h | h
                · exact HN2.out b h
                · rw [show b = y by simpa using h]
                  exact HNY.out
              case measure => simp [intOf]; omega
          · have HNY := Lib.hid (show ¬ (x.f = who ∧ y.f = who ∧ x.s = slot ∧ y.s = slot ∧ x ≠ y) from fun q => h1 q.1)
            have h1b : (x.f == who) = false := by simp [h1]
            clear h1
            go_wp2_with fail
            go_quiet (fail)
            go_wp2_with fail
            go_roundw
            case rel =>
              refine ⟨k + 1, by omega, by go_num, HQ.out.drewN _, ?_⟩
              rw [HTk.out]
              intro b hb
              rcases List.mem_append.1 hb with h | h
              · exact HN2.out b h
              · rw [show b = y by simpa using h]
                exact HNY.out
            case measure => simp [intOf]; omega
        · have hkl : k = j := by omega
          subst hkl
          have HD := Lib.hid (dbl_snoc HN.out HN2.out)
          go_wp2_with fail
          go_roundw
          case rel => exact ⟨k + 1, by omega, by go_num, HV.out.trans HQ.out, by rw [HT.out]; exact HD.out⟩
          case measure => simp [intOf]; omega
    · have hjl : j = l.length := by omega
      subst hjl
      have HD := Lib.hid (show dblB l slot who = false from dblB_no (by have := HN.out; rwa [List.take_length] at this))
      go_wp2_with fail
      go_ret
      exact ⟨by rw [HD.out]; rfl, HV.out⟩

end Go.Proofs.YtlapcnfhnfkbmaaGreat
