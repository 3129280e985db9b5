/-
  The contracts of marigoldref07.Doubles and Of.
-/
import Derived.Test.YtlapcnfhnfkbmaaGreatVoteRefPut
import Derived.Test.YtlapcnfhnfkbmaaGreatVoteG
namespace Go.Proofs.YtlapcnfhnfkbmaaGreat
set_option maxRecDepth 100000
set_option linter.unusedVariables false
set_option linter.unusedSimpArgs false
open Go.ChangeShapes Go.WideShapes Go.ChangeAt Go.RowKit

theorem take_num {N : List Int} {j : Nat} (h : j < N.length) : N.take (j + 1) = N.take j ++ [N[j]] := List.take_succ_eq_append_getElem h
theorem rise_below {N : List Int} (hN : N.Pairwise fun a b => a < b) {j : Nat} (h : j < N.length) : ∀ x ∈ N.take j, x < N[j] := fun x hx => by
  obtain ⟨i, hi, rfl⟩ := List.mem_iff_getElem.1 hx
  rw [List.length_take] at hi
  rw [List.getElem_take]
  exact List.pairwise_iff_getElem.1 hN i j (by omega) h (by omega)
/-- Who is double, of the first ones. -/
def DUp (l : List Vt) (s : Int) (N R : List Int) : Prop := (R.Pairwise fun a b => a < b) ∧ (∀ x, x ∈ R ↔ x ∈ N ∧ Dbl l s x)
theorem DUp.yes {l : List Vt} {s : Int} {M R : List Int} {f : Int} (h : DUp l s M R) (hb : ∀ x ∈ M, x < f) (hd : Dbl l s f) : DUp l s (M ++ [f]) (R ++ [f]) := by
  refine ⟨?_, fun x => ?_⟩
  · rw [List.pairwise_append]
    refine ⟨h.1, List.pairwise_singleton _ _, fun a ha b hb' => ?_⟩
    rw [show b = f by simpa using hb']
    exact hb a ((h.2 a).1 ha).1
  · rw [List.mem_append, h.2 x, List.mem_append]
    constructor
    · rintro (⟨h1, h2⟩ | h1)
      · exact ⟨Or.inl h1, h2⟩
      · have : x = f := by simpa using h1
        rw [this]; exact ⟨Or.inr (by simp), hd⟩
    · rintro ⟨h1 | h1, h2⟩
      · exact Or.inl ⟨h1, h2⟩
      · exact Or.inr h1
theorem DUp.no {l : List Vt} {s : Int} {M R : List Int} {f : Int} (h : DUp l s M R) (hd : ¬ Dbl l s f) : DUp l s (M ++ [f]) R := by
  refine ⟨h.1, fun x => ?_⟩
  rw [h.2 x, List.mem_append]
  constructor
  · rintro ⟨h1, h2⟩; exact ⟨Or.inl h1, h2⟩
  · rintro ⟨h1 | h1, h2⟩
    · exact ⟨h1, h2⟩
    · rw [show x = f by simpa using h1] at h2; exact absurd h2 hd
theorem DUp.done {l : List Vt} {s : Int} {N R : List Int} (h : DUp l s N R) (hN : ∀ x, x ∈ N ↔ ∃ a ∈ l, a.f = x) : Dbls l s R := by
  refine ⟨h.1, fun x => (h.2 x).trans ⟨fun k => k.2, fun d => ⟨(hN x).2 ?_, d⟩⟩⟩
  obtain ⟨a, ha, _, _, h1, _⟩ := d
  exact ⟨a, ha, h1⟩
/-- The votes that count, of the first ones. -/
def CUp (l : List Vt) (q : Int → Bool) (N : List Int) (R : List Vt) : Prop := (R.Pairwise fun a b => a.f < b.f) ∧ (∀ u, u ∈ R ↔ u.f ∈ N ∧ Cnt l q u)
theorem CUp.yes {l : List Vt} {q : Int → Bool} {M : List Int} {R : List Vt} {f : Int} (h : CUp l q M R) (hb : ∀ x ∈ M, x < f) {v : Vt} (hv : Cnt l q v) (hf : v.f = f) : CUp l q (M ++ [f]) (R ++ [v]) := by
  refine ⟨?_, fun u => ?_⟩
  · rw [List.pairwise_append]
    refine ⟨h.1, List.pairwise_singleton _ _, fun a ha b hb' => ?_⟩
    rw [show b = v by simpa using hb', hf]
    exact hb a.f ((h.2 a).1 ha).1
  · rw [List.mem_append, h.2 u, List.mem_append]
    constructor
    · rintro (⟨h1, h2⟩ | h1)
      · exact ⟨Or.inl h1, h2⟩
      · have : u = v := by simpa using h1
        rw [this]; exact ⟨Or.inr (by simp [hf]), hv⟩
    · rintro ⟨h1 | h1, h2⟩
      · exact Or.inl ⟨h1, h2⟩
      · right
        rw [cnt_one h2 hv ((show u.f = f by simpa using h1).trans hf.symm)]
        simp
theorem CUp.no {l : List Vt} {q : Int → Bool} {M : List Int} {R : List Vt} {f : Int} (h : CUp l q M R) (hd : ∀ u, Cnt l q u → u.f ≠ f) : CUp l q (M ++ [f]) R := by
  refine ⟨h.1, fun u => ?_⟩
  rw [h.2 u, List.mem_append]
  constructor
  · rintro ⟨h1, h2⟩; exact ⟨Or.inl h1, h2⟩
  · rintro ⟨h1 | h1, h2⟩
    · exact ⟨h1, h2⟩
    · exact absurd (show u.f = f by simpa using h1) (hd u h2)
theorem CUp.done {l : List Vt} {q : Int → Bool} {N : List Int} {R : List Vt} (h : CUp l q N R) (hN : ∀ x, x ∈ N ↔ ∃ a ∈ l, a.f = x) : Cnts l q R :=
  ⟨h.1, fun u => (h.2 u).trans ⟨fun k => k.2, fun c => ⟨(hN _).2 ⟨u, c.1, rfl⟩, c⟩⟩⟩

set_option maxRecDepth 100000 in
set_option maxHeartbeats 4000000 in
theorem refOfV_any (A : Option Addr) (c : Nat) (l : List Vt) (hl : l.length ≤ 900000) (slot : Int) (w : World) (hA : CellsAt w w.heap.size A (votesCells l)) :
    Calls Tryz.prog 30 #[.slice A l.length c, .int .i64 slot] w (Counted l (isQ slot) w) := by
  have HA := Lib.hid hA
  clear hA
  go_enter Tryz.func30, Tryz.ntmps30
  go_wp2_with fail
  refine (refWho_any A c l hl w HA.out).mono ?_
  rintro e W ⟨N, hP, hM, hNl, A1, c1, rfl, hC, k⟩
  have HP := Lib.hid hP
  have HM := Lib.hid hM
  have HC := Lib.hid hC
  have HA1 := Lib.hid (HA.out.kept k)
  have HK := Lib.hid k
  clear hP hM hC k HA
  go_wp2_with fail
  go_loopw [5, 7] (fun v i w' => ∃ (j : Nat) (R : List Vt), j ≤ N.length ∧ i = .int .i64 (j : Nat) ∧ Vts W R v w' ∧ CUp l (isQ slot) (N.take j) R ∧ R.length ≤ j) (fun _ i _ => N.length - (intOf i).toNat)
  case atStart => exact ⟨0, [], by omega, rfl, Vts.nil W, ⟨List.Pairwise.nil, fun x => by simp⟩, by simp⟩
  case round =>
    obtain ⟨j, R, hj, rfl, hV, hU, hRl⟩ := hrel
    have HV := Lib.hid hV
    have HU := Lib.hid hU
    clear hV hU
    by_cases hlt : j < N.length
    · obtain ⟨z, o, rfl, hb, c0⟩ := num_at (HC.out.kept HV.out.2) hlt
      have HT := Lib.hid (take_num hlt)
      have HB := Lib.hid (rise_below HP.out hlt)
      obtain ⟨f, hf⟩ : ∃ f, f = N[j] := ⟨_, rfl⟩
      rw [← hf] at c0 HT HB
      have HF := Lib.hid hf
      clear hf
      go_wp2_with fail
      refine (refDouble_any A c l (by omega) slot f wr (HA1.out.kept HV.out.2)).mono ?_
      rintro e W1 ⟨rfl, k⟩
      have HV1 := Lib.hid (HV.out.kept k)
      clear k c0 HV
      have hll : R.length + 1 ≤ 10000000 := by omega
      cases hd : dblB l slot f with
      | true =>
        have HD := Lib.hid (HU.out.no (f := f) (fun u hu e => hu.2.2.1 slot (isQ_iff.2 rfl) (by rw [e]; exact dblB_iff.1 hd)))
        clear hd
        go_wp2_with fail
        go_roundw
        case rel => exact ⟨j + 1, R, by omega, by go_num, HV1.out, by rw [HT.out]; exact HD.out, by omega⟩
        case measure => simp [intOf]; omega
      | false =>
        have HND := Lib.hid (show ¬ Dbl l slot f from fun d => by rw [dblB_iff.2 d] at hd; cases hd)
        clear hd
        go_wp2_with fail
        generalize W1 = V0 at *
        obtain ⟨u0, hu0⟩ : ∃ u0, u0 = u5 := ⟨_, rfl⟩
        have HV0 := Lib.hid (show Vts W R u0 V0 by rw [hu0]; exact HV1.out)
        rw [← hu0]
        clear hu0 HV1
        go_loopw [5, 9] (fun v i w' => ∃ k : Nat, k ≤ l.length ∧ i = .int .i64 (k : Nat) ∧ v = u0 ∧ Kept V0 w' ∧ ∀ b ∈ l.take k, ¬ (b.f = f ∧ b.s = slot)) (fun _ i _ => l.length - (intOf i).toNat)
        case atStart => exact ⟨0, by omega, rfl, rfl, Kept.refl _, fun b hb => by simp at hb⟩
        case round =>
          obtain ⟨k, hk, rfl, rfl, hKr, hN2⟩ := hrel
          have HQ := Lib.hid (HV0.out.kept hKr)
          have HQ0 := Lib.hid hKr
          have HN2 := Lib.hid hN2
          clear hKr hN2
          by_cases hlk : k < l.length
          · obtain ⟨za, oa, rfl, hba, d0, d1, d2, d3⟩ := vote_at (HA1.out.kept HQ.out.2) hlk
            obtain ⟨zz, oo, ez, _, c0⟩ := num_at (HC.out.kept HQ.out.2) hlt
            obtain ⟨rfl, rfl⟩ : z = zz ∧ o = oo := by injection ez with ez; injection ez with e1 e2; exact ⟨e1, e2⟩
            rw [← HF.out] at c0
            clear ez
            have HTk := Lib.hid (take_vt hlk)
            have HY := Lib.hid (List.getElem_mem hlk)
            obtain ⟨y, hy⟩ : ∃ y, y = l[k]'hlk := ⟨_, rfl⟩
            rw [← hy] at d0 d1 d2 d3 HTk HY
            have HE := Lib.hid hy
            clear hy
            by_cases h1 : y.f = f
            · by_cases h2 : y.s = slot
              · have HCt := Lib.hid (show Cnt l (isQ slot) y from by have := own_counts HY.out (by rw [h1, h2]; exact HND.out); rw [h2] at this; exact this)
                have HD := Lib.hid (HU.out.yes HB.out HCt.out h1)
                rw [h1] at d0
                rw [h2] at d1
                go_wp2_with fail
                go_quiet (fail)
                have HQ2 := Lib.hid (HQ.out.kept ((Kept.refl wr).drewN nq))
                obtain ⟨zb, ob, ez, _, g0, g1, g2, g3⟩ := vote_at (HA1.out.kept HQ2.out.2) hlk
                obtain ⟨rfl, rfl⟩ : za = zb ∧ oa = ob := by injection ez with ez; injection ez with e1 e2; exact ⟨e1, e2⟩
                rw [← HE.out] at g0 g1 g2 g3
                clear ez c0 d0 d1 d2 d3 h1 h2
                generalize wr.drewN nq = V1 at *
                go_wp2_with (refine wpList_vts _ rfl _ _ rfl W R _ rfl (HQ2.out.alloc _) _ _ 1 1 [y] rfl rfl (votes_one_at (HasCells.new _ _ _ _ rfl)) hll ?_; intro v' w' HV' _)
                go_roundw
                case rel => exact ⟨j + 1, R ++ [y], by omega, by go_num, HV', by rw [HT.out]; exact HD.out, by simp; omega⟩
                case measure => simp [intOf]; omega
              · have HNY := Lib.hid (show ¬ (y.f = f ∧ y.s = slot) from fun q => h2 q.2)
                rw [h1] at d0
                have h2b : (y.s == slot) = false := by simp [h2]
                clear h2
                go_wp2_with fail
                go_quiet (fail)
                go_wp2_with fail
                go_roundw
                case rel =>
                  refine ⟨k + 1, by omega, by go_num, rfl, HQ0.out.drewN _, ?_⟩
                  rw [HTk.out]
                  intro b hb
                  rcases List.mem_append.1 hb with h | h
                  · exact HN2.out b h
                  · rw [show b = y by simpa using h]; exact HNY.out
                case measure => simp [intOf]; omega
            · have HNY := Lib.hid (show ¬ (y.f = f ∧ y.s = slot) from fun q => h1 q.1)
              have h1b : (y.f == f) = false := by simp [h1]
              clear h1
              go_wp2_with fail
              go_quiet (fail)
              go_wp2_with fail
              go_roundw
              case rel =>
                refine ⟨k + 1, by omega, by go_num, rfl, HQ0.out.drewN _, ?_⟩
                rw [HTk.out]
                intro b hb
                rcases List.mem_append.1 hb with h | h
                · exact HN2.out b h
                · rw [show b = y by simpa using h]; exact HNY.out
              case measure => simp [intOf]; omega
          · have hkl : k = l.length := by omega
            subst hkl
            have HD := Lib.hid (HU.out.no (f := f) (fun u hu e => by have := HN2.out; rw [List.take_length] at this; exact this u hu.1 ⟨e, isQ_iff.1 hu.2.1⟩))
            go_wp2_with fail
            go_roundw
            case rel => exact ⟨j + 1, R, by omega, by go_num, HQ.out, by rw [HT.out]; exact HD.out, by omega⟩
            case measure => simp [intOf]; omega
    · have hjl : j = N.length := by omega
      subst hjl
      have HD := Lib.hid (HU.out.done (by rw [List.take_length]; exact HM.out))
      obtain ⟨A', c', rfl⟩ := HV.out.slice
      have HN := Lib.hid (show Counted l (isQ slot) w (.returned (.slice A' R.length c')) wr from ⟨R, HD.out, by omega, A', c', rfl, CellsAt.of_own HV.out.1, HK.out.trans HV.out.2⟩)
      go_wp2_with fail
      go_ret
      exact HN.out

end Go.Proofs.YtlapcnfhnfkbmaaGreat
