/-
  The contract of marigoldref07.Last.
-/
import Derived.Deep.RegionHeld3
import Derived.Test.YteamjjkmcomabaaVoteRefOf
namespace Go.Proofs.Yteamjjkmcomabaa
set_option maxRecDepth 100000
set_option linter.unusedVariables false
set_option linter.unusedSimpArgs false
open Go.ChangeShapes Go.WideShapes Go.ChangeAt Go.RowKit

/-- Where the last one is, of the first ones, and whether somebody is double. -/
def LastUp (l : List Vt) (u f : Int) (M : List Vt) (p : Int) (bad : Bool) : Prop :=
  (p = -1 ∧ bad = false ∧ ∀ a ∈ M, ¬ (a.f = f ∧ a.s ≤ u)) ∨ ∃ (n : Nat) (hn : n < l.length), p = (n : Int) ∧ l[n].f = f ∧ l[n].s ≤ u ∧ (∀ a ∈ M, a.f = f → a.s ≤ u → a.s ≤ l[n].s) ∧ (bad = true ↔ ∃ a ∈ M, a.f = f ∧ a.s ≤ u ∧ Dbl l a.s f)
theorem LastUp.skip {l : List Vt} {u f : Int} {M : List Vt} {p : Int} {bad : Bool} (h : LastUp l u f M p bad) {y : Vt} (hy : ¬ (y.f = f ∧ y.s ≤ u)) : LastUp l u f (M ++ [y]) p bad := by
  have hm : ∀ a ∈ M ++ [y], a.f = f → a.s ≤ u → a ∈ M := fun a ha h1 h2 => by
    rcases List.mem_append.1 ha with k | k
    · exact k
    · rw [show a = y by simpa using k] at h1 h2; exact absurd ⟨h1, h2⟩ hy
  rcases h with ⟨h1, h2, h3⟩ | ⟨n, hn, h1, h2, h3, h4, h5⟩
  · exact Or.inl ⟨h1, h2, fun a ha q => h3 a (hm a ha q.1 q.2) q⟩
  · refine Or.inr ⟨n, hn, h1, h2, h3, fun a ha q1 q2 => h4 a (hm a ha q1 q2) q1 q2, h5.trans ⟨?_, ?_⟩⟩
    · rintro ⟨a, ha, r⟩; exact ⟨a, List.mem_append_left _ ha, r⟩
    · rintro ⟨a, ha, r1, r2, r3⟩; exact ⟨a, hm a ha r1 r2, r1, r2, r3⟩
theorem bad_snoc {l : List Vt} {u f : Int} {M : List Vt} {bad : Bool} (h : bad = true ↔ ∃ a ∈ M, a.f = f ∧ a.s ≤ u ∧ Dbl l a.s f) {y : Vt} (h1 : y.f = f) (h2 : y.s ≤ u) : (bad || dblB l y.s f) = true ↔ ∃ a ∈ M ++ [y], a.f = f ∧ a.s ≤ u ∧ Dbl l a.s f := by
  rw [Bool.or_eq_true, h, dblB_iff]
  constructor
  · rintro (⟨a, ha, r⟩ | d)
    · exact ⟨a, List.mem_append_left _ ha, r⟩
    · exact ⟨y, by simp, h1, h2, d⟩
  · rintro ⟨a, ha, r⟩
    rcases List.mem_append.1 ha with k | k
    · exact Or.inl ⟨a, k, r⟩
    · rw [show a = y by simpa using k] at r; exact Or.inr r.2.2
theorem LastUp.first {l : List Vt} {u f : Int} {M : List Vt} {bad : Bool} (h : LastUp l u f M (-1) bad) {k : Nat} (hk : k < l.length) {y : Vt} (hy : y = l[k]) (h1 : y.f = f) (h2 : y.s ≤ u) : bad = false ∧ LastUp l u f (M ++ [y]) (k : Int) (dblB l y.s f) := by
  rcases h with ⟨_, h3, h4⟩ | ⟨n, _, h3, _⟩
  · refine ⟨h3, Or.inr ⟨k, hk, rfl, by rw [← hy]; exact h1, by rw [← hy]; exact h2, fun a ha q1 q2 => ?_, ?_⟩⟩
    · rcases List.mem_append.1 ha with q | q
      · exact absurd ⟨q1, q2⟩ (h4 a q)
      · rw [show a = y by simpa using q, hy]; exact Int.le_refl _
    · have hb : (false = true) ↔ ∃ a ∈ M, a.f = f ∧ a.s ≤ u ∧ Dbl l a.s f := by
        constructor
        · intro e; cases e
        · rintro ⟨a, ha, q1, q2, _⟩; exact absurd ⟨q1, q2⟩ (h4 a ha)
      have := bad_snoc (M := M) (bad := false) hb h1 h2
      simpa using this
  · omega
theorem LastUp.later {l : List Vt} {u f : Int} {M : List Vt} {n : Nat} {bad : Bool} (h : LastUp l u f M (n : Int) bad) (hn : n < l.length) {k : Nat} (hk : k < l.length) {y : Vt} (hy : y = l[k]) (h1 : y.f = f) (h2 : y.s ≤ u) (hlt : l[n].s < y.s) : LastUp l u f (M ++ [y]) (k : Int) (bad || dblB l y.s f) := by
  rcases h with ⟨h3, _⟩ | ⟨m, hm, h3, _, _, h4, h5⟩
  · omega
  · have : m = n := by omega
    subst this
    refine Or.inr ⟨k, hk, rfl, by rw [← hy]; exact h1, by rw [← hy]; exact h2, fun a ha q1 q2 => ?_, bad_snoc h5 h1 h2⟩
    rcases List.mem_append.1 ha with q | q
    · have := h4 a q q1 q2; rw [← hy]; omega
    · rw [show a = y by simpa using q, hy]; exact Int.le_refl _
theorem LastUp.stay {l : List Vt} {u f : Int} {M : List Vt} {n : Nat} {bad : Bool} (h : LastUp l u f M (n : Int) bad) (hn : n < l.length) {y : Vt} (h1 : y.f = f) (h2 : y.s ≤ u) (hlt : ¬ l[n].s < y.s) : LastUp l u f (M ++ [y]) (n : Int) (bad || dblB l y.s f) := by
  rcases h with ⟨h3, _⟩ | ⟨m, hm, h3, h6, h7, h4, h5⟩
  · omega
  · have : m = n := by omega
    subst this
    refine Or.inr ⟨m, hm, rfl, h6, h7, fun a ha q1 q2 => ?_, bad_snoc h5 h1 h2⟩
    rcases List.mem_append.1 ha with q | q
    · exact h4 a q q1 q2
    · rw [show a = y by simpa using q]; omega
theorem LastUp.at_ {l : List Vt} {u f : Int} {M : List Vt} {p : Int} {bad : Bool} (h : LastUp l u f M p bad) : (p = -1 ∧ bad = false) ∨ ∃ n : Nat, n < l.length ∧ p = (n : Int) := by
  rcases h with ⟨h1, h2, _⟩ | ⟨n, hn, h1, _⟩
  · exact Or.inl ⟨h1, h2⟩
  · exact Or.inr ⟨n, hn, h1⟩
theorem LastUp.none_ {l : List Vt} {u f : Int} {bad : Bool} (h : LastUp l u f l (-1) bad) : ∀ v, Cnt l (upQ u) v → v.f ≠ f := fun v hv e => by
  rcases h with ⟨_, _, h1⟩ | ⟨n, _, h1, _⟩
  · exact h1 v hv.1 ⟨e, upQ_iff.1 hv.2.1⟩
  · omega
theorem LastUp.bad_ {l : List Vt} {u f : Int} {n : Nat} (h : LastUp l u f l (n : Int) true) : ∀ v, Cnt l (upQ u) v → v.f ≠ f := fun v hv e => by
  rcases h with ⟨h1, _⟩ | ⟨m, _, _, _, _, _, h5⟩
  · omega
  · obtain ⟨a, ha, h1, h2, h3⟩ := h5.1 rfl
    exact hv.2.2.1 a.s (upQ_iff.2 h2) (by rw [e]; exact h3)
theorem LastUp.good_ {l : List Vt} {u f : Int} {n : Nat} (h : LastUp l u f l (n : Int) false) (hn : n < l.length) : Cnt l (upQ u) l[n] ∧ l[n].f = f := by
  rcases h with ⟨h1, _⟩ | ⟨m, hm, h1, h2, h3, h4, h5⟩
  · omega
  · have : m = n := by omega
    subst this
    refine ⟨⟨List.getElem_mem hn, upQ_iff.2 h3, fun s hs d => ?_, fun a ha e hq => h4 a ha (e.trans h2) (upQ_iff.1 hq)⟩, h2⟩
    rw [h2] at d
    obtain ⟨a, ha, b, hb, q1, q2, q3, q4, ne⟩ := d
    have := h5.2 ⟨a, ha, q1, by rw [q3]; exact upQ_iff.1 hs, a, ha, b, hb, q1, q2, rfl, by rw [q4, q3], ne⟩
    cases this
theorem keepT {W w w' : World} {b o d p : Nat} {x0 x1 : Value} (hb : b < W.heap.size) (hd : d < W.heap.size) (h : w.cell? ⟨b, o, none⟩ = some x0 ∧ w.cell? ⟨d, p, none⟩ = some x1 ∧ Kept W w) (k : Kept w w') : w'.cell? ⟨b, o, none⟩ = some x0 ∧ w'.cell? ⟨d, p, none⟩ = some x1 ∧ Kept W w' :=
  ⟨(k.cell (p := ⟨b, o, none⟩) (Nat.lt_of_lt_of_le hb h.2.2.size_le)).trans h.1, (k.cell (p := ⟨d, p, none⟩) (Nat.lt_of_lt_of_le hd h.2.2.size_le)).trans h.2.1, h.2.2.trans k⟩

set_option maxRecDepth 100000 in
set_option maxHeartbeats 8000000 in
theorem refLast_any (A : Option Addr) (c : Nat) (l : List Vt) (hl : l.length ≤ 900000) (upto : Int) (w : World) (hA : CellsAt w w.heap.size A (votesCells l)) :
    Calls Try.prog 27 #[.slice A l.length c, .int .i64 upto] w (Counted l (upQ upto) w) := by
  have HA := Lib.hid hA
  clear hA
  go_enter Try.func27, Try.ntmps27
  go_wp2_with fail
  refine (refWho_any A c l hl w HA.out).mono ?_
  rintro e W ⟨N, hP, hM, hNl, A1, c1, rfl, hC, k⟩
  have HP := Lib.hid hP
  have HM := Lib.hid hM
  have HC := Lib.hid hC
  have HA1 := Lib.hid (HA.out.kept k)
  have HK := Lib.hid k
  clear hP hM hC k HA
  go_wp2_with fail
  go_loopw [5, 7] (fun v i w' => ∃ (j : Nat) (R : List Vt), j ≤ N.length ∧ i = .int .i64 (j : Nat) ∧ Vts W R v w' ∧ CUp l (upQ upto) (N.take j) R ∧ R.length ≤ j) (fun _ i _ => N.length - (intOf i).toNat)
  case atStart => exact ⟨0, [], by omega, rfl, Vts.nil W, ⟨List.Pairwise.nil, fun x => by simp⟩, by simp⟩
  case round =>
    obtain ⟨j, R, hj, rfl, hV, hU, hRl⟩ := hrel
    have HV := Lib.hid hV
    have HU := Lib.hid hU
    clear hV hU
    by_cases hlt : j < N.length
    · have HT := Lib.hid (take_num hlt)
      have HB := Lib.hid (rise_below HP.out hlt)
      obtain ⟨f, hf⟩ : ∃ f, f = N[j]'hlt := ⟨_, rfl⟩
      rw [← hf] at HT HB
      have HF := Lib.hid hf
      clear hf
      have hll : R.length + 1 ≤ 10000000 := by omega
      go_wp2_with fail
      generalize wr = V0 at *
      go_loopw [8, 9, 10] (fun a b i w' => ∃ (k : Nat) (p : Int) (bad : Bool), k ≤ l.length ∧ i = .int .i64 (k : Nat) ∧ a = .int .i64 p ∧ b = .bool bad ∧ LastUp l upto f (l.take k) p bad ∧ Kept V0 w') (fun _ _ i _ => l.length - (intOf i).toNat)
      case atStart => exact ⟨0, -1, false, by omega, rfl, rfl, rfl, Or.inl ⟨rfl, rfl, fun a ha => by simp at ha⟩, Kept.refl _⟩
      case round =>
        obtain ⟨k, p, bad, hk, rfl, rfl, rfl, hI, hKr⟩ := hrel
        have HI := Lib.hid hI
        have HQ := Lib.hid (HV.out.kept hKr)
        have HQ0 := Lib.hid hKr
        clear hI hKr
        by_cases hlk : k < l.length
        · obtain ⟨za, oa, rfl, hba, d0, d1, _, _⟩ := vote_at (HA1.out.kept HQ.out.2) hlk
          obtain ⟨z, o, rfl, hbz, c0⟩ := num_at (HC.out.kept HQ.out.2) hlt
          rw [← HF.out] at c0
          have HTk := Lib.hid (take_vt hlk)
          obtain ⟨y, hy⟩ : ∃ y, y = l[k]'hlk := ⟨_, rfl⟩
          rw [← hy] at d0 d1 HTk
          have HE := Lib.hid hy
          clear hy
          by_cases h1 : y.f = f
          · by_cases h2 : y.s ≤ upto
            · have HDF := Lib.hid (show ∀ n : Nat, n < l.length → p = (n : Int) → True from fun _ _ _ => trivial)
              clear HDF
              have h2b : decide (upto < y.s) = false := decide_eq_false (by omega)
              have HH1 := Lib.hid h1
              have HH2 := Lib.hid h2
              rw [h1] at d0
              go_wp2_with fail
              go_quiet (fail)
              have d1q : (wr.drewN nq).cell? ⟨za, oa + k * 4 + 1, none⟩ = some (.int .i64 y.s) := d1
              have c0q : (wr.drewN nq).cell? ⟨z, o + j, none⟩ = some (.int .i64 f) := c0
              have HX0 := Lib.hid (HQ0.out.drewN nq)
              have HAX := Lib.hid (HA1.out.kept (HQ.out.2.drewN nq))
              have HVX := Lib.hid (HQ.out.kept ((Kept.refl wr).drewN nq))
              have hzb : za < (wr.drewN nq).heap.size := hba
              have hzo : z < (wr.drewN nq).heap.size := hbz
              clear c0 d0 d1 h1 h2 h2b HQ HQ0
              generalize wr.drewN nq = V1 at *
              go_wp2_with fail
              have XD := Lib.hid (fun w' (h : Kept V1 w') => refDouble_any _ c l (by omega) y.s f w' (HAX.out.kept h))
              have hq := (⟨d1q, c0q, Kept.refl V1⟩ : _ ∧ _ ∧ _)
              go_region_held3 (fun w' => w'.cell? ⟨za, oa + k * 4 + 1, none⟩ = some (.int .i64 y.s) ∧ w'.cell? ⟨z, o + j, none⟩ = some (.int .i64 f) ∧ Kept V1 w')
                (first | exact ⟨d1q, c0q, (Kept.refl _).drew⟩ | assumption | exact keepT hzb hzo (by assumption) (by assumption))
                (first | (go_at_call 51; ((with_reducible refine (XD.out _ ((by assumption : _ ∧ _ ∧ Kept V1 _).2.2)).mono ?_); rintro e x1 ⟨rfl, kk⟩)))
              rename_i hh
              have HX := Lib.hid (HX0.out.trans hh.2.2)
              have HAY := Lib.hid (HAX.out.kept hh.2.2)
              have e1 := hh.1
              clear hh hq d1q c0q XD HX0 HAX HVX hzb hzo kk
              generalize x1 = V2 at *
              rcases HI.out.at_ with ⟨rfl, rfl⟩ | ⟨n, hn, rfl⟩
              · have HD := Lib.hid (HI.out.first hlk HE.out HH1.out HH2.out).2
                generalize dblB l y.s f = d at *
                go_wp2_with fail
                go_quiet (fail)
                go_wp2_with fail
                go_roundw
                case rel => exact ⟨k + 1, (k : Int), d, by omega, by go_num, rfl, rfl, by rw [HTk.out]; exact HD.out, HX.out.drewN _⟩
                case measure => simp [intOf]; omega
              · obtain ⟨zb, ob, ez, _, g0, g1, g2, g3⟩ := vote_at HAY.out hn
                obtain ⟨rfl, rfl⟩ : za = zb ∧ oa = ob := by injection ez with ez; injection ez with q1 q2; exact ⟨q1, q2⟩
                clear ez g0 g2 g3
                by_cases hs : l[n].s < y.s
                · have HD := Lib.hid (HI.out.later hn hlk HE.out HH1.out HH2.out hs)
                  have hsb : decide (l[n].s < y.s) = true := decide_eq_true hs
                  generalize l[n].s = ys at *
                  generalize dblB l y.s f = d at *
                  cases bad with
                  | true =>
                    go_wp2_with fail
                    go_quiet (fail)
                    go_wp2_with fail
                    go_roundw
                    case rel => exact ⟨k + 1, (k : Int), true, by omega, by go_num, rfl, rfl, by rw [HTk.out]; exact HD.out, HX.out.drewN _⟩
                    case measure => simp [intOf]; omega
                  | false =>
                    go_wp2_with fail
                    go_quiet (fail)
                    go_wp2_with fail
                    go_roundw
                    case rel => exact ⟨k + 1, (k : Int), d, by omega, by go_num, rfl, rfl, by rw [HTk.out]; exact HD.out, HX.out.drewN _⟩
                    case measure => simp [intOf]; omega
                · have HD := Lib.hid (HI.out.stay hn HH1.out HH2.out hs)
                  have hsb : decide (l[n].s < y.s) = false := decide_eq_false hs
                  clear hs
                  generalize l[n].s = ys at *
                  generalize dblB l y.s f = d at *
                  cases bad with
                  | true =>
                    go_wp2_with fail
                    go_quiet (fail)
                    go_wp2_with fail
                    go_roundw
                    case rel => exact ⟨k + 1, (n : Int), true, by omega, by go_num, rfl, rfl, by rw [HTk.out]; exact HD.out, HX.out.drewN _⟩
                    case measure => simp [intOf]; omega
                  | false =>
                    go_wp2_with fail
                    go_quiet (fail)
                    go_wp2_with fail
                    go_roundw
                    case rel => exact ⟨k + 1, (n : Int), d, by omega, by go_num, rfl, rfl, by rw [HTk.out]; exact HD.out, HX.out.drewN _⟩
                    case measure => simp [intOf]; omega
            · have HD := Lib.hid (HI.out.skip (y := y) (fun q => h2 q.2))
              rw [h1] at d0
              have h2b : decide (upto < y.s) = true := decide_eq_true (by omega)
              clear h1 h2
              go_wp2_with fail
              go_quiet (fail)
              go_wp2_with fail
              go_roundw
              case rel => exact ⟨k + 1, p, bad, by omega, by go_num, rfl, rfl, by rw [HTk.out]; exact HD.out, HQ0.out.drewN _⟩
              case measure => simp [intOf]; omega
          · have HD := Lib.hid (HI.out.skip (y := y) (fun q => h1 q.1))
            have h1c : (y.f != f) = true := by simp [h1]
            go_wp2_with fail
            go_quiet (fail)
            go_wp2_with fail
            go_roundw
            case rel => exact ⟨k + 1, p, bad, by omega, by go_num, rfl, rfl, by rw [HTk.out]; exact HD.out, HQ0.out.drewN _⟩
            case measure => simp [intOf]; omega
        · have hkl : k = l.length := by omega
          subst hkl
          have HI2 := Lib.hid (show LastUp l upto f l p bad by have := HI.out; rwa [List.take_length] at this)
          clear HI
          rcases HI2.out.at_ with ⟨rfl, rfl⟩ | ⟨n, hn, rfl⟩
          · have HD := Lib.hid (HU.out.no (f := f) HI2.out.none_)
            go_wp2_with fail
            go_roundw
            case rel => exact ⟨j + 1, R, by omega, by go_num, HQ.out, by rw [HT.out]; exact HD.out, by omega⟩
            case measure => simp [intOf]; omega
          · cases bad with
            | true =>
              have HD := Lib.hid (HU.out.no (f := f) HI2.out.bad_)
              go_wp2_with fail
              go_roundw
              case rel => exact ⟨j + 1, R, by omega, by go_num, HQ.out, by rw [HT.out]; exact HD.out, by omega⟩
              case measure => simp [intOf]; omega
            | false =>
              have HD := Lib.hid (HU.out.yes HB.out (HI2.out.good_ hn).1 (HI2.out.good_ hn).2)
              obtain ⟨zb, ob, rfl, _, g0, g1, g2, g3⟩ := vote_at (HA1.out.kept HQ.out.2) hn
              generalize l[n] = y at *
              go_wp2_with (refine wpList_vts _ rfl _ _ rfl W R _ rfl (HQ.out.alloc _) _ _ 1 1 [y] rfl rfl (votes_one_at (HasCells.new _ _ _ _ rfl)) hll ?_; intro v' w' HV' _)
              go_roundw
              case rel => exact ⟨j + 1, R ++ [y], by omega, by go_num, HV', by rw [HT.out]; exact HD.out, by simp; omega⟩
              case measure => simp [intOf]; omega
    · have hjl : j = N.length := by omega
      subst hjl
      have HD := Lib.hid (HU.out.done (by rw [List.take_length]; exact HM.out))
      obtain ⟨A', c', rfl⟩ := HV.out.slice
      have HN := Lib.hid (show Counted l (upQ upto) w (.returned (.slice A' R.length c')) wr from ⟨R, HD.out, by omega, A', c', rfl, CellsAt.of_own HV.out.1, HK.out.trans HV.out.2⟩)
      go_wp2_with fail
      go_ret
      exact HN.out

end Go.Proofs.Yteamjjkmcomabaa
