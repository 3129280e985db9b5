/-
  The contract of Just of the given package marigoldref11: gone through as often as there are links, nothing more comes.
-/
import Derived.Test.YthgammhjoajhoaaGreatFfgPut
namespace Go.Proofs.YthgammhjoajhoaaGreat
set_option maxRecDepth 100000
set_option linter.unusedVariables false
set_option linter.unusedSimpArgs false
set_option linter.unusedSimpArgs false
set_option linter.unusedVariables false
open Go.ChangeShapes Go.WideShapes Go.ChangeAt Go.RowKit

/-- Nothing more comes, or there are n at least. -/
def Outer (k : Cf) (X : List Lk) (n : Nat) (R : List Ck) : Prop := Run k X R ∧ ((∀ x ∈ X, Shut k X R x) ∨ n + 1 ≤ R.length)
/-- .. when the links ahead of number j are gone through. -/
def Inner (k : Cf) (X : List Lk) (n j : Nat) (R : List Ck) : Prop := Run k X R ∧ ((∀ x ∈ X, Shut k X R x) ∨ ((∀ i (hi : i < X.length), i < j → Shut k X R X[i]) ∧ n + 1 ≤ R.length) ∨ n + 2 ≤ R.length)
theorem outer_start (k : Cf) (X : List Lk) : Outer k X 0 [firstK] := ⟨Run.start k X, Or.inr (by simp)⟩
theorem outer_end {k : Cf} {l : List Bk} {v : List Lk} {R : List Ck} (h : Outer k (fineC k l v) ((fineC k l v).length + 1) R) (hm : mayC k = true ∧ mayB l = true) : Justs k l v R := by
  rcases h.2 with h2 | h2
  · exact h.1.justs h2 hm
  · have := h.1.length_le; omega
theorem inner_start {k : Cf} {X : List Lk} {n : Nat} {R : List Ck} (h : Outer k X n R) : Inner k X n 0 R := ⟨h.1, h.2.elim Or.inl fun q => Or.inr (Or.inl ⟨fun i _ h => by omega, q⟩)⟩
theorem inner_end {k : Cf} {X : List Lk} {n : Nat} {R : List Ck} (h : Inner k X n X.length R) : Outer k X (n + 1) R := by
  refine ⟨h.1, ?_⟩
  rcases h.2 with q | ⟨q, _⟩ | q
  · exact Or.inl q
  · exact Or.inl fun x hx => by
      obtain ⟨i, hi, rfl⟩ := List.mem_iff_getElem.1 hx
      exact q i hi hi
  · exact Or.inr (by omega)
theorem inner_skip {k : Cf} {X : List Lk} {n j : Nat} {R : List Ck} (h : Inner k X n j R) (hj : j < X.length) (hs : Shut k X R X[j]) : Inner k X n (j + 1) R := by
  refine ⟨h.1, ?_⟩
  rcases h.2 with q | ⟨q, q2⟩ | q
  · exact Or.inl q
  · refine Or.inr (Or.inl ⟨fun i hi hij => ?_, q2⟩)
    by_cases e : i = j
    · subst e; exact hs
    · exact q i hi (by omega)
  · exact Or.inr (Or.inr q)
theorem inner_put {k : Cf} {X : List Lk} {n j : Nat} {R S : List Ck} (h : Inner k X n j R) (hj : j < X.length) (h1 : X[j].s ∈ R) (h2 : strongK k X X[j].s X[j].t = true) (h3 : X[j].t ∉ R) (hp : Put R X[j].t S) : Inner k X n (j + 1) S := by
  refine ⟨h.1.put (List.getElem_mem hj) h1 h2 hp, ?_⟩
  have hl := hp.len
  rcases h.2 with q | ⟨_, q⟩ | q
  · exact absurd (q _ (List.getElem_mem hj) h1 h2) h3
  · exact Or.inr (Or.inr (by omega))
  · exact Or.inr (Or.inr (by omega))
def JustNew (k : Cf) (l : List Bk) (v : List Lk) (w : World) (e : Ending) (w' : World) : Prop := ∃ R A' c', Justs k l v R ∧ R.length ≤ v.length + 1 ∧ e = .returned (.slice A' R.length c') ∧ CellsAt w' w'.heap.size A' (cksCells R) ∧ R.length ≤ c' ∧ Kept w w'
theorem JustNew.nil {k : Cf} {l : List Bk} {v : List Lk} {w w' : World} (h : ¬ (mayC k = true ∧ mayB l = true)) (q : Kept w w') : JustNew k l v w (.returned (.slice none 0 0)) w' := ⟨[], none, 0, justs_none v h, by simp, rfl, CellsAt.nil, by simp, q⟩

set_option maxRecDepth 100000 in
set_option maxHeartbeats 12800000 in
theorem refJust_any (A : Option Addr) (c : Nat) (k : Cf) (L : Option Addr) (cl : Nat) (l : List Bk) (V : Option Addr) (cv : Nat) (v : List Lk) (w : World)
    (hk : k.ws.length ≤ 1000) (hl : l.length ≤ 1000000) (hv : v.length ≤ 10000) (hwl : WfL l) (hA : CellsAt w w.heap.size A (intCells k.ws)) (hL : CellsAt w w.heap.size L (blockCells l)) (hV : CellsAt w w.heap.size V (lksCells v)) :
    Calls Tryz.prog 10 #[.agg #[.slice A k.ws.length c, .int .u64 k.seed, .int .i64 k.ep, .int .i64 k.nu, .int .i64 k.de], .slice L l.length cl, .slice V v.length cv] w (JustNew k l v w) := by
  have K0 := Lib.hid ((Kept.refl w).alloc (.cells #[.slice A k.ws.length c, .int .u64 k.seed, .int .i64 k.ep, .int .i64 k.nu, .int .i64 k.de] 25))
  have HC := Lib.hid (HasCells.new w #[.slice A k.ws.length c, .int .u64 k.seed, .int .i64 k.ep, .int .i64 k.nu, .int .i64 k.de] 25 w.heap.size rfl)
  have HA := Lib.hid (hA.kept K0.out)
  have HL := Lib.hid (hL.kept K0.out)
  have HV := Lib.hid (hV.kept K0.out)
  have HWL := Lib.hid hwl
  clear hA hL hV hwl
  go_enter Tryz.func10, Tryz.ntmps10
  go_wp2_with fail
  generalize w.alloc (.cells #[.slice A k.ws.length c, .int .u64 k.seed, .int .i64 k.ep, .int .i64 k.nu, .int .i64 k.de] 25) = W at *
  generalize w.heap.size = z at *
  refine (refMay5_any A c k W hk HA.out).mono ?_
  rintro e W1 ⟨rfl, k1⟩
  have K1 := Lib.hid k1
  clear k1
  go_wp2_with fail
  refine (refMay6_any L cl l hl HWL.out W1 (HL.out.kept K1.out)).mono ?_
  rintro e W2 ⟨rfl, k2⟩
  have K2 := Lib.hid (K1.out.trans k2)
  clear k2 K1
  cases hm : mayC k with
  | false =>
    have HE := Lib.hid (show ¬ (mayC k = true ∧ mayB l = true) from fun h => by rw [hm] at h; cases h.1)
    clear hm
    go_wp2_with fail
    go_ret
    exact JustNew.nil HE.out (K0.out.trans K2.out)
  | true =>
    have HMc := Lib.hid hm
    clear hm
    cases hm : mayB l with
    | false =>
      have HE := Lib.hid (show ¬ (mayC k = true ∧ mayB l = true) from fun h => by rw [hm] at h; cases h.2)
      clear hm
      go_wp2_with fail
      go_ret
      exact JustNew.nil HE.out (K0.out.trans K2.out)
    | true =>
      have HM := Lib.hid (⟨HMc.out, hm⟩ : mayC k = true ∧ mayB l = true)
      clear hm HMc
      obtain ⟨c0, c1, c2, c3, c4⟩ := (HC.out.kept K2.out).five
      go_wp2_with fail
      refine (refFine_any A c k L cl l V cv v W2 hk hl (by omega) HWL.out (HA.out.kept K2.out) (HL.out.kept K2.out) (HV.out.kept K2.out)).mono ?_
      rintro e W3 ⟨VX, cx, rfl, hX⟩
      have HX := Lib.hid (hX.cells rfl)
      have K3 := Lib.hid (K2.out.trans hX.2)
      clear hX c0 c1 c2 c3 c4
      have HXl := Lib.hid (fineC_length k l v)
      have HEnd := Lib.hid (fun R (h : Outer k (fineC k l v) ((fineC k l v).length + 1) R) => outer_end h HM.out)
      have HRl := Lib.hid (fun R (h : Run k (fineC k l v) R) => h.length_le)
      generalize fineC k l v = X at *
      have hXl : X.length ≤ 10000 := by have := HXl.out; omega
      go_wp2_with fail
      have HR0 := Lib.hid (show CellsAt (W3.alloc (.cells #[.int .i64 0, .int .u64 0, .int .u64 0] 31)) (W3.alloc (.cells #[.int .i64 0, .int .u64 0, .int .u64 0] 31)).heap.size (some ⟨W3.heap.size, 0, none⟩) (cksCells [firstK]) from cks_new (t := firstK) W3.heap.size rfl _)
      have KA := Lib.hid ((Kept.refl W3).alloc (.cells #[.int .i64 0, .int .u64 0, .int .u64 0] 31))
      generalize W3.alloc (.cells #[.int .i64 0, .int .u64 0, .int .u64 0] 31) = W4 at *
      go_loopw [9, 10] (fun u i w' => ∃ (n : Nat) (R : List Ck) (B : Option Addr) (cb : Nat), n ≤ X.length + 1 ∧ i = .int .i64 n ∧ u = .slice B R.length cb ∧ Outer k X n R ∧ CellsAt w' w'.heap.size B (cksCells R) ∧ R.length ≤ cb ∧ Kept W3 w') (fun _ i _ => X.length + 1 - (intOf i).toNat)
      case atStart => exact ⟨0, [firstK], _, _, by omega, rfl, rfl, outer_start k X, HR0.out, by simp, KA.out⟩
      case round =>
        obtain ⟨n, R, B, cb, hn, rfl, rfl, hO, hR, hcb, hK⟩ := hrel
        have HO := Lib.hid hO
        have HR := Lib.hid hR
        have HCb := Lib.hid hcb
        have HK := Lib.hid hK
        clear hO hR hcb hK HR0 KA
        by_cases hlt : n ≤ X.length
        · go_wp2_with fail
          go_loopw [9, 11] (fun u i w' => ∃ (j : Nat) (R : List Ck) (B : Option Addr) (cb : Nat), j ≤ X.length ∧ i = .int .i64 j ∧ u = .slice B R.length cb ∧ Inner k X n j R ∧ CellsAt w' w'.heap.size B (cksCells R) ∧ R.length ≤ cb ∧ Kept W3 w') (fun _ i _ => X.length - (intOf i).toNat)
          case atStart => exact ⟨0, R, B, cb, by omega, rfl, rfl, inner_start HO.out, HR.out, HCb.out, HK.out⟩
          case round =>
            clear HO HR HCb HK
            obtain ⟨j, R, B, cb, hj, rfl, rfl, hI, hR, hcb, hK⟩ := hrel
            have HI := Lib.hid hI
            have HR := Lib.hid hR
            have HCb := Lib.hid hcb
            have HK := Lib.hid hK
            have hRl := HRl.out R hI.1
            have hR2 : R.length ≤ 100000 := by omega
            clear hI hR hcb hK
            by_cases hjl : j < X.length
            · obtain ⟨zv, ov, rfl, hbv, x0, x1, x2, x3, x4, x5, x6⟩ := lk_at HX.out hjl
              have HSk := Lib.hid (fun hs => inner_skip HI.out hjl hs)
              have HPt := Lib.hid (fun S h1 h2 h3 hp => inner_put (S := S) HI.out hjl h1 h2 h3 hp)
              have HRi := Lib.hid HI.out.1.rise
              have HX0 := Lib.hid (⟨x0, x1, x2, x3, x4, x5, x6⟩ : _ ∧ _ ∧ _ ∧ _ ∧ _ ∧ _ ∧ _)
              clear x0 x1 x2 x3 x4 x5 x6
              generalize hxg : X[j] = x at *
              clear hxg
              have y1 := (HK.out.cell (p := ⟨zv, ov + j * 7 + 1, none⟩) hbv).trans HX0.out.2.1
              have y2 := (HK.out.cell (p := ⟨zv, ov + j * 7 + 2, none⟩) hbv).trans HX0.out.2.2.1
              have y3 := (HK.out.cell (p := ⟨zv, ov + j * 7 + 3, none⟩) hbv).trans HX0.out.2.2.2.1
              go_wp2_with fail
              refine (refHasIn_any B cb R hR2 x.s wr HR.out).mono ?_
              rintro e V1 ⟨rfl, k1⟩
              clear y1 y2 y3
              have HK1 := Lib.hid (HK.out.trans k1)
              have HR1 := Lib.hid (HR.out.kept k1)
              clear k1 HK HR
              have y4 := (HK1.out.cell (p := ⟨zv, ov + j * 7 + 4, none⟩) hbv).trans HX0.out.2.2.2.2.1
              have y5 := (HK1.out.cell (p := ⟨zv, ov + j * 7 + 5, none⟩) hbv).trans HX0.out.2.2.2.2.2.1
              have y6 := (HK1.out.cell (p := ⟨zv, ov + j * 7 + 6, none⟩) hbv).trans HX0.out.2.2.2.2.2.2
              go_wp2_with fail
              refine (refHasIn_any B cb R hR2 x.t V1 HR1.out).mono ?_
              rintro e V2 ⟨rfl, k2⟩
              clear y4 y5 y6
              have HK2 := Lib.hid (HK1.out.trans k2)
              have HR2 := Lib.hid (HR1.out.kept k2)
              clear k2 HK1 HR1
              cases hs : hasK R x.s with
              | false =>
                have HN := Lib.hid (HSk.out (fun h => absurd (hasK_iff.2 h) (by rw [hs]; simp)))
                clear HSk HPt hs
                go_wp2_with fail
                go_roundw
                case rel => exact ⟨j + 1, R, B, cb, by omega, by go_num, rfl, HN.out, HR2.out, HCb.out, HK2.out⟩
                case measure => simp [intOf]; omega
              | true =>
                have HS1 := Lib.hid (hasK_iff.1 hs)
                clear hs
                cases ht : hasK R x.t with
                | true =>
                  have HN := Lib.hid (HSk.out (fun _ _ => hasK_iff.1 ht))
                  clear HSk HPt ht
                  go_wp2_with fail
                  go_roundw
                  case rel => exact ⟨j + 1, R, B, cb, by omega, by go_num, rfl, HN.out, HR2.out, HCb.out, HK2.out⟩
                  case measure => simp [intOf]; omega
                | false =>
                  have HT1 := Lib.hid (show x.t ∉ R from fun h => by rw [hasK_iff.2 h] at ht; cases ht)
                  clear ht
                  obtain ⟨c0, c1, c2, c3, c4⟩ := (HC.out.kept (K3.out.trans HK2.out)).five
                  have hzl := (HC.out.kept (K3.out.trans HK2.out)).1
                  have y1 := (HK2.out.cell (p := ⟨zv, ov + j * 7 + 1, none⟩) hbv).trans HX0.out.2.1
                  have y2 := (HK2.out.cell (p := ⟨zv, ov + j * 7 + 2, none⟩) hbv).trans HX0.out.2.2.1
                  have y3 := (HK2.out.cell (p := ⟨zv, ov + j * 7 + 3, none⟩) hbv).trans HX0.out.2.2.2.1
                  have y4 := (HK2.out.cell (p := ⟨zv, ov + j * 7 + 4, none⟩) hbv).trans HX0.out.2.2.2.2.1
                  have y5 := (HK2.out.cell (p := ⟨zv, ov + j * 7 + 5, none⟩) hbv).trans HX0.out.2.2.2.2.2.1
                  have y6 := (HK2.out.cell (p := ⟨zv, ov + j * 7 + 6, none⟩) hbv).trans HX0.out.2.2.2.2.2.2
                  have hb2 := Nat.lt_of_lt_of_le hbv HK2.out.size_le
                  have HSt := Lib.hid (fun w' (kk : Kept V2 w') => refStrongIn_any A c k (some ⟨zv, ov, none⟩) cx X x.s x.t w' hk (by omega) ((HA.out.kept (K3.out.trans HK2.out)).kept kk) ((HX.out.kept HK2.out).kept kk))
                  generalize hsg : strongK k X x.s x.t = sg at *
                  have HSg := Lib.hid hsg
                  clear hsg
                  go_wp2_with fail
                  go_region_held3 (fun w' => w'.cell? ⟨z, 0, none⟩ = some (.slice A k.ws.length c) ∧ w'.cell? ⟨z, 1, none⟩ = some (.int .u64 k.seed) ∧ w'.cell? ⟨z, 2, none⟩ = some (.int .i64 k.ep) ∧ w'.cell? ⟨z, 3, none⟩ = some (.int .i64 k.nu) ∧ w'.cell? ⟨z, 4, none⟩ = some (.int .i64 k.de) ∧ w'.cell? ⟨zv, ov + j * 7 + 1, none⟩ = some (.int .i64 x.s.e) ∧ w'.cell? ⟨zv, ov + j * 7 + 2, none⟩ = some (.int .u64 x.s.r.1) ∧ w'.cell? ⟨zv, ov + j * 7 + 3, none⟩ = some (.int .u64 x.s.r.2) ∧ w'.cell? ⟨zv, ov + j * 7 + 4, none⟩ = some (.int .i64 x.t.e) ∧ w'.cell? ⟨zv, ov + j * 7 + 5, none⟩ = some (.int .u64 x.t.r.1) ∧ w'.cell? ⟨zv, ov + j * 7 + 6, none⟩ = some (.int .u64 x.t.r.2) ∧ Kept V2 w')
                    (first | exact ⟨c0, c1, c2, c3, c4, y1, y2, y3, y4, y5, y6, Kept.refl _⟩ | exact ⟨c0, c1, c2, c3, c4, y1, y2, y3, y4, y5, y6, (Kept.refl _).drew⟩ | assumption | exact keepP11 hzl hzl hzl hzl hzl hb2 hb2 hb2 hb2 hb2 hb2 (by assumption) (by assumption))
                    (first
                      | (go_at_call 19; ((first | (with_reducible refine (HSt.out _ (by assumption : _ ∧ _ ∧ _ ∧ _ ∧ _ ∧ _ ∧ _ ∧ _ ∧ _ ∧ _ ∧ _ ∧ Kept V2 _).2.2.2.2.2.2.2.2.2.2.2).mono ?_)); rintro e w' ⟨rfl, kk⟩)))
                  rename_i hh
                  have k := hh.2.2.2.2.2.2.2.2.2.2.2
                  clear hh
                  generalize w' = V3 at *
                  have HK3 := Lib.hid (HK2.out.trans k)
                  have HR3 := Lib.hid (HR2.out.kept k)
                  clear k c0 c1 c2 c3 c4 hzl y1 y2 y3 y4 y5 y6 hb2 HSt HK2 HR2
                  cases sg with
                  | false =>
                    have HN := Lib.hid (HSk.out (fun _ h => by rw [HSg.out] at h; cases h))
                    clear HSk HPt
                    go_wp2_with fail
                    go_roundw
                    case rel => exact ⟨j + 1, R, B, cb, by omega, by go_num, rfl, HN.out, HR3.out, HCb.out, HK3.out⟩
                    case measure => simp [intOf]; omega
                  | true =>
                    have y4 := (HK3.out.cell (p := ⟨zv, ov + j * 7 + 4, none⟩) hbv).trans HX0.out.2.2.2.2.1
                    have y5 := (HK3.out.cell (p := ⟨zv, ov + j * 7 + 5, none⟩) hbv).trans HX0.out.2.2.2.2.2.1
                    have y6 := (HK3.out.cell (p := ⟨zv, ov + j * 7 + 6, none⟩) hbv).trans HX0.out.2.2.2.2.2.2
                    go_wp2_with fail
                    refine (refPutK_any B cb R hR2 HCb.out HRi.out x.t HT1.out V3 HR3.out).mono ?_
                    rintro e V4 ⟨S, A', c', hPut, rfl, hS⟩
                    have HN := Lib.hid (HPt.out S HS1.out (by first | rfl | trivial | exact HSg.out) HT1.out hPut)
                    have HS := Lib.hid hS
                    clear hPut hS HSk HPt y4 y5 y6
                    go_wp2_with fail
                    go_roundw
                    case rel => exact ⟨j + 1, S, A', c', by omega, by go_num, rfl, HN.out, HS.out.cells rfl, HS.out.cap, HK3.out.trans HS.out.2⟩
                    case measure => simp [intOf]; omega
            · have hjx : j = X.length := by omega
              subst hjx
              have HN := Lib.hid (inner_end HI.out)
              go_wp2_with fail
              go_roundw
              case rel => exact ⟨n + 1, R, B, cb, by omega, by go_num, rfl, HN.out, HR.out, HCb.out, HK.out⟩
              case measure => simp [intOf]; omega
        · have hnx : n = X.length + 1 := by omega
          subst hnx
          have HN := Lib.hid (HEnd.out R HO.out)
          have hRl := HRl.out R HO.out.1
          have HRv := Lib.hid (show R.length ≤ v.length + 1 by have := HXl.out; omega)
          go_wp2_with fail
          go_ret
          exact ⟨R, B, cb, HN.out, HRv.out, rfl, HR.out, HCb.out, K0.out.trans (K3.out.trans HK.out)⟩

end Go.Proofs.YthgammhjoajhoaaGreat
