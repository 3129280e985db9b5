/-
  The contracts of final and Final of the given package marigoldref11.
-/
import Derived.Test.YthgammhjoajhoaaGreatFfgJust
namespace Go.Proofs.YthgammhjoajhoaaGreat
set_option maxRecDepth 100000
set_option linter.unusedVariables false
set_option linter.unusedSimpArgs false
set_option linter.unusedSimpArgs false
set_option linter.unusedVariables false
open Go.ChangeShapes Go.WideShapes Go.ChangeAt Go.RowKit

/-- One of the next epoch that is over x, and under what t stands on. -/
def MidF (l : List Bk) (x t m : Ck) : Prop := m.e = x.e + 1 ∧ underC l x.r m.r = true ∧ underC l m.r t.r = true
/-- A strong link to t makes x final. -/
def HitF (k : Cf) (l : List Bk) (X : List Lk) (R : List Ck) (x t : Ck) : Prop := strongK k X x t = true ∧ (t.e = x.e + 1 ∨ (t.e = x.e + 2 ∧ ∃ m ∈ R, MidF l x t m))
def FinF (k : Cf) (l : List Bk) (X : List Lk) (R : List Ck) (x : Ck) : Prop := x = firstK ∨ ∃ y ∈ X, y.s = x ∧ HitF k l X R x y.t
open Classical in
noncomputable def finB (k : Cf) (l : List Bk) (X : List Lk) (R : List Ck) (x : Ck) : Bool := decide (FinF k l X R x)
theorem finB_iff {k : Cf} {l : List Bk} {X : List Lk} {R : List Ck} {x : Ck} : finB k l X R x = true ↔ FinF k l X R x := @decide_eq_true_iff _ (Classical.propDecidable _)
theorem finB_eq {k : Cf} {l : List Bk} {v : List Lk} {R : List Ck} (hR : Justs k l v R) {x : Ck} (hx : x ∈ R) : finB k l (fineC k l v) R x = finalB k l v x := by
  obtain ⟨m1, m2, _⟩ := (hR.2 x).1 hx
  rw [Bool.eq_iff_iff, finB_iff, finalB_iff]
  constructor
  · rintro (e | ⟨y, _, _, h1, h2⟩)
    · exact Or.inl e
    · refine Or.inr ⟨y.t, h1, ?_⟩
      rcases h2 with h2 | ⟨h2, m, hm, h3⟩
      · exact Or.inl h2
      · exact Or.inr ⟨h2, m, ((hR.2 m).1 hm).2.2, h3⟩
  · rintro (e | ⟨t, h1, h2⟩)
    · exact Or.inl e
    · obtain ⟨y, hy, e1, e2⟩ := strong_some h1
      refine Or.inr ⟨y, hy, e1, ?_⟩
      rw [e2]
      refine ⟨h1, ?_⟩
      rcases h2 with h2 | ⟨h2, m, hm, h3⟩
      · exact Or.inl h2
      · exact Or.inr ⟨h2, m, (hR.2 m).2 ⟨m1, m2, hm⟩, h3⟩
theorem fine_up {k : Cf} {l : List Bk} {v : List Lk} : ∀ y ∈ fineC k l v, y.s.e < y.t.e := fun y hy => (mayL_iff.1 (mem_fineC.1 hy).2).2.2.1.2.2.2.1
theorem just_range {k : Cf} {l : List Bk} {v : List Lk} {R : List Ck} (hR : Justs k l v R) : ∀ x ∈ R, 0 ≤ x.e ∧ x.e ≤ 1048576 := fun x hx => by
  rcases just_bounds ((hR.2 x).1 hx).2.2 with e | e
  · rw [e]; exact ⟨Int.le_refl 0, by decide⟩
  · omega

attribute [local go_sem high] eqK eqKZ in
set_option maxRecDepth 100000 in
set_option maxHeartbeats 12800000 in
theorem refFinalIn_any (A : Option Addr) (c : Nat) (k : Cf) (L : Option Addr) (cl : Nat) (l : List Bk) (V : Option Addr) (cx : Nat) (X : List Lk) (J : Option Addr) (cj : Nat) (R : List Ck) (x : Ck) (w : World)
    (hk : k.ws.length ≤ 1000) (hl : l.length ≤ 1000000) (hX : X.length ≤ 10000) (hR : R.length ≤ 100000) (hup : ∀ y ∈ X, y.s.e < y.t.e) (hxe : 0 ≤ x.e ∧ x.e ≤ 1048576) (hwl : WfL l) (hA : CellsAt w w.heap.size A (intCells k.ws)) (hL : CellsAt w w.heap.size L (blockCells l)) (hV : CellsAt w w.heap.size V (lksCells X)) (hJ : CellsAt w w.heap.size J (cksCells R)) :
    Calls Tryz.prog 32 #[.agg #[.slice A k.ws.length c, .int .u64 k.seed, .int .i64 k.ep, .int .i64 k.nu, .int .i64 k.de], .slice L l.length cl, .slice V X.length cx, .slice J R.length cj, .agg #[.int .i64 x.e, .int .u64 x.r.1, .int .u64 x.r.2]] w fun e w' => e = .returned (.bool (finB k l X R x)) ∧ Kept w w' := by
  have K0 := Lib.hid (((Kept.refl w).alloc (.cells #[.slice A k.ws.length c, .int .u64 k.seed, .int .i64 k.ep, .int .i64 k.nu, .int .i64 k.de] 25)).alloc (.cells #[.int .i64 x.e, .int .u64 x.r.1, .int .u64 x.r.2] 31))
  have HC := Lib.hid ((HasCells.new w #[.slice A k.ws.length c, .int .u64 k.seed, .int .i64 k.ep, .int .i64 k.nu, .int .i64 k.de] 25 w.heap.size rfl).alloc (.cells #[.int .i64 x.e, .int .u64 x.r.1, .int .u64 x.r.2] 31))
  have HI := Lib.hid (HasCells.new (w.alloc (.cells #[.slice A k.ws.length c, .int .u64 k.seed, .int .i64 k.ep, .int .i64 k.nu, .int .i64 k.de] 25)) #[.int .i64 x.e, .int .u64 x.r.1, .int .u64 x.r.2] 31 (w.heap.size + 1) (by simp))
  have HA := Lib.hid (hA.kept K0.out)
  have HL := Lib.hid (hL.kept K0.out)
  have HV := Lib.hid (hV.kept K0.out)
  have HJ := Lib.hid (hJ.kept K0.out)
  have HWL := Lib.hid hwl
  have HUp := Lib.hid hup
  have HFi := Lib.hid (finB_iff (k := k) (l := l) (X := X) (R := R) (x := x))
  clear hA hL hV hJ hwl hup
  generalize finB k l X R x = res at *
  have HYes := Lib.hid (fun (h : FinF k l X R x) => (HFi.out.2 h : res = true))
  have HNo := Lib.hid (fun (h : ¬ FinF k l X R x) => (show res = false by rw [Bool.eq_false_iff]; exact fun e => h (HFi.out.1 e)))
  clear HFi
  go_enter Tryz.func32, Tryz.ntmps32
  obtain ⟨d0, d1, d2⟩ := HI.out.three
  cases hz : sameK x firstK with
  | true =>
    have HE := Lib.hid (HYes.out (Or.inl (sameK_iff.1 hz)))
    clear HYes HNo
    go_wp2_with fail
    go_ret
    exact ⟨by rw [HE.out]; first | rfl | (simp; done), K0.out⟩
  | false =>
    have HZ := Lib.hid (show ¬ x = firstK from fun e => by rw [sameK_yes e] at hz; cases hz)
    go_wp2_with fail
    clear hz d0 d1 d2
    generalize ((w.alloc (.cells #[.slice A k.ws.length c, .int .u64 k.seed, .int .i64 k.ep, .int .i64 k.nu, .int .i64 k.de] 25)).alloc (.cells #[.int .i64 x.e, .int .u64 x.r.1, .int .u64 x.r.2] 31)) = W at *
    generalize w.heap.size + 1 = y at *
    generalize w.heap.size = z at *
    go_loopw [11] (fun i w' => ∃ j : Nat, j ≤ X.length ∧ i = .int .i64 j ∧ (∀ n (hn : n < X.length), n < j → ¬ (X[n].s = x ∧ HitF k l X R x X[n].t)) ∧ Kept W w') (fun i _ => X.length - (intOf i).toNat)
    case atStart => exact ⟨0, by omega, rfl, fun n _ h => by omega, Kept.refl _⟩
    case round =>
      obtain ⟨j, hj, rfl, hN, hK⟩ := hrel
      have HN := Lib.hid hN
      have HK := Lib.hid hK
      clear hN hK
      by_cases hlt : j < X.length
      · obtain ⟨zv, ov, rfl, hbv, x0, x1, x2, x3, x4, x5, x6⟩ := lk_at HV.out hlt
        have HSk := Lib.hid (fun (h : ¬ (X[j].s = x ∧ HitF k l X R x X[j].t)) => (show ∀ n (hn : n < X.length), n < j + 1 → ¬ (X[n].s = x ∧ HitF k l X R x X[n].t) from fun n hn hnj => by
          by_cases e : n = j
          · subst e; exact h
          · exact HN.out n hn (by omega)))
        have HHit := Lib.hid (fun (h1 : X[j].s = x) (h2 : HitF k l X R x X[j].t) => HYes.out (Or.inr ⟨X[j], List.getElem_mem hlt, h1, h2⟩))
        have HUe := Lib.hid (HUp.out X[j] (List.getElem_mem hlt))
        have HX0 := Lib.hid (⟨x0, x1, x2, x3, x4, x5, x6⟩ : _ ∧ _ ∧ _ ∧ _ ∧ _ ∧ _ ∧ _)
        clear x0 x1 x2 x3 x4 x5 x6
        generalize X[j] = q at *
        obtain ⟨qf, s, t⟩ := q
        dsimp only at HSk HHit HUe HX0
        have y4 := (HK.out.cell (p := ⟨zv, ov + j * 7 + 4, none⟩) hbv).trans HX0.out.2.2.2.2.1
        have y5 := (HK.out.cell (p := ⟨zv, ov + j * 7 + 5, none⟩) hbv).trans HX0.out.2.2.2.2.2.1
        have y6 := (HK.out.cell (p := ⟨zv, ov + j * 7 + 6, none⟩) hbv).trans HX0.out.2.2.2.2.2.2
        have HB := Lib.hid (HasCells.new wr #[.int .i64 t.e, .int .u64 t.r.1, .int .u64 t.r.2] 31 wr.heap.size rfl)
        have HKB := Lib.hid ((Kept.refl wr).alloc (.cells #[.int .i64 t.e, .int .u64 t.r.1, .int .u64 t.r.2] 31))
        go_wp2_with fail
        clear y4 y5 y6
        generalize wr.alloc (.cells #[.int .i64 t.e, .int .u64 t.r.1, .int .u64 t.r.2] 31) = V0 at *
        generalize wr.heap.size = tz at *
        have HK0 := Lib.hid (HK.out.trans HKB.out)
        have y1 := (HK0.out.cell (p := ⟨zv, ov + j * 7 + 1, none⟩) hbv).trans HX0.out.2.1
        have y2 := (HK0.out.cell (p := ⟨zv, ov + j * 7 + 2, none⟩) hbv).trans HX0.out.2.2.1
        have y3 := (HK0.out.cell (p := ⟨zv, ov + j * 7 + 3, none⟩) hbv).trans HX0.out.2.2.2.1
        obtain ⟨b0, b1, b2⟩ := HB.out.three
        obtain ⟨d0, d1, d2⟩ := (HI.out.kept HK0.out).three
        have hx2 : IntKind.i64.wrap (x.e + 2) = x.e + 2 := by rw [IntKind.wrap_i64]; omega
        have hx1 : IntKind.i64.wrap (x.e + 1) = x.e + 1 := by rw [IntKind.wrap_i64]; omega
        clear HK HKB HN
        cases hs : sameK s x with
        | false =>
          have HN2 := Lib.hid (HSk.out (fun h => by rw [sameK_yes h.1] at hs; cases hs))
          clear HSk HHit
          go_quiet (fail)
          go_wp2_with fail
          go_roundw
          case rel => exact ⟨j + 1, by omega, by go_num, HN2.out, HK0.out.drewN _⟩
          case measure => simp [intOf]; omega
        | true =>
          have HSX := Lib.hid (sameK_iff.1 hs)
          by_cases h2 : x.e + 2 < t.e
          · have HN2 := Lib.hid (HSk.out (fun h => by rcases h.2.2 with g | g <;> omega))
            have h2b : decide (x.e + 2 < t.e) = true := decide_eq_true h2
            clear HSk HHit
            go_quiet (fail)
            go_wp2_with fail
            go_roundw
            case rel => exact ⟨j + 1, by omega, by go_num, HN2.out, HK0.out.drewN _⟩
            case measure => simp [intOf]; omega
          · have h2b : decide (x.e + 2 < t.e) = false := decide_eq_false h2
            have HEt := Lib.hid (show x.e < t.e by have := HUe.out; rw [HSX.out] at this; exact this)
            obtain ⟨c0, c1, c2, c3, c4⟩ := (HC.out.kept HK0.out).five
            go_quiet (fail)
            go_wp2_with fail
            refine (refStrongIn_any A c k (some ⟨zv, ov, none⟩) cx X x t _ hk (by omega) (HA.out.kept (HK0.out.drewN _)) (HV.out.kept (HK0.out.drewN _))).mono ?_
            rintro e V1 ⟨rfl, k1⟩
            have HK1 := Lib.hid ((HK0.out.drewN _).trans k1)
            have HB1 := Lib.hid ((HB.out.kept ((Kept.refl _).drewN _)).kept k1)
            clear k1 c0 c1 c2 c3 c4 b0 b1 b2 d0 d1 d2 y1 y2 y3 HB h2b hs
            generalize hsg : strongK k X x t = sg at *
            have HSg := Lib.hid hsg
            clear hsg
            cases sg with
            | false =>
              have HN2 := Lib.hid (HSk.out (fun h => by have h3 := h.2.1; rw [HSg.out] at h3; cases h3))
              clear HSk HHit
              go_wp2_with fail
              go_roundw
              case rel => exact ⟨j + 1, by omega, by go_num, HN2.out, HK1.out⟩
              case measure => simp [intOf]; omega
            | true =>
              obtain ⟨b0, b1, b2⟩ := HB1.out.three
              obtain ⟨d0, d1, d2⟩ := (HI.out.kept HK1.out).three
              by_cases h1 : t.e = x.e + 1
              · have HE := Lib.hid (HHit.out HSX.out ⟨HSg.out, Or.inl h1⟩)
                have h1b : (t.e == x.e + 1) = true := by rw [beq_iff_eq]; exact h1
                clear HSk HHit h1
                go_wp2_with fail
                go_ret
                exact ⟨by rw [HE.out]; first | rfl | (simp; done), K0.out.trans HK1.out⟩
              · have h1b : (t.e == x.e + 1) = false := by rw [beq_eq_false_iff_ne]; exact h1
                have HE2 := Lib.hid (show t.e = x.e + 2 by have := HEt.out; omega)
                have HSk2 := Lib.hid (fun (h : ∀ m ∈ R, ¬ MidF l x t m) => HSk.out (fun g => by
                  rcases g.2.2 with g2 | ⟨_, m, hm, g3⟩
                  · exact h1 g2
                  · exact h m hm g3))
                have HHit2 := Lib.hid (fun m (hm : m ∈ R) (h : MidF l x t m) => HHit.out HSX.out ⟨HSg.out, Or.inr ⟨HE2.out, m, hm, h⟩⟩)
                clear HSk HHit h1 h2 HEt HUe
                go_wp2_with fail
                clear b0 b1 b2 d0 d1 d2
                go_loopw [14] (fun i w' => ∃ n : Nat, n ≤ R.length ∧ i = .int .i64 n ∧ (∀ m ∈ R.take n, ¬ MidF l x t m) ∧ Kept V1 w') (fun i _ => R.length - (intOf i).toNat)
                case atStart => exact ⟨0, by omega, rfl, fun m h => by simp at h, Kept.refl _⟩
                case round =>
                  obtain ⟨n, hn, rfl, hN, hK⟩ := hrel
                  have HN := Lib.hid hN
                  have HK2 := Lib.hid (HK1.out.trans hK)
                  have HKi := Lib.hid hK
                  clear hN hK
                  by_cases hln : n < R.length
                  · obtain ⟨zj, oj, rfl, hbj, e0, e1, e2⟩ := ck_at (HJ.out.kept HK2.out) hln
                    have HMem := Lib.hid (List.getElem_mem hln)
                    have HTk := Lib.hid (List.take_succ_eq_append_getElem hln)
                    generalize R[n] = m at *
                    obtain ⟨d0, d1, d2⟩ := (HI.out.kept HK2.out).three
                    have hyl := (HI.out.kept HK2.out).1
                    have HUa := Lib.hid (fun w' (kk : Kept wr w') => refUnder_any L cl l hl HWL.out x.r m.r w' ((HL.out.kept HK2.out).kept kk))
                    generalize hlo : underC l x.r m.r = lo at *
                    have HLo := Lib.hid hlo
                    clear hlo
                    go_wp2_with fail
                    go_region_held3 (fun w' => w'.cell? ⟨y, 1, none⟩ = some (.int .u64 x.r.1) ∧ w'.cell? ⟨y, 2, none⟩ = some (.int .u64 x.r.2) ∧ w'.cell? ⟨zj, oj + n * 3 + 1, none⟩ = some (.int .u64 m.r.1) ∧ w'.cell? ⟨zj, oj + n * 3 + 2, none⟩ = some (.int .u64 m.r.2) ∧ Kept wr w')
                      (first | exact ⟨d1, d2, e1, e2, Kept.refl _⟩ | exact ⟨d1, d2, e1, e2, (Kept.refl _).drew⟩ | assumption | exact keepP4 hyl hyl hbj hbj (by assumption) (by assumption))
                      (first
                        | (go_at_call 18; ((first | (with_reducible refine (HUa.out _ (by assumption : _ ∧ _ ∧ _ ∧ _ ∧ Kept wr _).2.2.2.2).mono ?_)); rintro e w' ⟨rfl, kk⟩)))
                    rename_i hh
                    have k := hh.2.2.2.2
                    clear hh
                    generalize w' = V3 at *
                    have HK3 := Lib.hid (HK2.out.trans k)
                    have HKj := Lib.hid (HKi.out.trans k)
                    have f1 := (k.cell (p := ⟨zj, oj + n * 3 + 1, none⟩) hbj).trans e1
                    have f2 := (k.cell (p := ⟨zj, oj + n * 3 + 2, none⟩) hbj).trans e2
                    have f0 := (k.cell (p := ⟨zj, oj + n * 3, none⟩) hbj).trans e0
                    have hbj3 := Nat.lt_of_lt_of_le hbj k.size_le
                    clear k d0 d1 d2 hyl e0 e1 e2 HUa
                    obtain ⟨b0, b1, b2⟩ := (HB1.out.kept HKj.out).three
                    have htl := (HB1.out.kept HKj.out).1
                    have HUb := Lib.hid (fun w' (kk : Kept V3 w') => refUnder_any L cl l hl HWL.out m.r t.r w' ((HL.out.kept HK3.out).kept kk))
                    generalize hhi : underC l m.r t.r = hi at *
                    have HHi := Lib.hid hhi
                    clear hhi
                    go_wp2_with fail
                    go_region_held3 (fun w' => w'.cell? ⟨zj, oj + n * 3 + 1, none⟩ = some (.int .u64 m.r.1) ∧ w'.cell? ⟨zj, oj + n * 3 + 2, none⟩ = some (.int .u64 m.r.2) ∧ w'.cell? ⟨tz, 1, none⟩ = some (.int .u64 t.r.1) ∧ w'.cell? ⟨tz, 2, none⟩ = some (.int .u64 t.r.2) ∧ Kept V3 w')
                      (first | exact ⟨f1, f2, b1, b2, Kept.refl _⟩ | exact ⟨f1, f2, b1, b2, (Kept.refl _).drew⟩ | assumption | exact keepP4 hbj3 hbj3 htl htl (by assumption) (by assumption))
                      (first
                        | (go_at_call 18; ((first | (with_reducible refine (HUb.out _ (by assumption : _ ∧ _ ∧ _ ∧ _ ∧ Kept V3 _).2.2.2.2).mono ?_)); rintro e w' ⟨rfl, kk⟩)))
                    rename_i hh
                    have k := hh.2.2.2.2
                    clear hh
                    generalize w' = V4 at *
                    have HK4 := Lib.hid (HK3.out.trans k)
                    have HKk := Lib.hid (HKj.out.trans k)
                    have e0 := (k.cell (p := ⟨zj, oj + n * 3, none⟩) hbj3).trans f0
                    obtain ⟨d0, d1, d2⟩ := (HI.out.kept HK4.out).three
                    clear k b0 b1 b2 htl f0 f1 f2 HUb
                    have HNx := Lib.hid (fun (h : ¬ MidF l x t m) => (show ∀ m' ∈ R.take (n + 1), ¬ MidF l x t m' from fun m' hm' => by
                      rw [HTk.out] at hm'
                      rcases List.mem_append.1 hm' with g | g
                      · exact HN.out m' g
                      · rw [show m' = m by simpa using g]; exact h))
                    by_cases he : m.e = x.e + 1
                    · have heb : (m.e == x.e + 1) = true := by rw [beq_iff_eq]; exact he
                      cases lo with
                      | true =>
                        cases hi with
                        | true =>
                          have HE := Lib.hid (HHit2.out m HMem.out ⟨he, HLo.out, HHi.out⟩)
                          clear HHit2 HNx he
                          go_wp2_with fail
                          go_quiet (fail)
                          go_wp2_with fail
                          go_ret
                          exact ⟨by rw [HE.out]; first | rfl | (simp; done), K0.out.trans (HK4.out.drewN _)⟩
                        | false =>
                          have HN3 := Lib.hid (HNx.out (fun h => by have g := h.2.2; rw [HHi.out] at g; cases g))
                          clear HHit2 HNx he
                          go_wp2_with fail
                          go_quiet (fail)
                          go_wp2_with fail
                          go_roundw
                          case rel => exact ⟨n + 1, by omega, by go_num, HN3.out, HKk.out.drewN _⟩
                          case measure => simp [intOf]; omega
                      | false =>
                        have HN3 := Lib.hid (HNx.out (fun h => by have g := h.2.1; rw [HLo.out] at g; cases g))
                        clear HHit2 HNx he
                        go_wp2_with fail
                        go_quiet (fail)
                        go_wp2_with fail
                        go_roundw
                        case rel => exact ⟨n + 1, by omega, by go_num, HN3.out, HKk.out.drewN _⟩
                        case measure => simp [intOf]; omega
                    · have heb : (m.e == x.e + 1) = false := by rw [beq_eq_false_iff_ne]; exact he
                      have HN3 := Lib.hid (HNx.out (fun h => he h.1))
                      clear HHit2 HNx he
                      go_wp2_with fail
                      go_quiet (fail)
                      go_wp2_with fail
                      go_roundw
                      case rel => exact ⟨n + 1, by omega, by go_num, HN3.out, HKk.out.drewN _⟩
                      case measure => simp [intOf]; omega
                  · have hnl : n = R.length := by omega
                    subst hnl
                    have HN3 := Lib.hid (HSk2.out (fun m hm => HN.out m (by rw [List.take_length]; exact hm)))
                    clear HSk2 HHit2
                    go_wp2_with fail
                    go_roundw
                    case rel => exact ⟨j + 1, by omega, by go_num, HN3.out, HK2.out⟩
                    case measure => simp [intOf]; omega
      · have hjl : j = X.length := by omega
        subst hjl
        have HE := Lib.hid (HNo.out (fun h => by
          rcases h with e | ⟨q, hq, h1, h2⟩
          · exact HZ.out e
          · obtain ⟨n, hn, rfl⟩ := List.mem_iff_getElem.1 hq
            exact HN.out n hn hn ⟨h1, h2⟩))
        go_wp2_with fail
        go_ret
        exact ⟨by rw [HE.out]; first | rfl | (simp; done), K0.out.trans HK.out⟩

end Go.Proofs.YthgammhjoajhoaaGreat
