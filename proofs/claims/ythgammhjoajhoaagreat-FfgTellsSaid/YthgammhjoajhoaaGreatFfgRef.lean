/-
  The contracts of less, has, Has, Same, May and Fine of the given package marigoldref11.
-/
import Derived.Test.YthgammhjoajhoaaGreatCkRow
import Derived.Test.YthgammhjoajhoaaGreatLkRow
import Derived.Test.YthgammhjoajhoaaGreatFfgEq
import Derived.Test.YthgammhjoajhoaaGreatMixRefLess
import Derived.Test.YthgammhjoajhoaaGreatTreeRefG
import Derived.Test.YthgammhjoajhoaaGreatDutyRefG
import Derived.Test.YthgammhjoajhoaaGreatGround
namespace Go.Proofs.YthgammhjoajhoaaGreat
set_option maxRecDepth 100000
set_option linter.unusedVariables false
set_option linter.unusedSimpArgs false
set_option linter.unusedSimpArgs false
set_option linter.unusedVariables false
open Go.ChangeShapes Go.WideShapes Go.ChangeAt Go.RowKit

set_option maxRecDepth 100000 in
set_option maxHeartbeats 1600000 in
theorem refLessK_any (a b : Ck) (w : World) :
    Calls Tryz.prog 51 #[.agg #[.int .i64 a.e, .int .u64 a.r.1, .int .u64 a.r.2], .agg #[.int .i64 b.e, .int .u64 b.r.1, .int .u64 b.r.2]] w fun e w' => e = .returned (.bool (lessK a b)) ∧ Kept w w' := by
  have K0 := Lib.hid (((Kept.refl w).alloc (.cells #[.int .i64 a.e, .int .u64 a.r.1, .int .u64 a.r.2] 31)).alloc (.cells #[.int .i64 b.e, .int .u64 b.r.1, .int .u64 b.r.2] 31))
  have HS := Lib.hid ((HasCells.new w #[.int .i64 a.e, .int .u64 a.r.1, .int .u64 a.r.2] 31 w.heap.size rfl).alloc (.cells #[.int .i64 b.e, .int .u64 b.r.1, .int .u64 b.r.2] 31))
  have HT := Lib.hid (HasCells.new (w.alloc (.cells #[.int .i64 a.e, .int .u64 a.r.1, .int .u64 a.r.2] 31)) #[.int .i64 b.e, .int .u64 b.r.1, .int .u64 b.r.2] 31 (w.heap.size + 1) (by simp))
  obtain ⟨ae, ar⟩ := a
  obtain ⟨be, br⟩ := b
  have HE : Hid (lessK ⟨ae, ar⟩ ⟨be, br⟩ = (decide (ae < be) || (decide (ae = be) && lessN ar br))) := Lib.hid (lessK_eq ⟨ae, ar⟩ ⟨be, br⟩)
  dsimp only at HS HT K0 ⊢
  generalize lessK ⟨ae, ar⟩ ⟨be, br⟩ = res at *
  go_enter Tryz.func51, Tryz.ntmps51
  go_wp2_with fail
  refine (refLess_any ar br _).mono ?_
  rintro e W1 ⟨rfl, k1⟩
  have K1 := Lib.hid (K0.out.trans k1)
  have HS1 := Lib.hid (HS.out.kept k1)
  have HT1 := Lib.hid (HT.out.kept k1)
  clear k1
  have s0 := HS1.out.at0
  have t0 := HT1.out.at0
  have hsl := HS1.out.1
  have htl := HT1.out.1
  by_cases h1 : ae < be
  · have HE2 := Lib.hid (show res = true by rw [HE.out, decide_eq_true h1]; rfl)
    go_wp2_with fail
    go_ret
    exact ⟨by rw [HE2.out]; first | rfl | (simp; done), K1.out⟩
  · by_cases h2 : ae = be
    · have HE2 := Lib.hid (show res = lessN ar br by rw [HE.out, decide_eq_false h1, decide_eq_true h2]; simp)
      have hb : (ae == be) = true := by rw [beq_iff_eq]; exact h2
      clear h2
      go_wp2_with fail
      go_ret
      exact ⟨by rw [HE2.out]; first | rfl | (simp [h1]; done) | (simp; intro h; omega), K1.out⟩
    · have HE2 := Lib.hid (show res = false by rw [HE.out, decide_eq_false h1, decide_eq_false h2]; rfl)
      have hb : (ae == be) = false := by rw [beq_eq_false_iff_ne]; exact h2
      clear h2
      go_wp2_with fail
      go_ret
      exact ⟨by rw [HE2.out]; first | rfl | (simp [h1]; done) | (simp; intro h; omega), K1.out⟩

/-! ### Is one there? -/
def hasK (l : List Ck) (x : Ck) : Bool := decide (x ∈ l)
theorem hasK_iff {l : List Ck} {x : Ck} : hasK l x = true ↔ x ∈ l := decide_eq_true_iff
attribute [local go_sem high] eqK in
set_option maxRecDepth 100000 in
set_option maxHeartbeats 1600000 in
theorem refHasIn_any (A : Option Addr) (c : Nat) (l : List Ck) (hl : l.length ≤ 100000) (x : Ck) (w : World) (hA : CellsAt w w.heap.size A (cksCells l)) :
    Calls Tryz.prog 26 #[.slice A l.length c, .agg #[.int .i64 x.e, .int .u64 x.r.1, .int .u64 x.r.2]] w fun e w' => e = .returned (.bool (hasK l x)) ∧ Kept w w' := by
  have HK := Lib.hid ((Kept.refl w).alloc (.cells #[.int .i64 x.e, .int .u64 x.r.1, .int .u64 x.r.2] 31))
  have HA := Lib.hid (hA.kept HK.out)
  have HC := Lib.hid (HasCells.new w #[.int .i64 x.e, .int .u64 x.r.1, .int .u64 x.r.2] 31 w.heap.size rfl)
  clear hA
  go_enter Tryz.func26, Tryz.ntmps26
  go_wp2_with fail
  generalize w.alloc (.cells #[.int .i64 x.e, .int .u64 x.r.1, .int .u64 x.r.2] 31) = W at *
  generalize w.heap.size = z at *
  go_loopw [5] (fun i w' => ∃ k : Nat, k ≤ l.length ∧ i = .int .i64 k ∧ x ∉ l.take k ∧ Kept W w') (fun i _ => l.length - (intOf i).toNat)
  case atStart => exact ⟨0, by omega, rfl, by simp, Kept.refl _⟩
  case round =>
    obtain ⟨k, hk, rfl, hx, hKr⟩ := hrel
    have HX := Lib.hid hx
    have HR := Lib.hid hKr
    clear hx hKr
    by_cases hlt : k < l.length
    · obtain ⟨zz, o, rfl, hb, e0, e1, e2⟩ := ck_at (HA.out.kept HR.out) hlt
      obtain ⟨d0, d1, d2⟩ := (HC.out.kept HR.out).three
      have HM := Lib.hid (List.getElem_mem hlt)
      have HT := Lib.hid (List.take_succ_eq_append_getElem hlt)
      generalize l[k] = y at *
      cases hs : sameK y x with
      | true =>
        have HP := Lib.hid (show hasK l x = true from hasK_iff.2 (by have := HM.out; rwa [sameK_iff.1 hs] at this))
        go_wp2_with fail
        go_quiet (fail)
        go_wp2_with fail
        go_ret
        exact ⟨by rw [HP.out]; rfl, (HK.out.trans HR.out).drewN _⟩
      | false =>
        have HP := Lib.hid (show x ∉ l.take (k + 1) from fun h => by
          rw [HT.out] at h
          rcases List.mem_append.1 h with h | h
          · exact HX.out h
          · rw [List.mem_singleton] at h
            rw [h, sameK_yes rfl] at hs
            cases hs)
        go_wp2_with fail
        go_quiet (fail)
        go_wp2_with fail
        go_roundw
        case rel => exact ⟨k + 1, by omega, by go_num, HP.out, HR.out.drewN _⟩
        case measure => simp [intOf]; omega
    · have hkl : k = l.length := by omega
      subst hkl
      have HP := Lib.hid (show hasK l x = false from decide_eq_false (by have := HX.out; rwa [List.take_length] at this))
      go_wp2_with fail
      go_ret
      exact ⟨by rw [HP.out]; rfl, HK.out.trans HR.out⟩
/-! ### Are two lists the same? -/
def sameKs (a b : List Ck) : Bool := decide (a = b)
theorem sameKs_iff {a b : List Ck} : sameKs a b = true ↔ a = b := decide_eq_true_iff
theorem sameKs_of {a b : List Ck} (hn : a.length = b.length) (h : ∀ j (h1 : j < a.length) (h2 : j < b.length), sameK a[j] b[j] = true) : sameKs a b = true :=
  sameKs_iff.2 (List.ext_getElem hn fun j h1 h2 => sameK_iff.1 (h j h1 h2))
attribute [local go_sem high] eqK in
set_option maxRecDepth 100000 in
set_option maxHeartbeats 1600000 in
theorem refSameK_any (A : Option Addr) (c : Nat) (a : List Ck) (B : Option Addr) (d : Nat) (b : List Ck) (hl : a.length ≤ 100000) (hm : b.length ≤ 100000) (w : World) (hA : CellsAt w w.heap.size A (cksCells a)) (hB : CellsAt w w.heap.size B (cksCells b)) :
    Calls Tryz.prog 8 #[.slice A a.length c, .slice B b.length d] w fun e w' => e = .returned (.bool (sameKs a b)) ∧ Kept w w' := by
  have HA := Lib.hid hA
  have HB := Lib.hid hB
  clear hA hB
  by_cases hn : a.length = b.length
  · have HN := Lib.hid hn
    rw [← hn]
    clear hn
    go_enter Tryz.func8, Tryz.ntmps8
    go_wp2_with fail
    go_loopw [5] (fun i w' => ∃ k : Nat, k ≤ a.length ∧ i = .int .i64 k ∧ (∀ j (h1 : j < a.length) (h2 : j < b.length), j < k → sameK a[j] b[j] = true) ∧ Kept w w') (fun i _ => a.length - (intOf i).toNat)
    case atStart => exact ⟨0, by omega, rfl, fun j _ _ h => by omega, Kept.refl _⟩
    case round =>
      obtain ⟨k, hk, rfl, hs, hK⟩ := hrel
      have HS := Lib.hid hs
      have HK := Lib.hid hK
      clear hs hK
      by_cases hlt : k < a.length
      · have hlb : k < b.length := by rw [← HN.out]; exact hlt
        obtain ⟨z, o, rfl, hb, c0, c1, c2⟩ := ck_at (HA.out.kept HK.out) hlt
        obtain ⟨z2, o2, rfl, hb2, d0, d1, d2⟩ := ck_at (HB.out.kept HK.out) hlb
        have HT := Lib.hid (fun (hst : sameK a[k] b[k] = true) => (show ∀ j (h1 : j < a.length) (h2 : j < b.length), j < k + 1 → sameK a[j] b[j] = true from fun j h1 h2 hj => by
            by_cases e : j = k
            · subst e; exact hst
            · exact HS.out j h1 h2 (by omega)))
        have HFa := Lib.hid (fun (hst : sameK a[k] b[k] = false) => (show sameKs a b = false from decide_eq_false (fun h => by subst h; rw [sameK_yes rfl] at hst; cases hst)))
        clear HS
        generalize a[k] = s at *
        generalize b[k] = t at *
        cases hst : sameK s t with
        | true =>
          have HT2 := Lib.hid (HT.out hst)
          clear HT HFa
          go_wp2_with fail
          go_quiet (fail)
          go_wp2_with fail
          go_roundw
          case rel => exact ⟨k + 1, by omega, by go_num, HT2.out, HK.out.drewN _⟩
          case measure => simp [intOf]; omega
        | false =>
          have HF := Lib.hid (HFa.out hst)
          clear HT HFa
          go_wp2_with fail
          go_quiet (fail)
          go_wp2_with fail
          go_ret
          exact ⟨by rw [HF.out]; rfl, HK.out.drewN _⟩
      · have hkl : k = a.length := by omega
        subst hkl
        have HT := Lib.hid (show sameKs a b = true from sameKs_of HN.out fun j h1 h2 => HS.out j h1 h2 h1)
        clear HS
        go_wp2_with fail
        go_ret
        exact ⟨by rw [HT.out]; rfl, HK.out⟩
  · have HF := Lib.hid (show sameKs a b = false from decide_eq_false (fun h => hn (by rw [h])))
    have hb : ((a.length : Int) != (b.length : Int)) = true := by rw [bne_iff_ne]; omega
    clear hn
    go_enter Tryz.func8, Tryz.ntmps8
    go_wp2_with fail
    go_ret
    exact ⟨by rw [HF.out]; rfl, Kept.refl _⟩

/-! ### May -/
set_option maxRecDepth 100000 in
set_option maxHeartbeats 3200000 in
theorem refMay11_any (A : Option Addr) (c : Nat) (k : Cf) (L : Option Addr) (cl : Nat) (l : List Bk) (x : Lk) (w : World)
    (hk : k.ws.length ≤ 1000) (hl : l.length ≤ 1000000) (hwl : WfL l) (hA : CellsAt w w.heap.size A (intCells k.ws)) (hL : CellsAt w w.heap.size L (blockCells l)) :
    Calls Tryz.prog 6 #[.agg #[.slice A k.ws.length c, .int .u64 k.seed, .int .i64 k.ep, .int .i64 k.nu, .int .i64 k.de], .slice L l.length cl, .agg #[.int .i64 x.f, .int .i64 x.s.e, .int .u64 x.s.r.1, .int .u64 x.s.r.2, .int .i64 x.t.e, .int .u64 x.t.r.1, .int .u64 x.t.r.2]] w fun e w' => e = .returned (.bool (mayL k l x)) ∧ Kept w w' := by
  have K0 := Lib.hid (((Kept.refl w).alloc (.cells #[.slice A k.ws.length c, .int .u64 k.seed, .int .i64 k.ep, .int .i64 k.nu, .int .i64 k.de] 25)).alloc (.cells #[.int .i64 x.f, .int .i64 x.s.e, .int .u64 x.s.r.1, .int .u64 x.s.r.2, .int .i64 x.t.e, .int .u64 x.t.r.1, .int .u64 x.t.r.2] 33))
  have HC := Lib.hid ((HasCells.new w #[.slice A k.ws.length c, .int .u64 k.seed, .int .i64 k.ep, .int .i64 k.nu, .int .i64 k.de] 25 w.heap.size rfl).alloc (.cells #[.int .i64 x.f, .int .i64 x.s.e, .int .u64 x.s.r.1, .int .u64 x.s.r.2, .int .i64 x.t.e, .int .u64 x.t.r.1, .int .u64 x.t.r.2] 33))
  have HX := Lib.hid (HasCells.new (w.alloc (.cells #[.slice A k.ws.length c, .int .u64 k.seed, .int .i64 k.ep, .int .i64 k.nu, .int .i64 k.de] 25)) #[.int .i64 x.f, .int .i64 x.s.e, .int .u64 x.s.r.1, .int .u64 x.s.r.2, .int .i64 x.t.e, .int .u64 x.t.r.1, .int .u64 x.t.r.2] 33 (w.heap.size + 1) (by simp))
  have HA := Lib.hid (hA.kept K0.out)
  have HL := Lib.hid (hL.kept K0.out)
  have HWL := Lib.hid hwl
  have HI := Lib.hid (mayL_iff (k := k) (l := l) (x := x))
  clear hA hL hwl
  generalize hres : mayL k l x = res at *
  have HNo := Lib.hid (fun (h : ¬ (mayC k = true ∧ mayB l = true ∧ (0 ≤ x.f ∧ x.f < k.ws.length ∧ 0 ≤ x.s.e ∧ x.s.e < x.t.e ∧ x.t.e ≤ 1048576))) => (show res = false by
    rw [Bool.eq_false_iff]; intro e; have q := HI.out.1 e; exact h ⟨q.1, q.2.1, q.2.2.1⟩))
  have HUn := Lib.hid (fun (h : mayC k = true ∧ mayB l = true ∧ (0 ≤ x.f ∧ x.f < k.ws.length ∧ 0 ≤ x.s.e ∧ x.s.e < x.t.e ∧ x.t.e ≤ 1048576)) => (show res = underC l x.s.r x.t.r by
    rw [Bool.eq_iff_iff]; exact HI.out.trans ⟨fun q => q.2.2.2, fun q => ⟨h.1, h.2.1, h.2.2, q⟩⟩))
  clear hres HI
  go_enter Tryz.func6, Tryz.ntmps6
  go_wp2_with fail
  generalize ((w.alloc (.cells #[.slice A k.ws.length c, .int .u64 k.seed, .int .i64 k.ep, .int .i64 k.nu, .int .i64 k.de] 25)).alloc (.cells #[.int .i64 x.f, .int .i64 x.s.e, .int .u64 x.s.r.1, .int .u64 x.s.r.2, .int .i64 x.t.e, .int .u64 x.t.r.1, .int .u64 x.t.r.2] 33)) = W at *
  generalize w.heap.size + 1 = y at *
  generalize w.heap.size = z at *
  refine (refMay5_any A c k W hk HA.out).mono ?_
  rintro e W1 ⟨rfl, k1⟩
  have K1 := Lib.hid k1
  clear k1
  go_wp2_with fail
  refine (refMay6_any L cl l hl HWL.out W1 (HL.out.kept K1.out)).mono ?_
  rintro e W2 ⟨rfl, k2⟩
  have K2 := Lib.hid (K1.out.trans k2)
  clear k2 K1
  obtain ⟨c0, c1, c2, c3, c4⟩ := (HC.out.kept K2.out).five
  have hzl := (HC.out.kept K2.out).1
  have x0 : W2.cell? ⟨y, 0, none⟩ = some (.int .i64 x.f) := (HX.out.kept K2.out).2 0 _ rfl
  have x1 : W2.cell? ⟨y, 1, none⟩ = some (.int .i64 x.s.e) := (HX.out.kept K2.out).2 1 _ rfl
  have x2 : W2.cell? ⟨y, 2, none⟩ = some (.int .u64 x.s.r.1) := (HX.out.kept K2.out).2 2 _ rfl
  have x3 : W2.cell? ⟨y, 3, none⟩ = some (.int .u64 x.s.r.2) := (HX.out.kept K2.out).2 3 _ rfl
  have x4 : W2.cell? ⟨y, 4, none⟩ = some (.int .i64 x.t.e) := (HX.out.kept K2.out).2 4 _ rfl
  have x5 : W2.cell? ⟨y, 5, none⟩ = some (.int .u64 x.t.r.1) := (HX.out.kept K2.out).2 5 _ rfl
  have x6 : W2.cell? ⟨y, 6, none⟩ = some (.int .u64 x.t.r.2) := (HX.out.kept K2.out).2 6 _ rfl
  have hyl := (HX.out.kept K2.out).1
  cases hm : mayC k with
  | false =>
    have HE := Lib.hid (HNo.out (fun q => by rw [hm] at q; cases q.1))
    clear HNo HUn
    clear hm
    go_wp2_with fail
    go_ret
    exact ⟨by rw [HE.out]; rfl, K0.out.trans K2.out⟩
  | true =>
    have HMc := Lib.hid hm
    clear hm
    cases hm : mayB l with
    | false =>
      have HE := Lib.hid (HNo.out (fun q => by rw [hm] at q; cases q.2.1))
      clear HNo HUn
      clear hm
      go_wp2_with fail
      go_ret
      exact ⟨by rw [HE.out]; rfl, K0.out.trans K2.out⟩
    | true =>
      have HMb := Lib.hid hm
      clear hm
      by_cases hq : x.f < 0
      · have HE := Lib.hid (HNo.out (fun q => by omega))
        clear HNo HUn
        go_wp2_with fail
        go_ret
        exact ⟨by rw [HE.out]; rfl, K0.out.trans K2.out⟩
      · by_cases hq : (k.ws.length : Int) ≤ x.f
        · have HE := Lib.hid (HNo.out (fun q => by omega))
          clear HNo HUn
          go_wp2_with fail
          go_ret
          exact ⟨by rw [HE.out]; rfl, K0.out.trans K2.out⟩
        · by_cases hq : x.s.e < 0
          · have HE := Lib.hid (HNo.out (fun q => by omega))
            clear HNo HUn
            go_wp2_with fail
            go_ret
            exact ⟨by rw [HE.out]; rfl, K0.out.trans K2.out⟩
          · by_cases hq : x.t.e ≤ x.s.e
            · have HE := Lib.hid (HNo.out (fun q => by omega))
              clear HNo HUn
              go_wp2_with fail
              go_ret
              exact ⟨by rw [HE.out]; rfl, K0.out.trans K2.out⟩
            · by_cases hq : 1048576 < x.t.e
              · have HE := Lib.hid (HNo.out (fun q => by omega))
                clear HNo HUn
                go_wp2_with fail
                go_ret
                exact ⟨by rw [HE.out]; rfl, K0.out.trans K2.out⟩
              · have HE := Lib.hid (HUn.out ⟨HMc.out, HMb.out, by omega, by omega, by omega, by omega, by omega⟩)
                clear HNo HUn
                go_wp2_with fail
                refine (refUnder_any L cl l hl HWL.out x.s.r x.t.r W2 (HL.out.kept K2.out)).mono ?_
                rintro e W3 ⟨rfl, k3⟩
                have K3 := Lib.hid (K2.out.trans k3)
                clear k3
                go_wp2_with fail
                go_ret
                exact ⟨by rw [HE.out]; first | rfl | (simp; done), K0.out.trans K3.out⟩

/-! ### Fine -/
theorem Lks.mono {W W' w : World} {l : List Lk} {v : Value} (h : Lks W' l v w) (k : Kept W W') : Lks W l v w :=
  ⟨⟨h.1.1, h.1.2.imp id fun ⟨g, cap, cur, h1, h2, h3⟩ => ⟨g, cap, cur, h1, Nat.le_trans k.size_le h2, h3⟩⟩, k.trans h.2⟩
theorem Cks.mono {W W' w : World} {l : List Ck} {v : Value} (h : Cks W' l v w) (k : Kept W W') : Cks W l v w :=
  ⟨⟨h.1.1, h.1.2.imp id fun ⟨g, cap, cur, h1, h2, h3⟩ => ⟨g, cap, cur, h1, Nat.le_trans k.size_le h2, h3⟩⟩, k.trans h.2⟩
theorem fine_hit {k : Cf} {l : List Bk} {v : List Lk} {j : Nat} (hj : j < v.length) (h : mayL k l v[j] = true) : fineC k l (v.take (j + 1)) = fineC k l (v.take j) ++ [v[j]] := by rw [List.take_succ_eq_append_getElem hj, fineC_hit _ h]
theorem fine_miss {k : Cf} {l : List Bk} {v : List Lk} {j : Nat} (hj : j < v.length) (h : mayL k l v[j] = false) : fineC k l (v.take (j + 1)) = fineC k l (v.take j) := by rw [List.take_succ_eq_append_getElem hj, fineC_miss _ h]
theorem fine_le (k : Cf) (l : List Bk) (v : List Lk) (j : Nat) : (fineC k l (v.take j)).length ≤ j := Nat.le_trans (fineC_length _ _ _) (by rw [List.length_take]; omega)
set_option maxRecDepth 100000 in
set_option maxHeartbeats 3200000 in
theorem refFine_any (A : Option Addr) (c : Nat) (k : Cf) (L : Option Addr) (cl : Nat) (l : List Bk) (V : Option Addr) (cv : Nat) (v : List Lk) (w : World)
    (hk : k.ws.length ≤ 1000) (hl : l.length ≤ 1000000) (hv : v.length ≤ 100000) (hwl : WfL l) (hA : CellsAt w w.heap.size A (intCells k.ws)) (hL : CellsAt w w.heap.size L (blockCells l)) (hV : CellsAt w w.heap.size V (lksCells v)) :
    Calls Tryz.prog 20 #[.agg #[.slice A k.ws.length c, .int .u64 k.seed, .int .i64 k.ep, .int .i64 k.nu, .int .i64 k.de], .slice L l.length cl, .slice V v.length cv] w fun e w' => ∃ A' c', e = .returned (.slice A' (fineC k l v).length c') ∧ Lks w (fineC k l v) (.slice A' (fineC k l v).length c') w' := by
  have K0 := Lib.hid ((Kept.refl w).alloc (.cells #[.slice A k.ws.length c, .int .u64 k.seed, .int .i64 k.ep, .int .i64 k.nu, .int .i64 k.de] 25))
  have HC := Lib.hid (HasCells.new w #[.slice A k.ws.length c, .int .u64 k.seed, .int .i64 k.ep, .int .i64 k.nu, .int .i64 k.de] 25 w.heap.size rfl)
  have HA := Lib.hid (hA.kept K0.out)
  have HL := Lib.hid (hL.kept K0.out)
  have HV := Lib.hid (hV.kept K0.out)
  have HWL := Lib.hid hwl
  clear hA hL hV hwl
  go_enter Tryz.func20, Tryz.ntmps20
  go_wp2_with fail
  generalize w.alloc (.cells #[.slice A k.ws.length c, .int .u64 k.seed, .int .i64 k.ep, .int .i64 k.nu, .int .i64 k.de] 25) = W at *
  generalize w.heap.size = z at *
  go_loopw [7, 8] (fun u i w' => ∃ j : Nat, j ≤ v.length ∧ i = .int .i64 j ∧ ∃ B cb, u = .slice B (fineC k l (v.take j)).length cb ∧ Lks W (fineC k l (v.take j)) (.slice B (fineC k l (v.take j)).length cb) w') (fun _ i _ => v.length - (intOf i).toNat)
  case atStart => exact ⟨0, by omega, rfl, none, 0, rfl, Lks.nil W⟩
  case round =>
    obtain ⟨j, hj, rfl, B, cb, rfl, hI⟩ := hrel
    have HI := Lib.hid hI
    clear hI
    by_cases hlt : j < v.length
    · obtain ⟨zv, ov, rfl, hbv, x0, x1, x2, x3, x4, x5, x6⟩ := lk_at (HV.out.kept HI.out.2) hlt
      have HT1 := Lib.hid (fine_hit (k := k) (l := l) hlt)
      have HT0 := Lib.hid (fine_miss (k := k) (l := l) hlt)
      have HLe := Lib.hid (fine_le k l v j)
      have HM := Lib.hid (fun w' (kk : Kept wr w') => refMay11_any A c k L cl l v[j] w' hk hl HWL.out ((HA.out.kept HI.out.2).kept kk) ((HL.out.kept HI.out.2).kept kk))
      generalize hX : fineC k l (v.take j) = X at *
      clear hX
      obtain ⟨c0, c1, c2, c3, c4⟩ := (HC.out.kept HI.out.2).five
      have hzl := (HC.out.kept HI.out.2).1
      generalize v[j] = x at *
      generalize hmm : mayL k l x = mm at *
      clear hmm
      go_wp2_with fail
      go_region_held3 (fun w' => w'.cell? ⟨z, 0, none⟩ = some (.slice A k.ws.length c) ∧ w'.cell? ⟨z, 1, none⟩ = some (.int .u64 k.seed) ∧ w'.cell? ⟨z, 2, none⟩ = some (.int .i64 k.ep) ∧ w'.cell? ⟨z, 3, none⟩ = some (.int .i64 k.nu) ∧ w'.cell? ⟨z, 4, none⟩ = some (.int .i64 k.de) ∧ w'.cell? ⟨zv, ov + j * 7, none⟩ = some (.int .i64 x.f) ∧ w'.cell? ⟨zv, ov + j * 7 + 1, none⟩ = some (.int .i64 x.s.e) ∧ w'.cell? ⟨zv, ov + j * 7 + 2, none⟩ = some (.int .u64 x.s.r.1) ∧ w'.cell? ⟨zv, ov + j * 7 + 3, none⟩ = some (.int .u64 x.s.r.2) ∧ w'.cell? ⟨zv, ov + j * 7 + 4, none⟩ = some (.int .i64 x.t.e) ∧ w'.cell? ⟨zv, ov + j * 7 + 5, none⟩ = some (.int .u64 x.t.r.1) ∧ w'.cell? ⟨zv, ov + j * 7 + 6, none⟩ = some (.int .u64 x.t.r.2) ∧ Kept wr w')
        (first | exact ⟨c0, c1, c2, c3, c4, x0, x1, x2, x3, x4, x5, x6, Kept.refl _⟩ | exact ⟨c0, c1, c2, c3, c4, x0, x1, x2, x3, x4, x5, x6, (Kept.refl _).drew⟩ | assumption | exact keepP12 hzl hzl hzl hzl hzl hbv hbv hbv hbv hbv hbv hbv (by assumption) (by assumption))
        (first
          | (go_at_call 6; ((first | (with_reducible refine (HM.out _ (by assumption : _ ∧ _ ∧ _ ∧ _ ∧ _ ∧ _ ∧ _ ∧ _ ∧ _ ∧ _ ∧ _ ∧ _ ∧ Kept wr _).2.2.2.2.2.2.2.2.2.2.2.2).mono ?_)); rintro e w' ⟨rfl, kk⟩)))
      rename_i hh
      have k := hh.2.2.2.2.2.2.2.2.2.2.2.2
      clear hh
      generalize w' = V1 at *
      have HI1 := Lib.hid (HI.out.kept k)
      have y0 := (k.cell (p := ⟨zv, ov + j * 7, none⟩) hbv).trans x0
      have y1 := (k.cell (p := ⟨zv, ov + j * 7 + 1, none⟩) hbv).trans x1
      have y2 := (k.cell (p := ⟨zv, ov + j * 7 + 2, none⟩) hbv).trans x2
      have y3 := (k.cell (p := ⟨zv, ov + j * 7 + 3, none⟩) hbv).trans x3
      have y4 := (k.cell (p := ⟨zv, ov + j * 7 + 4, none⟩) hbv).trans x4
      have y5 := (k.cell (p := ⟨zv, ov + j * 7 + 5, none⟩) hbv).trans x5
      have y6 := (k.cell (p := ⟨zv, ov + j * 7 + 6, none⟩) hbv).trans x6
      clear k x0 x1 x2 x3 x4 x5 x6 c0 c1 c2 c3 c4 hzl HM
      cases mm with
      | true =>
        have HT := Lib.hid (HT1.out (by first | rfl | trivial))
        have hll : X.length + 1 ≤ 1000000 := by have := HLe.out; omega
        clear HT1 HT0
        go_wp2_with (refine wpList_lks _ rfl 27 Tryz.underlying27 _ _ rfl W X _ rfl (HI1.out.alloc _) _ _ 1 1 [x] rfl rfl (lks_new _ rfl _) hll ?_; intro A' c' w' HI' _; rw [← HT.out] at HI' ⊢)
        go_roundw
        case rel => exact ⟨j + 1, by omega, by go_num, A', c', rfl, HI'⟩
        case measure => simp [intOf]; omega
      | false =>
        have HT := Lib.hid (HT0.out (by first | rfl | trivial))
        clear HT1 HT0
        go_wp2_with fail
        go_roundw
        case rel => exact ⟨j + 1, by omega, by go_num, B, cb, by rw [HT.out], by rw [HT.out]; exact HI1.out⟩
        case measure => simp [intOf]; omega
    · have hjl : j = v.length := by omega
      subst hjl
      have HT := Lib.hid (show v.take v.length = v from List.take_length)
      rw [HT.out] at HI ⊢
      go_wp2_with fail
      go_ret
      exact ⟨B, cb, rfl, HI.out.mono K0.out⟩

end Go.Proofs.YthgammhjoajhoaaGreat
