/-
  The contracts of less, has, Has, Same, May and Fine of the given package marigoldref11.
-/
import Derived.Test.YthgammhjoajhoaaCkRow
import Derived.Test.YthgammhjoajhoaaLkRow
import Derived.Test.YthgammhjoajhoaaFfgEq
import Derived.Test.YthgammhjoajhoaaMixLess
import Derived.Test.YthgammhjoajhoaaMixG
import Derived.Test.YthgammhjoajhoaaTreeRefG
import Derived.Test.YthgammhjoajhoaaDutyRefG
import Derived.Test.YthgammhjoajhoaaGround
namespace Go.Proofs.Ythgammhjoajhoaa
set_option maxRecDepth 100000
set_option linter.unusedVariables false
set_option linter.unusedSimpArgs false
set_option linter.unusedSimpArgs false
set_option linter.unusedVariables false
open Go.ChangeShapes Go.WideShapes Go.ChangeAt Go.RowKit

/-! ### Is one there? -/
def hasK (l : List Ck) (x : Ck) : Bool := decide (x ∈ l)
theorem hasK_iff {l : List Ck} {x : Ck} : hasK l x = true ↔ x ∈ l := decide_eq_true_iff
attribute [local go_sem high] eqK in
set_option maxRecDepth 100000 in
set_option maxHeartbeats 1600000 in
theorem refHasIn_any (A : Option Addr) (c : Nat) (l : List Ck) (hl : l.length ≤ 100000) (x : Ck) (w : World) (hA : CellsAt w w.heap.size A (cksCells l)) :
    Calls Try.prog 29 #[.slice A l.length c, .agg #[.int .i64 x.e, .int .u64 x.r.1, .int .u64 x.r.2]] w fun e w' => e = .returned (.bool (hasK l x)) ∧ Kept w w' := by
  have HK := Lib.hid ((Kept.refl w).alloc (.cells #[.int .i64 x.e, .int .u64 x.r.1, .int .u64 x.r.2] 31))
  have HA := Lib.hid (hA.kept HK.out)
  have HC := Lib.hid (HasCells.new w #[.int .i64 x.e, .int .u64 x.r.1, .int .u64 x.r.2] 31 w.heap.size rfl)
  clear hA
  go_enter Try.func29, Try.ntmps29
  go_wp2_with fail
  generalize w.alloc (.cells #[.int .i64 x.e, .int .u64 x.r.1, .int .u64 x.r.2] 31) = W at *
  generalize w.heap.size = z at *
  go_loopw [5] (fun i w' => ∃ k : Nat, k ≤ l.length ∧ i = .int .i64 k ∧ x ∉ l.take k ∧ Kept W w') (fun i _ => l.length - (intOf i).toNat)
  case atStart => exact ⟨0, by omega, rfl, by simp, Kept.refl _⟩
  case round =>
    obtain ⟨k, hk, rfl, hx, hKr⟩ := hrel
    have HX := Lib.hid hx
    have HR := Lib.hid hKr
    clear hx hKr
    by_cases hlt : k < l.length
    · obtain ⟨zz, o, rfl, hb, e0, e1, e2⟩ := ck_at (HA.out.kept HR.out) hlt
      obtain ⟨d0, d1, d2⟩ := (HC.out.kept HR.out).three
      have HM := Lib.hid (List.getElem_mem hlt)
      have HT := Lib.hid (List.take_succ_eq_append_getElem hlt)
      generalize l[k] = y at *
      cases hs : sameK y x with
      | true =>
        have HP := Lib.hid (show hasK l x = true from hasK_iff.2 (by have := HM.out; rwa [sameK_iff.1 hs] at this))
        go_wp2_with fail
        go_quiet (fail)
        go_wp2_with fail
        go_ret
        exact ⟨by rw [HP.out]; rfl, (HK.out.trans HR.out).drewN _⟩
      | false =>
        have HP := Lib.hid (show x ∉ l.take (k + 1) from fun h => by
          rw [HT.out] at h
          rcases List.mem_append.1 h with h | h
          · exact HX.out h
          · rw [List.mem_singleton] at h
            rw [h, sameK_yes rfl] at hs
            cases hs)
        go_wp2_with fail
        go_quiet (fail)
        go_wp2_with fail
        go_roundw
        case rel => exact ⟨k + 1, by omega, by go_num, HP.out, HR.out.drewN _⟩
        case measure => simp [intOf]; omega
    · have hkl : k = l.length := by omega
      subst hkl
      have HP := Lib.hid (show hasK l x = false from decide_eq_false (by have := HX.out; rwa [List.take_length] at this))
      go_wp2_with fail
      go_ret
      exact ⟨by rw [HP.out]; rfl, HK.out.trans HR.out⟩
set_option maxHeartbeats 1600000 in
theorem refHasK_any (A : Option Addr) (c : Nat) (l : List Ck) (hl : l.length ≤ 100000) (x : Ck) (w : World) (hA : CellsAt w w.heap.size A (cksCells l)) :
    Calls Try.prog 12 #[.slice A l.length c, .agg #[.int .i64 x.e, .int .u64 x.r.1, .int .u64 x.r.2]] w fun e w' => e = .returned (.bool (hasK l x)) ∧ Kept w w' := by
  have HK := Lib.hid ((Kept.refl w).alloc (.cells #[.int .i64 x.e, .int .u64 x.r.1, .int .u64 x.r.2] 31))
  have HA := Lib.hid (hA.kept HK.out)
  have HC := Lib.hid (HasCells.new w #[.int .i64 x.e, .int .u64 x.r.1, .int .u64 x.r.2] 31 w.heap.size rfl)
  clear hA
  go_enter Try.func12, Try.ntmps12
  obtain ⟨d0, d1, d2⟩ := HC.out.three
  go_wp2_with fail
  refine (refHasIn_any A c l hl x _ HA.out).mono ?_
  rintro e W1 ⟨rfl, k1⟩
  have K1 := Lib.hid (HK.out.trans k1)
  clear k1 d0 d1 d2
  go_wp2_with fail
  go_ret
  exact ⟨rfl, K1.out⟩

/-! ### Are two lists the same? -/
def sameKs (a b : List Ck) : Bool := decide (a = b)
theorem sameKs_iff {a b : List Ck} : sameKs a b = true ↔ a = b := decide_eq_true_iff
theorem sameKs_of {a b : List Ck} (hn : a.length = b.length) (h : ∀ j (h1 : j < a.length) (h2 : j < b.length), sameK a[j] b[j] = true) : sameKs a b = true :=
  sameKs_iff.2 (List.ext_getElem hn fun j h1 h2 => sameK_iff.1 (h j h1 h2))
attribute [local go_sem high] eqK in
set_option maxRecDepth 100000 in
set_option maxHeartbeats 1600000 in
theorem refSameK_any (A : Option Addr) (c : Nat) (a : List Ck) (B : Option Addr) (d : Nat) (b : List Ck) (hl : a.length ≤ 100000) (hm : b.length ≤ 100000) (w : World) (hA : CellsAt w w.heap.size A (cksCells a)) (hB : CellsAt w w.heap.size B (cksCells b)) :
    Calls Try.prog 15 #[.slice A a.length c, .slice B b.length d] w fun e w' => e = .returned (.bool (sameKs a b)) ∧ Kept w w' := by
  have HA := Lib.hid hA
  have HB := Lib.hid hB
  clear hA hB
  by_cases hn : a.length = b.length
  · have HN := Lib.hid hn
    rw [← hn]
    clear hn
    go_enter Try.func15, Try.ntmps15
    go_wp2_with fail
    go_loopw [5] (fun i w' => ∃ k : Nat, k ≤ a.length ∧ i = .int .i64 k ∧ (∀ j (h1 : j < a.length) (h2 : j < b.length), j < k → sameK a[j] b[j] = true) ∧ Kept w w') (fun i _ => a.length - (intOf i).toNat)
    case atStart => exact ⟨0, by omega, rfl, fun j _ _ h => by omega, Kept.refl _⟩
    case round =>
      obtain ⟨k, hk, rfl, hs, hK⟩ := hrel
      have HS := Lib.hid hs
      have HK := Lib.hid hK
      clear hs hK
      by_cases hlt : k < a.length
      · have hlb : k < b.length := by rw [← HN.out]; exact hlt
        obtain ⟨z, o, rfl, hb, c0, c1, c2⟩ := ck_at (HA.out.kept HK.out) hlt
        obtain ⟨z2, o2, rfl, hb2, d0, d1, d2⟩ := ck_at (HB.out.kept HK.out) hlb
        have HT := Lib.hid (fun (hst : sameK a[k] b[k] = true) => (show ∀ j (h1 : j < a.length) (h2 : j < b.length), j < k + 1 → sameK a[j] b[j] = true from fun j h1 h2 hj => by
            by_cases e : j = k
            · subst e; exact hst
            · exact HS.out j h1 h2 (by omega)))
        have HFa := Lib.hid (fun (hst : sameK a[k] b[k] = false) => (show sameKs a b = false from decide_eq_false (fun h => by subst h; rw [sameK_yes rfl] at hst; cases hst)))
        clear HS
        generalize a[k] = s at *
        generalize b[k] = t at *
        cases hst : sameK s t with
        | true =>
          have HT2 := Lib.hid (HT.out hst)
          clear HT HFa
          go_wp2_with fail
          go_quiet (fail)
          go_wp2_with fail
          go_roundw
          case rel => exact ⟨k + 1, by omega, by go_num, HT2.out, HK.out.drewN _⟩
          case measure => simp [intOf]; omega
        | false =>
          have HF := Lib.hid (HFa.out hst)
          clear HT HFa
          go_wp2_with fail
          go_quiet (fail)
          go_wp2_with fail
          go_ret
          exact ⟨by rw [HF.out]; rfl, HK.out.drewN _⟩
      · have hkl : k = a.length := by omega
        subst hkl
        have HT := Lib.hid (show sameKs a b = true from sameKs_of HN.out fun j h1 h2 => HS.out j h1 h2 h1)
        clear HS
        go_wp2_with fail
        go_ret
        exact ⟨by rw [HT.out]; rfl, HK.out⟩
  · have HF := Lib.hid (show sameKs a b = false from decide_eq_false (fun h => hn (by rw [h])))
    have hb : ((a.length : Int) != (b.length : Int)) = true := by rw [bne_iff_ne]; omega
    clear hn
    go_enter Try.func15, Try.ntmps15
    go_wp2_with fail
    go_ret
    exact ⟨by rw [HF.out]; rfl, Kept.refl _⟩

/-! ### May -/
/-! ### Fine -/
theorem Lks.mono {W W' w : World} {l : List Lk} {v : Value} (h : Lks W' l v w) (k : Kept W W') : Lks W l v w :=
  ⟨⟨h.1.1, h.1.2.imp id fun ⟨g, cap, cur, h1, h2, h3⟩ => ⟨g, cap, cur, h1, Nat.le_trans k.size_le h2, h3⟩⟩, k.trans h.2⟩
theorem Cks.mono {W W' w : World} {l : List Ck} {v : Value} (h : Cks W' l v w) (k : Kept W W') : Cks W l v w :=
  ⟨⟨h.1.1, h.1.2.imp id fun ⟨g, cap, cur, h1, h2, h3⟩ => ⟨g, cap, cur, h1, Nat.le_trans k.size_le h2, h3⟩⟩, k.trans h.2⟩
theorem fine_hit {k : Cf} {l : List Bk} {v : List Lk} {j : Nat} (hj : j < v.length) (h : mayL k l v[j] = true) : fineC k l (v.take (j + 1)) = fineC k l (v.take j) ++ [v[j]] := by rw [List.take_succ_eq_append_getElem hj, fineC_hit _ h]
theorem fine_miss {k : Cf} {l : List Bk} {v : List Lk} {j : Nat} (hj : j < v.length) (h : mayL k l v[j] = false) : fineC k l (v.take (j + 1)) = fineC k l (v.take j) := by rw [List.take_succ_eq_append_getElem hj, fineC_miss _ h]
theorem fine_le (k : Cf) (l : List Bk) (v : List Lk) (j : Nat) : (fineC k l (v.take j)).length ≤ j := Nat.le_trans (fineC_length _ _ _) (by rw [List.length_take]; omega)

end Go.Proofs.Ythgammhjoajhoaa
