/-
  The contracts of slices.Clone and slices.Equal at items, and of package array's call mayStand and May.
-/
import Derived.Lib.SliceRun
import Derived.Test.YtabmdilhfiembaaArrayFind
import Derived.Test.YtabmdilhfiembaaArraySettle
namespace Go.Proofs.Ytabmdilhfiembaa
set_option maxRecDepth 100000
set_option linter.unusedVariables false
set_option linter.unusedSimpArgs false
set_option linter.unusedVariables false
open Go.ChangeShapes Go.WideShapes Go.ChangeAt Go.RowKit

/-! ### Plain -/
def sameIt (s t : It) : Bool := sameI s.x t.x && (decide (s.p = t.p) && (decide (s.o = t.o) && (decide (s.w = t.w) && (decide (s.b = t.b) && decide (s.h = t.h)))))
theorem sameIt_iff {s t : It} : sameIt s t = true ↔ s = t := by
  unfold sameIt sameI
  simp only [Bool.and_eq_true, decide_eq_true_iff]
  constructor
  · rintro ⟨h1, h2, h3, h4, h5, h6⟩; exact It.same h1 h2 h3 h4 h5 h6
  · rintro rfl; exact ⟨rfl, rfl, rfl, rfl, rfl, rfl⟩
def sameL (a b : List It) : Bool := decide (a.length = b.length ∧ ∀ k, k < a.length → sameIt (itA a k) (itA b k) = true)
theorem sameL_iff {a b : List It} : sameL a b = true ↔ a = b := by
  unfold sameL
  rw [decide_eq_true_iff]
  constructor
  · rintro ⟨h1, h2⟩; exact it_ext h1 fun k hk => sameIt_iff.1 (h2 k hk)
  · rintro rfl; exact ⟨rfl, fun k _ => sameIt_iff.2 rfl⟩

theorem eqItem (s t : It) (w : World) : Sem.run Try.prog (Op.equalIn 10000 50 (.agg #[.int .u64 s.x.1, .int .u64 s.x.2, .int .i64 s.p, .int .i64 s.o, .int .i64 s.w, .int .i64 s.b, .int .i64 s.h]) (.agg #[.int .u64 t.x.1, .int .u64 t.x.2, .int .i64 t.p, .int .i64 t.o, .int .i64 t.w, .int .i64 t.b, .int .i64 t.h])) w = .ok (sameIt s t) w := by
  unfold sameIt
  rw [show (10000 : Nat) = 9997 + 1 + 1 + 1 from rfl]
  go_simp
  rw [show (9999 : Nat) = 9997 + 1 + 1 from rfl, eqId, sameI_int]
  go_simp
  cases sameI s.x t.x <;> by_cases h2 : s.p = t.p <;> by_cases h3 : s.o = t.o <;> by_cases h4 : s.w = t.w <;> by_cases h5 : s.b = t.b <;> by_cases h6 : s.h = t.h <;> simp [h2, h3, h4, h5, h6]

/-! ### Clone -/
theorem Its.made (w : World) : Its w [] (.slice (some ⟨w.heap.size, 0, none⟩) 0 0) (w.alloc (.cells #[] 50)) :=
  ⟨World.ownsRow_made w #[] 0 (Nat.le_refl _) (Nat.zero_le _) rfl, (Kept.refl w).alloc _⟩
set_option maxRecDepth 100000 in
set_option maxHeartbeats 1600000 in
theorem clone_any (A : Option Addr) (c : Nat) (a : List It) (hl : a.length ≤ 100000) (w : World) (hA : CellsAt w w.heap.size A (itemCells a)) :
    Calls Try.prog 44 #[.slice A a.length c] w fun e w' => ∃ A' c', e = .returned (.slice A' a.length c') ∧ Its w a (.slice A' a.length c') w' := by
  have q : ∀ (w : World) (a : Option Addr) (n c n' c' : Nat), (binOp .eql 36 (.slice a n c) (.slice none n' c')).run Try.prog w = .ok (.bool a.isNone) w := fun w a n c n' c' => Lib.run_eql_slice_nil w _ _ a n c n' c' Try.underlying36
  rcases A with _ | ad
  · have h0 : a = [] := by
      rcases a with _ | ⟨t, r⟩
      · rfl
      · obtain ⟨ad, e, _⟩ := hA 0 _ (by simp [itemCells, itCells]; rfl)
        cases e
    subst h0
    clear hA
    go_enter Try.func44, Try.ntmps44
    go_wp2_with fail
    go_ret
    exact ⟨none, 0, rfl, Its.nil w⟩
  · have HA := Lib.hid (hA.kept ((Kept.refl w).alloc (.cells #[] 50)))
    clear hA
    go_enter Try.func44, Try.ntmps44
    go_wp2_with (refine wpList_its _ rfl 36 Try.underlying36 _ _ rfl w [] _ rfl (Its.made w) _ (some ad) a.length c a rfl rfl HA.out (by simp; omega) ?_; intro A' c' w' HI' _; rw [List.nil_append] at HI'; have HI := Lib.hid HI'; clear HI')
    go_ret
    exact ⟨A', c', by first | rfl | simp, HI.out⟩

/-! ### Equal -/
attribute [local go_sem high] eqItem in
set_option maxRecDepth 100000 in
set_option maxHeartbeats 1600000 in
theorem equal_any (A : Option Addr) (c : Nat) (a : List It) (B : Option Addr) (d : Nat) (b : List It) (hl : a.length ≤ 100000) (hm : b.length ≤ 100000) (w : World) (hA : CellsAt w w.heap.size A (itemCells a)) (hB : CellsAt w w.heap.size B (itemCells b)) :
    Calls Try.prog 48 #[.slice A a.length c, .slice B b.length d] w fun e w' => e = .returned (.bool (sameL a b)) ∧ Kept w w' := by
  have HA := Lib.hid hA
  have HB := Lib.hid hB
  clear hA hB
  by_cases hn : a.length = b.length
  · have HN := Lib.hid hn
    rw [← hn]
    clear hn
    go_enter Try.func48, Try.ntmps48
    go_wp2_with fail
    go_loopw [13] (fun i w' => ∃ k : Nat, k ≤ a.length ∧ i = .int .i64 k ∧ (∀ j, j < k → sameIt (itA a j) (itA b j) = true) ∧ Kept w w') (fun i _ => a.length - (intOf i).toNat)
    case atStart => exact ⟨0, by omega, rfl, fun j h => by omega, Kept.refl _⟩
    case round =>
      obtain ⟨k, hk, rfl, hs, hK⟩ := hrel
      have HS := Lib.hid hs
      have HK := Lib.hid hK
      clear hs hK
      by_cases hlt : k < a.length
      · have hlb : k < b.length := by rw [← HN.out]; exact hlt
        obtain ⟨z, o, rfl, hb, c0, c1, c2, c3, c4, c5, c6⟩ := item_at (HA.out.kept HK.out) hlt
        obtain ⟨z2, o2, rfl, hb2, d0, d1, d2, d3, d4, d5, d6⟩ := item_at (HB.out.kept HK.out) hlb
        have HE1 := Lib.hid (itA_get hlt)
        have HE2 := Lib.hid (itA_get hlb)
        generalize a[k] = s at *
        generalize b[k] = t at *
        cases hst : sameIt s t with
        | true =>
          have HT := Lib.hid (show ∀ j, j < k + 1 → sameIt (itA a j) (itA b j) = true from fun j hj => by
            by_cases e : j = k
            · subst e; rw [HE1.out, HE2.out]; exact hst
            · exact HS.out j (by omega))
          go_wp2_with fail
          go_quiet (fail)
          go_wp2_with fail
          go_roundw
          case rel => exact ⟨k + 1, by omega, by go_num, HT.out, HK.out.drewN _⟩
          case measure => simp [intOf]; omega
        | false =>
          have HF := Lib.hid (show sameL a b = false from decide_eq_false (fun h => by have := h.2 k hlt; rw [HE1.out, HE2.out, hst] at this; cases this))
          go_wp2_with fail
          go_quiet (fail)
          go_wp2_with fail
          go_ret
          exact ⟨by rw [HF.out]; rfl, HK.out.drewN _⟩
      · have hkl : k = a.length := by omega
        subst hkl
        have HT := Lib.hid (show sameL a b = true from decide_eq_true ⟨HN.out, HS.out⟩)
        go_wp2_with fail
        go_ret
        exact ⟨by rw [HT.out]; rfl, HK.out⟩
  · have HF := Lib.hid (show sameL a b = false from decide_eq_false (fun h => hn h.1))
    have hb : ((a.length : Int) != (b.length : Int)) = true := by rw [bne_iff_ne]; omega
    clear hn
    go_enter Try.func48, Try.ntmps48
    go_wp2_with fail
    go_ret
    exact ⟨by rw [HF.out]; rfl, Kept.refl _⟩

end Go.Proofs.Ytabmdilhfiembaa
