/-
  The chapter's example in package marigoldlaw02: awake returns true.
-/
import Derived.Test.YtaldldplpefobaaMix
namespace Go.Proofs.Ytaldldplpefobaa
open Go.ChangeShapes Go.WideShapes Go.ChangeAt Go.RowKit

theorem Try.cells22 : Try.prog.cellsOf 22 = 1 := by kernel_rfl
theorem idEq (h1 l1 h2 l2 : Int) (w : World) :
    Sem.run Try.prog (Op.equalIn 10000 25 (.agg #[.int .u64 h1, .int .u64 l1]) (.agg #[.int .u64 h2, .int .u64 l2])) w = .ok ((h1 == h2) && (l1 == l2)) w := by
  obtain ⟨i, hi⟩ := info_of_underlying Try.underlying22
  rw [show (10000 : Nat) = 9998 + 1 + 1 from rfl, run_equalIn_array w (9998 + 1) _ _ Try.underlying25 hi, Try.cells22]
  have e2 : List.range 2 = [0, 1] := rfl
  rw [e2]
  simp only [Op.eqItems, Sem.run_bind]
  go_simp
  by_cases h : h1 = h2 <;> by_cases k : l1 = l2 <;> simp [h, k]

theorem WordsAt.one (w : World) (x b : Nat) (hb : b = w.heap.size) : WordsAt (w.alloc (.cells #[.int .u64 x] 22)) (w.alloc (.cells #[.int .u64 x] 22)).heap.size (some ⟨b, 0, none⟩) [x] := fun j y hy => by
  subst hb
  rcases j with _ | j
  · simp at hy; subst hy
    exact ⟨_, rfl, by simp, by simp [go_sem, Addr.add]⟩
  · simp at hy

theorem ids_apart : ∃ p q : Nat × Nat, idOf [1] = p ∧ idOf [2] = q ∧ lessN p q = true ∧ lessN q p = false ∧ ((p.1 : Int) == (q.1 : Int)) = false := ⟨_, _, rfl, rfl, by decide, by decide, by decide⟩
theorem word_zero : wordN 0 = 0 := by decide
theorem step_one : ((stepN 1 2 : Nat) : Int) = 2092789425003139053 := by decide

theorem word_zero_any (w : World) : Calls Try.prog 11 #[.int .u64 0] w fun e w' => e = .returned (.int .u64 0) ∧ w = w' := by
  have h := word_any 0 (by decide) w
  rw [word_zero] at h
  exact h
theorem step_one_any (w : World) : Calls Try.prog 13 #[.int .u64 1, .int .u64 2] w fun e w' => e = .returned (.int .u64 2092789425003139053) ∧ w = w' := by
  have h := step_any 1 2 (by decide) (by decide) w
  rw [step_one] at h
  exact h

/-- Two ids that lie in blocks a and b. -/
theorem two_keep {W u v : World} {a b : Nat} {c0 c1 d0 d1 : Value} (ha : a < W.heap.size) (hb : b < W.heap.size)
    (h : u.cell? ⟨a, 0, none⟩ = some c0 ∧ u.cell? ⟨a, 1, none⟩ = some c1 ∧ u.cell? ⟨b, 0, none⟩ = some d0 ∧ u.cell? ⟨b, 1, none⟩ = some d1 ∧ Kept W u) (k : Kept u v) :
    v.cell? ⟨a, 0, none⟩ = some c0 ∧ v.cell? ⟨a, 1, none⟩ = some c1 ∧ v.cell? ⟨b, 0, none⟩ = some d0 ∧ v.cell? ⟨b, 1, none⟩ = some d1 ∧ Kept W v := by
  obtain ⟨h1, h2, h3, h4, h5⟩ := h
  have := h5.size_le
  exact ⟨(k.cell (by simp; omega)).trans h1, (k.cell (by simp; omega)).trans h2, (k.cell (by simp; omega)).trans h3, (k.cell (by simp; omega)).trans h4, h5.trans k⟩

attribute [local go_sem] idEq in
set_option maxHeartbeats 1600000 in
theorem awake_any (w : World) : Calls Try.prog 9 #[] w fun e w' => e = .returned (.bool true) ∧ Kept w w' := by
  obtain ⟨p, q, hP, hQ, l1, l2, l3⟩ := ids_apart
  have HP := Lib.hid hP; have HQ := Lib.hid hQ; have L1 := Lib.hid l1; have L2 := Lib.hid l2
  clear hP hQ l1 l2
  go_enter Try.func9, Try.ntmps9
  go_wp2_with fail
  refine (of_any _ 1 _ [1] rfl (by omega) _ (by simp) (WordsAt.one w 1 _ rfl)).mono ?_
  rintro e w1 ⟨rfl, k1⟩
  rw [HP.out]
  go_wp2_with fail
  refine (of_any _ 1 _ [2] rfl (by omega) _ (by simp) (WordsAt.one _ 2 _ (by simp))).mono ?_
  rintro e w2 ⟨rfl, k2⟩
  rw [HQ.out]
  have hz : w1.heap.size + 1 < w2.heap.size := by have := k2.size_le; simp at this; omega
  have c0 : w2.cell? ⟨w1.heap.size, 0, none⟩ = some (.int .u64 p.1) := by rw [k2.cell (by simp; omega)]; simp [go_sem]
  have c1 : w2.cell? ⟨w1.heap.size, 1, none⟩ = some (.int .u64 p.2) := by rw [k2.cell (by simp; omega)]; simp [go_sem]
  go_wp2_with fail
  have gW : Kept w (w2.alloc (.cells #[.int .u64 q.1, .int .u64 q.2] 25)) := ((((Kept.refl w).alloc _).trans k1).alloc _ |>.alloc _ |>.trans k2).alloc _
  have e0 : (w2.alloc (.cells #[.int .u64 q.1, .int .u64 q.2] 25)).cell? ⟨w1.heap.size, 0, none⟩ = some (.int .u64 p.1) := by rw [World.cell?_alloc_lt _ _ _ (by simp; omega)]; exact c0
  have e1 : (w2.alloc (.cells #[.int .u64 q.1, .int .u64 q.2] 25)).cell? ⟨w1.heap.size, 1, none⟩ = some (.int .u64 p.2) := by rw [World.cell?_alloc_lt _ _ _ (by simp; omega)]; exact c1
  have d0 : (w2.alloc (.cells #[.int .u64 q.1, .int .u64 q.2] 25)).cell? ⟨w2.heap.size, 0, none⟩ = some (.int .u64 q.1) := by simp [go_sem]
  have d1 : (w2.alloc (.cells #[.int .u64 q.1, .int .u64 q.2] 25)).cell? ⟨w2.heap.size, 1, none⟩ = some (.int .u64 q.2) := by simp [go_sem]
  have ha : w1.heap.size < (w2.alloc (.cells #[.int .u64 q.1, .int .u64 q.2] 25)).heap.size := by simp; omega
  have hb : w2.heap.size < (w2.alloc (.cells #[.int .u64 q.1, .int .u64 q.2] 25)).heap.size := by simp
  clear c0 c1 hz k1 k2
  generalize (w2.alloc (.cells #[.int .u64 q.1, .int .u64 q.2] 25)) = W at *
  generalize w1.heap.size = b1 at *
  generalize w2.heap.size = b2 at *
  go_region_held3 (fun w' => w'.cell? ⟨b1, 0, none⟩ = some (.int .u64 p.1) ∧ w'.cell? ⟨b1, 1, none⟩ = some (.int .u64 p.2) ∧ w'.cell? ⟨b2, 0, none⟩ = some (.int .u64 q.1) ∧ w'.cell? ⟨b2, 1, none⟩ = some (.int .u64 q.2) ∧ Kept W w')
    (first | exact ⟨e0, e1, d0, d1, Kept.refl _⟩ | exact ⟨e0, e1, d0, d1, (Kept.refl _).drew⟩ | assumption | exact two_keep ha hb (by assumption) (by assumption))
    (first
      | (go_at_call 11; refine (word_zero_any _).mono ?_; rintro e w' ⟨rfl, rfl⟩)
      | (go_at_call 13; refine (step_one_any _).mono ?_; rintro e w' ⟨rfl, rfl⟩)
      | (go_at_call 17; ((with_reducible refine (less_any p q _).mono ?_); rintro e w' ⟨rfl, kk⟩; rw [L1.out]))
      | (go_at_call 17; ((with_reducible refine (less_any q p _).mono ?_); rintro e w' ⟨rfl, kk⟩; rw [L2.out])))
  rename_i hh
  have hk := gW.trans hh.2.2.2.2
  clear hh
  go_wp2_with fail
  go_ret
  exact ⟨rfl, hk⟩

end Go.Proofs.Ytaldldplpefobaa
