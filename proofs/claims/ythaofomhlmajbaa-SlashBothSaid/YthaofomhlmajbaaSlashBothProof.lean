/-
  Law SlashBoth of layer 12: it does not matter which one of two is told first; nobody is guilty by one vote, nor by votes of others; who is guilty stays so with more votes.
-/
import Derived.Test.YthaofomhlmajbaaSlashAwake
import Derived.Test.YthaofomhlmajbaaFfgOpen
import Derived.Test.YthaofomhlmajbaaGround
import Derived.Test.YthaofomhlmajbaaDutyRefG
namespace Go.Proofs.Ythaofomhlmajbaa.slashBoth
set_option maxRecDepth 100000
set_option linter.unusedVariables false
set_option linter.unusedSimpArgs false
open Go.ChangeShapes Go.WideShapes Go.ChangeAt Go.RowKit
set_option linter.unusedVariables false

theorem ints_atS {w : World} {B : Nat} {A : Option Addr} {l : List Int} (h : CellsAt w B A (intCells l)) (hl : 0 < l.length) : ∃ z o, A = some ⟨z, o, none⟩ ∧ z < B ∧ ∀ i (hi : i < l.length), w.cell? ⟨z, o + i, none⟩ = some (.int .i64 l[i]) := by
  obtain ⟨z, o, e, hb, hc⟩ := h.plain (by rw [intCells_length]; omega)
  exact ⟨z, o, e, hb, fun i hi => hc i _ (by simp [intCells, hi])⟩
theorem guilty_twice (a : Lk) (ha : WfLk a) (w : World) : Calls Try.prog 11 #[.slice (some ⟨w.heap.size, 0, none⟩) 2 2] (w.alloc (.cells #[.int .i64 a.f, .int .i64 a.s.e, .int .u64 a.s.r.1, .int .u64 a.s.r.2, .int .i64 a.t.e, .int .u64 a.t.r.1, .int .u64 a.t.r.2, .int .i64 a.f, .int .i64 a.s.e, .int .u64 a.s.r.1, .int .u64 a.s.r.2, .int .i64 a.t.e, .int .u64 a.t.r.1, .int .u64 a.t.r.2] 28)) fun e w' => ∃ J cj, e = .returned (.slice J 0 cj) ∧ Kept (w.alloc (.cells #[.int .i64 a.f, .int .i64 a.s.e, .int .u64 a.s.r.1, .int .u64 a.s.r.2, .int .i64 a.t.e, .int .u64 a.t.r.1, .int .u64 a.t.r.2, .int .i64 a.f, .int .i64 a.s.e, .int .u64 a.s.r.1, .int .u64 a.s.r.2, .int .i64 a.t.e, .int .u64 a.t.r.1, .int .u64 a.t.r.2] 28)) w' := by
  refine (slashGuilty_any (some ⟨w.heap.size, 0, none⟩) 2 [a, a] _ (by simp) (fun x hx => by
    rcases List.mem_cons.1 hx with rfl | hx
    · exact ha
    · rw [List.mem_singleton] at hx; subst hx; exact ha) (CellsAt.new w #[.int .i64 a.f, .int .i64 a.s.e, .int .u64 a.s.r.1, .int .u64 a.s.r.2, .int .i64 a.t.e, .int .u64 a.t.r.1, .int .u64 a.t.r.2, .int .i64 a.f, .int .i64 a.s.e, .int .u64 a.s.r.1, .int .u64 a.s.r.2, .int .i64 a.t.e, .int .u64 a.t.r.1, .int .u64 a.t.r.2] 28 _ rfl)).mono ?_
  rintro e w' ⟨G, A, c, hG, _, rfl, _, _, k⟩
  have e := hG.one (guil_twice a)
  subst e
  exact ⟨A, c, rfl, k⟩
theorem both_more {v : List Lk} {a : Lk} {G H : List Int} (hG : Guils v G) (hH : Guils (v ++ [a]) H) {y : Int} (hy : y ∈ G) : hasI H y = true :=
  decide_eq_true ((hH.2 y).2 (guil_more (fun x hx => List.mem_append_left _ hx) ((hG.2 y).1 hy)))
theorem both_new {v : List Lk} {a : Lk} {G H : List Int} (hG : Guils v G) (hH : Guils (v ++ [a]) H) {y : Int} (hy : y ∈ H) : hasI G y = false → y = a.f := fun h => by
  rcases guil_new ((hH.2 y).1 hy) with q | q
  · rw [show hasI G y = true from decide_eq_true ((hG.2 y).2 q)] at h; cases h
  · exact q
theorem both_rise {v : List Lk} {H : List Int} (hH : Guils v H) {n : Nat} (hn : n < H.length) (h0 : 0 < n) : H[n - 1]'(by omega) < H[n] := List.pairwise_iff_getElem.1 hH.1 _ _ (by omega) hn (by omega)

/-! ### The walk: the call returns true, and of what was there nothing has changed. -/
set_option maxRecDepth 100000 in
set_option maxHeartbeats 6400000 in
theorem walk (w : World) (a : Lk) (ha : WfLk a) (b : Lk) (hb : WfLk b) (vA : Option Addr) (vc : Nat) (v : List Lk) (vhm : v.length ≤ maxLen) (vhc : v.length ≤ vc) (vhw : WfLks v) (vhl : CellsAt w w.heap.size vA (lksCells v)) :
    Calls Try.prog 4 #[.agg #[.int .i64 a.f, .int .i64 a.s.e, .int .u64 a.s.r.1, .int .u64 a.s.r.2, .int .i64 a.t.e, .int .u64 a.t.r.1, .int .u64 a.t.r.2], .agg #[.int .i64 b.f, .int .i64 b.s.e, .int .u64 b.s.r.1, .int .u64 b.s.r.2, .int .i64 b.t.e, .int .u64 b.t.r.1, .int .u64 b.t.r.2], .slice vA v.length vc] w fun e w' => e = .returned (.bool true) ∧ Kept w w' := by
  go_enter Try.func4, Try.ntmps4
  go_wp2_with fail
  have K0 := Lib.hid (((Kept.refl w).alloc (.cells #[.int .i64 a.f, .int .i64 a.s.e, .int .u64 a.s.r.1, .int .u64 a.s.r.2, .int .i64 a.t.e, .int .u64 a.t.r.1, .int .u64 a.t.r.2] 28)).alloc (.cells #[.int .i64 b.f, .int .i64 b.s.e, .int .u64 b.s.r.1, .int .u64 b.s.r.2, .int .i64 b.t.e, .int .u64 b.t.r.1, .int .u64 b.t.r.2] 28))
  have HV := Lib.hid (vhl.kept K0.out)
  clear vhl
  have HB0 := Lib.hid ((HasCells.new w #[.int .i64 a.f, .int .i64 a.s.e, .int .u64 a.s.r.1, .int .u64 a.s.r.2, .int .i64 a.t.e, .int .u64 a.t.r.1, .int .u64 a.t.r.2] 28 (w.heap.size) (by simp)).alloc (.cells #[.int .i64 b.f, .int .i64 b.s.e, .int .u64 b.s.r.1, .int .u64 b.s.r.2, .int .i64 b.t.e, .int .u64 b.t.r.1, .int .u64 b.t.r.2] 28))
  have HB1 := Lib.hid (HasCells.new (w.alloc (.cells #[.int .i64 a.f, .int .i64 a.s.e, .int .u64 a.s.r.1, .int .u64 a.s.r.2, .int .i64 a.t.e, .int .u64 a.t.r.1, .int .u64 a.t.r.2] 28)) #[.int .i64 b.f, .int .i64 b.s.e, .int .u64 b.s.r.1, .int .u64 b.s.r.2, .int .i64 b.t.e, .int .u64 b.t.r.1, .int .u64 b.t.r.2] 28 (w.heap.size + 1) (by simp))
  generalize ((w.alloc (.cells #[.int .i64 a.f, .int .i64 a.s.e, .int .u64 a.s.r.1, .int .u64 a.s.r.2, .int .i64 a.t.e, .int .u64 a.t.r.1, .int .u64 a.t.r.2] 28)).alloc (.cells #[.int .i64 b.f, .int .i64 b.s.e, .int .u64 b.s.r.1, .int .u64 b.s.r.2, .int .i64 b.t.e, .int .u64 b.t.r.1, .int .u64 b.t.r.2] 28)) = W0 at *
  generalize w.heap.size + 1 = z1 at *
  generalize w.heap.size = z0 at *
  have KB0 := Lib.hid (Kept.refl W0)
  refine (slashAwake W0).mono ?_
  rintro e W1 ⟨rfl, k⟩
  have KB1 := Lib.hid (KB0.out.trans k)
  clear k
  by_cases hv40 : v.length ≤ 40
  · have hvb : decide ((40 : Int) < (v.length : Int)) = false := decide_eq_false (by omega)
    have HP1 := Lib.hid (fun w' => slashPair_any a b w' ha hb)
    have HP2 := Lib.hid (fun w' => slashPair_any b a w' hb ha)
    have HP3 := Lib.hid (fun w' => slashPair_any a a w' ha ha)
    rw [pairL_comm b a] at HP2
    rw [pairL_self a] at HP3
    generalize pairL a b = pb at *
    have hpp : (pb != pb) = false := by simp
    obtain ⟨b00, b01, b02, b03, b04, b05, b06⟩ := (HB0.out.kept KB1.out).seven
    have bz0 := (HB0.out.kept KB1.out).1
    obtain ⟨b10, b11, b12, b13, b14, b15, b16⟩ := (HB1.out.kept KB1.out).seven
    have bz1 := (HB1.out.kept KB1.out).1
    go_wp2_with fail
    refine wp_region_noPanic ?_
    refine wp_region_held_drew (S := (fun w' => w'.cell? ⟨z0, 0, none⟩ = some (.int .i64 a.f) ∧ w'.cell? ⟨z0, 1, none⟩ = some (.int .i64 a.s.e) ∧ w'.cell? ⟨z0, 2, none⟩ = some (.int .u64 a.s.r.1) ∧ w'.cell? ⟨z0, 3, none⟩ = some (.int .u64 a.s.r.2) ∧ w'.cell? ⟨z0, 4, none⟩ = some (.int .i64 a.t.e) ∧ w'.cell? ⟨z0, 5, none⟩ = some (.int .u64 a.t.r.1) ∧ w'.cell? ⟨z0, 6, none⟩ = some (.int .u64 a.t.r.2) ∧ w'.cell? ⟨z1, 0, none⟩ = some (.int .i64 b.f) ∧ w'.cell? ⟨z1, 1, none⟩ = some (.int .i64 b.s.e) ∧ w'.cell? ⟨z1, 2, none⟩ = some (.int .u64 b.s.r.1) ∧ w'.cell? ⟨z1, 3, none⟩ = some (.int .u64 b.s.r.2) ∧ w'.cell? ⟨z1, 4, none⟩ = some (.int .i64 b.t.e) ∧ w'.cell? ⟨z1, 5, none⟩ = some (.int .u64 b.t.r.1) ∧ w'.cell? ⟨z1, 6, none⟩ = some (.int .u64 b.t.r.2) ∧ Kept W1 w')) (by kernel_rfl) ?_ (fun hHeld => ?_)
    · exact ⟨b00, b01, b02, b03, b04, b05, b06, b10, b11, b12, b13, b14, b15, b16, (Kept.refl _).drew⟩
    refine wpAnyH_take (i := 0) (v := ?_) (by simp only [List.getElem?_toArray, List.getElem?_cons_succ, List.getElem?_cons_zero]; rfl) (by kernel_rfl) (by kernel_rfl) (by kernel_rfl) (fun _ _ _ h => h) (Or.inl ⟨by rfl, ?_⟩) (by assumption) ?_
    rotate_left
    · intro w hSw
      (try dsimp only at hSw)
      go_simp
      (try with_reducible rfl)
    simp only [Act.put, List.setIfInBounds_toArray, List.set_cons_zero, List.set_cons_succ]
    refine wpAnyH_take (i := 1) (v := ?_) (by simp only [List.getElem?_toArray, List.getElem?_cons_succ, List.getElem?_cons_zero]; rfl) (by kernel_rfl) (by kernel_rfl) (by kernel_rfl) (fun _ _ _ h => h) (Or.inl ⟨by rfl, ?_⟩) (by assumption) ?_
    rotate_left
    · intro w hSw
      (try dsimp only at hSw)
      go_simp
      (try with_reducible rfl)
    simp only [Act.put, List.setIfInBounds_toArray, List.set_cons_zero, List.set_cons_succ]
    refine wpAnyH_take (i := 2) (v := ?_) (by simp only [List.getElem?_toArray, List.getElem?_cons_succ, List.getElem?_cons_zero]; rfl) (by kernel_rfl) (by kernel_rfl) (by kernel_rfl) (fun _ _ _ h => h) (Or.inl ⟨by rfl, ?_⟩) (by assumption) ?_
    rotate_left
    · intro w hSw
      (try dsimp only at hSw)
      go_simp
      (try with_reducible rfl)
    simp only [Act.put, List.setIfInBounds_toArray, List.set_cons_zero, List.set_cons_succ]
    refine wpAnyH_take (i := 3) (v := ?_) (by simp only [List.getElem?_toArray, List.getElem?_cons_succ, List.getElem?_cons_zero]; rfl) (by kernel_rfl) (by kernel_rfl) (by kernel_rfl) (fun _ _ _ h => h) (Or.inl ⟨by rfl, ?_⟩) (by assumption) ?_
    rotate_left
    · intro w hSw
      (try dsimp only at hSw)
      go_simp
      (try with_reducible rfl)
    simp only [Act.put, List.setIfInBounds_toArray, List.set_cons_zero, List.set_cons_succ]
    refine wpAnyH_take (i := 4) (v := ?_) (by simp only [List.getElem?_toArray, List.getElem?_cons_succ, List.getElem?_cons_zero]; rfl) (by kernel_rfl) (by kernel_rfl) (by kernel_rfl) (fun _ _ _ h => h) (Or.inl ⟨by rfl, ?_⟩) (by assumption) ?_
    rotate_left
    · intro w hSw
      (try dsimp only at hSw)
      go_simp
      (try with_reducible rfl)
    simp only [Act.put, List.setIfInBounds_toArray, List.set_cons_zero, List.set_cons_succ]
    refine wpAnyH_take (i := 5) (v := ?_) (by simp only [List.getElem?_toArray, List.getElem?_cons_succ, List.getElem?_cons_zero]; rfl) (by kernel_rfl) (by kernel_rfl) (by kernel_rfl) (fun _ _ _ h => h) (Or.inl ⟨by rfl, ?_⟩) (by assumption) ?_
    rotate_left
    · intro w hSw
      (try dsimp only at hSw)
      go_simp
      (try with_reducible rfl)
    simp only [Act.put, List.setIfInBounds_toArray, List.set_cons_zero, List.set_cons_succ]
    try simp only [hvb]
    refine wpAnyH_take (i := 6) (v := ?_) (by simp only [List.getElem?_toArray, List.getElem?_cons_succ, List.getElem?_cons_zero]; rfl) (by kernel_rfl) (by kernel_rfl) (by kernel_rfl) (fun _ _ _ h => h) (Or.inl ⟨by rfl, ?_⟩) (by assumption) ?_
    rotate_left
    · intro w hSw
      (try dsimp only at hSw)
      go_simp
      (try with_reducible rfl)
    simp only [Act.put, List.setIfInBounds_toArray, List.set_cons_zero, List.set_cons_succ]
    refine wpAnyH_take (i := 7) (v := ?_) (by simp only [List.getElem?_toArray, List.getElem?_cons_succ, List.getElem?_cons_zero]; rfl) (by kernel_rfl) (by kernel_rfl) (by kernel_rfl) (fun _ _ _ h => h) (Or.inl ⟨by rfl, ?_⟩) (by assumption) ?_
    rotate_left
    · intro w hSw
      (try dsimp only at hSw)
      go_simp
      (try with_reducible rfl)
    simp only [Act.put, List.setIfInBounds_toArray, List.set_cons_zero, List.set_cons_succ]
    refine wpAnyH_take (i := 8) (v := ?_) (by simp only [List.getElem?_toArray, List.getElem?_cons_succ, List.getElem?_cons_zero]; rfl) (by kernel_rfl) (by kernel_rfl) (by kernel_rfl) (fun _ _ _ h => h) (Or.inl ⟨by rfl, ?_⟩) (by assumption) ?_
    rotate_left
    · intro w hSw
      (try dsimp only at hSw)
      go_simp
      (try with_reducible rfl)
    simp only [Act.put, List.setIfInBounds_toArray, List.set_cons_zero, List.set_cons_succ]
    refine wpAnyH_take (i := 9) (v := ?_) (by simp only [List.getElem?_toArray, List.getElem?_cons_succ, List.getElem?_cons_zero]; rfl) (by kernel_rfl) (by kernel_rfl) (by kernel_rfl) (fun _ _ _ h => h) (Or.inl ⟨by rfl, ?_⟩) (by assumption) ?_
    rotate_left
    · intro w hSw
      (try dsimp only at hSw)
      go_simp
      (try with_reducible rfl)
    simp only [Act.put, List.setIfInBounds_toArray, List.set_cons_zero, List.set_cons_succ]
    refine wpAnyH_take (i := 11) (v := ?_) (by simp only [List.getElem?_toArray, List.getElem?_cons_succ, List.getElem?_cons_zero]; rfl) (by kernel_rfl) (by kernel_rfl) (by kernel_rfl) (fun _ _ _ h => h) (Or.inl ⟨by rfl, ?_⟩) (by assumption) ?_
    rotate_left
    · intro w hSw
      (try dsimp only at hSw)
      go_simp
      (try with_reducible rfl)
    simp only [Act.put, List.setIfInBounds_toArray, List.set_cons_zero, List.set_cons_succ]
    refine wpAnyH_take (i := 12) (v := ?_) (by simp only [List.getElem?_toArray, List.getElem?_cons_succ, List.getElem?_cons_zero]; rfl) (by kernel_rfl) (by kernel_rfl) (by kernel_rfl) (fun _ _ _ h => h) (Or.inl ⟨by rfl, ?_⟩) (by assumption) ?_
    rotate_left
    · intro w hSw
      (try dsimp only at hSw)
      go_simp
      (try with_reducible rfl)
    simp only [Act.put, List.setIfInBounds_toArray, List.set_cons_zero, List.set_cons_succ]
    refine wpAnyH_ready (rs := [10]) (by kernel_rfl) (by simp) ?_
    refine AllReadyH.cons (by simp only [List.getElem?_toArray, List.getElem?_cons_succ, List.getElem?_cons_zero]; rfl) (fun K hK => ?_) AllReadyH.nil
    go_simp
    go_at_call 13; with_reducible refine (HP1.out _).mono ?_
    rintro e w' ⟨rfl, kk⟩
    try go_wp2_with fail
    refine hK.out _ _ ?_ (fun hHeld2 => ?_)
    · (first | exact keepP14 bz0 bz0 bz0 bz0 bz0 bz0 bz0 bz1 bz1 bz1 bz1 bz1 bz1 bz1 hHeld kk | exact keepP14 bz0 bz0 bz0 bz0 bz0 bz0 bz0 bz1 bz1 bz1 bz1 bz1 bz1 bz1 hHeld ((Kept.refl _).alloc _))
    clear hK K hHeld
    have hHeld := hHeld2
    clear hHeld2
    try simp only [Act.put, List.setIfInBounds_toArray, List.set_cons_zero, List.set_cons_succ]
    refine wpAnyH_ready (rs := [13]) (by kernel_rfl) (by simp) ?_
    refine AllReadyH.cons (by simp only [List.getElem?_toArray, List.getElem?_cons_succ, List.getElem?_cons_zero]; rfl) (fun K hK => ?_) AllReadyH.nil
    go_simp
    go_at_call 13; with_reducible refine (HP2.out _).mono ?_
    rintro e w' ⟨rfl, kk⟩
    try go_wp2_with fail
    refine hK.out _ _ ?_ (fun hHeld2 => ?_)
    · (first | exact keepP14 bz0 bz0 bz0 bz0 bz0 bz0 bz0 bz1 bz1 bz1 bz1 bz1 bz1 bz1 hHeld kk | exact keepP14 bz0 bz0 bz0 bz0 bz0 bz0 bz0 bz1 bz1 bz1 bz1 bz1 bz1 bz1 hHeld ((Kept.refl _).alloc _))
    clear hK K hHeld
    have hHeld := hHeld2
    clear hHeld2
    try simp only [Act.put, List.setIfInBounds_toArray, List.set_cons_zero, List.set_cons_succ]
    refine wpAnyH_take (i := 14) (v := ?_) (by simp only [List.getElem?_toArray, List.getElem?_cons_succ, List.getElem?_cons_zero]; rfl) (by kernel_rfl) (by kernel_rfl) (by kernel_rfl) (fun _ _ _ h => h) (Or.inl ⟨by rfl, ?_⟩) (by assumption) ?_
    rotate_left
    · intro w hSw
      (try dsimp only at hSw)
      go_simp
      (try with_reducible rfl)
    simp only [Act.put, List.setIfInBounds_toArray, List.set_cons_zero, List.set_cons_succ]
    try simp only [hpp]
    refine wpAnyH_take (i := 15) (v := ?_) (by simp only [List.getElem?_toArray, List.getElem?_cons_succ, List.getElem?_cons_zero]; rfl) (by kernel_rfl) (by kernel_rfl) (by kernel_rfl) (fun _ _ _ h => h) (Or.inl ⟨by rfl, ?_⟩) (by assumption) ?_
    rotate_left
    · intro w hSw
      (try dsimp only at hSw)
      go_simp
      (try with_reducible rfl)
    simp only [Act.put, List.setIfInBounds_toArray, List.set_cons_zero, List.set_cons_succ]
    refine wpAnyH_take (i := 16) (v := ?_) (by simp only [List.getElem?_toArray, List.getElem?_cons_succ, List.getElem?_cons_zero]; rfl) (by kernel_rfl) (by kernel_rfl) (by kernel_rfl) (fun _ _ _ h => h) (Or.inl ⟨by rfl, ?_⟩) (by assumption) ?_
    rotate_left
    · intro w hSw
      (try dsimp only at hSw)
      go_simp
      (try with_reducible rfl)
    simp only [Act.put, List.setIfInBounds_toArray, List.set_cons_zero, List.set_cons_succ]
    refine wpAnyH_take (i := 17) (v := ?_) (by simp only [List.getElem?_toArray, List.getElem?_cons_succ, List.getElem?_cons_zero]; rfl) (by kernel_rfl) (by kernel_rfl) (by kernel_rfl) (fun _ _ _ h => h) (Or.inl ⟨by rfl, ?_⟩) (by assumption) ?_
    rotate_left
    · intro w hSw
      (try dsimp only at hSw)
      go_simp
      (try with_reducible rfl)
    simp only [Act.put, List.setIfInBounds_toArray, List.set_cons_zero, List.set_cons_succ]
    refine wpAnyH_take (i := 18) (v := ?_) (by simp only [List.getElem?_toArray, List.getElem?_cons_succ, List.getElem?_cons_zero]; rfl) (by kernel_rfl) (by kernel_rfl) (by kernel_rfl) (fun _ _ _ h => h) (Or.inl ⟨by rfl, ?_⟩) (by assumption) ?_
    rotate_left
    · intro w hSw
      (try dsimp only at hSw)
      go_simp
      (try with_reducible rfl)
    simp only [Act.put, List.setIfInBounds_toArray, List.set_cons_zero, List.set_cons_succ]
    refine wpAnyH_ready (rs := [19]) (by kernel_rfl) (by simp) ?_
    refine AllReadyH.cons (by simp only [List.getElem?_toArray, List.getElem?_cons_succ, List.getElem?_cons_zero]; rfl) (fun K hK => ?_) AllReadyH.nil
    go_simp
    go_at_call 13; with_reducible refine (HP3.out _).mono ?_
    rintro e w' ⟨rfl, kk⟩
    try go_wp2_with fail
    refine hK.out _ _ ?_ (fun hHeld2 => ?_)
    · (first | exact keepP14 bz0 bz0 bz0 bz0 bz0 bz0 bz0 bz1 bz1 bz1 bz1 bz1 bz1 bz1 hHeld kk | exact keepP14 bz0 bz0 bz0 bz0 bz0 bz0 bz0 bz1 bz1 bz1 bz1 bz1 bz1 bz1 hHeld ((Kept.refl _).alloc _))
    clear hK K hHeld
    have hHeld := hHeld2
    clear hHeld2
    try simp only [Act.put, List.setIfInBounds_toArray, List.set_cons_zero, List.set_cons_succ]
    refine wpAnyH_take (i := 20) (v := ?_) (by simp only [List.getElem?_toArray, List.getElem?_cons_succ, List.getElem?_cons_zero]; rfl) (by kernel_rfl) (by kernel_rfl) (by kernel_rfl) (fun _ _ _ h => h) (Or.inl ⟨by rfl, ?_⟩) (by assumption) ?_
    rotate_left
    · intro w hSw
      (try dsimp only at hSw)
      go_simp
      (try with_reducible rfl)
    simp only [Act.put, List.setIfInBounds_toArray, List.set_cons_zero, List.set_cons_succ]
    refine wpAnyH_take (i := 21) (v := ?_) (by simp only [List.getElem?_toArray, List.getElem?_cons_succ, List.getElem?_cons_zero]; rfl) (by kernel_rfl) (by kernel_rfl) (by kernel_rfl) (fun _ _ _ h => h) (Or.inl ⟨by rfl, ?_⟩) (by assumption) ?_
    rotate_left
    · intro w hSw
      (try dsimp only at hSw)
      go_simp
      (try with_reducible rfl)
    simp only [Act.put, List.setIfInBounds_toArray, List.set_cons_zero, List.set_cons_succ]
    refine wpAnyH_take (i := 22) (v := ?_) (by simp only [List.getElem?_toArray, List.getElem?_cons_succ, List.getElem?_cons_zero]; rfl) (by kernel_rfl) (by kernel_rfl) (by kernel_rfl) (fun _ _ _ h => h) (Or.inl ⟨by rfl, ?_⟩) (by assumption) ?_
    rotate_left
    · intro w hSw
      (try dsimp only at hSw)
      go_simp
      (try with_reducible rfl)
    simp only [Act.put, List.setIfInBounds_toArray, List.set_cons_zero, List.set_cons_succ]
    refine wpAnyH_take (i := 23) (v := ?_) (by simp only [List.getElem?_toArray, List.getElem?_cons_succ, List.getElem?_cons_zero]; rfl) (by kernel_rfl) (by kernel_rfl) (by kernel_rfl) (fun _ _ _ h => h) (Or.inl ⟨by rfl, ?_⟩) (by assumption) ?_
    rotate_left
    · intro w hSw
      (try dsimp only at hSw)
      go_simp
      (try with_reducible rfl)
    simp only [Act.put, List.setIfInBounds_toArray, List.set_cons_zero, List.set_cons_succ]
    refine wpAnyH_ready (rs := [24]) (by kernel_rfl) (by simp) ?_
    refine AllReadyH.cons (by simp only [List.getElem?_toArray, List.getElem?_cons_succ, List.getElem?_cons_zero]; rfl) (fun K hK => ?_) AllReadyH.nil
    go_simp
    try go_wp2_with fail
    refine hK.out _ _ ?_ (fun hHeld2 => ?_)
    · (first | exact keepP14 bz0 bz0 bz0 bz0 bz0 bz0 bz0 bz1 bz1 bz1 bz1 bz1 bz1 bz1 hHeld kk | exact keepP14 bz0 bz0 bz0 bz0 bz0 bz0 bz0 bz1 bz1 bz1 bz1 bz1 bz1 bz1 hHeld ((Kept.refl _).alloc _))
    clear hK K hHeld
    have hHeld := hHeld2
    clear hHeld2
    try simp only [Act.put, List.setIfInBounds_toArray, List.set_cons_zero, List.set_cons_succ]
    refine wpAnyH_ready (rs := [25]) (by kernel_rfl) (by simp) ?_
    refine AllReadyH.cons (by simp only [List.getElem?_toArray, List.getElem?_cons_succ, List.getElem?_cons_zero]; rfl) (fun K hK => ?_) AllReadyH.nil
    go_simp
    go_at_call 11; with_reducible refine (guilty_twice a ha _).mono ?_
    rintro e w' ⟨J, cj, rfl, kk⟩
    try go_wp2_with fail
    refine hK.out _ _ ?_ (fun hHeld2 => ?_)
    · (first | exact keepP14 bz0 bz0 bz0 bz0 bz0 bz0 bz0 bz1 bz1 bz1 bz1 bz1 bz1 bz1 hHeld kk | exact keepP14 bz0 bz0 bz0 bz0 bz0 bz0 bz0 bz1 bz1 bz1 bz1 bz1 bz1 bz1 hHeld ((Kept.refl _).alloc _))
    clear hK K hHeld
    have hHeld := hHeld2
    clear hHeld2
    try simp only [Act.put, List.setIfInBounds_toArray, List.set_cons_zero, List.set_cons_succ]
    refine wpAnyH_take (i := 26) (v := ?_) (by simp only [List.getElem?_toArray, List.getElem?_cons_succ, List.getElem?_cons_zero]; rfl) (by kernel_rfl) (by kernel_rfl) (by kernel_rfl) (fun _ _ _ h => h) (Or.inl ⟨by rfl, ?_⟩) (by assumption) ?_
    rotate_left
    · intro w hSw
      (try dsimp only at hSw)
      go_simp
      (try with_reducible rfl)
    simp only [Act.put, List.setIfInBounds_toArray, List.set_cons_zero, List.set_cons_succ]
    refine wpAnyH_take (i := 27) (v := ?_) (by simp only [List.getElem?_toArray, List.getElem?_cons_succ, List.getElem?_cons_zero]; rfl) (by kernel_rfl) (by kernel_rfl) (by kernel_rfl) (fun _ _ _ h => h) (Or.inl ⟨by rfl, ?_⟩) (by assumption) ?_
    rotate_left
    · intro w hSw
      (try dsimp only at hSw)
      go_simp
      (try with_reducible rfl)
    simp only [Act.put, List.setIfInBounds_toArray, List.set_cons_zero, List.set_cons_succ]
    refine wpAnyH_take (i := 28) (v := ?_) (by simp only [List.getElem?_toArray, List.getElem?_cons_succ, List.getElem?_cons_zero]; rfl) (by kernel_rfl) (by kernel_rfl) (by kernel_rfl) (fun _ _ _ h => h) (Or.inl ⟨by rfl, ?_⟩) (by assumption) ?_
    rotate_left
    · intro w hSw
      (try dsimp only at hSw)
      go_simp
      (try with_reducible rfl)
    simp only [Act.put, List.setIfInBounds_toArray, List.set_cons_zero, List.set_cons_succ]
    refine wpAnyH_done (by kernel_rfl) ?_ _
    refine NoPanic.normal ?_
    have k := hHeld.2.2.2.2.2.2.2.2.2.2.2.2.2.2
    clear hHeld kk HP1 HP2 HP3 hpp
    clear b00 b01 b02 b03 b04 b05 b06 bz0 b10 b11 b12 b13 b14 b15 b16 bz1
    have KB2 := Lib.hid (KB1.out.trans k)
    clear k
    generalize w' = W2 at *
    obtain ⟨b00, b01, b02, b03, b04, b05, b06⟩ := (HB0.out.kept KB2.out).seven
    have bz0 := (HB0.out.kept KB2.out).1
    obtain ⟨b10, b11, b12, b13, b14, b15, b16⟩ := (HB1.out.kept KB2.out).seven
    have bz1 := (HB1.out.kept KB2.out).1
    go_wp2_with fail
    clear b00 b01 b02 b03 b04 b05 b06 bz0 b10 b11 b12 b13 b14 b15 b16 bz1
    refine (slashGuilty_any vA vc v W2 (by omega) vhw (HV.out.kept KB2.out)).mono ?_
    rintro e W3 ⟨G, A1, c1, hG, hl1, rfl, hC1, hc1, k⟩
    have KB3 := Lib.hid (KB2.out.trans k)
    clear k
    replace HV := Lib.hid (HV.out.kept KB3.out)
    replace HB0 := Lib.hid (HB0.out.kept KB3.out)
    replace HB1 := Lib.hid (HB1.out.kept KB3.out)
    replace K0 := Lib.hid (K0.out.trans KB3.out)
    have KB4 := Lib.hid (Kept.refl W3)
    have HGr := Lib.hid hC1
    clear hC1
    have HG := Lib.hid hG
    clear hG
    have HC2 := Lib.hid (fun (B : Option Addr) cb w' (hB : CellsAt w' w'.heap.size B (lksCells (v ++ [a]))) => (show Calls Try.prog 11 #[.slice B (v.length + 1) cb] w' (GuilNew (v ++ [a]) w') from by
      have h := slashGuilty_any B cb (v ++ [a]) w' (by rw [List.length_append]; simp; omega) (fun y hy => by
        rcases List.mem_append.1 hy with q | q
        · exact vhw y q
        · rw [List.mem_singleton] at q; subst q; exact ha) hB
      rw [List.length_append] at h
      exact h))
    obtain ⟨b00, b01, b02, b03, b04, b05, b06⟩ := (HB0.out.kept KB4.out).seven
    have bz0 := (HB0.out.kept KB4.out).1
    obtain ⟨b10, b11, b12, b13, b14, b15, b16⟩ := (HB1.out.kept KB4.out).seven
    have bz1 := (HB1.out.kept KB4.out).1
    go_wp2_with fail
    refine wp_region_noPanic ?_
    refine wp_region_held_drew (S := (fun w' => w'.cell? ⟨z0, 0, none⟩ = some (.int .i64 a.f) ∧ w'.cell? ⟨z0, 1, none⟩ = some (.int .i64 a.s.e) ∧ w'.cell? ⟨z0, 2, none⟩ = some (.int .u64 a.s.r.1) ∧ w'.cell? ⟨z0, 3, none⟩ = some (.int .u64 a.s.r.2) ∧ w'.cell? ⟨z0, 4, none⟩ = some (.int .i64 a.t.e) ∧ w'.cell? ⟨z0, 5, none⟩ = some (.int .u64 a.t.r.1) ∧ w'.cell? ⟨z0, 6, none⟩ = some (.int .u64 a.t.r.2) ∧ Kept W3 w')) (by kernel_rfl) ?_ (fun hHeld => ?_)
    · exact ⟨b00, b01, b02, b03, b04, b05, b06, (Kept.refl _).drew⟩
    refine wpAnyH_take (i := 0) (v := ?_) (by simp only [List.getElem?_toArray, List.getElem?_cons_succ, List.getElem?_cons_zero]; rfl) (by kernel_rfl) (by kernel_rfl) (by kernel_rfl) (fun _ _ _ h => h) (Or.inl ⟨by rfl, ?_⟩) (by assumption) ?_
    rotate_left
    · intro w hSw
      (try dsimp only at hSw)
      go_simp
      (try with_reducible rfl)
    simp only [Act.put, List.setIfInBounds_toArray, List.set_cons_zero, List.set_cons_succ]
    refine wpAnyH_take (i := 2) (v := ?_) (by simp only [List.getElem?_toArray, List.getElem?_cons_succ, List.getElem?_cons_zero]; rfl) (by kernel_rfl) (by kernel_rfl) (by kernel_rfl) (fun _ _ _ h => h) (Or.inl ⟨by rfl, ?_⟩) (by assumption) ?_
    rotate_left
    · intro w hSw
      (try dsimp only at hSw)
      go_simp
      (try with_reducible rfl)
    simp only [Act.put, List.setIfInBounds_toArray, List.set_cons_zero, List.set_cons_succ]
    refine wpAnyH_ready (rs := [1, 3]) (by kernel_rfl) (by simp) ?_
    refine AllReadyH.cons (by simp only [List.getElem?_toArray, List.getElem?_cons_succ, List.getElem?_cons_zero]; rfl) (fun K hK => ?_) (AllReadyH.cons (by simp only [List.getElem?_toArray, List.getElem?_cons_succ, List.getElem?_cons_zero]; rfl) (fun K hK => ?_) (AllReadyH.nil))
    · refine step_lks _ (by rfl) 29 Try.underlying29 (.const (.slice none 0 0)) (.tmp 52) (by rfl) _ [] _ (by rfl) (Lks.nil _) _ vA v.length vc v (by rfl) rfl ((HV.out.kept KB4.out).kept (Kept.drew (Kept.refl _))) (by simp; omega) ?_
      intro A3 c3 w1 hI _
      rw [List.nil_append] at hI ⊢
      have k1 : Kept W3 w1 := Kept.trans (Kept.drew (Kept.refl _)) hI.2
      refine hK.out _ _ ?_ (fun hHeld2 => ?_)
      · exact keepP7 bz0 bz0 bz0 bz0 bz0 bz0 bz0 ⟨b00, b01, b02, b03, b04, b05, b06, Kept.refl _⟩ k1
      clear hK K hHeld
      have hHeld := hHeld2
      clear hHeld2
      try simp only [Act.put, List.setIfInBounds_toArray, List.set_cons_zero, List.set_cons_succ]
      refine wpAnyH_ready (rs := [3]) (by kernel_rfl) (by simp) ?_
      refine AllReadyH.cons (by simp only [List.getElem?_toArray, List.getElem?_cons_succ, List.getElem?_cons_zero]; rfl) (fun K hK => ?_) (AllReadyH.nil)
      go_simp
      refine hK.out _ _ ?_ (fun hHeld2 => ?_)
      · exact keepP7 bz0 bz0 bz0 bz0 bz0 bz0 bz0 hHeld ((Kept.refl _).alloc _)
      clear hK K hHeld
      have hHeld := hHeld2
      clear hHeld2
      try simp only [Act.put, List.setIfInBounds_toArray, List.set_cons_zero, List.set_cons_succ]
      refine wpAnyH_ready (rs := [4]) (by kernel_rfl) (by simp) ?_
      refine AllReadyH.cons (by simp only [List.getElem?_toArray, List.getElem?_cons_succ, List.getElem?_cons_zero]; rfl) (fun K hK => ?_) (AllReadyH.nil)
      refine step_lks _ (by rfl) 29 Try.underlying29 (.tmp 53) (.tmp 55) (by rfl) _ v _ (by rfl) (hI.alloc (.cells #[.int .i64 a.f, .int .i64 a.s.e, .int .u64 a.s.r.1, .int .u64 a.s.r.2, .int .i64 a.t.e, .int .u64 a.t.r.1, .int .u64 a.t.r.2] 28)) _ _ 1 1 [a] (by rfl) rfl (lks_new (t := a) w1.heap.size rfl 28) (by omega) ?_
      intro A6 c6 w6 hI6 _
      have k6 : Kept W3 w6 := Kept.trans (Kept.drew (Kept.refl _)) hI6.2
      have hC6 := hI6.cells rfl
      refine hK.out _ _ ?_ (fun hHeld2 => ?_)
      · exact keepP7 bz0 bz0 bz0 bz0 bz0 bz0 bz0 ⟨b00, b01, b02, b03, b04, b05, b06, Kept.refl _⟩ k6
      clear hK K hHeld
      have hHeld := hHeld2
      clear hHeld2
      try simp only [Act.put, List.setIfInBounds_toArray, List.set_cons_zero, List.set_cons_succ]
      refine wpAnyH_ready (rs := [5]) (by kernel_rfl) (by simp) ?_
      refine AllReadyH.cons (by simp only [List.getElem?_toArray, List.getElem?_cons_succ, List.getElem?_cons_zero]; rfl) (fun K hK => ?_) (AllReadyH.nil)
      go_simp
      go_at_call 11; with_reducible refine (HC2.out A6 c6 _ hC6).mono ?_
      rintro e w' ⟨H, A2, c2, hH, hl2, rfl, hC2, hc2, kk⟩
      refine hK.out _ _ ?_ (fun hHeld2 => ?_)
      · exact keepP7 bz0 bz0 bz0 bz0 bz0 bz0 bz0 hHeld kk
      clear hK K hHeld
      have hHeld := hHeld2
      clear hHeld2
      try simp only [Act.put, List.setIfInBounds_toArray, List.set_cons_zero, List.set_cons_succ]
      refine wpAnyH_take (i := 6) (v := ?_) (by simp only [List.getElem?_toArray, List.getElem?_cons_succ, List.getElem?_cons_zero]; rfl) (by kernel_rfl) (by kernel_rfl) (by kernel_rfl) (fun _ _ _ h => h) (Or.inl ⟨by rfl, ?_⟩) (by assumption) ?_
      rotate_left
      · intro w hSw
        (try dsimp only at hSw)
        go_simp
        (try with_reducible rfl)
      simp only [Act.put, List.setIfInBounds_toArray, List.set_cons_zero, List.set_cons_succ]
      refine wpAnyH_done (by kernel_rfl) ?_ _
      refine NoPanic.normal ?_
      have k := hHeld.2.2.2.2.2.2.2
      clear hHeld hC6 hI6 k6 hI k1 HC2 kk
      clear b00 b01 b02 b03 b04 b05 b06 bz0 b10 b11 b12 b13 b14 b15 b16 bz1
      have KB5 := Lib.hid (KB4.out.trans k)
      clear k
      generalize w' = W5 at *
      replace HV := Lib.hid (HV.out.kept KB5.out)
      replace HGr := Lib.hid (HGr.out.kept KB5.out)
      replace HB0 := Lib.hid (HB0.out.kept KB5.out)
      replace HB1 := Lib.hid (HB1.out.kept KB5.out)
      replace K0 := Lib.hid (K0.out.trans KB5.out)
      have KB6 := Lib.hid (Kept.refl W5)
      have HHr := Lib.hid hC2
      clear hC2
      have HH := Lib.hid hH
      clear hH
      have hvx : (v ++ [a]).length ≤ 41 := by rw [List.length_append]; simp; omega
      have HS1 := Lib.hid (fun y (hy : y ∈ G) => both_more HG.out HH.out hy)
      have HS2 := Lib.hid (fun y (hy : y ∈ H) => both_new HG.out HH.out hy)
      have HS3 := Lib.hid (fun n (hn : n < H.length) (h0 : 0 < n) => both_rise HH.out hn h0)
      clear HG HH
      go_wp2_with fail
      go_loopw [10] (fun i w' => ∃ n : Nat, n ≤ G.length ∧ i = .int .i64 n ∧ Kept W5 w') (fun i _ => G.length - (intOf i).toNat)
      case atStart => exact ⟨0, by omega, rfl, Kept.refl _⟩
      case round =>
        obtain ⟨n, hn, rfl, k1⟩ := hrel
        have KB7 := Lib.hid (KB6.out.trans k1)
        clear k1
        by_cases hlt : n < G.length
        · obtain ⟨zj, oj, rfl, hbj, e0⟩ := int_atS (HGr.out.kept KB7.out) hlt
          have HMe := Lib.hid (List.getElem_mem hlt)
          have HS1y := Lib.hid (HS1.out _ HMe.out)
          generalize G[n] = y at *
          go_wp2_with fail
          refine (refHas_any A2 c2 H y wr (by omega) (HHr.out.kept KB7.out)).mono ?_
          rintro e V1 ⟨rfl, rfl⟩
          rw [HS1y.out]
          go_wp2_with fail
          go_roundw
          case rel => exact ⟨n + 1, by omega, by go_num, KB7.out⟩
          case measure => simp [intOf]; omega
        · go_wp2_with fail
          have KL := Lib.hid KB7.out
          go_loopw [12] (fun i w' => ∃ n : Nat, n ≤ H.length ∧ i = .int .i64 n ∧ Kept W5 w') (fun i _ => H.length - (intOf i).toNat)
          case atStart => exact ⟨0, by omega, rfl, KL.out⟩
          case round =>
            obtain ⟨n, hn, rfl, k1⟩ := hrel
            clear KL
            have KB28 := Lib.hid (KB6.out.trans k1)
            clear k1
            by_cases hlt : n < H.length
            · obtain ⟨zj, oj, rfl, hbj, hall⟩ := ints_atS (HHr.out.kept KB28.out) (by omega)
              have e0 := hall n hlt
              have HMe := Lib.hid (List.getElem_mem hlt)
              have HS2y := Lib.hid (HS2.out _ HMe.out)
              have HR := Lib.hid (HS3.out n hlt)
              have hP := Lib.hid (fun (h : 0 < n) => hall (n - 1) (by omega))
              clear hall
              generalize H[n] = y at *
              go_wp2_with fail
              refine (refHas_any A1 c1 G y wr (by omega) (HGr.out.kept KB28.out)).mono ?_
              rintro e V1 ⟨rfl, rfl⟩
              generalize hasI G y = hs at *
              cases hs with
              | true =>
                by_cases h0 : n = 0
                · clear HS2y
                  have hz : decide ((0 : Int) < (n : Int)) = false := decide_eq_false (by omega)
                  have hz2 : decide (0 < n) = false := decide_eq_false (by omega)
                  clear HR hP h0
                  obtain ⟨b00, b01, b02, b03, b04, b05, b06⟩ := (HB0.out.kept KB28.out).seven
                  have bz0 := (HB0.out.kept KB28.out).1
                  go_wp2_with fail
                  go_quiet (fail)
                  go_wp2_with fail
                  clear b00 b01 b02 b03 b04 b05 b06 bz0
                  go_roundw
                  case rel => exact ⟨n + 1, by omega, by go_num, KB28.out.drewN _⟩
                  case measure => simp [intOf]; omega
                · clear HS2y
                  obtain ⟨m, hm⟩ : ∃ m, n = m + 1 := ⟨n - 1, by omega⟩
                  subst hm
                  have hw : IntKind.i64.wrap (((m + 1 : Nat) : Int) - 1) = (m : Int) := by rw [IntKind.wrap_i64]; omega
                  have p0 := hP.out (by omega)
                  have hr := HR.out (by omega)
                  simp only [Nat.add_sub_cancel] at p0 hr
                  clear hP HR h0
                  have hml : m < H.length := by omega
                  generalize H[m] = u at *
                  have hz : decide ((0 : Int) < ((m + 1 : Nat) : Int)) = true := decide_eq_true (by omega)
                  have hle : decide (y ≤ u) = false := decide_eq_false (by omega)
                  obtain ⟨b00, b01, b02, b03, b04, b05, b06⟩ := (HB0.out.kept KB28.out).seven
                  have bz0 := (HB0.out.kept KB28.out).1
                  go_wp2_with fail
                  go_quiet (fail)
                  go_wp2_with fail
                  clear b00 b01 b02 b03 b04 b05 b06 bz0
                  go_roundw
                  case rel => exact ⟨m + 1 + 1, by omega, by go_num, KB28.out.drewN _⟩
                  case measure => simp [intOf]; omega
              | false =>
                by_cases h0 : n = 0
                · have hya := HS2y.out rfl
                  have hyb : (y != a.f) = false := by rw [hya]; simp
                  clear HS2y
                  have hz : decide ((0 : Int) < (n : Int)) = false := decide_eq_false (by omega)
                  have hz2 : decide (0 < n) = false := decide_eq_false (by omega)
                  clear HR hP h0
                  obtain ⟨b00, b01, b02, b03, b04, b05, b06⟩ := (HB0.out.kept KB28.out).seven
                  have bz0 := (HB0.out.kept KB28.out).1
                  go_wp2_with fail
                  go_quiet (fail)
                  go_wp2_with fail
                  clear b00 b01 b02 b03 b04 b05 b06 bz0
                  go_roundw
                  case rel => exact ⟨n + 1, by omega, by go_num, KB28.out.drewN _⟩
                  case measure => simp [intOf]; omega
                · have hya := HS2y.out rfl
                  have hyb : (y != a.f) = false := by rw [hya]; simp
                  clear HS2y
                  obtain ⟨m, hm⟩ : ∃ m, n = m + 1 := ⟨n - 1, by omega⟩
                  subst hm
                  have hw : IntKind.i64.wrap (((m + 1 : Nat) : Int) - 1) = (m : Int) := by rw [IntKind.wrap_i64]; omega
                  have p0 := hP.out (by omega)
                  have hr := HR.out (by omega)
                  simp only [Nat.add_sub_cancel] at p0 hr
                  clear hP HR h0
                  have hml : m < H.length := by omega
                  generalize H[m] = u at *
                  have hz : decide ((0 : Int) < ((m + 1 : Nat) : Int)) = true := decide_eq_true (by omega)
                  have hle : decide (y ≤ u) = false := decide_eq_false (by omega)
                  obtain ⟨b00, b01, b02, b03, b04, b05, b06⟩ := (HB0.out.kept KB28.out).seven
                  have bz0 := (HB0.out.kept KB28.out).1
                  go_wp2_with fail
                  go_quiet (fail)
                  go_wp2_with fail
                  clear b00 b01 b02 b03 b04 b05 b06 bz0
                  go_roundw
                  case rel => exact ⟨m + 1 + 1, by omega, by go_num, KB28.out.drewN _⟩
                  case measure => simp [intOf]; omega
            · go_wp2_with fail
              go_ret
              exact ⟨by first | rfl | (simp; done), K0.out.trans KB28.out⟩
    · go_simp
      refine hK.out _ _ ?_ (fun hHeld2 => ?_)
      · exact keepP7 bz0 bz0 bz0 bz0 bz0 bz0 bz0 hHeld ((Kept.refl _).alloc _)
      clear hK K hHeld
      have hHeld := hHeld2
      clear hHeld2
      try simp only [Act.put, List.setIfInBounds_toArray, List.set_cons_zero, List.set_cons_succ]
      refine wpAnyH_ready (rs := [1]) (by kernel_rfl) (by simp) ?_
      refine AllReadyH.cons (by simp only [List.getElem?_toArray, List.getElem?_cons_succ, List.getElem?_cons_zero]; rfl) (fun K hK => ?_) (AllReadyH.nil)
      refine step_lks _ (by rfl) 29 Try.underlying29 (.const (.slice none 0 0)) (.tmp 52) (by rfl) _ [] _ (by rfl) (Lks.nil _) _ vA v.length vc v (by rfl) rfl ((HV.out.kept KB4.out).kept (Kept.drew (Kept.alloc (Kept.refl _) _))) (by simp; omega) ?_
      intro A3 c3 w1 hI _
      rw [List.nil_append] at hI ⊢
      have k1 : Kept W3 w1 := Kept.trans (Kept.drew (Kept.alloc (Kept.refl _) _)) hI.2
      refine hK.out _ _ ?_ (fun hHeld2 => ?_)
      · exact keepP7 bz0 bz0 bz0 bz0 bz0 bz0 bz0 ⟨b00, b01, b02, b03, b04, b05, b06, Kept.refl _⟩ k1
      clear hK K hHeld
      have hHeld := hHeld2
      clear hHeld2
      try simp only [Act.put, List.setIfInBounds_toArray, List.set_cons_zero, List.set_cons_succ]
      refine wpAnyH_ready (rs := [4]) (by kernel_rfl) (by simp) ?_
      refine AllReadyH.cons (by simp only [List.getElem?_toArray, List.getElem?_cons_succ, List.getElem?_cons_zero]; rfl) (fun K hK => ?_) (AllReadyH.nil)
      refine step_lks _ (by rfl) 29 Try.underlying29 (.tmp 53) (.tmp 55) (by rfl) _ v _ (by rfl) hI _ _ 1 1 [a] (by rfl) rfl ((lks_new (w := W3) (t := a) W3.heap.size rfl 28).kept (Kept.trans (Kept.drew (Kept.refl _)) hI.2)) (by omega) ?_
      intro A6 c6 w6 hI6 _
      have k6 : Kept W3 w6 := Kept.trans (Kept.drew (Kept.alloc (Kept.refl _) _)) hI6.2
      have hC6 := hI6.cells rfl
      refine hK.out _ _ ?_ (fun hHeld2 => ?_)
      · exact keepP7 bz0 bz0 bz0 bz0 bz0 bz0 bz0 ⟨b00, b01, b02, b03, b04, b05, b06, Kept.refl _⟩ k6
      clear hK K hHeld
      have hHeld := hHeld2
      clear hHeld2
      try simp only [Act.put, List.setIfInBounds_toArray, List.set_cons_zero, List.set_cons_succ]
      refine wpAnyH_ready (rs := [5]) (by kernel_rfl) (by simp) ?_
      refine AllReadyH.cons (by simp only [List.getElem?_toArray, List.getElem?_cons_succ, List.getElem?_cons_zero]; rfl) (fun K hK => ?_) (AllReadyH.nil)
      go_simp
      go_at_call 11; with_reducible refine (HC2.out A6 c6 _ hC6).mono ?_
      rintro e w' ⟨H, A2, c2, hH, hl2, rfl, hC2, hc2, kk⟩
      refine hK.out _ _ ?_ (fun hHeld2 => ?_)
      · exact keepP7 bz0 bz0 bz0 bz0 bz0 bz0 bz0 hHeld kk
      clear hK K hHeld
      have hHeld := hHeld2
      clear hHeld2
      try simp only [Act.put, List.setIfInBounds_toArray, List.set_cons_zero, List.set_cons_succ]
      refine wpAnyH_take (i := 6) (v := ?_) (by simp only [List.getElem?_toArray, List.getElem?_cons_succ, List.getElem?_cons_zero]; rfl) (by kernel_rfl) (by kernel_rfl) (by kernel_rfl) (fun _ _ _ h => h) (Or.inl ⟨by rfl, ?_⟩) (by assumption) ?_
      rotate_left
      · intro w hSw
        (try dsimp only at hSw)
        go_simp
        (try with_reducible rfl)
      simp only [Act.put, List.setIfInBounds_toArray, List.set_cons_zero, List.set_cons_succ]
      refine wpAnyH_done (by kernel_rfl) ?_ _
      refine NoPanic.normal ?_
      have k := hHeld.2.2.2.2.2.2.2
      clear hHeld hC6 hI6 k6 hI k1 HC2 kk
      clear b00 b01 b02 b03 b04 b05 b06 bz0 b10 b11 b12 b13 b14 b15 b16 bz1
      have KB5 := Lib.hid (KB4.out.trans k)
      clear k
      generalize w' = W5 at *
      replace HV := Lib.hid (HV.out.kept KB5.out)
      replace HGr := Lib.hid (HGr.out.kept KB5.out)
      replace HB0 := Lib.hid (HB0.out.kept KB5.out)
      replace HB1 := Lib.hid (HB1.out.kept KB5.out)
      replace K0 := Lib.hid (K0.out.trans KB5.out)
      have KB6 := Lib.hid (Kept.refl W5)
      have HHr := Lib.hid hC2
      clear hC2
      have HH := Lib.hid hH
      clear hH
      have hvx : (v ++ [a]).length ≤ 41 := by rw [List.length_append]; simp; omega
      have HS1 := Lib.hid (fun y (hy : y ∈ G) => both_more HG.out HH.out hy)
      have HS2 := Lib.hid (fun y (hy : y ∈ H) => both_new HG.out HH.out hy)
      have HS3 := Lib.hid (fun n (hn : n < H.length) (h0 : 0 < n) => both_rise HH.out hn h0)
      clear HG HH
      go_wp2_with fail
      go_loopw [10] (fun i w' => ∃ n : Nat, n ≤ G.length ∧ i = .int .i64 n ∧ Kept W5 w') (fun i _ => G.length - (intOf i).toNat)
      case atStart => exact ⟨0, by omega, rfl, Kept.refl _⟩
      case round =>
        obtain ⟨n, hn, rfl, k1⟩ := hrel
        have KB7 := Lib.hid (KB6.out.trans k1)
        clear k1
        by_cases hlt : n < G.length
        · obtain ⟨zj, oj, rfl, hbj, e0⟩ := int_atS (HGr.out.kept KB7.out) hlt
          have HMe := Lib.hid (List.getElem_mem hlt)
          have HS1y := Lib.hid (HS1.out _ HMe.out)
          generalize G[n] = y at *
          go_wp2_with fail
          refine (refHas_any A2 c2 H y wr (by omega) (HHr.out.kept KB7.out)).mono ?_
          rintro e V1 ⟨rfl, rfl⟩
          rw [HS1y.out]
          go_wp2_with fail
          go_roundw
          case rel => exact ⟨n + 1, by omega, by go_num, KB7.out⟩
          case measure => simp [intOf]; omega
        · go_wp2_with fail
          have KL := Lib.hid KB7.out
          go_loopw [12] (fun i w' => ∃ n : Nat, n ≤ H.length ∧ i = .int .i64 n ∧ Kept W5 w') (fun i _ => H.length - (intOf i).toNat)
          case atStart => exact ⟨0, by omega, rfl, KL.out⟩
          case round =>
            obtain ⟨n, hn, rfl, k1⟩ := hrel
            clear KL
            have KB28 := Lib.hid (KB6.out.trans k1)
            clear k1
            by_cases hlt : n < H.length
            · obtain ⟨zj, oj, rfl, hbj, hall⟩ := ints_atS (HHr.out.kept KB28.out) (by omega)
              have e0 := hall n hlt
              have HMe := Lib.hid (List.getElem_mem hlt)
              have HS2y := Lib.hid (HS2.out _ HMe.out)
              have HR := Lib.hid (HS3.out n hlt)
              have hP := Lib.hid (fun (h : 0 < n) => hall (n - 1) (by omega))
              clear hall
              generalize H[n] = y at *
              go_wp2_with fail
              refine (refHas_any A1 c1 G y wr (by omega) (HGr.out.kept KB28.out)).mono ?_
              rintro e V1 ⟨rfl, rfl⟩
              generalize hasI G y = hs at *
              cases hs with
              | true =>
                by_cases h0 : n = 0
                · clear HS2y
                  have hz : decide ((0 : Int) < (n : Int)) = false := decide_eq_false (by omega)
                  have hz2 : decide (0 < n) = false := decide_eq_false (by omega)
                  clear HR hP h0
                  obtain ⟨b00, b01, b02, b03, b04, b05, b06⟩ := (HB0.out.kept KB28.out).seven
                  have bz0 := (HB0.out.kept KB28.out).1
                  go_wp2_with fail
                  go_quiet (fail)
                  go_wp2_with fail
                  clear b00 b01 b02 b03 b04 b05 b06 bz0
                  go_roundw
                  case rel => exact ⟨n + 1, by omega, by go_num, KB28.out.drewN _⟩
                  case measure => simp [intOf]; omega
                · clear HS2y
                  obtain ⟨m, hm⟩ : ∃ m, n = m + 1 := ⟨n - 1, by omega⟩
                  subst hm
                  have hw : IntKind.i64.wrap (((m + 1 : Nat) : Int) - 1) = (m : Int) := by rw [IntKind.wrap_i64]; omega
                  have p0 := hP.out (by omega)
                  have hr := HR.out (by omega)
                  simp only [Nat.add_sub_cancel] at p0 hr
                  clear hP HR h0
                  have hml : m < H.length := by omega
                  generalize H[m] = u at *
                  have hz : decide ((0 : Int) < ((m + 1 : Nat) : Int)) = true := decide_eq_true (by omega)
                  have hle : decide (y ≤ u) = false := decide_eq_false (by omega)
                  obtain ⟨b00, b01, b02, b03, b04, b05, b06⟩ := (HB0.out.kept KB28.out).seven
                  have bz0 := (HB0.out.kept KB28.out).1
                  go_wp2_with fail
                  go_quiet (fail)
                  go_wp2_with fail
                  clear b00 b01 b02 b03 b04 b05 b06 bz0
                  go_roundw
                  case rel => exact ⟨m + 1 + 1, by omega, by go_num, KB28.out.drewN _⟩
                  case measure => simp [intOf]; omega
              | false =>
                by_cases h0 : n = 0
                · have hya := HS2y.out rfl
                  have hyb : (y != a.f) = false := by rw [hya]; simp
                  clear HS2y
                  have hz : decide ((0 : Int) < (n : Int)) = false := decide_eq_false (by omega)
                  have hz2 : decide (0 < n) = false := decide_eq_false (by omega)
                  clear HR hP h0
                  obtain ⟨b00, b01, b02, b03, b04, b05, b06⟩ := (HB0.out.kept KB28.out).seven
                  have bz0 := (HB0.out.kept KB28.out).1
                  go_wp2_with fail
                  go_quiet (fail)
                  go_wp2_with fail
                  clear b00 b01 b02 b03 b04 b05 b06 bz0
                  go_roundw
                  case rel => exact ⟨n + 1, by omega, by go_num, KB28.out.drewN _⟩
                  case measure => simp [intOf]; omega
                · have hya := HS2y.out rfl
                  have hyb : (y != a.f) = false := by rw [hya]; simp
                  clear HS2y
                  obtain ⟨m, hm⟩ : ∃ m, n = m + 1 := ⟨n - 1, by omega⟩
                  subst hm
                  have hw : IntKind.i64.wrap (((m + 1 : Nat) : Int) - 1) = (m : Int) := by rw [IntKind.wrap_i64]; omega
                  have p0 := hP.out (by omega)
                  have hr := HR.out (by omega)
                  simp only [Nat.add_sub_cancel] at p0 hr
                  clear hP HR h0
                  have hml : m < H.length := by omega
                  generalize H[m] = u at *
                  have hz : decide ((0 : Int) < ((m + 1 : Nat) : Int)) = true := decide_eq_true (by omega)
                  have hle : decide (y ≤ u) = false := decide_eq_false (by omega)
                  obtain ⟨b00, b01, b02, b03, b04, b05, b06⟩ := (HB0.out.kept KB28.out).seven
                  have bz0 := (HB0.out.kept KB28.out).1
                  go_wp2_with fail
                  go_quiet (fail)
                  go_wp2_with fail
                  clear b00 b01 b02 b03 b04 b05 b06 bz0
                  go_roundw
                  case rel => exact ⟨m + 1 + 1, by omega, by go_num, KB28.out.drewN _⟩
                  case measure => simp [intOf]; omega
            · go_wp2_with fail
              go_ret
              exact ⟨by first | rfl | (simp; done), K0.out.trans KB28.out⟩
  · have hvb : decide ((40 : Int) < (v.length : Int)) = true := decide_eq_true (by omega)
    obtain ⟨b00, b01, b02, b03, b04, b05, b06⟩ := (HB0.out.kept KB1.out).seven
    have bz0 := (HB0.out.kept KB1.out).1
    obtain ⟨b10, b11, b12, b13, b14, b15, b16⟩ := (HB1.out.kept KB1.out).seven
    have bz1 := (HB1.out.kept KB1.out).1
    go_wp2_with fail
    go_quiet (fail)
    go_wp2_with fail
    clear b00 b01 b02 b03 b04 b05 b06 bz0 b10 b11 b12 b13 b14 b15 b16 bz1
    go_ret
    exact ⟨by first | rfl | (simp; done), K0.out.trans (KB1.out.drewN _)⟩

/-! ### The row's step -/
set_option maxRecDepth 100000 in
theorem lifted (os : Os) (started : os.Started) (H : Type) (enc : TypeId × Value → H) :
    ReturnsInHanded {} Try.checked os 4 .any (Rows.slashBothSpec.pre6 enc Try.prog Try.f4 Rows.slashBothRow.domain false) (Rows.slashBothSpec.post enc Try.prog Try.f4 false true false false) := by
  refine returnsInHanded_of_change (C := Try.checked) own started (by kernel_rfl) Try.func4
    (ChangeSpec.witness6 (enc := enc) (C := Try.checked) false ⟨#[], #[.agg #[.int .i64 0, .int .i64 0, .int .u64 0, .int .u64 0, .int .i64 0, .int .u64 0, .int .u64 0], .agg #[.int .i64 0, .int .i64 0, .int .u64 0, .int .u64 0, .int .i64 0, .int .u64 0, .int .u64 0], .slice none 0 0], []⟩ 8 (by kernel_rfl) (by kernel_rfl) (by kernel_rfl) (by kernel_rfl)) ?_
  intro W base args ds gs before hval0 hW hcnd _
  have hval : ∀ (j : Nat) t v, Try.f4.params[j]? = some t → args[j]? = some v → Value.okWide Try.prog W .any base t v := hval0
  have hW' := hW
  obtain ⟨p, q, hA0, hV, rfl, hfz, hnd⟩ := hW
  have hA : DataW.TrodAll enc Try.prog W 0 (fun _ => true) true Try.f4.params.toList args.toList ds p := hA0
  rw [Try.params4] at hA hval
  obtain ⟨v0, vs0, d0, ds0, p0, q0, hargs, rfl, rfl, h0, r0⟩ := trodAll_cons hA
  obtain ⟨v1, vs1, d1, ds1, p1, q1, rfl, rfl, rfl, h1, r1⟩ := trodAll_cons r0
  obtain ⟨v2, vs2, d2, ds2, p2, q2, rfl, rfl, rfl, h2, r2⟩ := trodAll_cons r1
  obtain ⟨rfl, rfl, rfl⟩ := trodAll_nil r2
  obtain rfl : args = #[v0, v1, v2] := by cases args; simp_all
  obtain ⟨rfl, rfl⟩ := trodVars_none hV
  obtain ⟨a, rfl, ha⟩ := open_link (hval 0 _ v0 rfl rfl) h0
  obtain ⟨b, rfl, hb⟩ := open_link (hval 1 _ v1 rfl rfl) h1
  obtain ⟨vA, vc, v, rfl, vhm, vhc, vhw, vhl⟩ := open_links (hval 2 _ v2 rfl rfl) h2
  clear hA0 hval0
  refine (walk W a ha b hb vA vc v vhm vhc vhw vhl).mono fun e W' ⟨he, hb⟩ => ?_
  subst he
  exact ⟨_, rfl, law_post rfl (by kernel_rfl) rfl hW' rfl hb⟩

theorem over : Rows.slashBothRow.holds Try.pinned (OpenSpec.ofChange Rows.slashBothSpec) :=
  OpenClaim.holds_of_wide 4 Try.f4 rfl rfl rfl rfl rfl rfl rfl ⟨rfl, rfl, rfl, rfl, rfl⟩ rfl rfl rfl rfl rfl (by kernel_rfl) Try.func4 (by kernel_rfl)
    (of_decide_eq_true (by kernel_rfl)) (by unfold Func.isWrapper; first | (rw [if_pos (by decide +kernel)]; kernel_rfl) | (rw [if_neg (by decide +kernel)]; exact ⟨rfl, rfl⟩))
    (fun os started H enc _ => lifted os started H enc)

/-- The statement. -/
theorem proved : Rows.SlashBothSaid :=
  over
#print axioms proved

end Go.Proofs.Ythaofomhlmajbaa.slashBoth
