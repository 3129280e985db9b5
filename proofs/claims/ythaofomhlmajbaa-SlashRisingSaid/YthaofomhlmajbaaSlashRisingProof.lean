/-
  Law SlashRising of layer 12: who votes, one vote behind the other, from where the last one led, up epochs, is never guilty.
-/
import Derived.Test.YthaofomhlmajbaaSlashAwake
import Derived.Test.YthaofomhlmajbaaFfgOpen
import Derived.Test.YthaofomhlmajbaaGround
import Derived.Test.YthaofomhlmajbaaSlashRise
import Derived.Test.YthaofomhlmajbaaIdsOpen
import Derived.Test.YthaofomhlmajbaaDutyG
namespace Go.Proofs.Ythaofomhlmajbaa.slashRising
set_option maxRecDepth 100000
set_option linter.unusedVariables false
set_option linter.unusedSimpArgs false
open Go.ChangeShapes Go.WideShapes Go.ChangeAt Go.RowKit
set_option linter.unusedVariables false

/-- What the loop holds: the links so far, where the last one led, and where that lies. -/
structure St (W1 : World) (z : Nat) (who : Int) (j : Nat) (X : List Lk) (c : Ck) (v : Value) (w' : World) : Prop where
  len : X.length = j
  up : Rises who c.e X
  top : 0 ≤ c.e ∧ c.e ≤ (j : Int) * 1000
  wf : WfLks X
  wk : WfI c.r
  own : LksB (z + 1) X v w'
  box : AtK w' z c
  kept : Kept W1 w'
theorem St.start {W1 : World} {z : Nat} {who : Int} (hz : z = W1.heap.size) : St W1 z who 0 [] ⟨0, (0, 0)⟩ (.slice none 0 0) (W1.alloc (.cells #[.int .i64 0, .int .u64 0, .int .u64 0] 26)) where
  len := rfl
  up := Rises.nil who
  top := by simp
  wf := fun _ h => by cases h
  wk := ⟨by decide, by decide⟩
  own := LksB.nil _ _
  box := AtK.new W1 ⟨0, (0, 0)⟩ z hz
  kept := (Kept.refl W1).alloc _
theorem St.next {W1 : World} {z : Nat} {who : Int} {j : Nat} {X : List Lk} {c : Ck} {v v' : Value} {w w' : World} (h : St W1 z who j X c v w) (hz : z = W1.heap.size) (hwho : -9223372036854775808 ≤ who ∧ who ≤ 9223372036854775807) (hj : j ≤ 20) {st : Int} (h1 : ¬ st < 1) (h2 : ¬ 1000 < st) {y : Id2} (hy : WfI y)
    (own : LksB (z + 1) (X ++ [⟨who, c, ⟨c.e + st, y⟩⟩]) v' w') (box : AtK w' z c) (kept : Kept W1 w') :
    St W1 z who (j + 1) (X ++ [⟨who, c, ⟨c.e + st, y⟩⟩]) ⟨c.e + st, y⟩ v' (((w'.setCell ⟨z, 0, none⟩ (.int .i64 (c.e + st))).setCell ⟨z, 1, none⟩ (.int .u64 y.1)).setCell ⟨z, 2, none⟩ (.int .u64 y.2)) where
  len := by rw [List.length_append, h.len]; rfl
  up := h.up.next (x := ⟨who, c, ⟨c.e + st, y⟩⟩) rfl rfl (by show c.e < c.e + st; omega)
  top := by have := h.top; exact ⟨by show 0 ≤ c.e + st; omega, by show c.e + st ≤ ((j + 1 : Nat) : Int) * 1000; omega⟩
  wf := fun x hx => by
    rcases List.mem_append.1 hx with q | q
    · exact h.wf x q
    · rw [List.mem_singleton] at q
      subst q
      have := h.top
      exact ⟨hwho, ⟨⟨by show _ ≤ c.e; omega, by show c.e ≤ _; omega⟩, h.wk⟩, ⟨⟨by show _ ≤ c.e + st; omega, by show c.e + st ≤ _; omega⟩, hy⟩⟩
  wk := hy
  own := ((own.other (p := ⟨z, 0, none⟩) (Nat.lt_succ_self z) _).other (p := ⟨z, 1, none⟩) (Nat.lt_succ_self z) _).other (p := ⟨z, 2, none⟩) (Nat.lt_succ_self z) _
  box := AtK.set3 (d := ⟨c.e + st, y⟩) box
  kept := ((kept.setCell (p := ⟨z, 0, none⟩) (Nat.le_of_eq hz.symm) _).setCell (p := ⟨z, 1, none⟩) (Nat.le_of_eq hz.symm) _).setCell (p := ⟨z, 2, none⟩) (Nat.le_of_eq hz.symm) _
theorem rise_free {who top : Int} {X : List Lk} (hR : Rises who top X) (V : Option Addr) (cv : Nat) (w : World) (hl : X.length ≤ 10000) (hw : WfLks X) (hV : CellsAt w w.heap.size V (lksCells X)) :
    Calls Try.prog 11 #[.slice V X.length cv] w fun e w' => ∃ J cj, e = .returned (.slice J 0 cj) ∧ Kept w w' := by
  refine (slashGuilty_any V cv X w hl hw hV).mono ?_
  rintro e w' ⟨G, A', c', hG, _, rfl, hC, _, k⟩
  have e := hG.one hR.none
  subst e
  exact ⟨A', c', rfl, k⟩

/-! ### The walk: the call returns true, and of what was there nothing has changed. -/
set_option maxRecDepth 100000 in
set_option maxHeartbeats 6400000 in
theorem walk (w : World) (who : Int) (hwho1 : -9223372036854775808 ≤ who) (hwho2 : who ≤ 9223372036854775807) (sA : Option Addr) (sc : Nat) (s : List Int) (shm : s.length ≤ maxLen) (shb : ∀ x ∈ s, -9223372036854775808 ≤ x ∧ x ≤ 9223372036854775807) (shl : CellsAt w w.heap.size sA (intCells s)) (roA : Option Addr) (roc : Nat) (ro : List Id2) (rohm : ro.length ≤ maxLen) (rohw : ∀ y ∈ ro, WfI y) (rohl : CellsAt w w.heap.size roA (idsCells ro)) :
    Calls Try.prog 6 #[.int .i64 who, .slice sA s.length sc, .slice roA ro.length roc] w fun e w' => e = .returned (.bool true) ∧ Kept w w' := by
  go_enter Try.func6, Try.ntmps6
  go_wp2_with fail
  have K0 := Lib.hid (Kept.refl w)
  have HSs := Lib.hid (shl.kept K0.out)
  clear shl
  have HRo := Lib.hid (rohl.kept K0.out)
  clear rohl
  have KB0 := Lib.hid (Kept.refl w)
  refine (slashAwake w).mono ?_
  rintro e W1 ⟨rfl, k⟩
  have KB1 := Lib.hid (KB0.out.trans k)
  clear k
  by_cases hs20 : s.length ≤ 20
  · have hvb : decide ((20 : Int) < (s.length : Int)) = false := decide_eq_false (by omega)
    go_wp2_with fail
    obtain ⟨z, hz⟩ : ∃ z, z = W1.heap.size := ⟨_, rfl⟩
    rw [← hz]
    have HZ := Lib.hid hz
    clear hz
    go_loopw [9, 10] (fun u i w' => ∃ (j : Nat) (X : List Lk) (c : Ck) (A : Option Addr) (cap : Nat), j ≤ s.length ∧ i = .int .i64 j ∧ u = .slice A X.length cap ∧ St W1 z who j X c (.slice A X.length cap) w') (fun _ i _ => s.length - (intOf i).toNat)
    case atStart => exact ⟨0, [], ⟨0, (0, 0)⟩, none, 0, by omega, rfl, rfl, St.start HZ.out⟩
    case round =>
      obtain ⟨j, X, c, A, cap, hj, rfl, rfl, hS⟩ := hrel
      have HS := Lib.hid hS
      clear hS
      have KB2 := Lib.hid (KB1.out.trans HS.out.kept)
      by_cases hlt : j < s.length
      · obtain ⟨zs, os, rfl, hbs, s0⟩ := int_atS (HSs.out.kept KB2.out) hlt
        generalize s[j] = st at *
        by_cases h1 : st < 1
        · have g1 : decide (st < 1) = true := decide_eq_true h1
          go_wp2_with fail
          go_ret
          exact ⟨by first | rfl | (simp; done), K0.out.trans KB2.out⟩
        · have g1 : decide (st < 1) = false := decide_eq_false h1
          by_cases h2 : 1000 < st
          · have g2 : decide (1000 < st) = true := decide_eq_true h2
            go_wp2_with fail
            go_ret
            exact ⟨by first | rfl | (simp; done), K0.out.trans KB2.out⟩
          · have g2 : decide (1000 < st) = false := decide_eq_false h2
            have hw : IntKind.i64.wrap (c.e + st) = c.e + st := by have := HS.out.top; rw [IntKind.wrap_i64]; omega
            have a0 := HS.out.box.c0
            have a1 := HS.out.box.c1
            have a2 := HS.out.box.c2
            have hbz := HS.out.box.lt
            have HNe := Lib.hid (show ∀ k, (Value.slice A X.length cap).ownBlock = some k → k ≠ wr.heap.size from fun k e => Nat.ne_of_lt (World.ownsRow.lt HS.out.own k e).2)
            have HNz := Lib.hid (show ∀ k, (Value.slice A X.length cap).ownBlock = some k → z < k from fun k e => (World.ownsRow.lt HS.out.own k e).1)
            go_wp2_with fail
            refine wp_region_noPanic ?_
            refine wp_region_held_drew (S := (fun w' => w'.cell? ⟨z, 0, none⟩ = some (.int .i64 c.e) ∧ w'.cell? ⟨zs, os + j, none⟩ = some (.int .i64 st) ∧ Kept wr w')) (by kernel_rfl) ?_ (fun hHeld => ?_)
            · exact ⟨a0, s0, (Kept.refl _).drew⟩
            refine wpAnyH_take (i := 0) (v := ?_) (by simp only [List.getElem?_toArray, List.getElem?_cons_succ, List.getElem?_cons_zero]; rfl) (by kernel_rfl) (by kernel_rfl) (by kernel_rfl) (fun _ _ _ h => h) (Or.inl ⟨by rfl, ?_⟩) (by assumption) ?_
            rotate_left
            · intro w hSw
              (try dsimp only at hSw)
              go_simp
              (try with_reducible rfl)
            simp only [Act.put, List.setIfInBounds_toArray, List.set_cons_zero, List.set_cons_succ]
            refine wpAnyH_take (i := 1) (v := ?_) (by simp only [List.getElem?_toArray, List.getElem?_cons_succ, List.getElem?_cons_zero]; rfl) (by kernel_rfl) (by kernel_rfl) (by kernel_rfl) (fun _ _ _ h => h) (Or.inl ⟨by rfl, ?_⟩) (by assumption) ?_
            rotate_left
            · intro w hSw
              (try dsimp only at hSw)
              go_simp
              (try with_reducible rfl)
            simp only [Act.put, List.setIfInBounds_toArray, List.set_cons_zero, List.set_cons_succ]
            refine wpAnyH_take (i := 2) (v := ?_) (by simp only [List.getElem?_toArray, List.getElem?_cons_succ, List.getElem?_cons_zero]; rfl) (by kernel_rfl) (by kernel_rfl) (by kernel_rfl) (fun _ _ _ h => h) (Or.inl ⟨by rfl, ?_⟩) (by assumption) ?_
            rotate_left
            · intro w hSw
              (try dsimp only at hSw)
              go_simp
              (try with_reducible rfl)
            simp only [Act.put, List.setIfInBounds_toArray, List.set_cons_zero, List.set_cons_succ]
            refine wpAnyH_take (i := 3) (v := ?_) (by simp only [List.getElem?_toArray, List.getElem?_cons_succ, List.getElem?_cons_zero]; rfl) (by kernel_rfl) (by kernel_rfl) (by kernel_rfl) (fun _ _ _ h => h) (Or.inl ⟨by rfl, ?_⟩) (by assumption) ?_
            rotate_left
            · intro w hSw
              (try dsimp only at hSw)
              go_simp
              (try with_reducible rfl)
            simp only [Act.put, List.setIfInBounds_toArray, List.set_cons_zero, List.set_cons_succ]
            refine wpAnyH_take (i := 4) (v := ?_) (by simp only [List.getElem?_toArray, List.getElem?_cons_succ, List.getElem?_cons_zero]; rfl) (by kernel_rfl) (by kernel_rfl) (by kernel_rfl) (fun _ _ _ h => h) (Or.inl ⟨by rfl, ?_⟩) (by assumption) ?_
            rotate_left
            · intro w hSw
              (try dsimp only at hSw)
              go_simp
              (try with_reducible rfl)
            simp only [Act.put, List.setIfInBounds_toArray, List.set_cons_zero, List.set_cons_succ]
            refine wpAnyH_take (i := 5) (v := ?_) (by simp only [List.getElem?_toArray, List.getElem?_cons_succ, List.getElem?_cons_zero]; rfl) (by kernel_rfl) (by kernel_rfl) (by kernel_rfl) (fun _ _ _ h => h) (Or.inl ⟨by rfl, ?_⟩) (by assumption) ?_
            rotate_left
            · intro w hSw
              (try dsimp only at hSw)
              go_simp
              (try with_reducible rfl)
            simp only [Act.put, List.setIfInBounds_toArray, List.set_cons_zero, List.set_cons_succ]
            refine wpAnyH_take (i := 6) (v := ?_) (by simp only [List.getElem?_toArray, List.getElem?_cons_succ, List.getElem?_cons_zero]; rfl) (by kernel_rfl) (by kernel_rfl) (by kernel_rfl) (fun _ _ _ h => h) (Or.inl ⟨by rfl, ?_⟩) (by assumption) ?_
            rotate_left
            · intro w hSw
              (try dsimp only at hSw)
              go_simp
              (try with_reducible rfl)
            simp only [Act.put, List.setIfInBounds_toArray, List.set_cons_zero, List.set_cons_succ]
            try simp only [hw]
            refine wpAnyH_take (i := 7) (v := ?_) (by simp only [List.getElem?_toArray, List.getElem?_cons_succ, List.getElem?_cons_zero]; rfl) (by kernel_rfl) (by kernel_rfl) (by kernel_rfl) (fun _ _ _ h => h) (Or.inl ⟨by rfl, ?_⟩) (by assumption) ?_
            rotate_left
            · intro w hSw
              (try dsimp only at hSw)
              go_simp
              (try with_reducible rfl)
            simp only [Act.put, List.setIfInBounds_toArray, List.set_cons_zero, List.set_cons_succ]
            refine wpAnyH_ready (rs := [8]) (by kernel_rfl) (by simp) ?_
            refine AllReadyH.cons (by simp only [List.getElem?_toArray, List.getElem?_cons_succ, List.getElem?_cons_zero]; rfl) (fun K hK => ?_) AllReadyH.nil
            go_simp
            try go_wp2_with fail
            refine hK.out _ _ ?_ (fun hHeld2 => ?_)
            · exact keepP2 hbz hbs ⟨a0, s0, Kept.refl _⟩ ((Kept.refl wr).drew.alloc _)
            clear hK K hHeld
            have hHeld := hHeld2
            clear hHeld2
            try simp only [Act.put, List.setIfInBounds_toArray, List.set_cons_zero, List.set_cons_succ]
            refine wpAnyH_ready (rs := [9]) (by kernel_rfl) (by simp) ?_
            refine AllReadyH.cons (by simp only [List.getElem?_toArray, List.getElem?_cons_succ, List.getElem?_cons_zero]; rfl) (fun K hK => ?_) AllReadyH.nil
            go_simp
            try go_wp2_with fail
            refine hK.out _ _ ?_ (fun hHeld2 => ?_)
            · exact keepP2 hbz hbs ⟨a0, s0, Kept.refl _⟩ ((Kept.refl wr).drew.alloc _)
            clear hK K hHeld
            have hHeld := hHeld2
            clear hHeld2
            try simp only [Act.put, List.setIfInBounds_toArray, List.set_cons_zero, List.set_cons_succ]
            refine wpAnyH_done (by kernel_rfl) ?_ _
            refine NoPanic.normal ?_
            clear hHeld a0 s0 a1 a2
            have KD := Lib.hid ((Kept.refl (wr.alloc (.cells #[.int .i64 (c.e + st), .int .u64 0, .int .u64 0] 26))).drew)
            have HT := Lib.hid ((AtK.new wr ⟨c.e + st, (0, 0)⟩ wr.heap.size rfl).kept KD.out)
            have HB := Lib.hid ((HS.out.box.alloc (.cells #[.int .i64 (c.e + st), .int .u64 0, .int .u64 0] 26)).kept KD.out)
            have HO := Lib.hid ((HS.out.own.alloc (.cells #[.int .i64 (c.e + st), .int .u64 0, .int .u64 0] 26)).kept KD.out)
            have HK := Lib.hid ((HS.out.kept.alloc (.cells #[.int .i64 (c.e + st), .int .u64 0, .int .u64 0] 26)).drew)
            have HzT := Lib.hid (Nat.le_trans (Nat.le_of_eq HZ.out.symm) (Nat.le_of_lt hbz))
            clear KD
            have hzz : ¬ z = wr.heap.size := Nat.ne_of_lt hbz
            have hzz2 : ¬ wr.heap.size = z := fun e => hzz e.symm
            clear hbz hbs
            generalize (wr.alloc (.cells #[.int .i64 (c.e + st), .int .u64 0, .int .u64 0] 26)).drew = W3 at *
            generalize wr.heap.size = zt at *
            have a0 := HB.out.c0
            have a1 := HB.out.c1
            have a2 := HB.out.c2
            have t0 := HT.out.c0
            have t1 := HT.out.c1
            have t2 := HT.out.c2
            have hbz := HB.out.lt
            have hbt := HT.out.lt
            have f1 := HT.out.fr 1
            have f2 := HT.out.fr 2
            have KB3 := Lib.hid (KB1.out.trans HK.out)
            by_cases hr : j < ro.length
            · obtain ⟨zr, orr, rfl, hbr, r0, r1⟩ := id_at (HRo.out.kept KB3.out) hr
              have HY := Lib.hid (rohw _ (List.getElem_mem hr))
              generalize ro[j] = y at *
              have HO3 := Lib.hid ((HO.out.apart (p := ⟨zt, 1, none⟩) HNe.out (.int .u64 y.1)).apart (p := ⟨zt, 2, none⟩) HNe.out (.int .u64 y.2))
              have HB3 := Lib.hid ((HB.out.other (p := ⟨zt, 1, none⟩) hzz2 (.int .u64 y.1)).other (p := ⟨zt, 2, none⟩) hzz2 (.int .u64 y.2))
              have HT3 := Lib.hid (HT.out.set2 (r := y))
              have HK3 := Lib.hid ((HK.out.setCell (p := ⟨zt, 1, none⟩) HzT.out (.int .u64 y.1)).setCell (p := ⟨zt, 2, none⟩) HzT.out (.int .u64 y.2))
              have hol : X.length + 1 ≤ 1000000 := by have := HS.out.len; omega
              have HAl := Lib.hid (fun (o : Obj) => (HB3.out.alloc o).lt)
              go_wp2_with (refine wpList_lksB _ rfl _ _ rfl (z + 1) (by exact (HB3.out.alloc _).lt) X _ (by rfl) (HO3.out.alloc _) _ _ 1 1 [(⟨who, c, ⟨c.e + st, y⟩⟩ : Lk)] (by rfl) (by rfl) (lks_new (t := ⟨who, c, ⟨c.e + st, y⟩⟩) _ (by simp) _) hol ?_; intro A4 c4 w4 HO4 g4; have HB4 := Lib.hid ((HB3.out.alloc _).grown g4 (fun e => absurd (HNz.out z e.symm) (Nat.lt_irrefl _))); have HT4 := Lib.hid ((HT3.out.alloc _).grown g4 (fun e => HNe.out zt e.symm rfl)); have HK4 := Lib.hid ((HK3.out.alloc _).grown g4 (fun k e => Nat.le_trans (Nat.le_of_eq HZ.out.symm) (Nat.le_of_lt (HNz.out k e)))); replace HO4 := Lib.hid HO4; clear g4; have p0 := HB4.out.c0; have p1 := HB4.out.c1; have p2 := HB4.out.c2; have q0 := HT4.out.c0; have q1 := HT4.out.c1; have q2 := HT4.out.c2; have v0 := HB4.out.fr 0; have v1 := HB4.out.fr 1; have v2 := HB4.out.fr 2; have hbz4 := HB4.out.lt; have hbt4 := HT4.out.lt)
              go_roundw
              case rel => exact ⟨j + 1, _, _, A4, c4, by omega, by go_num, by first | rfl | (simp; done), St.next (st := st) (y := y) HS.out HZ.out ⟨hwho1, hwho2⟩ (by omega) (by omega) (by omega) HY.out HO4.out HB4.out HK4.out⟩
              case measure => simp [intOf]; omega
            · have hrb : decide ((j : Int) < (ro.length : Int)) = false := decide_eq_false (by omega)
              have HY := Lib.hid (show WfI (0, 0) from ⟨by decide, by decide⟩)
              have HO3 := HO
              have HB3 := HB
              have HT3 := HT
              have HK3 := HK
              have hol : X.length + 1 ≤ 1000000 := by have := HS.out.len; omega
              have HAl := Lib.hid (fun (o : Obj) => (HB3.out.alloc o).lt)
              go_wp2_with (refine wpList_lksB _ rfl _ _ rfl (z + 1) (by exact (HB3.out.alloc _).lt) X _ (by rfl) (HO3.out.alloc _) _ _ 1 1 [(⟨who, c, ⟨c.e + st, (0, 0)⟩⟩ : Lk)] (by rfl) (by rfl) (lks_new (t := ⟨who, c, ⟨c.e + st, (0, 0)⟩⟩) _ (by simp) _) hol ?_; intro A4 c4 w4 HO4 g4; have HB4 := Lib.hid ((HB3.out.alloc _).grown g4 (fun e => absurd (HNz.out z e.symm) (Nat.lt_irrefl _))); have HT4 := Lib.hid ((HT3.out.alloc _).grown g4 (fun e => HNe.out zt e.symm rfl)); have HK4 := Lib.hid ((HK3.out.alloc _).grown g4 (fun k e => Nat.le_trans (Nat.le_of_eq HZ.out.symm) (Nat.le_of_lt (HNz.out k e)))); replace HO4 := Lib.hid HO4; clear g4; have p0 := HB4.out.c0; have p1 := HB4.out.c1; have p2 := HB4.out.c2; have q0 := HT4.out.c0; have q1 := HT4.out.c1; have q2 := HT4.out.c2; have v0 := HB4.out.fr 0; have v1 := HB4.out.fr 1; have v2 := HB4.out.fr 2; have hbz4 := HB4.out.lt; have hbt4 := HT4.out.lt)
              go_roundw
              case rel => exact ⟨j + 1, _, _, A4, c4, by omega, by go_num, by first | rfl | (simp; done), St.next (st := st) (y := (0, 0)) HS.out HZ.out ⟨hwho1, hwho2⟩ (by omega) (by omega) (by omega) HY.out HO4.out HB4.out HK4.out⟩
              case measure => simp [intOf]; omega
      · have hjl : j = s.length := by omega
        subst hjl
        have HG := Lib.hid (rise_free HS.out.up A cap wr (by have := HS.out.len; omega) HS.out.wf (HS.out.own.cells rfl))
        go_wp2_with fail
        refine (HG.out).mono ?_
        rintro e W3 ⟨J, cj, rfl, k⟩
        have KB3 := Lib.hid (KB2.out.trans k)
        clear k
        go_wp2_with fail
        go_ret
        exact ⟨by first | rfl | (simp; done), K0.out.trans KB3.out⟩
  · have hvb : decide ((20 : Int) < (s.length : Int)) = true := decide_eq_true (by omega)
    go_wp2_with fail
    go_ret
    exact ⟨by first | rfl | (simp; done), K0.out.trans KB1.out⟩

/-! ### The row's step -/
set_option maxRecDepth 100000 in
theorem lifted (os : Os) (started : os.Started) (H : Type) (enc : TypeId × Value → H) :
    ReturnsInHanded {} Try.checked os 6 .any (Rows.slashRisingSpec.pre6 enc Try.prog Try.f6 Rows.slashRisingRow.domain false) (Rows.slashRisingSpec.post enc Try.prog Try.f6 false true false false) := by
  refine returnsInHanded_of_change (C := Try.checked) own started (by kernel_rfl) Try.func6
    (ChangeSpec.witness6 (enc := enc) (C := Try.checked) false ⟨#[], #[.int .i64 0, .slice none 0 0, .slice none 0 0], []⟩ 8 (by kernel_rfl) (by kernel_rfl) (by kernel_rfl) (by kernel_rfl)) ?_
  intro W base args ds gs before hval0 hW hcnd _
  have hval : ∀ (j : Nat) t v, Try.f6.params[j]? = some t → args[j]? = some v → Value.okWide Try.prog W .any base t v := hval0
  have hW' := hW
  obtain ⟨p, q, hA0, hV, rfl, hfz, hnd⟩ := hW
  have hA : DataW.TrodAll enc Try.prog W 0 (fun _ => true) true Try.f6.params.toList args.toList ds p := hA0
  rw [Try.params6] at hA hval
  obtain ⟨v0, vs0, d0, ds0, p0, q0, hargs, rfl, rfl, h0, r0⟩ := trodAll_cons hA
  obtain ⟨v1, vs1, d1, ds1, p1, q1, rfl, rfl, rfl, h1, r1⟩ := trodAll_cons r0
  obtain ⟨v2, vs2, d2, ds2, p2, q2, rfl, rfl, rfl, h2, r2⟩ := trodAll_cons r1
  obtain ⟨rfl, rfl, rfl⟩ := trodAll_nil r2
  obtain rfl : args = #[v0, v1, v2] := by cases args; simp_all
  obtain ⟨rfl, rfl⟩ := trodVars_none hV
  obtain ⟨who, rfl, hwho1, hwho2⟩ := open_num (hval 0 _ v0 rfl rfl) h0
  obtain ⟨sA, sc, s, rfl, shm, shb, shl⟩ := open_list (hval 1 _ v1 rfl rfl) h1
  obtain ⟨roA, roc, ro, rfl, rohm, rohw, rohl⟩ := open_ids (hval 2 _ v2 rfl rfl) h2
  clear hA0 hval0
  refine (walk W who hwho1 hwho2 sA sc s shm shb shl roA roc ro rohm rohw rohl).mono fun e W' ⟨he, hb⟩ => ?_
  subst he
  exact ⟨_, rfl, law_post rfl (by kernel_rfl) rfl hW' rfl hb⟩

theorem over : Rows.slashRisingRow.holds Try.pinned (OpenSpec.ofChange Rows.slashRisingSpec) :=
  OpenClaim.holds_of_wide 6 Try.f6 rfl rfl rfl rfl rfl rfl rfl ⟨rfl, rfl, rfl, rfl, rfl⟩ rfl rfl rfl rfl rfl (by kernel_rfl) Try.func6 (by kernel_rfl)
    (of_decide_eq_true (by kernel_rfl)) (by unfold Func.isWrapper; first | (rw [if_pos (by decide +kernel)]; kernel_rfl) | (rw [if_neg (by decide +kernel)]; exact ⟨rfl, rfl⟩))
    (fun os started H enc _ => lifted os started H enc)

/-- The statement. -/
theorem proved : Rows.SlashRisingSaid :=
  over
#print axioms proved

end Go.Proofs.Ythaofomhlmajbaa.slashRising
