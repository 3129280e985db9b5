/-
  The contract of package lmd's call best.
-/
import Derived.Test.YteamjjkmcomabaaLmdBest1
import Derived.Test.YteamjjkmcomabaaGhostHead
namespace Go.Proofs.Yteamjjkmcomabaa
set_option maxRecDepth 100000
set_option linter.unusedVariables false
set_option linter.unusedSimpArgs false
set_option linter.unusedSimpArgs false
set_option linter.unusedVariables false
open Go.ChangeShapes Go.WideShapes Go.ChangeAt Go.RowKit

theorem AtB.other' {w : World} {z : Nat} {xs : Array Value} {t : TypeId} (h : AtB w z xs t) {b j : Nat} (hb : b ≠ z) (u : Value) : AtB (w.setCell ⟨b, j, none⟩ u) z xs t := h.other (p := ⟨b, j, none⟩) hb u
/-- What lies before the loops of best, and in them: the names' box, the answer's, the row of weights and its box. -/
structure BestAt (w : World) (z0 z1 z2 z3 n : Nat) (names : Value) (f : Nat → Value) (w' : World) : Prop where
  b0 : AtB w' z0 #[names] 47
  b1 : AtB w' z1 #[.int .u64 0, .int .u64 0] 29
  row : w'.rowIs z2 3 n f
  b3 : AtB w' z3 #[.slice (some ⟨z2, 0, none⟩) n n] 22
  kept : Kept w w'
  ne : z2 ≠ z0 ∧ z2 ≠ z1 ∧ z2 ≠ z3 ∧ w.heap.size ≤ z2 ∧ w.heap.size ≤ z1
theorem BestAt.step {w : World} {z0 z1 z2 z3 n : Nat} {names : Value} {f : Nat → Value} {w' w2 : World} (h : BestAt w z0 z1 z2 z3 n names f w') (k : Kept w' w2) : BestAt w z0 z1 z2 z3 n names f w2 :=
  ⟨h.b0.kept k, h.b1.kept k, h.row.of_block (k.heap h.row.lt), h.b3.kept k, h.kept.trans k, h.ne⟩
theorem BestAt.set {w : World} {z0 z1 z2 z3 n : Nat} {names : Value} {f : Nat → Value} {w' : World} (h : BestAt w z0 z1 z2 z3 n names f w') (i : Nat) (v : Value) {f' : Nat → Value} (e : ∀ j, j < n → (if j = i then v else f j) = f' j) : BestAt w z0 z1 z2 z3 n names f' (w'.setCell ⟨z2, i, none⟩ v) :=
  ⟨h.b0.other' h.ne.1 _, h.b1.other' h.ne.2.1 _, (h.row.set i v).congr e, h.b3.other' h.ne.2.2.1 _, h.kept.setCell (p := ⟨z2, i, none⟩) h.ne.2.2.2.1 _, h.ne⟩
theorem toldG_set (g : Id2 → Int) (q : List Id2) {j : Nat} (hj : j < q.length) (i : Nat) : (if i = j then (.int .i64 (g q[j]) : Value) else toldG g q j i) = toldG g q (j + 1) i := by
  unfold toldG
  by_cases e : i = j
  · subst e; rw [if_pos rfl, if_pos (by omega), gV_at hj]
  · rw [if_neg e]
    by_cases h : i < j
    · rw [if_pos h, if_pos (by omega)]
    · rw [if_neg h, if_neg (by omega)]
theorem best_start (w : World) (names : Value) (n : Nat) (g : Id2 → Int) (q : List Id2) : BestAt w w.heap.size (w.heap.size + 1) (w.heap.size + 1 + 1) (w.heap.size + 1 + 1 + 1) n names (toldG g q 0)
    (((((w.alloc (.cells #[names] 47)).alloc (.cells #[.int .u64 0, .int .u64 0] 29)).alloc (.cells (madeCells #[.int .i64 0] n) 3)).alloc (.cells #[.slice (some ⟨w.heap.size + 1 + 1, 0, none⟩) n n] 22))) where
  b0 := (((AtB.new w _ _).kept ((Kept.refl _).alloc _)).kept ((Kept.refl _).alloc _)).kept ((Kept.refl _).alloc _)
  b1 := by
    have h := AtB.new (w.alloc (.cells #[names] 47)) #[.int .u64 0, .int .u64 0] 29
    rw [show (w.alloc (.cells #[names] 47)).heap.size = w.heap.size + 1 by simp] at h
    exact (h.kept ((Kept.refl _).alloc _)).kept ((Kept.refl _).alloc _)
  row := by
    have h := World.rowIs_made ((w.alloc (.cells #[names] 47)).alloc (.cells #[.int .u64 0, .int .u64 0] 29)) (.int .i64 0) n 3
    rw [show ((w.alloc (.cells #[names] 47)).alloc (.cells #[.int .u64 0, .int .u64 0] 29)).heap.size = w.heap.size + 1 + 1 by simp] at h
    exact (h.alloc _).congr fun i _ => by simp [toldG]
  b3 := by
    have h := AtB.new (((w.alloc (.cells #[names] 47)).alloc (.cells #[.int .u64 0, .int .u64 0] 29)).alloc (.cells (madeCells #[.int .i64 0] n) 3)) #[.slice (some ⟨w.heap.size + 1 + 1, 0, none⟩) n n] 22
    rw [show (((w.alloc (.cells #[names] 47)).alloc (.cells #[.int .u64 0, .int .u64 0] 29)).alloc (.cells (madeCells #[.int .i64 0] n) 3)).heap.size = w.heap.size + 1 + 1 + 1 by simp] at h
    exact h
  kept := ((((Kept.refl w).alloc _).alloc _).alloc _).alloc _
  ne := by omega
set_option maxRecDepth 100000 in
set_option maxHeartbeats 12800000 in
theorem bestL_any (f : Nat) (cb : Array Value) (g : Id2 → Int) (qA : Option Addr) (qc : Nat) (q : List Id2) (w : World) (hq : q.length ≤ 10000) (hq0 : 0 < q.length) (hn : Named q) (hN : CellsAt w w.heap.size qA (idsCells q)) (eg : ∀ args w, (callFunc f args).run Try.prog w = .ok (.enter f args) w) (hF : OnFn f cb g w) :
    Calls Try.prog 35 #[.slice qA q.length qc, .func (.func f) #[] cb] w fun e w' => ∃ y, bestTo g q = some y ∧ e = .returned (.agg #[.int .u64 y.1, .int .u64 y.2]) ∧ Kept w w' := by
  have HF := Lib.hid hF
  have HNm := Lib.hid hn
  have HN0 := Lib.hid hN
  have egb : ∀ args w, (callFunc 58 args).run Try.prog w = .ok (.enter 58 args) w := enters_of Try.func58 (by kernel_rfl) rfl
  have hmk := makeG q.length hq
  clear hF hn hN
  by_cases h1 : q.length = 1
  · obtain ⟨y, rfl⟩ : ∃ y, q = [y] := by
      rcases q with _ | ⟨y, _ | ⟨y2, r⟩⟩
      · simp at h1
      · exact ⟨y, rfl⟩
      · simp at h1
    have K := Lib.hid (((Kept.refl w).alloc (.cells #[.slice qA 1 qc] 47)).alloc (.cells #[.int .u64 0, .int .u64 0] 29))
    obtain ⟨zq, oq, rfl, hbq, x0, x1⟩ := id_at (HN0.out.kept K.out) (i := 0) (by simp)
    simp only [List.getElem_cons_zero, Nat.zero_mul, Nat.add_zero] at x0 x1
    have HK1 := Lib.hid (AtB.new (w.alloc (.cells #[.slice (some ⟨zq, oq, none⟩) 1 qc] 47)) #[.int .u64 0, .int .u64 0] 29)
    go_enter Try.func35, Try.ntmps35
    go_wp2_with fail
    refine bodyPost_ret (v := .agg #[.int .u64 y.1, .int .u64 y.2]) (by simp [results, Try.results35, go_sem]) rfl ⟨y, rfl, rfl, ?_⟩
    exact ((Kept.refl w).alloc _).alloc _
  · have hq1 : ((q.length : Int) == 1) = false := by rw [beq_eq_false_iff_ne]; omega
    clear h1
    have HS := Lib.hid (best_start w (.slice qA q.length qc) q.length g q)
    go_enter Try.func35, Try.ntmps35
    go_wp2_with fail
    have HZ := Lib.hid (show w.heap.size ≤ w.heap.size + 1 by omega)
    generalize (((w.alloc (.cells #[.slice qA q.length qc] 47)).alloc (.cells #[.int .u64 0, .int .u64 0] 29)).alloc (.cells (madeCells #[.int .i64 0] q.length) 3)).alloc (.cells #[.slice (some ⟨w.heap.size + 1 + 1, 0, none⟩) q.length q.length] 22) = E at *
    generalize w.heap.size + 1 + 1 + 1 = z3 at *
    generalize w.heap.size + 1 + 1 = z2 at *
    generalize w.heap.size + 1 = z1 at *
    obtain ⟨z0, hz0⟩ : ∃ z0, z0 = w.heap.size := ⟨_, rfl⟩
    rw [← hz0] at HS HZ ⊢
    clear hz0 hmk
    have HS0 := Lib.hid HS.out
    clear HS
    go_loopw [22] (fun i w' => ∃ j : Nat, j ≤ q.length ∧ i = .int .i64 (j : Nat) ∧ BestAt w z0 z1 z2 z3 q.length (.slice qA q.length qc) (toldG g q j) w') (fun i _ => q.length - (intOf i).toNat)
    case atStart => exact ⟨0, by omega, rfl, HS0.out⟩
    case round =>
      obtain ⟨j, hj, rfl, hS⟩ := hrel
      clear HS0
      have HS := Lib.hid hS
      clear hS
      by_cases hlt : j < q.length
      · obtain ⟨zq, oq, rfl, hbq, x0, x1⟩ := id_at (HN0.out.kept HS.out.kept) hlt
        have HX := Lib.hid (HNm.out _ (List.getElem_mem hlt)).1
        have HSet := Lib.hid (fun i (_ : i < q.length) => toldG_set g q hlt i)
        have HFx := Lib.hid (fun w' (kk : Kept wr w') => HF.out w' (HS.out.kept.trans kk) q[j] HX.out)
        generalize q[j] = x at *
        generalize g x = gx at *
        have s0 : wr.cell? ⟨z3, 0, none⟩ = some (.slice (some ⟨z2, 0, none⟩) q.length q.length) := HS.out.b3.cell
        have l3 := HS.out.b3.lt
        go_wp2_with fail
        have HNb := Lib.hid (AtB.new wr #[.int .u64 x.1, .int .u64 x.2] 29)
        have HKb := Lib.hid ((Kept.refl wr).alloc (.cells #[.int .u64 x.1, .int .u64 x.2] 29))
        have HSb := Lib.hid (HS.out.step HKb.out)
        generalize wr.alloc (.cells #[.int .u64 x.1, .int .u64 x.2] 29) = W2 at *
        generalize wr.heap.size = zb at *
        clear x0 x1 hbq s0 l3
        have m0 : W2.cell? ⟨zb, 0, none⟩ = some (.int .u64 x.1) := HNb.out.cell
        have m1 : W2.cell? ⟨zb, 1, none⟩ = some (.int .u64 x.2) := HNb.out.cell
        have s0 : W2.cell? ⟨z3, 0, none⟩ = some (.slice (some ⟨z2, 0, none⟩) q.length q.length) := HSb.out.b3.cell
        have lb := HNb.out.lt
        have l3 := HSb.out.b3.lt
        refine wp_region_noPanic ?_
        refine wp_region_until 6 (fun w' => w'.cell? ⟨z3, 0, none⟩ = some (.slice (some ⟨z2, 0, none⟩) q.length q.length) ∧ w'.cell? ⟨zb, 0, none⟩ = some (.int .u64 x.1) ∧ w'.cell? ⟨zb, 1, none⟩ = some (.int .u64 x.2) ∧ Kept W2 w') (by kernel_rfl) ?_ (fun hHeld => ?_)
        · exact ⟨s0, m0, m1, (Kept.refl _).drew⟩
        refine wpAnyU_take 0 ?_ (by simp only [List.getElem?_toArray, List.getElem?_cons_succ, List.getElem?_cons_zero]; rfl) (by kernel_rfl) (by kernel_rfl) (by kernel_rfl) (by kernel_rfl) (by kernel_rfl) (by kernel_rfl) (fun _ _ _ h => h) (Or.inl ⟨by rfl, ?_⟩) (by assumption) ?_
        rotate_left
        · intro w hSw
          (try dsimp only at hSw)
          go_simp
          (try with_reducible rfl)
        simp only [Act.put, List.setIfInBounds_toArray, List.set_cons_zero, List.set_cons_succ]
        refine wpAnyU_take 1 ?_ (by simp only [List.getElem?_toArray, List.getElem?_cons_succ, List.getElem?_cons_zero]; rfl) (by kernel_rfl) (by kernel_rfl) (by kernel_rfl) (by kernel_rfl) (by kernel_rfl) (by kernel_rfl) (fun _ _ _ h => h) (Or.inl ⟨by rfl, ?_⟩) (by assumption) ?_
        rotate_left
        · intro w hSw
          (try dsimp only at hSw)
          go_simp
          (try with_reducible rfl)
        simp only [Act.put, List.setIfInBounds_toArray, List.set_cons_zero, List.set_cons_succ]
        refine wpAnyU_take 2 ?_ (by simp only [List.getElem?_toArray, List.getElem?_cons_succ, List.getElem?_cons_zero]; rfl) (by kernel_rfl) (by kernel_rfl) (by kernel_rfl) (by kernel_rfl) (by kernel_rfl) (by kernel_rfl) (fun _ _ _ h => h) (Or.inl ⟨by rfl, ?_⟩) (by assumption) ?_
        rotate_left
        · intro w hSw
          (try dsimp only at hSw)
          go_simp
          (try with_reducible rfl)
        simp only [Act.put, List.setIfInBounds_toArray, List.set_cons_zero, List.set_cons_succ]
        refine wpAnyU_take 3 ?_ (by simp only [List.getElem?_toArray, List.getElem?_cons_succ, List.getElem?_cons_zero]; rfl) (by kernel_rfl) (by kernel_rfl) (by kernel_rfl) (by kernel_rfl) (by kernel_rfl) (by kernel_rfl) (fun _ _ _ h => h) (Or.inl ⟨by rfl, ?_⟩) (by assumption) ?_
        rotate_left
        · intro w hSw
          (try dsimp only at hSw)
          go_simp
          (try with_reducible rfl)
        simp only [Act.put, List.setIfInBounds_toArray, List.set_cons_zero, List.set_cons_succ]
        refine wpAnyU_one 4 (by kernel_rfl) (by simp only [List.getElem?_toArray, List.getElem?_cons_succ, List.getElem?_cons_zero]; rfl) (fun K hK => ?_)
        go_simp
        refine (HFx.out _ (HKb.out.trans hHeld.2.2.2)).mono ?_
        rintro e w' ⟨rfl, kk⟩
        try go_wp2_with fail
        refine hK.out _ _ ?_ (fun hHeld2 => ?_)
        · exact keepP3 l3 lb lb hHeld kk
        clear hK K hHeld
        have hHeld := hHeld2
        clear hHeld2
        try simp only [Act.put, List.setIfInBounds_toArray, List.set_cons_zero, List.set_cons_succ]
        refine wpAnyU_take 5 ?_ (by simp only [List.getElem?_toArray, List.getElem?_cons_succ, List.getElem?_cons_zero]; rfl) (by kernel_rfl) (by kernel_rfl) (by kernel_rfl) (by kernel_rfl) (by kernel_rfl) (by kernel_rfl) (fun _ _ _ h => h) (Or.inl ⟨by rfl, ?_⟩) (by assumption) ?_
        rotate_left
        · intro w hSw
          (try dsimp only at hSw)
          go_simp
          (try with_reducible rfl)
        simp only [Act.put, List.setIfInBounds_toArray, List.set_cons_zero, List.set_cons_succ]
        refine wpAnyU_last (by kernel_rfl) (by simp only [List.getElem?_toArray, List.getElem?_cons_succ, List.getElem?_cons_zero]; rfl) (by kernel_rfl) (by kernel_rfl) (fun K hK => ?_)
        have HSl := Lib.hid (HSb.out.step hHeld.2.2.2)
        have c := HSl.out.row.cell hlt
        have fr := HSl.out.row.frozen j
        go_simp
        refine hK.out _ _ ?_
        clear hK K hHeld
        refine NoPanic.normal ?_
        go_wp2_with fail
        go_roundw
        case rel => exact ⟨j + 1, by omega, by go_num, HSl.out.set j _ HSet.out⟩
        case measure => simp [intOf]; omega
      · have hjn : j = q.length := by omega
        subst hjn
        have HSf := Lib.hid (show BestAt w z0 z1 z2 z3 q.length (.slice qA q.length qc) (gV g q) wr from ⟨HS.out.b0, HS.out.b1, HS.out.row.congr fun i hi => toldG_full hi, HS.out.b3, HS.out.kept, HS.out.ne⟩)
        have n0 : wr.cell? ⟨z0, 0, none⟩ = some (.slice qA q.length qc) := HS.out.b0.cell
        have l0 := HS.out.b0.lt
        go_wp2_with fail
        go_loopw [9, 37] (fun u i w' => ∃ (j m : Nat) (hm : m < q.length), j ≤ q.length ∧ i = .int .i64 (j : Nat) ∧ u = .int .i64 (m : Nat) ∧ (j = 0 → m = 0) ∧ (0 < j → bestTo g (q.take j) = some (q[m]'hm)) ∧ BestAt w z0 z1 z2 z3 q.length (.slice qA q.length qc) (gV g q) w') (fun _ i _ => q.length - (intOf i).toNat)
        case atStart => exact ⟨0, 0, hq0, by omega, rfl, rfl, fun _ => rfl, fun h => by omega, HSf.out⟩
        case round =>
          clear HSf HS n0 l0
          obtain ⟨j, m, hm, hj, rfl, rfl, hj0, hjb, hS⟩ := hrel
          have HS := Lib.hid hS
          have HJ0 := Lib.hid hj0
          have HJB := Lib.hid hjb
          clear hS hj0 hjb
          by_cases hlt : j < q.length
          · go_wp2_with fail
            refine (best1_any g qA qc q z3 z0 z2 j m _ trivial hq hlt hm HS.out.b3.has HS.out.b0.has HS.out.row (HN0.out.kept HS.out.kept)).mono ?_
            rintro e W3 ⟨rfl, k3⟩
            have HS3 := Lib.hid (HS.out.step k3)
            clear k3
            cases hb : beats g q[m] q[j] with
            | true =>
              have HN := Lib.hid (show bestTo g (q.take (j + 1)) = some q[j] from by
                rcases Nat.eq_zero_or_pos j with e | e
                · subst e; exact bestI_one hlt
                · exact bestI_hit hlt (HJB.out e) hb)
              clear hb
              go_wp2_with fail
              go_roundw
              case rel => exact ⟨j + 1, j, hlt, by omega, by go_num, rfl, fun h => by omega, fun _ => HN.out, HS3.out⟩
              case measure => simp [intOf]; omega
            | false =>
              have HN := Lib.hid (show bestTo g (q.take (j + 1)) = some q[m] from by
                rcases Nat.eq_zero_or_pos j with e | e
                · have e2 := HJ0.out e
                  subst e e2
                  exact bestI_one hlt
                · exact bestI_miss hlt (HJB.out e) hb)
              clear hb
              go_wp2_with fail
              go_roundw
              case rel => exact ⟨j + 1, m, hm, by omega, by go_num, rfl, fun h => by omega, fun _ => HN.out, HS3.out⟩
              case measure => simp [intOf]; omega
          · have hjn : j = q.length := by omega
            subst hjn
            have HB := Lib.hid (HJB.out hq0)
            rw [List.take_length] at HB
            obtain ⟨zq, oq, rfl, hbq, x0, x1⟩ := id_at (HN0.out.kept HS.out.kept) hm
            have n0 : wr.cell? ⟨z0, 0, none⟩ = some (.slice (some ⟨zq, oq, none⟩) q.length qc) := HS.out.b0.cell
            have l0 := HS.out.b0.lt
            have r0 : wr.cell? ⟨z1, 0, none⟩ = some (.int .u64 0) := HS.out.b1.cell
            have r1 : wr.cell? ⟨z1, 1, none⟩ = some (.int .u64 0) := HS.out.b1.cell
            have f0 := HS.out.b1.fr 0
            have f1 := HS.out.b1.fr 1
            have l1 := HS.out.b1.lt
            generalize q[m] = y at *
            go_wp2_with fail
            refine bodyPost_ret (v := .agg #[.int .u64 y.1, .int .u64 y.2]) (by simp [results, Try.results35, go_sem, r0, r1]) rfl ⟨y, HB.out, rfl, ?_⟩
            exact (HS.out.kept.setCell (p := ⟨z1, 0, none⟩) HS.out.ne.2.2.2.2 _).setCell (p := ⟨z1, 1, none⟩) HS.out.ne.2.2.2.2 _

end Go.Proofs.Yteamjjkmcomabaa
