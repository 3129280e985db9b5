/-
  The contracts of package view's calls join and Join, and of slices.Clone at blocks and votes.
-/
import Derived.Lib.SliceRun
import Derived.Test.YtacdiicnfoejoaaViewLeft
import Derived.Test.YtacdiicnfoejoaaViewKeys
import Derived.Test.YtacdiicnfoejoaaViewLaws
import Derived.Test.YtacdiicnfoejoaaGround
namespace Go.Proofs.Ytacdiicnfoejoaa
set_option maxRecDepth 100000
set_option linter.unusedVariables false
set_option linter.unusedSimpArgs false
set_option linter.unusedSimpArgs false
set_option linter.unusedVariables false
open Go.ChangeShapes Go.WideShapes Go.ChangeAt Go.RowKit

/-- A map of one's own that holds nothing, at just the keys of L. -/
def SetK {α : Type} [DecidableEq α] (K : KeyKind α) (b m : Nat) (L : List α) (w : World) : Prop := OwnH K unitV b m (fun _ => ()) (fun x => decide (x ∈ L)) w
theorem grown_map {α β : Type} {K : KeyKind α} {V : ValKind β} {b m : Nat} {f : α → β} {w : World} {base : Nat} {e : TypeId} {s n : Nat} {v : Value} {xs : List Value} (hr : w.ownsRow base e s v n xs) (hm : OwnF K V b m f w) : v.ownBlock ≠ some b := by
  rcases hr.2 with ⟨rfl, _⟩ | ⟨g, cap, cur, rfl, _, hgb, _⟩
  · intro e'; cases e'
  · intro e'
    have : g = b := by injection e'
    subst this
    obtain ⟨D, ⟨es, clock, hb, _⟩, _⟩ := hm
    rw [hb] at hgb; cases hgb
theorem has_grown {w w' : World} {z : Nat} {xs : List Value} {row : Option Nat} (h : HasCells w z xs) (g : w.grownBy w' row) (hn : some z ≠ row) : HasCells w' z xs :=
  ⟨Nat.lt_of_lt_of_le h.1 g.size, fun j u hu => (cell_heap (p := ⟨z, j, none⟩) (g.block z h.1 hn)).trans (h.2 j u hu)⟩
theorem cellsAt_no_map {α β : Type} {K : KeyKind α} {V : ValKind β} {b m : Nat} {f : α → β} {w : World} {z : Nat} {xs : List Value} (h : HasCells w z xs) (hx : 0 < xs.length) (hm : OwnF K V b m f w) : z ≠ b := by
  intro e
  subst e
  obtain ⟨D, ⟨es, clock, hb, _⟩, _⟩ := hm
  have := h.2 0 xs[0] (List.getElem?_eq_getElem hx)
  unfold World.cell? at this
  rw [hb] at this
  cases this
section
variable {α : Type} [DecidableEq α] {K : KeyKind α} {b m : Nat} {L : List α} {w w' : World}
theorem SetK.kept (h : SetK K b m L w) (k : Kept w w') : SetK K b m L w' := OwnH.kept h k
theorem SetK.at (h : SetK K b m L w) (e : w'.heap[b]? = w.heap[b]?) : SetK K b m L w' := OwnH.at h e
theorem SetK.lt (h : SetK K b m L w) : b < w.heap.size := h.f.lt
theorem SetK.made (K : KeyKind α) (w : World) : SetK K w.heap.size 0 [] (w.alloc (.map #[] 0)) := (OwnH.made (K := K) (V := unitV) w).congr (fun _ _ => rfl) (fun x _ => by simp)
theorem SetK.grown (h : SetK K b m L w) {row : Option Nat} (g : w.grownBy w' row) (hn : row ≠ some b) : SetK K b m L w' := h.at (g.block b h.lt hn.symm)
theorem SetK.look {t : TypeId} (ht : Try.prog.underlying t = some (.map K.k unitV.e)) (h : SetK K b m L w) {x : α} (hx : K.wf x) :
    (Instr.lookup t (.map (some b)) (K.key x) true).run Try.prog w = .ok (.tuple #[.agg #[], .bool (decide (x ∈ L))]) w := OwnH.look_ok ht h hx
theorem SetK.put {t : TypeId} (ht : Try.prog.underlying t = some (.map K.k unitV.e)) (h : SetK K b m L w) (hm : m < maxLen) {x : α} (hx : K.wf x) :
    ∃ w', (Instr.mapUpdate t (.map (some b)) (K.key x) (.agg #[])).run Try.prog w = .ok () w' ∧ SetK K b (m + 1) (L ++ [x]) w' ∧ w.grownBy w' (some b) := by
  obtain ⟨w', hrun, h1, h2⟩ := OwnH.update ht h hm hx (y := ()) trivial
  refine ⟨w', hrun, h1.congr (fun _ _ => rfl) (fun z _ => ?_), h2⟩
  unfold setF
  by_cases e : z = x
  · rw [if_pos e, e]; simp
  · rw [if_neg e]; simp [e]
end
theorem joinV_hit {α : Type} [DecidableEq α] {a l : List α} {j : Nat} (hj : j < l.length) (h : ¬ l[j] ∈ joinL a (l.take j)) : joinL a (l.take (j + 1)) = joinL a (l.take j) ++ [l[j]] := by
  rw [List.take_succ_eq_append_getElem hj, joinL_snoc, if_neg h]
theorem joinV_miss {α : Type} [DecidableEq α] {a l : List α} {j : Nat} (hj : j < l.length) (h : l[j] ∈ joinL a (l.take j)) : joinL a (l.take (j + 1)) = joinL a (l.take j) := by
  rw [List.take_succ_eq_append_getElem hj, joinL_snoc, if_pos h]
set_option maxRecDepth 100000 in
set_option maxHeartbeats 3200000 in
theorem cloneB_any (A : Option Addr) (c : Nat) (a : List Bk) (hl : a.length ≤ 10000) (w : World) (hA : CellsAt w w.heap.size A (blockCells a)) :
    Calls Try.prog 49 #[.slice A a.length c] w fun e w' => ∃ A' c', e = .returned (.slice A' a.length c') ∧ Bks w a (.slice A' a.length c') w' := by
  have q : ∀ (w : World) (a : Option Addr) (n c n' c' : Nat), (binOp .eql 26 (.slice a n c) (.slice none n' c')).run Try.prog w = .ok (.bool a.isNone) w := fun w a n c n' c' => Lib.run_eql_slice_nil w _ _ a n c n' c' Try.underlying26
  rcases A with _ | ad
  · have h0 : a = [] := by
      rcases a with _ | ⟨t, r⟩
      · rfl
      · obtain ⟨ad, e, _⟩ := hA 0 _ (by simp [blockCells, bkCells]; rfl)
        cases e
    subst h0
    clear hA
    go_enter Try.func49, Try.ntmps49
    go_wp2_with fail
    go_ret
    exact ⟨none, 0, rfl, Bks.nil w⟩
  · have HA := Lib.hid (hA.kept ((Kept.refl w).alloc (.cells #[] 42)))
    have HM : Hid (Bks w [] (.slice (some ⟨w.heap.size, 0, none⟩) 0 0) (w.alloc (.cells #[] 42))) := Lib.hid ⟨World.ownsRow_made w #[] 0 (Nat.le_refl _) (Nat.zero_le _) rfl, (Kept.refl w).alloc _⟩
    clear hA
    go_enter Try.func49, Try.ntmps49
    go_wp2_with (refine wpList_bgrow _ rfl _ _ rfl w [] _ (by rfl) HM.out _ (some ad) a.length c a (by rfl) (by rfl) HA.out (by simp; omega) ?_; intro A' c' w' HI' _ _; rw [List.nil_append] at HI' ⊢; have HI := Lib.hid HI'; clear HI')
    go_ret
    exact ⟨A', c', by first | rfl | simp, HI.out⟩
set_option maxRecDepth 100000 in
set_option maxHeartbeats 3200000 in
theorem cloneV_any (A : Option Addr) (c : Nat) (a : List Vt) (hl : a.length ≤ 10000) (w : World) (hA : CellsAt w w.heap.size A (votesCells a)) :
    Calls Try.prog 50 #[.slice A a.length c] w fun e w' => ∃ A' c', e = .returned (.slice A' a.length c') ∧ Vts w a (.slice A' a.length c') w' := by
  have q : ∀ (w : World) (a : Option Addr) (n c n' c' : Nat), (binOp .eql 27 (.slice a n c) (.slice none n' c')).run Try.prog w = .ok (.bool a.isNone) w := fun w a n c n' c' => Lib.run_eql_slice_nil w _ _ a n c n' c' Try.underlying27
  rcases A with _ | ad
  · have h0 : a = [] := by
      rcases a with _ | ⟨t, r⟩
      · rfl
      · obtain ⟨ad, e, _⟩ := hA 0 _ (by simp [votesCells, vtCells]; rfl)
        cases e
    subst h0
    clear hA
    go_enter Try.func50, Try.ntmps50
    go_wp2_with fail
    go_ret
    exact ⟨none, 0, rfl, Vts.nil w⟩
  · have HA := Lib.hid (hA.kept ((Kept.refl w).alloc (.cells #[] 45)))
    have HM : Hid (Vts w [] (.slice (some ⟨w.heap.size, 0, none⟩) 0 0) (w.alloc (.cells #[] 45))) := Lib.hid ⟨World.ownsRow_made w #[] 0 (Nat.le_refl _) (Nat.zero_le _) rfl, (Kept.refl w).alloc _⟩
    clear hA
    go_enter Try.func50, Try.ntmps50
    go_wp2_with (refine wpList_vgrow _ rfl _ _ rfl w [] _ (by rfl) HM.out _ (some ad) a.length c a (by rfl) (by rfl) HA.out (by simp; omega) ?_; intro A' c' w' HI' _ _; rw [List.nil_append] at HI' ⊢; have HI := Lib.hid HI'; clear HI')
    go_ret
    exact ⟨A', c', by first | rfl | simp, HI.out⟩
theorem run_hintB (n : Nat) (w : World) : (Instr.makeMap 88 (some (.int .i64 (n : Int)))).run Try.prog w = .ok (.map (some w.heap.size)) (w.alloc (.map #[] 0)) := by
  simp [Instr.makeMap, run_underlying Try.underlying88, go_sem]
set_option maxRecDepth 100000 in
set_option maxHeartbeats 3200000 in
theorem joinB_any (A : Option Addr) (ca : Nat) (a : List Bk) (B : Option Addr) (cb : Nat) (b : List Bk) (w : World) (ha : a.length ≤ 10000) (hb : b.length ≤ 10000) (haw : ∀ y ∈ a, WfB y ∧ Wf64B y) (hbw : ∀ y ∈ b, WfB y ∧ Wf64B y) (hA : CellsAt w w.heap.size A (blockCells a)) (hB : CellsAt w w.heap.size B (blockCells b)) :
    Calls Try.prog 33 #[.slice A a.length ca, .slice B b.length cb] w fun e w' => ∃ A' c', e = .returned (.slice A' (joinL a b).length c') ∧ Bks w (joinL a b) (.slice A' (joinL a b).length c') w' := by
  have HA := Lib.hid hA
  have HB := Lib.hid hB
  have HWa := Lib.hid haw
  have HWb := Lib.hid hbw
  have hmm := run_hintB a.length w
  have HM := Lib.hid (SetK.made bkKey w)
  clear hA hB haw hbw
  go_enter Try.func33, Try.ntmps33
  go_wp2_with fail
  clear hmm
  go_loopw [18] (fun i w' => ∃ j : Nat, j ≤ a.length ∧ i = .int .i64 (j : Nat) ∧ Hid (SetK bkKey w.heap.size j (a.take j) w') ∧ Hid (Kept w w')) (fun i _ => a.length - (intOf i).toNat)
  case atStart => exact ⟨0, by omega, rfl, HM, Lib.hid ((Kept.refl w).alloc _)⟩
  case round =>
    clear HM
    obtain ⟨j, hj, rfl, HM, HK⟩ := hrel
    by_cases hlt : j < a.length
    · obtain ⟨z, o, rfl, hb, c0, c1, c2, c3, c4⟩ := block_at (HA.out.kept HK.out) hlt
      have HWy := Lib.hid (HWa.out _ (List.getElem_mem hlt))
      have HTk := Lib.hid (List.take_succ_eq_append_getElem hlt)
      generalize a[j] = y at *
      have ka := (Kept.refl wr).alloc (.cells #[.int .i64 y.s, .int .i64 y.f, .int .u64 y.p.1, .int .u64 y.p.2, .int .u64 y.t] 42)
      obtain ⟨W2, hrun0, hS2, g2⟩ := (HM.out.kept ka).put Try.underlying88 (by unfold maxLen; omega) HWy.out
      have hrun : (Instr.mapUpdate 88 (.map (some w.heap.size)) (.agg #[.int .i64 y.s, .int .i64 y.f, .int .u64 y.p.1, .int .u64 y.p.2, .int .u64 y.t]) (.agg #[])).run Try.prog (wr.alloc (.cells #[.int .i64 y.s, .int .i64 y.f, .int .u64 y.p.1, .int .u64 y.p.2, .int .u64 y.t] 42)) = .ok () W2 := hrun0
      have HS2 := Lib.hid hS2
      have HK2 := Lib.hid ((HK.out.trans ka).grown g2 fun i hi => by injection hi with hi; exact Nat.le_of_eq hi)
      clear hrun0 hS2 g2 ka
      go_wp2_with fail
      go_roundw
      case rel => exact ⟨j + 1, by omega, by go_num, by rw [HTk.out]; exact HS2, HK2⟩
      case measure => simp [intOf]; omega
    · obtain rfl : j = a.length := by omega
      rw [List.take_length] at HM
      go_wp2_with fail
      refine (cloneB_any A ca a (by omega) wr (HA.out.kept HK.out)).mono ?_
      rintro e W1 ⟨A1, e1, rfl, hR⟩
      replace HM := Lib.hid (HM.out.kept hR.2)
      have HR := Lib.hid (hR.lower HK.out)
      have HBW := HB
      clear hR HB HK HA
      go_wp2_with fail
      go_loopw [8, 30] (fun all i w' => ∃ (j m : Nat) (A' : Option Addr) (c' : Nat), j ≤ b.length ∧ m ≤ a.length + j ∧ i = .int .i64 (j : Nat) ∧ all = .slice A' (joinL a (b.take j)).length c' ∧ Hid (SetK bkKey w.heap.size m (joinL a (b.take j)) w') ∧ Hid (Bks w (joinL a (b.take j)) (.slice A' (joinL a (b.take j)).length c') w')) (fun _ i _ => b.length - (intOf i).toNat)
      case atStart => exact ⟨0, a.length, A1, e1, by omega, by omega, rfl, rfl, HM, HR⟩
      case round =>
        clear HM HR
        obtain ⟨j, m, A2, e2, hj, hm, rfl, rfl, HM, HR⟩ := hrel
        by_cases hlt : j < b.length
        · obtain ⟨z, o, rfl, hbz, c0, c1, c2, c3, c4⟩ := block_at (HBW.out.kept HR.out.2) hlt
          have HWy := Lib.hid (HWb.out _ (List.getElem_mem hlt))
          have HHit := Lib.hid (fun h => joinV_hit (a := a) hlt h)
          have HMis := Lib.hid (fun h => joinV_miss (a := a) hlt h)
          have HLe := Lib.hid (show (joinL a (b.take j)).length ≤ 20000 by have := joinL_len a (b.take j); rw [List.length_take] at this; omega)
          generalize joinL a (b.take j) = q at *
          generalize b[j] = y at *
          have ka := (Kept.refl wr).alloc (.cells #[.int .i64 y.s, .int .i64 y.f, .int .u64 y.p.1, .int .u64 y.p.2, .int .u64 y.t] 42)
          have hl : (Instr.lookup 88 (.map (some w.heap.size)) (.agg #[.int .i64 y.s, .int .i64 y.f, .int .u64 y.p.1, .int .u64 y.p.2, .int .u64 y.t]) true).run Try.prog (wr.alloc (.cells #[.int .i64 y.s, .int .i64 y.f, .int .u64 y.p.1, .int .u64 y.p.2, .int .u64 y.t] 42)) = .ok (.tuple #[.agg #[], .bool (decide (y ∈ q))]) (wr.alloc (.cells #[.int .i64 y.s, .int .i64 y.f, .int .u64 y.p.1, .int .u64 y.p.2, .int .u64 y.t] 42)) := (HM.out.kept ka).look Try.underlying88 HWy.out
          by_cases hin : y ∈ q
          · rw [decide_eq_true hin] at hl
            have HN := Lib.hid (HMis.out hin)
            clear HHit HMis hin
            have kk := ka.alloc (.cells #[] 89)
            have HM2 := Lib.hid (HM.out.kept kk)
            have HR2 := Lib.hid (HR.out.kept kk)
            clear ka kk
            go_wp2_with fail
            go_roundw
            case rel => exact ⟨j + 1, m, A2, e2, by omega, by omega, by go_num, by rw [HN.out], by rw [HN.out]; exact HM2, by rw [HN.out]; exact HR2⟩
            case measure => simp [intOf]; omega
          · rw [decide_eq_false hin] at hl
            have HN := Lib.hid (HHit.out hin)
            clear HHit HMis hin
            have kk := ka.alloc (.cells #[] 89)
            have hY1 := (HasCells.new wr #[.int .i64 y.s, .int .i64 y.f, .int .u64 y.p.1, .int .u64 y.p.2, .int .u64 y.t] 42 wr.heap.size rfl).alloc (.cells #[] 89)
            have hM1 := HM.out.kept kk
            have hR1 := HR.out.kept kk
            obtain ⟨W2, hrun0, hM2, g2⟩ := hM1.put Try.underlying88 (by unfold maxLen; omega) HWy.out
            have hrun : (Instr.mapUpdate 88 (.map (some w.heap.size)) (.agg #[.int .i64 y.s, .int .i64 y.f, .int .u64 y.p.1, .int .u64 y.p.2, .int .u64 y.t]) (.agg #[])).run Try.prog ((wr.alloc (.cells #[.int .i64 y.s, .int .i64 y.f, .int .u64 y.p.1, .int .u64 y.p.2, .int .u64 y.t] 42)).alloc (.cells #[] 89)) = .ok () W2 := hrun0
            have hn : ∀ x, (Value.slice A2 q.length e2).ownBlock = some x → some x ≠ some w.heap.size := fun x hx e => grown_map hR1.1 hM1.f (by rw [hx, e])
            have hR2 : Bks w q (.slice A2 q.length e2) W2 := ⟨own_grown hR1.1 g2 hn, hR1.2.grown g2 fun i hi => by injection hi with hi; exact Nat.le_of_eq hi⟩
            have hY2 := has_grown hY1 g2 (fun e => cellsAt_no_map hY1 (by simp) hM1.f (by injection e))
            obtain ⟨d0, d1, d2, d3, d4⟩ := hY2.five
            have dz := hY2.1
            have ks := (Kept.refl W2).alloc (.cells #[.int .i64 y.s, .int .i64 y.f, .int .u64 y.p.1, .int .u64 y.p.2, .int .u64 y.t] 42)
            have hR3 := hR2.kept ks
            have hM3 := hM2.kept ks
            have hol : q.length + 1 ≤ 1000000 := by have := HLe.out; omega
            obtain ⟨q2, hq2⟩ : ∃ q2, q ++ [y] = q2 := ⟨_, rfl⟩
            rw [hq2] at HN hM3
            clear hrun0 g2 hn hR1 hM1 hY1 kk ka ks hR2 hM2 hY2
            go_wp2_with (refine wpList_bgrow _ rfl _ _ rfl w q _ (by rfl) hR3 _ _ 1 1 [y] (by rfl) (by rfl) (blocks_one_at (HasCells.new _ _ _ _ rfl)) hol ?_; intro A3 e3 W4 hR4 g4 _; rw [hq2] at hR4 ⊢; have HM4 := Lib.hid (hM3.grown g4 (grown_map hR3.1 hM3.f)); have HR4 := Lib.hid hR4; clear hR4 g4 hR3 hM3)
            go_roundw
            case rel => exact ⟨j + 1, m + 1, A3, e3, by omega, by omega, by go_num, by rw [HN.out], by rw [HN.out]; exact HM4, by rw [HN.out]; exact HR4⟩
            case measure => simp [intOf]; omega
        · obtain rfl : j = b.length := by omega
          rw [List.take_length] at HM HR ⊢
          go_wp2_with fail
          go_ret
          exact ⟨A2, e2, rfl, HR.out⟩
theorem run_hintV (n : Nat) (w : World) : (Instr.makeMap 62 (some (.int .i64 (n : Int)))).run Try.prog w = .ok (.map (some w.heap.size)) (w.alloc (.map #[] 0)) := by
  simp [Instr.makeMap, run_underlying Try.underlying62, go_sem]
set_option maxRecDepth 100000 in
set_option maxHeartbeats 3200000 in
theorem joinV_any (A : Option Addr) (ca : Nat) (a : List Vt) (B : Option Addr) (cb : Nat) (b : List Vt) (w : World) (ha : a.length ≤ 10000) (hb : b.length ≤ 10000) (haw : WfVs a) (hbw : WfVs b) (hA : CellsAt w w.heap.size A (votesCells a)) (hB : CellsAt w w.heap.size B (votesCells b)) :
    Calls Try.prog 34 #[.slice A a.length ca, .slice B b.length cb] w fun e w' => ∃ A' c', e = .returned (.slice A' (joinL a b).length c') ∧ Vts w (joinL a b) (.slice A' (joinL a b).length c') w' := by
  have HA := Lib.hid hA
  have HB := Lib.hid hB
  have HWa := Lib.hid haw
  have HWb := Lib.hid hbw
  have hmm := run_hintV a.length w
  have HM := Lib.hid (SetK.made vtKey w)
  clear hA hB haw hbw
  go_enter Try.func34, Try.ntmps34
  go_wp2_with fail
  clear hmm
  go_loopw [18] (fun i w' => ∃ j : Nat, j ≤ a.length ∧ i = .int .i64 (j : Nat) ∧ Hid (SetK vtKey w.heap.size j (a.take j) w') ∧ Hid (Kept w w')) (fun i _ => a.length - (intOf i).toNat)
  case atStart => exact ⟨0, by omega, rfl, HM, Lib.hid ((Kept.refl w).alloc _)⟩
  case round =>
    clear HM
    obtain ⟨j, hj, rfl, HM, HK⟩ := hrel
    by_cases hlt : j < a.length
    · obtain ⟨z, o, rfl, hb, c0, c1, c2, c3⟩ := vote_at (HA.out.kept HK.out) hlt
      have HWy := Lib.hid (HWa.out _ (List.getElem_mem hlt))
      have HTk := Lib.hid (List.take_succ_eq_append_getElem hlt)
      generalize a[j] = y at *
      have ka := (Kept.refl wr).alloc (.cells #[.int .i64 y.f, .int .i64 y.s, .int .u64 y.p.1, .int .u64 y.p.2] 45)
      obtain ⟨W2, hrun0, hS2, g2⟩ := (HM.out.kept ka).put Try.underlying62 (by unfold maxLen; omega) HWy.out
      have hrun : (Instr.mapUpdate 62 (.map (some w.heap.size)) (.agg #[.int .i64 y.f, .int .i64 y.s, .int .u64 y.p.1, .int .u64 y.p.2]) (.agg #[])).run Try.prog (wr.alloc (.cells #[.int .i64 y.f, .int .i64 y.s, .int .u64 y.p.1, .int .u64 y.p.2] 45)) = .ok () W2 := hrun0
      have HS2 := Lib.hid hS2
      have HK2 := Lib.hid ((HK.out.trans ka).grown g2 fun i hi => by injection hi with hi; exact Nat.le_of_eq hi)
      clear hrun0 hS2 g2 ka
      go_wp2_with fail
      go_roundw
      case rel => exact ⟨j + 1, by omega, by go_num, by rw [HTk.out]; exact HS2, HK2⟩
      case measure => simp [intOf]; omega
    · obtain rfl : j = a.length := by omega
      rw [List.take_length] at HM
      go_wp2_with fail
      refine (cloneV_any A ca a (by omega) wr (HA.out.kept HK.out)).mono ?_
      rintro e W1 ⟨A1, e1, rfl, hR⟩
      replace HM := Lib.hid (HM.out.kept hR.2)
      have HR := Lib.hid (hR.lower HK.out)
      have HBW := HB
      clear hR HB HK HA
      go_wp2_with fail
      go_loopw [8, 30] (fun all i w' => ∃ (j m : Nat) (A' : Option Addr) (c' : Nat), j ≤ b.length ∧ m ≤ a.length + j ∧ i = .int .i64 (j : Nat) ∧ all = .slice A' (joinL a (b.take j)).length c' ∧ Hid (SetK vtKey w.heap.size m (joinL a (b.take j)) w') ∧ Hid (Vts w (joinL a (b.take j)) (.slice A' (joinL a (b.take j)).length c') w')) (fun _ i _ => b.length - (intOf i).toNat)
      case atStart => exact ⟨0, a.length, A1, e1, by omega, by omega, rfl, rfl, HM, HR⟩
      case round =>
        clear HM HR
        obtain ⟨j, m, A2, e2, hj, hm, rfl, rfl, HM, HR⟩ := hrel
        by_cases hlt : j < b.length
        · obtain ⟨z, o, rfl, hbz, c0, c1, c2, c3⟩ := vote_at (HBW.out.kept HR.out.2) hlt
          have HWy := Lib.hid (HWb.out _ (List.getElem_mem hlt))
          have HHit := Lib.hid (fun h => joinV_hit (a := a) hlt h)
          have HMis := Lib.hid (fun h => joinV_miss (a := a) hlt h)
          have HLe := Lib.hid (show (joinL a (b.take j)).length ≤ 20000 by have := joinL_len a (b.take j); rw [List.length_take] at this; omega)
          generalize joinL a (b.take j) = q at *
          generalize b[j] = y at *
          have ka := (Kept.refl wr).alloc (.cells #[.int .i64 y.f, .int .i64 y.s, .int .u64 y.p.1, .int .u64 y.p.2] 45)
          have hl : (Instr.lookup 62 (.map (some w.heap.size)) (.agg #[.int .i64 y.f, .int .i64 y.s, .int .u64 y.p.1, .int .u64 y.p.2]) true).run Try.prog (wr.alloc (.cells #[.int .i64 y.f, .int .i64 y.s, .int .u64 y.p.1, .int .u64 y.p.2] 45)) = .ok (.tuple #[.agg #[], .bool (decide (y ∈ q))]) (wr.alloc (.cells #[.int .i64 y.f, .int .i64 y.s, .int .u64 y.p.1, .int .u64 y.p.2] 45)) := (HM.out.kept ka).look Try.underlying62 HWy.out
          by_cases hin : y ∈ q
          · rw [decide_eq_true hin] at hl
            have HN := Lib.hid (HMis.out hin)
            clear HHit HMis hin
            have kk := ka.alloc (.cells #[] 89)
            have HM2 := Lib.hid (HM.out.kept kk)
            have HR2 := Lib.hid (HR.out.kept kk)
            clear ka kk
            go_wp2_with fail
            go_roundw
            case rel => exact ⟨j + 1, m, A2, e2, by omega, by omega, by go_num, by rw [HN.out], by rw [HN.out]; exact HM2, by rw [HN.out]; exact HR2⟩
            case measure => simp [intOf]; omega
          · rw [decide_eq_false hin] at hl
            have HN := Lib.hid (HHit.out hin)
            clear HHit HMis hin
            have kk := ka.alloc (.cells #[] 89)
            have hY1 := (HasCells.new wr #[.int .i64 y.f, .int .i64 y.s, .int .u64 y.p.1, .int .u64 y.p.2] 45 wr.heap.size rfl).alloc (.cells #[] 89)
            have hM1 := HM.out.kept kk
            have hR1 := HR.out.kept kk
            obtain ⟨W2, hrun0, hM2, g2⟩ := hM1.put Try.underlying62 (by unfold maxLen; omega) HWy.out
            have hrun : (Instr.mapUpdate 62 (.map (some w.heap.size)) (.agg #[.int .i64 y.f, .int .i64 y.s, .int .u64 y.p.1, .int .u64 y.p.2]) (.agg #[])).run Try.prog ((wr.alloc (.cells #[.int .i64 y.f, .int .i64 y.s, .int .u64 y.p.1, .int .u64 y.p.2] 45)).alloc (.cells #[] 89)) = .ok () W2 := hrun0
            have hn : ∀ x, (Value.slice A2 q.length e2).ownBlock = some x → some x ≠ some w.heap.size := fun x hx e => grown_map hR1.1 hM1.f (by rw [hx, e])
            have hR2 : Vts w q (.slice A2 q.length e2) W2 := ⟨own_grown hR1.1 g2 hn, hR1.2.grown g2 fun i hi => by injection hi with hi; exact Nat.le_of_eq hi⟩
            have hY2 := has_grown hY1 g2 (fun e => cellsAt_no_map hY1 (by simp) hM1.f (by injection e))
            obtain ⟨d0, d1, d2, d3⟩ := hY2.four
            have dz := hY2.1
            have ks := (Kept.refl W2).alloc (.cells #[.int .i64 y.f, .int .i64 y.s, .int .u64 y.p.1, .int .u64 y.p.2] 45)
            have hR3 := hR2.kept ks
            have hM3 := hM2.kept ks
            have hol : q.length + 1 ≤ 1000000 := by have := HLe.out; omega
            obtain ⟨q2, hq2⟩ : ∃ q2, q ++ [y] = q2 := ⟨_, rfl⟩
            rw [hq2] at HN hM3
            clear hrun0 g2 hn hR1 hM1 hY1 kk ka ks hR2 hM2 hY2
            go_wp2_with (refine wpList_vgrow _ rfl _ _ rfl w q _ (by rfl) hR3 _ _ 1 1 [y] (by rfl) (by rfl) (votes_one_at (HasCells.new _ _ _ _ rfl)) hol ?_; intro A3 e3 W4 hR4 g4 _; rw [hq2] at hR4 ⊢; have HM4 := Lib.hid (hM3.grown g4 (grown_map hR3.1 hM3.f)); have HR4 := Lib.hid hR4; clear hR4 g4 hR3 hM3)
            go_roundw
            case rel => exact ⟨j + 1, m + 1, A3, e3, by omega, by omega, by go_num, by rw [HN.out], by rw [HN.out]; exact HM4, by rw [HN.out]; exact HR4⟩
            case measure => simp [intOf]; omega
        · obtain rfl : j = b.length := by omega
          rw [List.take_length] at HM HR ⊢
          go_wp2_with fail
          go_ret
          exact ⟨A2, e2, rfl, HR.out⟩
set_option maxRecDepth 100000 in
set_option maxHeartbeats 3200000 in
theorem copyOf_any (lA : Option Addr) (lc : Nat) (l : List Bk) (vA : Option Addr) (vc : Nat) (v : List Vt) (w : World) (hl : l.length ≤ 10000) (hv : v.length ≤ 10000) (hL : CellsAt w w.heap.size lA (blockCells l)) (hV : CellsAt w w.heap.size vA (votesCells v)) :
    Calls Try.prog 28 #[.agg #[.slice lA l.length lc, .slice vA v.length vc]] w (ViewNew ⟨l, v⟩ w) := by
  have K0 := Lib.hid ((Kept.refl w).alloc (.cells #[.slice lA l.length lc, .slice vA v.length vc] 29))
  have HL := Lib.hid (hL.kept K0.out)
  have HV := Lib.hid (hV.kept K0.out)
  clear hL hV
  have HB0 := Lib.hid (HasCells.new w #[.slice lA l.length lc, .slice vA v.length vc] 29 (w.heap.size) rfl)
  go_enter Try.func28, Try.ntmps28
  go_wp2_with fail
  have HS4 := Lib.hid (show (w.alloc (.cells #[.slice lA l.length lc, .slice vA v.length vc] 29)).heap.size = w.heap.size + 1 by simp)
  have H4 := Lib.hid (show AtB ((w.alloc (.cells #[.slice lA l.length lc, .slice vA v.length vc] 29)).alloc (.cells #[.slice none 0 0, .slice none 0 0] 29)) (w.heap.size + 1) #[.slice none 0 0, .slice none 0 0] 29 from HS4.out ▸ AtB.new _ #[.slice none 0 0, .slice none 0 0] _)
  generalize w.alloc (.cells #[.slice lA l.length lc, .slice vA v.length vc] 29) = W0 at *
  generalize w.heap.size + 1 = z4 at *
  generalize w.heap.size = z0 at *
  have KW := Lib.hid ((Kept.refl W0).alloc (.cells #[.slice none 0 0, .slice none 0 0] 29))
  generalize W0.alloc (.cells #[.slice none 0 0, .slice none 0 0] 29) = Wm at *
  have HG4 := Lib.hid (show W0.heap.size ≤ z4 from Nat.le_of_eq HS4.out)
  clear HS4
  have KM := Lib.hid (KW.out.trans (Kept.refl Wm).drew)
  have h4 := H4.out.kept (Kept.refl Wm).drew
  obtain ⟨d0, d1⟩ := HB0.out.two
  have dz := HB0.out.1
  clear KW H4
  refine wp_region_noPanic ?_
  refine wp_region_held_drew (S := (fun w' => w'.cell? ⟨z0, 0, none⟩ = some (.slice lA l.length lc) ∧ w'.cell? ⟨z0, 1, none⟩ = some (.slice vA v.length vc) ∧ Kept W0 w')) (by kernel_rfl) ?_ (fun hHeld => ?_)
  · exact ⟨(KM.out.cell (p := ⟨z0, 0, none⟩) dz).trans d0, (KM.out.cell (p := ⟨z0, 1, none⟩) dz).trans d1, KM.out⟩
  generalize Wm.drew = V0 at *
  refine wpAnyH_take (i := 0) (v := ?_) (by simp only [List.getElem?_toArray, List.getElem?_cons_succ, List.getElem?_cons_zero]; rfl) (by kernel_rfl) (by kernel_rfl) (by kernel_rfl) (fun _ _ _ h => h) (Or.inl ⟨by rfl, ?_⟩) (by assumption) ?_
  rotate_left
  · intro w hSw
    (try dsimp only at hSw)
    go_simp
    (try with_reducible rfl)
  simp only [Act.put, List.setIfInBounds_toArray, List.set_cons_zero, List.set_cons_succ]
  refine wpAnyH_take (i := 1) (v := ?_) (by simp only [List.getElem?_toArray, List.getElem?_cons_succ, List.getElem?_cons_zero]; rfl) (by kernel_rfl) (by kernel_rfl) (by kernel_rfl) (fun _ _ _ h => h) (Or.inl ⟨by rfl, ?_⟩) (by assumption) ?_
  rotate_left
  · intro w hSw
    (try dsimp only at hSw)
    go_simp
    (try with_reducible rfl)
  simp only [Act.put, List.setIfInBounds_toArray, List.set_cons_zero, List.set_cons_succ]
  refine wpAnyH_take (i := 3) (v := ?_) (by simp only [List.getElem?_toArray, List.getElem?_cons_succ, List.getElem?_cons_zero]; rfl) (by kernel_rfl) (by kernel_rfl) (by kernel_rfl) (fun _ _ _ h => h) (Or.inl ⟨by rfl, ?_⟩) (by assumption) ?_
  rotate_left
  · intro w hSw
    (try dsimp only at hSw)
    go_simp
    (try with_reducible rfl)
  simp only [Act.put, List.setIfInBounds_toArray, List.set_cons_zero, List.set_cons_succ]
  refine wpAnyH_take (i := 4) (v := ?_) (by simp only [List.getElem?_toArray, List.getElem?_cons_succ, List.getElem?_cons_zero]; rfl) (by kernel_rfl) (by kernel_rfl) (by kernel_rfl) (fun _ _ _ h => h) (Or.inl ⟨by rfl, ?_⟩) (by assumption) ?_
  rotate_left
  · intro w hSw
    (try dsimp only at hSw)
    go_simp
    (try with_reducible rfl)
  simp only [Act.put, List.setIfInBounds_toArray, List.set_cons_zero, List.set_cons_succ]
  refine wpAnyH_ready (rs := [2]) (by kernel_rfl) (by simp) ?_
  refine AllReadyH.cons (by simp only [List.getElem?_toArray, List.getElem?_cons_succ, List.getElem?_cons_zero]; rfl) (fun K hK => ?_) (AllReadyH.nil)
  go_simp
  go_at_call 49
  refine (cloneB_any lA lc l hl V0 (HL.out.kept hHeld.2.2)).mono ?_
  rintro e V1 ⟨A, c, rfl, hb⟩
  have kk := hb.2
  have kT := hHeld.2.2.trans kk
  replace h4 := h4.kept kk
  replace hb := hb.lower hHeld.2.2
  clear kk
  refine hK.out _ _ ?_ (fun hHeld2 => ?_)
  · exact ⟨(kT.cell (p := ⟨z0, 0, none⟩) dz).trans d0, (kT.cell (p := ⟨z0, 1, none⟩) dz).trans d1, kT⟩
  clear hK K hHeld
  have hHeld := hHeld2
  clear hHeld2
  try simp only [Act.put, List.setIfInBounds_toArray, List.set_cons_zero, List.set_cons_succ]
  refine wpAnyH_ready (rs := [5]) (by kernel_rfl) (by simp) ?_
  refine AllReadyH.cons (by simp only [List.getElem?_toArray, List.getElem?_cons_succ, List.getElem?_cons_zero]; rfl) (fun K hK => ?_) (AllReadyH.nil)
  go_simp
  go_at_call 50
  refine (cloneV_any vA vc v hv V1 (HV.out.kept hHeld.2.2)).mono ?_
  rintro e V2 ⟨B, d, rfl, hv'⟩
  have kk := hv'.2
  have kT := hHeld.2.2.trans kk
  replace hb := hb.kept kk
  replace h4 := h4.kept kk
  replace hv' := hv'.lower hHeld.2.2
  clear kk
  refine hK.out _ _ ?_ (fun hHeld2 => ?_)
  · exact ⟨(kT.cell (p := ⟨z0, 0, none⟩) dz).trans d0, (kT.cell (p := ⟨z0, 1, none⟩) dz).trans d1, kT⟩
  clear hK K hHeld
  have hHeld := hHeld2
  clear hHeld2
  try simp only [Act.put, List.setIfInBounds_toArray, List.set_cons_zero, List.set_cons_succ]
  refine wpAnyH_take (i := 6) (v := ?_) (by simp only [List.getElem?_toArray, List.getElem?_cons_succ, List.getElem?_cons_zero]; rfl) (by kernel_rfl) (by kernel_rfl) (by kernel_rfl) (fun _ _ _ h => h) (Or.inl ⟨by rfl, ?_⟩) (by assumption) ?_
  rotate_left
  · intro w hSw
    (try dsimp only at hSw)
    go_simp
    (try with_reducible rfl)
  simp only [Act.put, List.setIfInBounds_toArray, List.set_cons_zero, List.set_cons_succ]
  refine wpAnyH_ready (rs := [7]) (by kernel_rfl) (by simp) ?_
  refine AllReadyH.cons (by simp only [List.getElem?_toArray, List.getElem?_cons_succ, List.getElem?_cons_zero]; rfl) (fun K hK => ?_) (AllReadyH.nil)
  have c0 : V2.cell? ⟨z4, 0, none⟩ = some (.slice none 0 0) := h4.cell
  have c1 : V2.cell? ⟨z4, 1, none⟩ = some (.slice none 0 0) := h4.cell
  have f0 := h4.fr 0
  have f1 := h4.fr 1
  have lt4 := h4.lt
  replace hb := bks_past_box (bks_past_box hb h4 (by decide) HG4.out 0 (.slice A l.length c)) (h4.set 0 (.slice A l.length c)) (by decide) HG4.out 1 (.slice B v.length d)
  replace hv' := vts_past_box (vts_past_box hv' h4 (by decide) HG4.out 0 (.slice A l.length c)) (h4.set 0 (.slice A l.length c)) (by decide) HG4.out 1 (.slice B v.length d)
  replace h4 := h4.set2 (.slice A l.length c) (.slice B v.length d)
  have kT := hb.2
  go_simp
  generalize (V2.setCell ⟨z4, 0, none⟩ (.slice A l.length c)).setCell ⟨z4, 1, none⟩ (.slice B v.length d) = V3 at *
  clear c0 c1 f0 f1 lt4
  refine hK.out _ _ ?_ (fun hHeld2 => ?_)
  · exact ⟨(kT.cell (p := ⟨z0, 0, none⟩) dz).trans d0, (kT.cell (p := ⟨z0, 1, none⟩) dz).trans d1, kT⟩
  clear hK K hHeld
  have hHeld := hHeld2
  clear hHeld2
  try simp only [Act.put, List.setIfInBounds_toArray, List.set_cons_zero, List.set_cons_succ]
  refine wpAnyH_done (by kernel_rfl) ?_ _
  refine NoPanic.normal ?_
  have r0 : V3.cell? ⟨z4, 0, none⟩ = some (.slice A l.length c) := h4.cell
  have r1 : V3.cell? ⟨z4, 1, none⟩ = some (.slice B v.length d) := h4.cell
  clear hHeld
  go_wp2_with fail
  refine bodyPost_ret (v := .agg #[.slice A l.length c, .slice B v.length d]) (by simp [results, Try.results28, go_sem, r0, r1]) rfl ?_
  exact ⟨A, c, B, d, rfl, hb.lower K0.out, hv'.lower K0.out⟩
set_option maxRecDepth 100000 in
set_option maxHeartbeats 3200000 in
theorem viewJoinN_any (lA : Option Addr) (lc : Nat) (l : List Bk) (vA : Option Addr) (vc : Nat) (v : List Vt) (mA : Option Addr) (mc : Nat) (m : List Bk) (uA : Option Addr) (uc : Nat) (u : List Vt) (w : World) (hl : l.length ≤ 10000) (hv : v.length ≤ 10000) (hm : m.length ≤ 10000) (hu : u.length ≤ 10000) (hwl : WfL l) (hl6 : Wf64L l) (hwv : WfVs v) (hwm : WfL m) (hm6 : Wf64L m) (hwu : WfVs u)
    (hL : CellsAt w w.heap.size lA (blockCells l)) (hV : CellsAt w w.heap.size vA (votesCells v)) (hM : CellsAt w w.heap.size mA (blockCells m)) (hU : CellsAt w w.heap.size uA (votesCells u)) :
    Calls Try.prog 15 #[.agg #[.slice lA l.length lc, .slice vA v.length vc], .agg #[.slice mA m.length mc, .slice uA u.length uc]] w (ViewNew (joinW ⟨l, v⟩ ⟨m, u⟩) w) := by
  have K0 := Lib.hid (((Kept.refl w).alloc (.cells #[.slice lA l.length lc, .slice vA v.length vc] 29)).alloc (.cells #[.slice mA m.length mc, .slice uA u.length uc] 29))
  have HL := Lib.hid (hL.kept K0.out)
  have HV := Lib.hid (hV.kept K0.out)
  have HM := Lib.hid (hM.kept K0.out)
  have HU := Lib.hid (hU.kept K0.out)
  have HWl := Lib.hid (fun y hy => ⟨hwl y hy, hl6 y hy⟩ : ∀ y ∈ l, WfB y ∧ Wf64B y)
  have HWm := Lib.hid (fun y hy => ⟨hwm y hy, hm6 y hy⟩ : ∀ y ∈ m, WfB y ∧ Wf64B y)
  clear hL hV hM hU hwl hl6 hwm hm6
  have HB0 := Lib.hid ((HasCells.new w #[.slice lA l.length lc, .slice vA v.length vc] 29 (w.heap.size) rfl).alloc (.cells #[.slice mA m.length mc, .slice uA u.length uc] 29))
  have HB1 := Lib.hid (HasCells.new (w.alloc (.cells #[.slice lA l.length lc, .slice vA v.length vc] 29)) #[.slice mA m.length mc, .slice uA u.length uc] 29 (w.heap.size + 1) (by simp))
  go_enter Try.func15, Try.ntmps15
  go_wp2_with fail
  have HS4 := Lib.hid (show ((w.alloc (.cells #[.slice lA l.length lc, .slice vA v.length vc] 29)).alloc (.cells #[.slice mA m.length mc, .slice uA u.length uc] 29)).heap.size = w.heap.size + 1 + 1 by simp)
  have H4 := Lib.hid (show AtB (((w.alloc (.cells #[.slice lA l.length lc, .slice vA v.length vc] 29)).alloc (.cells #[.slice mA m.length mc, .slice uA u.length uc] 29)).alloc (.cells #[.slice none 0 0, .slice none 0 0] 29)) (w.heap.size + 1 + 1) #[.slice none 0 0, .slice none 0 0] 29 from HS4.out ▸ AtB.new _ #[.slice none 0 0, .slice none 0 0] _)
  generalize (w.alloc (.cells #[.slice lA l.length lc, .slice vA v.length vc] 29)).alloc (.cells #[.slice mA m.length mc, .slice uA u.length uc] 29) = W0 at *
  generalize w.heap.size + 1 + 1 = z4 at *
  generalize w.heap.size + 1 = z1 at *
  generalize w.heap.size = z0 at *
  have KW := Lib.hid ((Kept.refl W0).alloc (.cells #[.slice none 0 0, .slice none 0 0] 29))
  generalize W0.alloc (.cells #[.slice none 0 0, .slice none 0 0] 29) = Wm at *
  have HG4 := Lib.hid (show W0.heap.size ≤ z4 from Nat.le_of_eq HS4.out)
  clear HS4
  have KM := Lib.hid (KW.out.trans (Kept.refl Wm).drew)
  have h4 := H4.out.kept (Kept.refl Wm).drew
  obtain ⟨d0, d1⟩ := HB0.out.two
  obtain ⟨d2, d3⟩ := HB1.out.two
  have dzz0 := HB0.out.1
  have dzz1 := HB1.out.1
  clear KW H4
  refine wp_region_noPanic ?_
  refine wp_region_held_drew (S := (fun w' => w'.cell? ⟨z0, 0, none⟩ = some (.slice lA l.length lc) ∧ w'.cell? ⟨z0, 1, none⟩ = some (.slice vA v.length vc) ∧ w'.cell? ⟨z1, 0, none⟩ = some (.slice mA m.length mc) ∧ w'.cell? ⟨z1, 1, none⟩ = some (.slice uA u.length uc) ∧ Kept W0 w')) (by kernel_rfl) ?_ (fun hHeld => ?_)
  · exact ⟨(KM.out.cell (p := ⟨z0, 0, none⟩) dzz0).trans d0, (KM.out.cell (p := ⟨z0, 1, none⟩) dzz0).trans d1, (KM.out.cell (p := ⟨z1, 0, none⟩) dzz1).trans d2, (KM.out.cell (p := ⟨z1, 1, none⟩) dzz1).trans d3, KM.out⟩
  generalize Wm.drew = V0 at *
  refine wpAnyH_take (i := 0) (v := ?_) (by simp only [List.getElem?_toArray, List.getElem?_cons_succ, List.getElem?_cons_zero]; rfl) (by kernel_rfl) (by kernel_rfl) (by kernel_rfl) (fun _ _ _ h => h) (Or.inl ⟨by rfl, ?_⟩) (by assumption) ?_
  rotate_left
  · intro w hSw
    (try dsimp only at hSw)
    go_simp
    (try with_reducible rfl)
  simp only [Act.put, List.setIfInBounds_toArray, List.set_cons_zero, List.set_cons_succ]
  refine wpAnyH_take (i := 1) (v := ?_) (by simp only [List.getElem?_toArray, List.getElem?_cons_succ, List.getElem?_cons_zero]; rfl) (by kernel_rfl) (by kernel_rfl) (by kernel_rfl) (fun _ _ _ h => h) (Or.inl ⟨by rfl, ?_⟩) (by assumption) ?_
  rotate_left
  · intro w hSw
    (try dsimp only at hSw)
    go_simp
    (try with_reducible rfl)
  simp only [Act.put, List.setIfInBounds_toArray, List.set_cons_zero, List.set_cons_succ]
  refine wpAnyH_take (i := 2) (v := ?_) (by simp only [List.getElem?_toArray, List.getElem?_cons_succ, List.getElem?_cons_zero]; rfl) (by kernel_rfl) (by kernel_rfl) (by kernel_rfl) (fun _ _ _ h => h) (Or.inl ⟨by rfl, ?_⟩) (by assumption) ?_
  rotate_left
  · intro w hSw
    (try dsimp only at hSw)
    go_simp
    (try with_reducible rfl)
  simp only [Act.put, List.setIfInBounds_toArray, List.set_cons_zero, List.set_cons_succ]
  refine wpAnyH_take (i := 3) (v := ?_) (by simp only [List.getElem?_toArray, List.getElem?_cons_succ, List.getElem?_cons_zero]; rfl) (by kernel_rfl) (by kernel_rfl) (by kernel_rfl) (fun _ _ _ h => h) (Or.inl ⟨by rfl, ?_⟩) (by assumption) ?_
  rotate_left
  · intro w hSw
    (try dsimp only at hSw)
    go_simp
    (try with_reducible rfl)
  simp only [Act.put, List.setIfInBounds_toArray, List.set_cons_zero, List.set_cons_succ]
  refine wpAnyH_take (i := 5) (v := ?_) (by simp only [List.getElem?_toArray, List.getElem?_cons_succ, List.getElem?_cons_zero]; rfl) (by kernel_rfl) (by kernel_rfl) (by kernel_rfl) (fun _ _ _ h => h) (Or.inl ⟨by rfl, ?_⟩) (by assumption) ?_
  rotate_left
  · intro w hSw
    (try dsimp only at hSw)
    go_simp
    (try with_reducible rfl)
  simp only [Act.put, List.setIfInBounds_toArray, List.set_cons_zero, List.set_cons_succ]
  refine wpAnyH_take (i := 6) (v := ?_) (by simp only [List.getElem?_toArray, List.getElem?_cons_succ, List.getElem?_cons_zero]; rfl) (by kernel_rfl) (by kernel_rfl) (by kernel_rfl) (fun _ _ _ h => h) (Or.inl ⟨by rfl, ?_⟩) (by assumption) ?_
  rotate_left
  · intro w hSw
    (try dsimp only at hSw)
    go_simp
    (try with_reducible rfl)
  simp only [Act.put, List.setIfInBounds_toArray, List.set_cons_zero, List.set_cons_succ]
  refine wpAnyH_take (i := 7) (v := ?_) (by simp only [List.getElem?_toArray, List.getElem?_cons_succ, List.getElem?_cons_zero]; rfl) (by kernel_rfl) (by kernel_rfl) (by kernel_rfl) (fun _ _ _ h => h) (Or.inl ⟨by rfl, ?_⟩) (by assumption) ?_
  rotate_left
  · intro w hSw
    (try dsimp only at hSw)
    go_simp
    (try with_reducible rfl)
  simp only [Act.put, List.setIfInBounds_toArray, List.set_cons_zero, List.set_cons_succ]
  refine wpAnyH_take (i := 8) (v := ?_) (by simp only [List.getElem?_toArray, List.getElem?_cons_succ, List.getElem?_cons_zero]; rfl) (by kernel_rfl) (by kernel_rfl) (by kernel_rfl) (fun _ _ _ h => h) (Or.inl ⟨by rfl, ?_⟩) (by assumption) ?_
  rotate_left
  · intro w hSw
    (try dsimp only at hSw)
    go_simp
    (try with_reducible rfl)
  simp only [Act.put, List.setIfInBounds_toArray, List.set_cons_zero, List.set_cons_succ]
  refine wpAnyH_ready (rs := [4]) (by kernel_rfl) (by simp) ?_
  refine AllReadyH.cons (by simp only [List.getElem?_toArray, List.getElem?_cons_succ, List.getElem?_cons_zero]; rfl) (fun K hK => ?_) (AllReadyH.nil)
  go_simp
  go_at_call 33
  refine (joinB_any lA lc l mA mc m V0 hl hm HWl.out HWm.out (HL.out.kept hHeld.2.2.2.2) (HM.out.kept hHeld.2.2.2.2)).mono ?_
  rintro e V1 ⟨A, c, rfl, hb⟩
  have kk := hb.2
  have kT := hHeld.2.2.2.2.trans kk
  replace h4 := h4.kept kk
  replace hb := hb.lower hHeld.2.2.2.2
  clear kk
  refine hK.out _ _ ?_ (fun hHeld2 => ?_)
  · exact ⟨(kT.cell (p := ⟨z0, 0, none⟩) dzz0).trans d0, (kT.cell (p := ⟨z0, 1, none⟩) dzz0).trans d1, (kT.cell (p := ⟨z1, 0, none⟩) dzz1).trans d2, (kT.cell (p := ⟨z1, 1, none⟩) dzz1).trans d3, kT⟩
  clear hK K hHeld
  have hHeld := hHeld2
  clear hHeld2
  try simp only [Act.put, List.setIfInBounds_toArray, List.set_cons_zero, List.set_cons_succ]
  refine wpAnyH_ready (rs := [9]) (by kernel_rfl) (by simp) ?_
  refine AllReadyH.cons (by simp only [List.getElem?_toArray, List.getElem?_cons_succ, List.getElem?_cons_zero]; rfl) (fun K hK => ?_) (AllReadyH.nil)
  go_simp
  go_at_call 34
  refine (joinV_any vA vc v uA uc u V1 hv hu hwv hwu (HV.out.kept hHeld.2.2.2.2) (HU.out.kept hHeld.2.2.2.2)).mono ?_
  rintro e V2 ⟨B, d, rfl, hv'⟩
  have kk := hv'.2
  have kT := hHeld.2.2.2.2.trans kk
  replace hb := hb.kept kk
  replace h4 := h4.kept kk
  replace hv' := hv'.lower hHeld.2.2.2.2
  clear kk
  refine hK.out _ _ ?_ (fun hHeld2 => ?_)
  · exact ⟨(kT.cell (p := ⟨z0, 0, none⟩) dzz0).trans d0, (kT.cell (p := ⟨z0, 1, none⟩) dzz0).trans d1, (kT.cell (p := ⟨z1, 0, none⟩) dzz1).trans d2, (kT.cell (p := ⟨z1, 1, none⟩) dzz1).trans d3, kT⟩
  clear hK K hHeld
  have hHeld := hHeld2
  clear hHeld2
  try simp only [Act.put, List.setIfInBounds_toArray, List.set_cons_zero, List.set_cons_succ]
  refine wpAnyH_take (i := 10) (v := ?_) (by simp only [List.getElem?_toArray, List.getElem?_cons_succ, List.getElem?_cons_zero]; rfl) (by kernel_rfl) (by kernel_rfl) (by kernel_rfl) (fun _ _ _ h => h) (Or.inl ⟨by rfl, ?_⟩) (by assumption) ?_
  rotate_left
  · intro w hSw
    (try dsimp only at hSw)
    go_simp
    (try with_reducible rfl)
  simp only [Act.put, List.setIfInBounds_toArray, List.set_cons_zero, List.set_cons_succ]
  refine wpAnyH_ready (rs := [11]) (by kernel_rfl) (by simp) ?_
  refine AllReadyH.cons (by simp only [List.getElem?_toArray, List.getElem?_cons_succ, List.getElem?_cons_zero]; rfl) (fun K hK => ?_) (AllReadyH.nil)
  have c0 : V2.cell? ⟨z4, 0, none⟩ = some (.slice none 0 0) := h4.cell
  have c1 : V2.cell? ⟨z4, 1, none⟩ = some (.slice none 0 0) := h4.cell
  have f0 := h4.fr 0
  have f1 := h4.fr 1
  have lt4 := h4.lt
  replace hb := bks_past_box (bks_past_box hb h4 (by decide) HG4.out 0 (.slice A (joinL l m).length c)) (h4.set 0 (.slice A (joinL l m).length c)) (by decide) HG4.out 1 (.slice B (joinL v u).length d)
  replace hv' := vts_past_box (vts_past_box hv' h4 (by decide) HG4.out 0 (.slice A (joinL l m).length c)) (h4.set 0 (.slice A (joinL l m).length c)) (by decide) HG4.out 1 (.slice B (joinL v u).length d)
  replace h4 := h4.set2 (.slice A (joinL l m).length c) (.slice B (joinL v u).length d)
  have kT := hb.2
  go_simp
  generalize (V2.setCell ⟨z4, 0, none⟩ (.slice A (joinL l m).length c)).setCell ⟨z4, 1, none⟩ (.slice B (joinL v u).length d) = V3 at *
  clear c0 c1 f0 f1 lt4
  refine hK.out _ _ ?_ (fun hHeld2 => ?_)
  · exact ⟨(kT.cell (p := ⟨z0, 0, none⟩) dzz0).trans d0, (kT.cell (p := ⟨z0, 1, none⟩) dzz0).trans d1, (kT.cell (p := ⟨z1, 0, none⟩) dzz1).trans d2, (kT.cell (p := ⟨z1, 1, none⟩) dzz1).trans d3, kT⟩
  clear hK K hHeld
  have hHeld := hHeld2
  clear hHeld2
  try simp only [Act.put, List.setIfInBounds_toArray, List.set_cons_zero, List.set_cons_succ]
  refine wpAnyH_done (by kernel_rfl) ?_ _
  refine NoPanic.normal ?_
  have r0 : V3.cell? ⟨z4, 0, none⟩ = some (.slice A (joinL l m).length c) := h4.cell
  have r1 : V3.cell? ⟨z4, 1, none⟩ = some (.slice B (joinL v u).length d) := h4.cell
  clear hHeld
  go_wp2_with fail
  refine bodyPost_ret (v := .agg #[.slice A (joinL l m).length c, .slice B (joinL v u).length d]) (by simp [results, Try.results15, go_sem, r0, r1]) rfl ?_
  exact ⟨A, c, B, d, rfl, hb.lower K0.out, hv'.lower K0.out⟩

end Go.Proofs.Ytacdiicnfoejoaa
