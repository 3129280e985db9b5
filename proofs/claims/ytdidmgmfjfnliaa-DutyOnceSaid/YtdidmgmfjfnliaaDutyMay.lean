/-
  The contract of package duty's call May.
-/
import Derived.Test.YtdidmgmfjfnliaaDutySeq
namespace Go.Proofs.Ytdidmgmfjfnliaa
open Go.ChangeShapes Go.WideShapes Go.ChangeAt Go.RowKit Go.Shelf

attribute [local go_sem] Oper.semAt_some

set_option maxHeartbeats 800000 in
theorem beta_any (nu de : Int) (w : World) : Calls Try.prog 31 #[.int .i64 nu, .int .i64 de] w fun e w' => e = .returned (.bool (betaC nu de)) ∧ w' = w := by
  by_cases h1 : 1 ≤ de
  · by_cases h2 : de ≤ 1000
    · by_cases h3 : 0 ≤ nu
      · by_cases h4 : nu ≤ de
        · have HB := Lib.hid (show betaC nu de = true from decide_eq_true ⟨h1, h2, h3, h4⟩)
          go_enter Try.func31, Try.ntmps31
          go_wp2
          go_ret
          exact ⟨by rw [HB.out]; rfl, rfl⟩
        · have HB := Lib.hid (show betaC nu de = false from decide_eq_false (by omega))
          go_enter Try.func31, Try.ntmps31
          go_wp2
          go_ret
          exact ⟨by rw [HB.out]; rfl, rfl⟩
      · have HB := Lib.hid (show betaC nu de = false from decide_eq_false (by omega))
        go_enter Try.func31, Try.ntmps31
        go_wp2
        go_ret
        exact ⟨by rw [HB.out]; rfl, rfl⟩
    · have HB := Lib.hid (show betaC nu de = false from decide_eq_false (by omega))
      go_enter Try.func31, Try.ntmps31
      go_wp2
      go_ret
      exact ⟨by rw [HB.out]; rfl, rfl⟩
  · have HB := Lib.hid (show betaC nu de = false from decide_eq_false (by omega))
    go_enter Try.func31, Try.ntmps31
    go_wp2
    go_ret
    exact ⟨by rw [HB.out]; rfl, rfl⟩

set_option maxHeartbeats 800000 in
theorem may_small (A : Option Addr) (c : Nat) (k : Cf) (w : World) (h : ¬ (1 ≤ k.ws.length ∧ k.ws.length ≤ 12)) :
    Calls Try.prog 16 #[.agg #[.slice A k.ws.length c, .int .u64 k.seed, .int .i64 k.ep, .int .i64 k.nu, .int .i64 k.de]] w fun e w' => e = .returned (.bool (mayC k)) ∧ Kept w w' := by
  have HM := Lib.hid (show mayC k = false from decide_eq_false fun hm => h ⟨hm.1, hm.2.1⟩)
  by_cases h1 : k.ws.length < 1
  · clear h
    go_enter Try.func16, Try.ntmps16
    go_wp2
    refine bodyPost_ret (v := .bool false) (by simp [results, Try.f16, go_sem]) rfl ?_
    exact ⟨by rw [HM.out], ((Kept.refl w).alloc _).alloc _⟩
  · have h2 : k.ws.length > 12 := by omega
    clear h
    go_enter Try.func16, Try.ntmps16
    go_wp2
    refine bodyPost_ret (v := .bool false) (by simp [results, Try.f16, go_sem]) rfl ?_
    exact ⟨by rw [HM.out], ((Kept.refl w).alloc _).alloc _⟩

theorem fine_may {k : Cf} (h1 : 1 ≤ k.ws.length) (h2 : k.ws.length ≤ 12) (h : ∀ i ∈ List.range k.ws.length, 0 ≤ wAt k.ws i ∧ wAt k.ws i ≤ 1099511627776) : mayC k = decide (1 ≤ k.ep ∧ k.ep ≤ 8 ∧ betaC k.nu k.de = true) := by
  have hf : ∀ x ∈ k.ws, 0 ≤ x ∧ x ≤ 1099511627776 := fun x hx => by
    obtain ⟨i, hi, rfl⟩ := mem_wAt hx
    exact h _ (List.mem_range.2 hi)
  refine decide_eq_decide.2 ⟨fun hm => ⟨hm.2.2.2.1, hm.2.2.2.2.1, decide_eq_true hm.2.2.2.2.2⟩, fun ⟨h3, h4, hb⟩ => ⟨h1, h2, hf, h3, h4, of_decide_eq_true hb⟩⟩
theorem bad_may {k : Cf} {j : Nat} (hj : j ≤ k.ws.length) (h : ∃ i ∈ List.range j, (0 ≤ wAt k.ws i → 1099511627776 < wAt k.ws i)) : mayC k = false := by
  obtain ⟨i, hp, hbad⟩ := h
  exact decide_eq_false fun hm => by
    have := hm.2.2.1 _ (wAt_mem (i := i) (by have := List.mem_range.1 hp; omega))
    have := hbad this.1
    omega

set_option maxRecDepth 100000 in
set_option maxHeartbeats 2000000 in
theorem may_some (A : Option Addr) (c : Nat) (k : Cf) (w : World) (hA : CellsAt w w.heap.size A (intCells k.ws)) (h1 : 1 ≤ k.ws.length) (h2 : k.ws.length ≤ 12) :
    Calls Try.prog 16 #[.agg #[.slice A k.ws.length c, .int .u64 k.seed, .int .i64 k.ep, .int .i64 k.nu, .int .i64 k.de]] w fun e w' => e = .returned (.bool (mayC k)) ∧ Kept w w' := by
  have HA := Lib.hid hA
  clear hA
  refine (callsIn_wide (n := 3)).1 ?_
  refine callsIn_of_wp_marks Try.func16 rfl trivial ?_ rfl
  simp only [Try.ntmps16, List.size_toArray, List.length_cons, List.length_nil, Nat.reduceAdd, Nat.reduceSub, Array.replicate_succ, Array.replicate_zero, List.push_toArray, List.append_toArray, List.nil_append, List.cons_append]
  gi_wp2_with (refine ⟨trivial, ?_⟩; gi_at_call 26; refine (callsIn_wide.2 (vals_any A c k _)).mono ?_; rintro e w' ⟨rfl, rfl⟩)
  obtain ⟨w1, hw1⟩ : ∃ w1, w.alloc (.cells #[.slice A k.ws.length c, .int .u64 k.seed, .int .i64 k.ep, .int .i64 k.nu, .int .i64 k.de] 25) = w1 := ⟨_, rfl⟩
  have hsz : w1.heap.size = w.heap.size + 1 := by rw [← hw1]; simp
  have HW := Lib.hid (show HasCells w1 w.heap.size [.slice A k.ws.length c, .int .u64 k.seed, .int .i64 k.ep, .int .i64 k.nu, .int .i64 k.de] by rw [← hw1]; exact HasCells.new w _ _ _ rfl)
  have HK1 := Lib.hid (show Kept w w1 by rw [← hw1]; exact (Kept.refl w).alloc _)
  have HA1 := Lib.hid (show CellsAt w1 w1.heap.size A (intCells k.ws) from HA.out.kept HK1.out)
  rw [hw1]
  clear hw1 HA
  have bR := Boxed.new w1 4 (.bool false)
  have bN := HasCells.new (w1.alloc (.cells #[.bool false] 4)) #[.slice A k.ws.length c, .int .u64 k.seed, .int .i64 k.ep, .int .i64 k.nu, .int .i64 k.de] 25 _ rfl
  have hB0 : Below w1.heap.size w1 ((w1.alloc (.cells #[.bool false] 4)).alloc (.cells #[.slice A k.ws.length c, .int .u64 k.seed, .int .i64 k.ep, .int .i64 k.nu, .int .i64 k.de] 25)) := ((Below.refl _ w1).alloc (Nat.le_refl _) _).alloc (by simp) _
  have hs2 : (w1.alloc (.cells #[.bool false] 4)).heap.size = w.heap.size + 1 + 1 := by simp [hsz]
  rw [hs2] at bN
  rw [hsz] at bR
  refine' range_vals (w.heap.size + 1 + 1) w1.heap.size A c k (by omega) rfl rfl (by simp; omega) (by simp; omega) bN.at0 (HA1.out.keep fun _ hp => hB0.cell hp)
    (fun q W => ((∀ i ∈ q, 0 ≤ wAt k.ws i ∧ wAt k.ws i ≤ 1099511627776) ∧ Boxed W (w.heap.size + 1) 4 (.bool false)) ∧ Below w1.heap.size w1 W)
    (fun x q W => ((x = .ret ∧ ∃ i ∈ q, (0 ≤ wAt k.ws i → 1099511627776 < wAt k.ws i)) ∧ Boxed W (w.heap.size + 1) 4 (.bool false)) ∧ Below w1.heap.size w1 W)
    (OwnFrom.and (OwnFrom.and (ownFrom_pure _ _) (Own.from (boxed_own _ _ _) _)) (ownFrom_below (Nat.le_refl _) (by simp; omega)))
    (fun x => OwnFrom.and (OwnFrom.and (ownFrom_pure _ _) (Own.from (boxed_own _ _ _) _)) (ownFrom_below (Nat.le_refl _) (by simp; omega)))
    ⟨⟨by simp, bR.alloc _⟩, hB0⟩ _ ?assign ?body ?done ?stop
  case assign =>
    intro l i W K hK
    gi_wp2
    exact hK
  case body =>
    clear bR bN hs2 hB0
    rintro l q i W hi ⟨⟨hq, hb⟩, hB⟩ hl
    have hcb := hb.cell
    have hfb := hb.frozen
    have HQ := Lib.hid hq
    have HB := Lib.hid hB
    have HS := Lib.hid hsz
    clear hq hB hsz
    by_cases c1 : wAt k.ws i < 0
    · gi_wp2
      exact ⟨(KeepsOthers.setCell _ _ _).from _, ⟨⟨rfl, i, by simp, by omega⟩, hb.set _⟩, HB.out.setCell (p := ⟨w.heap.size + 1, 0, none⟩) (by rw [HS.out]; exact Nat.le_refl _) _⟩
    · by_cases c2 : wAt k.ws i > 1099511627776
      · gi_wp2
        exact ⟨(KeepsOthers.setCell _ _ _).from _, ⟨⟨rfl, i, by simp, by omega⟩, hb.set _⟩, HB.out.setCell (p := ⟨w.heap.size + 1, 0, none⟩) (by rw [HS.out]; exact Nat.le_refl _) _⟩
      · gi_wp2
        refine ⟨KeepsFrom.refl _ _, Below.refl _ _, ⟨fun x hx => ?_, hb⟩, HB.out⟩
        rcases List.mem_append.1 hx with hx | hx
        · exact HQ.out x hx
        · simp at hx; subst hx; omega
  case done =>
    rintro D W hD ⟨⟨hq, hb⟩, hB⟩ hK
    have hcb := hb.cell
    have hfb := hb.frozen
    have hC := HW.out
    obtain ⟨c0, c1, c2, c3, c4⟩ := (HasCells.five ⟨Nat.lt_of_lt_of_le hC.1 hB.size, fun j u hu => (hB.cell (p := ⟨w.heap.size, j, none⟩) hC.1).trans (hC.2 j u hu)⟩ : _)
    have HB := Lib.hid hB
    have HKW := Lib.hid (show Kept w W from HK1.out.trans hB)
    have HD := Lib.hid (show w.heap.size ≤ D by simp at hD; omega)
    have HM := Lib.hid (fine_may h1 h2 hq)
    clear bR bN hs2 hB0 hq hB hsz hC hD
    have fin : ∀ b, (W.setCell ⟨w.heap.size + 1, 0, none⟩ (.bool b)).heap[D]? = some (.deferred (some [])) ∧ ((W.setCell ⟨w.heap.size + 1, 0, none⟩ (.bool b)).putObj D (.deferred none)).cell? ⟨w.heap.size + 1, 0, none⟩ = some (.bool b) ∧ Kept w ((W.setCell ⟨w.heap.size + 1, 0, none⟩ (.bool b)).putObj D (.deferred none)) := fun b => by
      have hK' := (KeepsOthers.setCell W ⟨w.heap.size + 1, 0, none⟩ (.bool b)).same D _ hK rfl
      exact ⟨hK', cell_kept (hb.set (.bool b)).cell (grownBy_putObj' _ D (.deferred none)) (fun r e => by cases e; exact ⟨_, hK', rfl⟩),
        (HKW.out.setCell (p := ⟨w.heap.size + 1, 0, none⟩) (by simp) _).trans' (belowK_b (w := w) (Nat.le_refl _) _ D _ _ HD.out hK' rfl rfl)⟩
    by_cases c5 : 1 ≤ k.ep
    · by_cases c6 : k.ep ≤ 8
      · have HR := Lib.hid (show mayC k = betaC k.nu k.de by rw [HM.out]; cases betaC k.nu k.de <;> simp [c5, c6])
        gi_wp2_with (refine ⟨trivial, ?_⟩; gi_at_call 31; refine (callsIn_wide.2 (beta_any k.nu k.de _)).mono ?_; rintro e w' ⟨rfl, rfl⟩)
        refine ⟨by simp, .inl ⟨_, _, rfl, run_takeDeferred (fin _).1, ?_⟩⟩
        refine ⟨.bool (betaC k.nu k.de), ?_, by rw [HR.out], (fin _).2.2⟩
        simp [results, Try.f16, go_sem, (fin (betaC k.nu k.de)).2.1]
      · have HR := Lib.hid (show mayC k = false by rw [HM.out]; simp [c6])
        gi_wp2
        refine ⟨trivial, ?_⟩
        gi_wp2
        refine ⟨by simp, .inl ⟨_, _, rfl, run_takeDeferred (fin _).1, ?_⟩⟩
        refine ⟨.bool false, ?_, by rw [HR.out], (fin _).2.2⟩
        simp [results, Try.f16, go_sem, (fin false).2.1]
    · have HR := Lib.hid (show mayC k = false by rw [HM.out]; simp [c5])
      gi_wp2
      refine ⟨trivial, ?_⟩
      gi_wp2
      refine ⟨by simp, .inl ⟨_, _, rfl, run_takeDeferred (fin _).1, ?_⟩⟩
      refine ⟨.bool false, ?_, by rw [HR.out], (fin _).2.2⟩
      simp [results, Try.f16, go_sem, (fin false).2.1]
  case stop =>
    rintro D x j W hD hj ⟨⟨⟨rfl, hbad⟩, hb⟩, hB⟩ hK
    have HR := Lib.hid (bad_may hj hbad)
    have HKW := Lib.hid (show Kept w W from HK1.out.trans hB)
    have HD := Lib.hid (show w.heap.size ≤ D by simp at hD; omega)
    clear hbad bR bN hs2 hB0 hB hsz hD
    gi_wp2
    refine ⟨by simp, .inl ⟨_, _, rfl, run_takeDeferred hK, ?_⟩⟩
    have hc5 := cell_kept hb.cell (grownBy_putObj' _ D (.deferred none)) (fun r e => by cases e; exact ⟨_, hK, rfl⟩)
    refine ⟨.bool false, ?_, by rw [HR.out], HKW.out.trans' (belowK_b (w := w) (Nat.le_refl _) W D _ _ HD.out hK rfl rfl)⟩
    simp [results, Try.f16, go_sem, hc5]
theorem may_any (A : Option Addr) (c : Nat) (k : Cf) (w : World) (hA : CellsAt w w.heap.size A (intCells k.ws)) :
    Calls Try.prog 16 #[.agg #[.slice A k.ws.length c, .int .u64 k.seed, .int .i64 k.ep, .int .i64 k.nu, .int .i64 k.de]] w fun e w' => e = .returned (.bool (mayC k)) ∧ Kept w w' := by
  by_cases h : 1 ≤ k.ws.length ∧ k.ws.length ≤ 12
  · exact may_some A c k w hA h.1 h.2
  · exact may_small A c k w h

end Go.Proofs.Ytdidmgmfjfnliaa
