/-
  The contract of package duty's call Total.
-/
import Derived.Test.YtdidmgmfjfnliaaDutyMay
namespace Go.Proofs.Ytdidmgmfjfnliaa
open Go.ChangeShapes Go.WideShapes Go.ChangeAt Go.RowKit Go.Shelf

attribute [local go_sem] Oper.semAt_some

/-- A conf's weights, seen from behind a box. -/
theorem conf_box {A : Option Addr} {c : Nat} {k : Cf} {w : World} (hA : CellsAt w w.heap.size A (intCells k.ws)) :
    HasCells (w.alloc (.cells #[.slice A k.ws.length c, .int .u64 k.seed, .int .i64 k.ep, .int .i64 k.nu, .int .i64 k.de] 25)) w.heap.size [.slice A k.ws.length c, .int .u64 k.seed, .int .i64 k.ep, .int .i64 k.nu, .int .i64 k.de] ∧ CellsAt (w.alloc (.cells #[.slice A k.ws.length c, .int .u64 k.seed, .int .i64 k.ep, .int .i64 k.nu, .int .i64 k.de] 25)) (w.alloc (.cells #[.slice A k.ws.length c, .int .u64 k.seed, .int .i64 k.ep, .int .i64 k.nu, .int .i64 k.de] 25)).heap.size A (intCells k.ws) ∧ Kept w (w.alloc (.cells #[.slice A k.ws.length c, .int .u64 k.seed, .int .i64 k.ep, .int .i64 k.nu, .int .i64 k.de] 25)) :=
  ⟨HasCells.new w _ _ _ rfl, hA.kept ((Kept.refl w).alloc _), (Kept.refl w).alloc _⟩
theorem totalC_no {k : Cf} (h : mayC k = false) : totalC k = 0 := by unfold totalC; rw [if_neg (by rw [h]; decide)]
theorem totalC_yes {k : Cf} (h : mayC k = true) : totalC k = weighAll (fun _ => true) k.ws := by unfold totalC; rw [if_pos h]
theorem weightC_no {k : Cf} (l : List Int) (h : mayC k = false) : weightC k l = 0 := by unfold weightC; rw [if_neg (by rw [h]; decide)]
theorem weightC_yes {k : Cf} (l : List Int) (h : mayC k = true) : weightC k l = weighAll (inList l) k.ws := by unfold weightC; rw [if_pos h]

set_option maxHeartbeats 800000 in
theorem total_no (A : Option Addr) (c : Nat) (k : Cf) (w : World) (hA : CellsAt w w.heap.size A (intCells k.ws)) (hm : mayC k = false) :
    Calls Try.prog 19 #[.agg #[.slice A k.ws.length c, .int .u64 k.seed, .int .i64 k.ep, .int .i64 k.nu, .int .i64 k.de]] w fun e w' => e = .returned (.int .i64 (totalC k)) ∧ Kept w w' := by
  have HM := Lib.hid hm
  have HT := Lib.hid (totalC_no hm)
  have HA := Lib.hid hA
  clear hm hA
  go_enter Try.func19, Try.ntmps19
  go_wp2_with fail
  refine (may_any A c k _ (conf_box HA.out).2.1).mono ?_
  rintro e W ⟨rfl, k1⟩
  rw [HM.out]
  have K1 := Lib.hid ((conf_box HA.out).2.2.trans k1)
  clear k1
  go_wp2_with fail
  go_ret
  exact ⟨by rw [HT.out]; rfl, K1.out⟩

set_option maxRecDepth 100000 in
set_option maxHeartbeats 2000000 in
theorem total_yes (A : Option Addr) (c : Nat) (k : Cf) (w : World) (hA : CellsAt w w.heap.size A (intCells k.ws)) (hm : mayC k = true) :
    Calls Try.prog 19 #[.agg #[.slice A k.ws.length c, .int .u64 k.seed, .int .i64 k.ep, .int .i64 k.nu, .int .i64 k.de]] w fun e w' => e = .returned (.int .i64 (totalC k)) ∧ Kept w w' := by
  have HM := Lib.hid hm
  have HT := Lib.hid (totalC_yes hm)
  have HF := Lib.hid (mayC_yes hm).2.2.1
  have HN := Lib.hid (mayC_yes hm).2.1
  have HC := Lib.hid (conf_box (c := c) hA)
  clear hm hA
  refine (callsIn_wide (n := 3)).1 ?_
  refine callsIn_of_wp_marks Try.func19 rfl trivial ?_ rfl
  simp only [Try.ntmps19, List.size_toArray, List.length_cons, List.length_nil, Nat.reduceAdd, Nat.reduceSub, Array.replicate_succ, Array.replicate_zero, List.push_toArray, List.append_toArray, List.nil_append, List.cons_append]
  gi_wp2_with fail
  refine ⟨trivial, ?_⟩
  refine (callsIn_wide.2 (may_any A c k _ HC.out.2.1)).mono ?_
  rintro e W ⟨rfl, k1⟩
  rw [HM.out]
  have HK := Lib.hid (HC.out.2.2.trans k1)
  have HB := Lib.hid (HC.out.1.kept k1)
  have HA := Lib.hid (HC.out.2.1.kept k1)
  obtain ⟨c0, c1, c2, c3, c4⟩ := HB.out.five
  have hlt := HB.out.1
  clear HC k1
  gi_wp2_with (refine ⟨trivial, ?_⟩; gi_at_call 26; refine (callsIn_wide.2 (vals_any A c k _)).mono ?_; rintro e w' ⟨rfl, rfl⟩)
  have bS := Boxed.new W 3 (.int .i64 0)
  have bN := HasCells.new (W.alloc (.cells #[.int .i64 0] 3)) #[.slice A k.ws.length c, .int .u64 k.seed, .int .i64 k.ep, .int .i64 k.nu, .int .i64 k.de] 25 (W.heap.size + 1) (by simp)
  have hB0 : Below W.heap.size W ((W.alloc (.cells #[.int .i64 0] 3)).alloc (.cells #[.slice A k.ws.length c, .int .u64 k.seed, .int .i64 k.ep, .int .i64 k.nu, .int .i64 k.de] 25)) := ((Below.refl _ W).alloc (Nat.le_refl _) _).alloc (by simp) _
  clear c0 c1 c2 c3 c4 hlt
  refine' range_vals (W.heap.size + 1) W.heap.size A c k (by have := HN.out; omega) rfl rfl (by simp) (by simp; omega) bN.at0 (HA.out.keep fun _ hp => hB0.cell hp)
    (fun q V => Boxed V W.heap.size 3 (.int .i64 (weighOf (fun _ => true) k.ws q)) ∧ Below W.heap.size W V)
    (fun _ _ _ => False)
    (OwnFrom.and (Own.from (boxed_own _ _ _) _) (ownFrom_below (Nat.le_refl _) (by simp; omega)))
    (fun x => ownFrom_pure _ _)
    ⟨bS.alloc _, hB0⟩ _ ?assign ?body ?done ?stop
  case assign =>
    intro l i V K hK
    gi_wp2
    exact hK
  case body =>
    clear bS bN hB0
    rintro l q i V hi ⟨hb, hB⟩ hl
    have hcb := hb.cell
    have hfb := hb.frozen
    have HBl := Lib.hid hB
    have hs := weighOf_bounds (p := fun _ => true) HF.out q
    have hx := weight_at HF.out i
    have HQ := Lib.hid (weighOf_snoc (fun _ => true) k.ws q i)
    have hn := HN.out
    clear hB
    generalize weighOf (fun _ => true) k.ws q = S at *
    generalize hX : wAt k.ws i = X at *
    gi_wp2
    refine ⟨(KeepsOthers.setCell _ _ _).from _, (Below.refl _ V).setCell (p := ⟨W.heap.size, 0, none⟩) (Nat.le_refl _) _, ?_, HBl.out.setCell (p := ⟨W.heap.size, 0, none⟩) (Nat.le_refl _) _⟩
    have e := HQ.out
    rw [if_pos trivial] at e
    rw [e]
    exact hb.set _
  case done =>
    rintro D V hD ⟨hb, hB⟩ hK
    have hcb := hb.cell
    have HKV := Lib.hid (HK.out.trans hB)
    have HD := Lib.hid (show w.heap.size ≤ D by have := HK.out.size_le; simp at hD; omega)
    have HR := Lib.hid (weighOf_range (fun _ => true) k.ws k.ws.length)
    clear bS bN hB0 hB hD
    gi_wp2
    refine ⟨by simp, .inl ⟨_, _, rfl, run_takeDeferred hK, ?_⟩⟩
    exact ⟨_, results_tmp rfl _ _ _, by rw [HT.out, HR.out]; rfl, HKV.out.trans' (belowK_b (w := w) (Nat.le_refl _) V D _ _ HD.out hK rfl rfl)⟩
  case stop =>
    rintro D x j V _ _ h _
    exact h.elim

theorem total_any (A : Option Addr) (c : Nat) (k : Cf) (w : World) (hA : CellsAt w w.heap.size A (intCells k.ws)) :
    Calls Try.prog 19 #[.agg #[.slice A k.ws.length c, .int .u64 k.seed, .int .i64 k.ep, .int .i64 k.nu, .int .i64 k.de]] w fun e w' => e = .returned (.int .i64 (totalC k)) ∧ Kept w w' := by
  cases h : mayC k with
  | true => exact total_yes A c k w hA h
  | false => exact total_no A c k w hA h

end Go.Proofs.Ytdidmgmfjfnliaa
