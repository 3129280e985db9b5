/-
  The contract of package duty's call Committee.
-/
import Derived.Test.YtdidmgmfjfnliaaDutyWho
namespace Go.Proofs.Ytdidmgmfjfnliaa
open Go.ChangeShapes Go.WideShapes Go.ChangeAt Go.RowKit Go.Shelf

attribute [local go_sem] Oper.semAt_some

theorem commC_no {k : Cf} {slot : Int} (h : dutyC k slot = false) : commC k slot = [] := by unfold commC; rw [h]; rfl
theorem commC_yes {k : Cf} {slot : Int} (h : dutyC k slot = true) : commC k slot = commTo (memC k slot) k.ws.length := by unfold commC; rw [if_pos h]
theorem keeps_kept {W W' : World} (h : Kept W W') : KeepsOthers W W' := ⟨h.size_le, fun i o hi _ => (h.heap (Array.getElem?_eq_some_iff.1 hi).1).trans hi⟩
theorem boxed_kept {W W' : World} {B : Nat} {t : TypeId} {v : Value} (h : Boxed W B t v) (k : Kept W W') : Boxed W' B t v := (k.heap h.lt).trans h
theorem row_kept {W W' : World} {base : Nat} {e : TypeId} {size n : Nat} {v : Value} {xs : List Value} (h : W.ownsRow base e size v n xs) (k : Kept W W') : W'.ownsRow base e size v n xs := by
  refine ⟨h.1, ?_⟩
  rcases h.2 with h2 | ⟨g, cap, cur, hv, hg, hh, r⟩
  · exact Or.inl h2
  · exact Or.inr ⟨g, cap, cur, hv, hg, by rw [k.heap (h.lt g (by rw [hv]; rfl)).2]; exact hh, r⟩
theorem row_slice {W : World} {base : Nat} {e : TypeId} {size n : Nat} {v : Value} {xs : List Value} (h : W.ownsRow base e size v n xs) : ∃ A c, v = .slice A n c := by
  rcases h.2 with ⟨hv, h0⟩ | ⟨g, cap, cur, hv, _⟩
  · subst h0; exact ⟨_, _, hv⟩
  · exact ⟨_, _, hv⟩

theorem row_new {W : World} {base : Nat} {e : TypeId} {size n c : Nat} {A : Option Addr} {xs : List Value} (h : W.ownsRow base e size (.slice A n c) n xs) {ad : Addr} (hA : A = some ad) : base ≤ ad.block := by
  subst hA
  rcases h.2 with ⟨hv, _⟩ | ⟨g, cap, cur, hv, hg, _⟩
  · cases hv
  · cases hv; exact hg

set_option maxHeartbeats 800000 in
theorem comm_no (A : Option Addr) (c : Nat) (k : Cf) (slot : Int) (w : World) (hA : CellsAt w w.heap.size A (intCells k.ws)) (hd : dutyC k slot = false) :
    Calls Try.prog 14 #[.agg #[.slice A k.ws.length c, .int .u64 k.seed, .int .i64 k.ep, .int .i64 k.nu, .int .i64 k.de], .int .i64 slot] w fun e w' => ∃ A' c', e = .returned (.slice A' (commC k slot).length c') ∧ CellsAt w' w'.heap.size A' (intCells (commC k slot)) ∧ (∀ ad, A' = some ad → w.heap.size ≤ ad.block) ∧ Kept w w' := by
  have HC := Lib.hid (conf_box (c := c) hA)
  have HD := Lib.hid hd
  have HR := Lib.hid (commC_no hd)
  clear hA hd
  go_enter Try.func14, Try.ntmps14
  go_wp2_with fail
  refine (has_any A c k slot _ (HC.out.2.1.kept ((Kept.refl _).alloc _))).mono ?_
  rintro e W ⟨rfl, k1⟩
  rw [HD.out]
  have K1 := Lib.hid ((HC.out.2.2.alloc _).trans k1)
  clear k1
  go_wp2_with fail
  go_ret
  exact ⟨none, 0, by rw [HR.out]; rfl, by rw [HR.out]; exact CellsAt.nil, (fun _ h => by cases h), K1.out⟩

set_option maxRecDepth 100000 in
set_option maxHeartbeats 2000000 in
theorem comm_yes (A : Option Addr) (c : Nat) (k : Cf) (slot : Int) (w : World) (hA : CellsAt w w.heap.size A (intCells k.ws)) (hsd : k.seed < 18446744073709551616) (hd : dutyC k slot = true) :
    Calls Try.prog 14 #[.agg #[.slice A k.ws.length c, .int .u64 k.seed, .int .i64 k.ep, .int .i64 k.nu, .int .i64 k.de], .int .i64 slot] w fun e w' => ∃ A' c', e = .returned (.slice A' (commC k slot).length c') ∧ CellsAt w' w'.heap.size A' (intCells (commC k slot)) ∧ (∀ ad, A' = some ad → w.heap.size ≤ ad.block) ∧ Kept w w' := by
  obtain ⟨i0, hi, hz0, hz1, hz2⟩ := info_three Try.infoI
  have HC := Lib.hid (conf_box (c := c) hA)
  have HD := Lib.hid hd
  have HR := Lib.hid (commC_yes hd)
  have HN := Lib.hid (mayC_yes (dutyC_yes hd).1).2.1
  have HME := Lib.hid (fun (i : Nat) (hi : i < k.ws.length) w' => member_any A c k slot (i : Int) w' hd (decide_eq_true (by omega)) hsd)
  clear hA hd
  generalize memC k slot = p at *
  refine (callsIn_wide (n := 3)).1 ?_
  refine callsIn_of_wp_marks Try.func14 rfl trivial ?_ rfl
  simp only [Try.ntmps14, List.size_toArray, List.length_cons, List.length_nil, Nat.reduceAdd, Nat.reduceSub, Array.replicate_succ, Array.replicate_zero, List.push_toArray, List.append_toArray, List.nil_append, List.cons_append]
  gi_wp2_with fail
  refine ⟨trivial, ?_⟩
  have HS := Lib.hid (HasCells.new (w.alloc (.cells #[.slice A k.ws.length c, .int .u64 k.seed, .int .i64 k.ep, .int .i64 k.nu, .int .i64 k.de] 25)) #[.int .i64 slot] 3 (w.heap.size + 1) (by simp))
  refine (callsIn_wide.2 (has_any A c k slot _ (HC.out.2.1.kept ((Kept.refl _).alloc _)))).mono ?_
  rintro e W ⟨rfl, k1⟩
  rw [HD.out]
  have HK := Lib.hid ((HC.out.2.2.alloc _).trans k1)
  have HB := Lib.hid ((HC.out.1.alloc _).kept k1)
  have HSl := Lib.hid (HS.out.kept k1)
  have HA := Lib.hid ((HC.out.2.1.kept ((Kept.refl _).alloc _)).kept k1)
  obtain ⟨c0, c1, c2, c3, c4⟩ := HB.out.five
  have hlt := HB.out.1
  clear HC HS k1
  gi_wp2_with (refine ⟨trivial, ?_⟩; gi_at_call 26; refine (callsIn_wide.2 (vals_any A c k _)).mono ?_; rintro e w' ⟨rfl, rfl⟩)
  have bS := Boxed.new W 22 (.slice none 0 0)
  have bN := HasCells.new (W.alloc (.cells #[.slice none 0 0] 22)) #[.slice A k.ws.length c, .int .u64 k.seed, .int .i64 k.ep, .int .i64 k.nu, .int .i64 k.de] 25 (W.heap.size + 1) (by simp)
  have hB0 : Below W.heap.size W ((W.alloc (.cells #[.slice none 0 0] 22)).alloc (.cells #[.slice A k.ws.length c, .int .u64 k.seed, .int .i64 k.ep, .int .i64 k.nu, .int .i64 k.de] 25)) := ((Below.refl _ W).alloc (Nat.le_refl _) _).alloc (by simp) _
  clear c0 c1 c2 c3 c4 hlt
  refine' range_vals (W.heap.size + 1) W.heap.size A c k (by have := HN.out; omega) rfl rfl (by simp) (by simp; omega) bN.at0 (HA.out.keep fun _ hp => hB0.cell hp)
    (fun q V => (∃ v, Boxed V W.heap.size 22 v ∧ V.ownsRow W.heap.size 3 1 v (commOf (p) q).length (intCells (commOf (p) q)) ∧ True) ∧ Below W.heap.size W V)
    (fun _ _ _ => False)
    (OwnFrom.and (Own.from (holdsRow_own W.heap.size W.heap.size 22 3 1 (fun q => (commOf (p) q).length) (fun q => intCells (commOf (p) q)) (fun _ _ => True)) _) (ownFrom_below (Nat.le_refl _) (by simp; omega)))
    (fun x => ownFrom_pure _ _)
    ⟨⟨_, bS.alloc _, World.ownsRow_nil _ _ _ _, trivial⟩, hB0⟩ _ ?assign ?body ?done ?stop
  case assign =>
    intro l i V K hK
    gi_wp2
    exact hK
  case body =>
    clear bS bN hB0
    rintro l q i V hi' ⟨⟨v, hv, hrow, _⟩, hB⟩ hl
    have HL := Lib.hid (commOf_length (p) q)
    have hn := HN.out
    have hC := HB.out
    obtain ⟨c0, c1, c2, c3, c4⟩ := (HasCells.five ⟨Nat.lt_of_lt_of_le hC.1 hB.size, fun j u hu => (hB.cell (p := ⟨w.heap.size, j, none⟩) hC.1).trans (hC.2 j u hu)⟩ : _)
    have c5 : V.cell? ⟨w.heap.size + 1, 0, none⟩ = some (.int .i64 slot) := (hB.cell (p := ⟨w.heap.size + 1, 0, none⟩) HSl.out.1).trans HSl.out.at0
    have HBl := Lib.hid hB
    clear hB hC
    cases hm : p i with
    | true =>
      have HM := Lib.hid hm
      have HQ := Lib.hid (commOf_hit q hm)
      clear hm
      gi_wp2_with fail
      refine ⟨trivial, ?_⟩
      refine (CallsIn.inRound l (callsIn_wide.2 (HME.out i hi' _))).mono ?_
      rintro e V1 ⟨rfl, k3⟩
      rw [Int.toNat_natCast, HM.out]
      have hv1 := boxed_kept hv k3
      have hrow1 := row_kept hrow k3
      have hcb := hv1.cell
      have HBV := Lib.hid (HBl.out.trans (Below.mono k3 HBl.out.size))
      have hsz : W.heap.size ≤ V1.heap.size := HBV.out.size
      have K3 := Lib.hid k3
      have hll := HL.out
      clear k3 hv hrow c0 c1 c2 c3 c4 c5
      gi_wp2_with (gi_at_builtin; refine wpListIn_append_own _ rfl _ _ 22 rfl W.heap.size 3 i0 (.int .i64 0) 1 8 Try.underlying22 hi hz0 hz1 hz2 rfl (by decide) _ _ _ rfl (hrow1.alloc _) ⟨V1.heap.size, 0, none⟩ 1 1 [.int .i64 (i : Int)] rfl rfl (cell_one_new _ _ _) (by simp [Value.oneCell']) (by unfold maxLen; omega) (by omega) (by simp; omega) ?_; intro v' w1 hown' hgrow _; obtain ⟨g', cap', rfl⟩ := ownsRow_succ hown'; obtain ⟨hv1', hv2, hr2, hk2, hb2⟩ := hv1.appended (by decide) hrow1 hsz (Nat.le_refl _) hown' hgrow; have hc1 := hv1'.cell; have hf1 := hv1'.frozen)
      have e1 : (commOf p q ++ [(i : Int)]).length = (commOf p q).length + 1 := by simp
      have e2 : intCells (commOf p q ++ [(i : Int)]) = intCells (commOf p q) ++ [.int .i64 (i : Int)] := by simp [intCells]
      exact ⟨((keeps_kept K3.out).trans hk2).from _, Below.trans (Below.mono K3.out HBl.out.size) hb2, ⟨⟨_, hv2, by rw [HQ.out, e1, e2]; exact hr2, trivial⟩, HBV.out.trans hb2⟩⟩
    | false =>
      have HM := Lib.hid hm
      have HQ := Lib.hid (commOf_miss q hm)
      clear hm
      gi_wp2_with fail
      refine ⟨trivial, ?_⟩
      refine (CallsIn.inRound l (callsIn_wide.2 (HME.out i hi' _))).mono ?_
      rintro e V1 ⟨rfl, k3⟩
      rw [Int.toNat_natCast, HM.out]
      gi_wp2_with fail
      exact ⟨(keeps_kept k3).from _, Below.mono k3 HBl.out.size, by rw [HQ.out]; exact ⟨v, boxed_kept hv k3, row_kept hrow k3, trivial⟩, HBl.out.trans (Below.mono k3 HBl.out.size)⟩
  case done =>
    rintro D V hD ⟨⟨v, hv, hrow, _⟩, hB⟩ hK
    have hcb := hv.cell
    have HKV := Lib.hid (HK.out.trans hB)
    have HD := Lib.hid (show w.heap.size ≤ D by have := HK.out.size_le; simp at hD; omega)
    obtain ⟨A', c', rfl⟩ := row_slice hrow
    have HW := Lib.hid hrow
    clear bS bN hB0 hB hD hrow
    gi_wp2
    refine ⟨by simp, .inl ⟨_, _, rfl, run_takeDeferred hK, ?_⟩⟩
    refine ⟨_, results_tmp rfl _ _ _, A', c', by rw [HR.out]; rfl, ?_, fun ad hA => Nat.le_trans HK.out.size_le (row_new HW.out hA), HKV.out.trans' (belowK_b (w := w) (Nat.le_refl _) V D _ _ HD.out hK rfl rfl)⟩
    rw [HR.out]
    exact CellsAt.of_own (ownsRow_putObj HW.out _ hK rfl)
  case stop =>
    rintro D x j V _ _ h _
    exact h.elim

/-- .. and what is handed back is new. -/
theorem comm_new (A : Option Addr) (c : Nat) (k : Cf) (slot : Int) (w : World) (hA : CellsAt w w.heap.size A (intCells k.ws)) (hsd : k.seed < 18446744073709551616) :
    Calls Try.prog 14 #[.agg #[.slice A k.ws.length c, .int .u64 k.seed, .int .i64 k.ep, .int .i64 k.nu, .int .i64 k.de], .int .i64 slot] w fun e w' => ∃ A' c', e = .returned (.slice A' (commC k slot).length c') ∧ CellsAt w' w'.heap.size A' (intCells (commC k slot)) ∧ (∀ ad, A' = some ad → w.heap.size ≤ ad.block) ∧ Kept w w' := by
  cases h : dutyC k slot with
  | true => exact comm_yes A c k slot w hA hsd h
  | false => exact comm_no A c k slot w hA h
theorem comm_any (A : Option Addr) (c : Nat) (k : Cf) (slot : Int) (w : World) (hA : CellsAt w w.heap.size A (intCells k.ws)) (hsd : k.seed < 18446744073709551616) :
    Calls Try.prog 14 #[.agg #[.slice A k.ws.length c, .int .u64 k.seed, .int .i64 k.ep, .int .i64 k.nu, .int .i64 k.de], .int .i64 slot] w fun e w' => ∃ A' c', e = .returned (.slice A' (commC k slot).length c') ∧ CellsAt w' w'.heap.size A' (intCells (commC k slot)) ∧ Kept w w' :=
  (comm_new A c k slot w hA hsd).mono fun _ _ ⟨A', c', he, hc, _, hk⟩ => ⟨A', c', he, hc, hk⟩

end Go.Proofs.Ytdidmgmfjfnliaa
