/-
  The contract of package duty's call Weight.
-/
import Derived.Test.YtdidmgmfjfnliaaDutySet
namespace Go.Proofs.Ytdidmgmfjfnliaa
open Go.ChangeShapes Go.WideShapes Go.ChangeAt Go.RowKit Go.Shelf

attribute [local go_sem] Oper.semAt_some

set_option maxHeartbeats 800000 in
theorem weight_no (A : Option Addr) (c : Nat) (k : Cf) (B : Option Addr) (l : List Int) (cb : Nat) (w : World) (hA : CellsAt w w.heap.size A (intCells k.ws)) (hm : mayC k = false) :
    Calls Try.prog 17 #[.agg #[.slice A k.ws.length c, .int .u64 k.seed, .int .i64 k.ep, .int .i64 k.nu, .int .i64 k.de], .slice B l.length cb] w fun e w' => e = .returned (.int .i64 (weightC k l)) ∧ Kept w w' := by
  have HM := Lib.hid hm
  have HT := Lib.hid (weightC_no l hm)
  have HA := Lib.hid hA
  clear hm hA
  go_enter Try.func17, Try.ntmps17
  go_wp2_with fail
  refine (may_any A c k _ (conf_box HA.out).2.1).mono ?_
  rintro e W ⟨rfl, k1⟩
  rw [HM.out]
  have K1 := Lib.hid ((conf_box HA.out).2.2.trans k1)
  clear k1
  go_wp2_with fail
  go_ret
  exact ⟨by rw [HT.out]; rfl, K1.out⟩

set_option maxRecDepth 100000 in
set_option maxHeartbeats 2000000 in
theorem weight_yes (A : Option Addr) (c : Nat) (k : Cf) (B : Option Addr) (l : List Int) (cb : Nat) (w : World) (hA : CellsAt w w.heap.size A (intCells k.ws)) (hl : l.length ≤ 1000000) (hB : CellsAt w w.heap.size B (intCells l)) (hm : mayC k = true) :
    Calls Try.prog 17 #[.agg #[.slice A k.ws.length c, .int .u64 k.seed, .int .i64 k.ep, .int .i64 k.nu, .int .i64 k.de], .slice B l.length cb] w fun e w' => e = .returned (.int .i64 (weightC k l)) ∧ Kept w w' := by
  have HM := Lib.hid hm
  have HT := Lib.hid (weightC_yes l hm)
  have HF := Lib.hid (mayC_yes hm).2.2.1
  have HN := Lib.hid (mayC_yes hm).2.1
  have HC := Lib.hid (conf_box (c := c) hA)
  have HL := Lib.hid hB
  have HLL := Lib.hid hl
  clear hm hA hB hl
  refine (callsIn_wide (n := 3)).1 ?_
  refine callsIn_of_wp_marks Try.func17 rfl trivial ?_ rfl
  simp only [Try.ntmps17, List.size_toArray, List.length_cons, List.length_nil, Nat.reduceAdd, Nat.reduceSub, Array.replicate_succ, Array.replicate_zero, List.push_toArray, List.append_toArray, List.nil_append, List.cons_append]
  gi_wp2_with fail
  refine ⟨trivial, ?_⟩
  refine (callsIn_wide.2 (may_any A c k _ HC.out.2.1)).mono ?_
  rintro e W ⟨rfl, k1⟩
  rw [HM.out]
  have HK := Lib.hid (HC.out.2.2.trans k1)
  have HB := Lib.hid (HC.out.1.kept k1)
  have HA := Lib.hid (HC.out.2.1.kept k1)
  have HL1 := Lib.hid (HL.out.kept HK.out)
  obtain ⟨c0, c1, c2, c3, c4⟩ := HB.out.five
  clear HC k1 HL
  gi_wp2_with fail
  refine ⟨trivial, ?_⟩
  refine (callsIn_wide.2 (ins_any A c k B l cb _ (by have := HN.out; omega) HLL.out HL1.out)).mono ?_
  rintro e W1 ⟨b, rfl, hb, ⟨m, D, hS⟩, k2⟩
  have HS := Lib.hid hS
  have HK1 := Lib.hid (HK.out.trans k2)
  have HB1 := Lib.hid (HB.out.kept k2)
  have HA1 := Lib.hid (HA.out.kept k2)
  clear c0 c1 c2 c3 c4
  obtain ⟨c0, c1, c2, c3, c4⟩ := HB1.out.five
  have hlt := HB1.out.1
  have hbl : b < W1.heap.size := hS.1.lt
  clear HK HB HA HL1 k2 hS hb
  gi_wp2_with (refine ⟨trivial, ?_⟩; gi_at_call 26; refine (callsIn_wide.2 (vals_any A c k _)).mono ?_; rintro e w' ⟨rfl, rfl⟩)
  have bM := Boxed.new W1 46 (.map (some b))
  have bS := Boxed.new (W1.alloc (.cells #[.map (some b)] 46)) 3 (.int .i64 0)
  rw [World.size_alloc] at bS
  have bN := HasCells.new ((W1.alloc (.cells #[.map (some b)] 46)).alloc (.cells #[.int .i64 0] 3)) #[.slice A k.ws.length c, .int .u64 k.seed, .int .i64 k.ep, .int .i64 k.nu, .int .i64 k.de] 25 (W1.heap.size + 1 + 1) (by simp)
  have hB0 : Below W1.heap.size W1 (((W1.alloc (.cells #[.map (some b)] 46)).alloc (.cells #[.int .i64 0] 3)).alloc (.cells #[.slice A k.ws.length c, .int .u64 k.seed, .int .i64 k.ep, .int .i64 k.nu, .int .i64 k.de] 25)) := (((Below.refl _ W1).alloc (Nat.le_refl _) _).alloc (by simp) _).alloc (by simp; omega) _
  clear c0 c1 c2 c3 c4 hlt
  refine' range_vals (W1.heap.size + 1 + 1) W1.heap.size A c k (by have := HN.out; omega) rfl rfl (by simp) (by simp; omega) bN.at0 (HA1.out.keep fun _ hp => hB0.cell hp)
    (fun q V => (Boxed V W1.heap.size 46 (.map (some b)) ∧ Boxed V (W1.heap.size + 1) 3 (.int .i64 (weighOf (inList l) k.ws q))) ∧ Below W1.heap.size W1 V)
    (fun _ _ _ => False)
    (OwnFrom.and (OwnFrom.and (Own.from (boxed_own _ _ _) _) (Own.from (boxed_own _ _ _) _)) (ownFrom_below (Nat.le_refl _) (by simp; omega)))
    (fun x => ownFrom_pure _ _)
    ⟨⟨(bM.alloc _).alloc _, bS.alloc _⟩, hB0⟩ _ ?assign ?body ?done ?stop
  case assign =>
    intro l i V K hK
    gi_wp2
    exact hK
  case body =>
    clear bS bN bM hB0
    rintro r q i V hi ⟨⟨hbm, hbs⟩, hB⟩ hl
    have hcm := hbm.cell
    have hcs := hbs.cell
    have hls := hbs.lt
    have hfs := hbs.frozen
    have HBl := Lib.hid hB
    have hs := weighOf_bounds (p := inList l) HF.out q
    have hx := weight_at HF.out i
    have HQ := Lib.hid (weighOf_snoc (inList l) k.ws q i)
    have hn := HN.out
    have hown := (HS.out.kept hB).1
    have HH := Lib.hid (HS.out.2 i hi)
    have hkey : keyOf Try.prog 3 (.int .i64 (i : Int)) = some (.int .i64 (i : Int)) := Maps.keyOf_int_mk Try.underlying3 (Go.WalkArith.wf_i64 (by omega))
    clear hB
    generalize weighOf (inList l) k.ws q = S at *
    generalize hX : wAt k.ws i = X at *
    cases hm : inList l i with
    | true =>
      rw [hm] at HH HQ
      rw [if_pos rfl] at HQ
      gi_wp2_with (gi_at_lookup; refine wpListIn_lookup_own_unit _ rfl _ _ 46 rfl 3 48 (Maps.int_keyed Try.underlying3) Try.underlying46 (Try.zeroValue48 _) b m D rfl hown _ _ rfl hkey ?_; rw [HH.out])
      have hs2 : W1.heap.size ≤ (V.setCell ⟨W1.heap.size + 1, 0, none⟩ (.int .i64 (S + X))).heap.size := by simp; omega
      exact ⟨((KeepsOthers.setCell _ _ _).trans (KeepsOthers.alloc _ _)).from _, ((Below.refl _ V).setCell (p := ⟨W1.heap.size + 1, 0, none⟩) (by simp) _).alloc hs2 _,
        ⟨(hbm.other (by omega) _).alloc _, by rw [HQ.out]; exact (hbs.set _).alloc _⟩, (HBl.out.setCell (p := ⟨W1.heap.size + 1, 0, none⟩) (by simp) _).alloc hs2 _⟩
    | false =>
      rw [hm] at HH HQ
      rw [if_neg (by decide)] at HQ
      gi_wp2_with (gi_at_lookup; refine wpListIn_lookup_own_unit _ rfl _ _ 46 rfl 3 48 (Maps.int_keyed Try.underlying3) Try.underlying46 (Try.zeroValue48 _) b m D rfl hown _ _ rfl hkey ?_; rw [HH.out])
      have hs2 : W1.heap.size ≤ V.heap.size := by omega
      exact ⟨(KeepsOthers.alloc _ _).from _, (Below.refl _ V).alloc hs2 _, ⟨hbm.alloc _, by rw [HQ.out, Int.add_zero]; exact hbs.alloc _⟩, HBl.out.alloc hs2 _⟩
  case done =>
    rintro D' V hD ⟨⟨_, hbs⟩, hB⟩ hK
    have hcb := hbs.cell
    have HKV := Lib.hid (HK1.out.trans hB)
    have HD := Lib.hid (show w.heap.size ≤ D' by have := HK1.out.size_le; simp at hD; omega)
    have HR := Lib.hid (weighOf_range (inList l) k.ws k.ws.length)
    clear bS bN bM hB0 hB hD
    gi_wp2
    refine ⟨by simp, .inl ⟨_, _, rfl, run_takeDeferred hK, ?_⟩⟩
    exact ⟨_, results_tmp rfl _ _ _, by rw [HT.out, HR.out]; rfl, HKV.out.trans' (belowK_b (w := w) (Nat.le_refl _) V D' _ _ HD.out hK rfl rfl)⟩
  case stop =>
    rintro D x j V _ _ h _
    exact h.elim

theorem weight_any (A : Option Addr) (c : Nat) (k : Cf) (B : Option Addr) (l : List Int) (cb : Nat) (w : World) (hA : CellsAt w w.heap.size A (intCells k.ws)) (hl : l.length ≤ 1000000) (hB : CellsAt w w.heap.size B (intCells l)) :
    Calls Try.prog 17 #[.agg #[.slice A k.ws.length c, .int .u64 k.seed, .int .i64 k.ep, .int .i64 k.nu, .int .i64 k.de], .slice B l.length cb] w fun e w' => e = .returned (.int .i64 (weightC k l)) ∧ Kept w w' := by
  cases h : mayC k with
  | true => exact weight_yes A c k B l cb w hA hl hB h
  | false => exact weight_no A c k B l cb w hA h

end Go.Proofs.Ytdidmgmfjfnliaa
