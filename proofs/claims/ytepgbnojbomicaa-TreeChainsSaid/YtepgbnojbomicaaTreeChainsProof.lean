/-
  For all lists of blocks l and ids i marigoldlaw06.TreeChains returns true and leaves its arguments as they were: no further condition.
-/
import Derived.Test.YtepgbnojbomicaaTreeAwake
import Derived.Test.YtepgbnojbomicaaTreeOpen
import Derived.Test.YtepgbnojbomicaaTreeFacts
namespace Go.Proofs.Ytepgbnojbomicaa.treeChains
open Go.ChangeShapes Go.WideShapes Go.ChangeAt Go.RowKit
set_option linter.unusedVariables false

theorem kids_len (l : List Bk) (x : Id2) (h : l.length ≤ 40) : (kidsC l x).length ≤ 10000000 := by
  unfold kidsC
  split
  · have := kidsB_le l x; omega
  · simp
theorem eqZZ (w : World) : Sem.run Try.prog (Op.equalIn 10000 25 (.agg #[.int .u64 0, .int .u64 0]) (.agg #[.int .u64 0, .int .u64 0])) w = .ok true w := by rw [eqId10]; rfl
theorem slotC_hit' {l : List Bk} {x : Id2} {k : Nat} (h : mayB l = true) (q : posB l x = some k) : slotC l x = ((l[k]'(posB_lt q)).s, true) := by
  unfold slotC; rw [if_pos h, slotB_hit q]
theorem chain_wf {l : List Bk} (hw : WfL l) (h : mayB l = true) : ∀ (n : Nat) {x : Id2}, rank l x = n → standsB l x = true → WfI x → ∀ y ∈ chainB l x, WfI y := by
  intro n
  induction n using Nat.strongRecOn with
  | ind n ih =>
    intro x hn hs hx y hy
    cases q : posB l x with
    | none =>
      rw [chainB_none q] at hy
      simp at hy
      rw [hy]; exact hx
    | some i =>
      have hi := posB_lt q
      have hr := rank_parent h hi
      rw [rank_some q] at hn
      rw [chainB_some h q] at hy
      rcases List.mem_cons.1 hy with rfl | hy
      · exact hx
      · exact ih (rank l l[i].p) (by omega) rfl (may_stands h hi) (parent_wf hw hi) y hy
theorem link_all {l : List Bk} (h : mayB l = true) {x : Id2} (hs : standsB l x = true) (j : Nat) (hj : j + 1 < (chainC l x).length) :
    ∃ (k : Nat) (hk : k < l.length) (s : Int), slotC l (chainC l x)[j] = (l[k].s, true) ∧ slotC l (chainC l x)[j + 1] = (s, true) ∧ s < l[k].s ∧ findC l (chainC l x)[j] = (k : Int) ∧ l[k].p = (chainC l x)[j + 1] ∧ underC l (chainC l x)[j + 1] x = true ∧ (chainC l x)[j] ∈ kidsC l (chainC l x)[j + 1] := by
  have hc := chainC_yes h hs
  have e1 : (chainB l x)[j]? = some (chainC l x)[j] := by rw [← hc]; exact List.getElem?_eq_getElem (by omega)
  have e2 : (chainB l x)[j + 1]? = some (chainC l x)[j + 1] := by rw [← hc]; exact List.getElem?_eq_getElem hj
  obtain ⟨k, hk, q, hp⟩ := chain_link h _ rfl hs j _ _ e1 e2
  have hu : underC l (chainC l x)[j + 1] x = true := by rw [underC_true]; exact List.getElem_mem hj
  have hn := posB_name q
  have hkid : (chainC l x)[j] ∈ kidsC l (chainC l x)[j + 1] := by
    rw [kidsC_yes _ h]
    unfold kidsB namesB
    exact List.mem_map.2 ⟨l[k], List.mem_filter.2 ⟨List.getElem_mem hk, decide_eq_true hp⟩, hn⟩
  have hsl := slotC_hit' h q
  rcases may_parent h hk with ⟨m, hm, qm, hlt⟩ | ⟨ez, hpos⟩
  · rw [hp] at qm
    exact ⟨k, hk, (l[m]'(by omega)).s, hsl, slotC_hit' h qm, hlt, findC_hit h q, hp, hu, hkid⟩
  · refine ⟨k, hk, 0, hsl, ?_, hpos, findC_hit h q, hp, hu, hkid⟩
    rw [← hp, ez]
    unfold slotC
    rw [if_pos h, slotB_miss (may_zero h), if_pos rfl]
theorem empty_no {l : List Bk} {x : Id2} (h : mayB l = true) (hn : chainC l x = []) : standsB l x = false := by
  cases q : standsB l x with
  | false => rfl
  | true =>
    rw [chainC_yes h q] at hn
    obtain ⟨r, e⟩ := chainB_head l x
    rw [e] at hn
    cases hn
theorem full_yes {l : List Bk} {x : Id2} (hn : ¬ chainC l x = []) : mayB l = true ∧ standsB l x = true := by
  cases q : mayB l with
  | false => exact absurd (chainC_no (fun h => by rw [q] at h; cases h)) hn
  | true =>
    refine ⟨rfl, ?_⟩
    cases k : standsB l x with
    | true => rfl
    | false => exact absurd (chainC_no (fun _ => k)) hn
theorem mem_take_step {ks : List Id2} {y : Id2} {m : Nat} (hm : m < ks.length) : decide (y ∈ ks.take (m + 1)) = (decide (y ∈ ks.take m) || sameI ks[m] y) := by
  rw [List.take_succ_eq_append_getElem hm]
  unfold sameI
  rw [Bool.eq_iff_iff]
  simp only [List.mem_append, List.mem_singleton, Bool.or_eq_true, decide_eq_true_iff]
  constructor
  · rintro (h | h)
    · exact Or.inl h
    · exact Or.inr h.symm
  · rintro (h | h)
    · exact Or.inl h
    · exact Or.inr h.symm
attribute [local go_sem high] eqIdN eqIdZ eqZZ in
set_option maxRecDepth 100000 in
set_option maxHeartbeats 3200000 in
theorem main (w : World) (lA : Option Addr) (lc : Nat) (l : List Bk) (hl6 : l.length ≤ 1000000) (h40 : l.length ≤ 40) (lhw : WfL l) (lhl : CellsAt w w.heap.size lA (blockCells l)) (i : Id2) (hi : WfI i) (cs : List Id2) (hcs : chainC l i = cs)
    (hlk : ∀ (j : Nat) (hj : j + 1 < cs.length), ∃ (k : Nat) (hk : k < l.length) (s : Int), slotC l cs[j] = (l[k].s, true) ∧ slotC l cs[j + 1] = (s, true) ∧ s < l[k].s ∧ findC l cs[j] = (k : Int) ∧ l[k].p = cs[j + 1] ∧ underC l cs[j + 1] i = true ∧ cs[j] ∈ kidsC l cs[j + 1])
    (L : Nat) (hL : cs.length = L + 1) (hlen : L ≤ l.length)
    (hhd : cs[0]? = some i) (hlast : cs[L]? = some zid) (hwf : ∀ y ∈ cs, WfI y) :
    Calls Try.prog 4 #[.slice lA l.length lc, .agg #[.int .u64 i.1, .int .u64 i.2]] w fun e w' => e = .returned (.bool true) ∧ Kept w w' := by
  have XA := Lib.hid (fun w' h => chain_any lA lc l hl6 lhw i hi w' h)
  rw [hcs] at XA
  have XL := Lib.hid hL
  have XH := Lib.hid hhd
  have XZ := Lib.hid hlast
  have XW := Lib.hid hwf
  have XK := Lib.hid hlk
  clear hL hhd hlast hwf hlk hcs
  go_enter Try.func4, Try.ntmps4
  go_wp2_with fail
  have HK0 := Lib.hid ((Kept.refl w).alloc (.cells #[.int .u64 i.1, .int .u64 i.2] 25))
  have HA0 := Lib.hid (lhl.kept HK0.out)
  have HB0_0 := Lib.hid (HasCells.new w #[.int .u64 i.1, .int .u64 i.2] 25 (w.heap.size) (by simp))
  generalize (w.alloc (.cells #[.int .u64 i.1, .int .u64 i.2] 25)) = W0 at *
  generalize w.heap.size = z0 at *
  clear lhl
  refine (treeAwake W0).mono ?_
  rintro e W1 ⟨rfl, k⟩
  have HK1 := Lib.hid (HK0.out.trans k)
  have HA1 := Lib.hid (HA0.out.kept k)
  have HB0_1 := Lib.hid (HB0_0.out.kept k)
  clear k HK0 HA0 HB0_0
  obtain ⟨b00, b01⟩ := HB0_1.out.two
  have bz0 := HB0_1.out.1
  go_wp2_with fail
  clear b00 b01 bz0
  refine (XA.out W1 HA1.out).mono ?_
  rintro e W2 ⟨A', c', rfl, hq, _, k⟩
  have HK2 := Lib.hid (HK1.out.trans k)
  have HA2 := Lib.hid (HA1.out.kept k)
  have HB0_2 := Lib.hid (HB0_1.out.kept k)
  clear k HK1 HA1 HB0_1
  have HC_2 := Lib.hid hq
  clear hq
  rw [XL.out]
  have hq0 : 0 < cs.length := by rw [XL.out]; omega
  obtain ⟨zc, oc, rfl, hbc, p0, p1⟩ := id_at HC_2.out hq0
  obtain ⟨zc', oc', ea, _, q0, q1⟩ := id_at HC_2.out (show L < cs.length by rw [XL.out]; omega)
  cases ea
  rw [(List.getElem?_eq_some_iff.1 XH.out).2] at p0 p1
  rw [(List.getElem?_eq_some_iff.1 XZ.out).2] at q0 q1
  rw [Nat.zero_mul, Nat.add_zero] at p0 p1
  have q0' : W2.cell? ⟨zc, oc + L * 2, none⟩ = some (.int .u64 0) := q0
  have q1' : W2.cell? ⟨zc, oc + L * 2 + 1, none⟩ = some (.int .u64 0) := q1
  clear q0 q1
  have hs := sameI_yes (rfl : i = i)
  obtain ⟨b00, b01⟩ := HB0_2.out.two
  have bz0 := HB0_2.out.1
  go_wp2_with fail
  have hg0 : (0 : Int) ≤ (L : Int) := by omega
  have hg1 : (L : Int) < (L : Int) + 1 := by omega
  have hg4 : ¬ l.length < L := by omega
  have hg5 : decide (l.length < L) = false := decide_eq_false hg4
  have hg6 : ¬ (l.length : Int) < (L : Int) := by omega
  have hw1 : IntKind.i64.wrap ((L : Int) + 1 - 1) = (L : Int) := by rw [IntKind.wrap_i64]; omega
  have hw2 : IntKind.i64.wrap (L : Int) = (L : Int) := by rw [IntKind.wrap_i64]; omega
  have hw3 : IntKind.i64.wrap ((l.length : Int) + 1) = (l.length : Int) + 1 := by rw [IntKind.wrap_i64]; omega
  have hzz : isZ zid = true := rfl
  go_quiet (fail)
  clear hw1 hw2 hw3 p0 p1 q0' q1' hg0 hg1 hg5 hzz
  clear b00 b01 bz0
  have k := (Kept.refl W2).drewN nq
  have HK3 := Lib.hid (HK2.out.trans k)
  have HA3 := Lib.hid (HA2.out.kept k)
  have HB0_3 := Lib.hid (HB0_2.out.kept k)
  have HC_3 := Lib.hid (HC_2.out.kept k)
  clear k HK2 HA2 HB0_2 HC_2
  generalize W2.drewN nq = W3 at *
  go_wp2_with fail
  go_loopw [7] (fun a w' => ∃ j : Nat, j ≤ L ∧ a = .int .i64 j ∧ Kept W3 w') (fun a _ => L + 1 - (intOf a).toNat)
  case atStart => exact ⟨0, by omega, rfl, Kept.refl _⟩
  case round =>
    obtain ⟨j, hj, rfl, hKr⟩ := hrel
    generalize wr = V0 at *
    have HKr := Lib.hid (HK3.out.trans hKr)
    have HAr := Lib.hid (HA3.out.kept hKr)
    have HCr := Lib.hid (HC_3.out.kept hKr)
    have HBr := Lib.hid (HB0_3.out.kept hKr)
    have HRx := Lib.hid (show ∀ w2, Kept V0 w2 → Kept W3 w2 from fun w2 k2 => hKr.trans k2)
    clear hKr
    by_cases hlt : j < L
    · have hjc : j + 1 < cs.length := by rw [XL.out]; omega
      obtain ⟨k, hk, s, hs1, hs2, hsl, hf, hp, hu, hkid⟩ := XK.out j hjc
      have HWy := Lib.hid (XW.out cs[j] (List.getElem_mem (by omega)))
      have HWy2 := Lib.hid (XW.out cs[j + 1] (List.getElem_mem hjc))
      obtain ⟨zc', oc', ea, hbc, f0, f1⟩ := id_at HCr.out (show j < cs.length by omega)
      cases ea
      obtain ⟨zc', oc', ea, _, g0, g1⟩ := id_at HCr.out hjc
      cases ea
      obtain ⟨zl, ol, rfl, hbl, d0, _, d2, d3, _⟩ := block_at HAr.out hk
      rw [hp] at d2 d3
      have HS1 := Lib.hid hs1
      have HS2 := Lib.hid hs2
      have HF := Lib.hid hf
      have HU := Lib.hid hu
      have HKd := Lib.hid hkid
      clear hs1 hs2 hf hu hkid hp d0
      generalize l[k].s = sk at *
      generalize cs[j + 1] = y2 at *
      generalize cs[j] = y at *
      obtain ⟨b0, b1⟩ := HBr.out.two
      have HCe := Lib.hid (show ∀ w', Kept V0 w' → (w'.cell? ⟨zc, oc + j * 2, none⟩ = some (.int .u64 y.1) ∧ w'.cell? ⟨zc, oc + j * 2 + 1, none⟩ = some (.int .u64 y.2)) ∧ w'.cell? ⟨zl, ol + k * 5 + 2, none⟩ = some (.int .u64 y2.1) ∧ w'.cell? ⟨zl, ol + k * 5 + 3, none⟩ = some (.int .u64 y2.2) ∧ w'.cell? ⟨zc, oc + (j + 1) * 2, none⟩ = some (.int .u64 y2.1) ∧ w'.cell? ⟨zc, oc + (j + 1) * 2 + 1, none⟩ = some (.int .u64 y2.2) ∧ w'.cell? ⟨z0, 0, none⟩ = some (.int .u64 i.1) ∧ w'.cell? ⟨z0, 1, none⟩ = some (.int .u64 i.2) from fun w' kk => by
        obtain ⟨b0, b1⟩ := (HBr.out.kept kk).two
        exact ⟨⟨(kk.cell (p := ⟨zc, oc + j * 2, none⟩) hbc).trans f0, (kk.cell (p := ⟨zc, oc + j * 2 + 1, none⟩) hbc).trans f1⟩, (kk.cell (p := ⟨zl, ol + k * 5 + 2, none⟩) hbl).trans d2, (kk.cell (p := ⟨zl, ol + k * 5 + 3, none⟩) hbl).trans d3, (kk.cell (p := ⟨zc, oc + (j + 1) * 2, none⟩) hbc).trans g0, (kk.cell (p := ⟨zc, oc + (j + 1) * 2 + 1, none⟩) hbc).trans g1, b0, b1⟩)
      have hj0 : (0 : Int) ≤ (j : Int) := by omega
      have hj1 : (j : Int) < (L : Int) + 1 := by omega
      have hj2 : (j : Int) + 1 < (L : Int) + 1 := by omega
      have hj3 : (0 : Int) ≤ (j : Int) + 1 := by omega
      have hj4 : (j : Int) < (L : Int) := by omega
      clear f0 f1 g0 g1 d2 d3 b0 b1
      obtain ⟨⟨f0, f1⟩, d2, d3, g0, g1, b0, b1⟩ := HCe.out V0 (Kept.refl _)
      go_wp2_with fail
      clear f0 f1 g0 g1 d2 d3 b0 b1
      refine (slot_any _ lc l hl6 lhw y HWy.out V0 HAr.out).mono ?_
      rintro e V1 ⟨rfl, k1⟩
      rw [HS1.out]
      unfold slotPV
      have HR1 := Lib.hid k1
      obtain ⟨⟨f0, f1⟩, d2, d3, g0, g1, b0, b1⟩ := HCe.out V1 k1
      clear k1
      go_wp2_with fail
      clear f0 f1 g0 g1 d2 d3 b0 b1
      refine (slot_any _ lc l hl6 lhw y2 HWy2.out V1 (HAr.out.kept HR1.out)).mono ?_
      rintro e V2 ⟨rfl, k2⟩
      rw [HS2.out]
      unfold slotPV
      have HR2 := Lib.hid (HR1.out.trans k2)
      obtain ⟨⟨f0, f1⟩, d2, d3, g0, g1, b0, b1⟩ := HCe.out V2 HR2.out
      clear k2
      go_wp2_with fail
      clear f0 f1 g0 g1 d2 d3 b0 b1
      refine (find_any _ lc l hl6 lhw y HWy.out V2 (HAr.out.kept HR2.out)).mono ?_
      rintro e V3 ⟨rfl, k3⟩
      rw [HF.out]
      have HR3 := Lib.hid (HR2.out.trans k3)
      obtain ⟨⟨f0, f1⟩, d2, d3, g0, g1, b0, b1⟩ := HCe.out V3 HR3.out
      clear k3
      go_wp2_with fail
      have hk0 : (0 : Int) ≤ (k : Int) := by omega
      have hk1 : (k : Int) < (l.length : Int) := by omega
      have hk2 : ¬ (k : Int) < 0 := by omega
      have hk3 : decide ((k : Int) < 0) = false := decide_eq_false hk2
      have hsk : ¬ sk ≤ s := by omega
      have hsk2 : decide (sk ≤ s) = false := decide_eq_false hsk
      have hsy := sameI_yes (rfl : y2 = y2)
      have XU := Lib.hid (fun w' (h : Kept V3 w') => under_any (some ⟨zl, ol, none⟩) lc l hl6 lhw y2 i hi w' (HAr.out.kept (HR3.out.trans h)))
      rw [HU.out] at XU
      have HKP := Lib.hid (show ∀ w1 w2 : World, (w1.cell? ⟨zl, ol + k * 5 + 2, none⟩ = some (.int .u64 y2.1) ∧ w1.cell? ⟨zl, ol + k * 5 + 3, none⟩ = some (.int .u64 y2.2) ∧ w1.cell? ⟨zc, oc + (j + 1) * 2, none⟩ = some (.int .u64 y2.1) ∧ w1.cell? ⟨zc, oc + (j + 1) * 2 + 1, none⟩ = some (.int .u64 y2.2) ∧ w1.cell? ⟨z0, 0, none⟩ = some (.int .u64 i.1) ∧ w1.cell? ⟨z0, 1, none⟩ = some (.int .u64 i.2) ∧ Kept V3 w1) → Kept w1 w2 → (w2.cell? ⟨zl, ol + k * 5 + 2, none⟩ = some (.int .u64 y2.1) ∧ w2.cell? ⟨zl, ol + k * 5 + 3, none⟩ = some (.int .u64 y2.2) ∧ w2.cell? ⟨zc, oc + (j + 1) * 2, none⟩ = some (.int .u64 y2.1) ∧ w2.cell? ⟨zc, oc + (j + 1) * 2 + 1, none⟩ = some (.int .u64 y2.2) ∧ w2.cell? ⟨z0, 0, none⟩ = some (.int .u64 i.1) ∧ w2.cell? ⟨z0, 1, none⟩ = some (.int .u64 i.2) ∧ Kept V3 w2) from fun w1 w2 h kk => by
        have kp := h.2.2.2.2.2.2.trans kk
        obtain ⟨_, d2, d3, g0, g1, b0, b1⟩ := HCe.out w2 (HR3.out.trans kp)
        exact ⟨d2, d3, g0, g1, b0, b1, kp⟩)
      have hw1 : IntKind.i64.wrap ((j : Int) + 1) = (j : Int) + 1 := by rw [IntKind.wrap_i64]; omega
      have hw2 : ((j : Int) + 1).toNat = j + 1 := by omega
      go_region_held3 (fun w' => w'.cell? ⟨zl, ol + k * 5 + 2, none⟩ = some (.int .u64 y2.1) ∧ w'.cell? ⟨zl, ol + k * 5 + 3, none⟩ = some (.int .u64 y2.2) ∧ w'.cell? ⟨zc, oc + (j + 1) * 2, none⟩ = some (.int .u64 y2.1) ∧ w'.cell? ⟨zc, oc + (j + 1) * 2 + 1, none⟩ = some (.int .u64 y2.2) ∧ w'.cell? ⟨z0, 0, none⟩ = some (.int .u64 i.1) ∧ w'.cell? ⟨z0, 1, none⟩ = some (.int .u64 i.2) ∧ Kept V3 w')
        (first | exact ⟨d2, d3, g0, g1, b0, b1, (Kept.refl _).drew⟩ | assumption | exact HKP.out _ _ (by assumption) (by assumption))
        (first | (go_at_call 23; ((with_reducible refine (XU.out _ ((by assumption : _ ∧ _ ∧ _ ∧ _ ∧ _ ∧ _ ∧ Kept V3 _).2.2.2.2.2.2)).mono ?_); rintro e w' ⟨rfl, kk⟩)))
      rename_i hh
      have HR4 := Lib.hid (HR3.out.trans hh.2.2.2.2.2.2)
      clear hh hw1 hw2 f0 f1 g0 g1 d2 d3 b0 b1 kk HKP XU
      generalize w' = V4 at *
      obtain ⟨⟨f0, f1⟩, d2, d3, g0, g1, b0, b1⟩ := HCe.out V4 HR4.out
      go_wp2_with fail
      clear f0 f1 g0 g1 d2 d3 b0 b1
      refine (kids_any _ lc l hl6 lhw y2 V4 (HAr.out.kept HR4.out)).mono ?_
      rintro e V5 ⟨A5, c5, rfl, hq, _, k5⟩
      have HKl := Lib.hid (kids_len l y2 h40)
      generalize kidsC l y2 = ks at *
      have HQ := Lib.hid hq
      have HR5 := Lib.hid (HR4.out.trans k5)
      have hkl := HKl.out
      clear hq k5
      go_wp2_with fail
      go_loopw [13, 15] (fun is jj w' => ∃ m : Nat, m ≤ ks.length ∧ jj = .int .i64 m ∧ is = .bool (decide (y ∈ ks.take m)) ∧ Kept V5 w') (fun _ jj _ => ks.length - (intOf jj).toNat)
      case atStart => exact ⟨0, by omega, rfl, by simp, Kept.refl _⟩
      case round =>
        obtain ⟨m, hm, rfl, rfl, hK6⟩ := hrel
        have HR6 := Lib.hid (HR5.out.trans hK6)
        have HQ6 := Lib.hid (HQ.out.kept hK6)
        have HRy := Lib.hid (show ∀ w2, Kept wr w2 → Kept V5 w2 from fun w2 k2 => hK6.trans k2)
        clear hK6
        by_cases hm1 : m < ks.length
        · obtain ⟨zk, ok, rfl, hbk, e0, e1⟩ := id_at HQ6.out hm1
          obtain ⟨⟨f0, f1⟩, _⟩ := HCe.out wr HR6.out
          have hTk := mem_take_step (y := y) hm1
          have hm2 : (0 : Int) ≤ (m : Int) := by omega
          have hm3 : (m : Int) < (ks.length : Int) := by omega
          cases hy : decide (y ∈ ks.take m) with
          | true =>
            rw [hy, Bool.true_or] at hTk
            have HTk := Lib.hid hTk
            clear hTk hy
            generalize ks[m] = x at *
            go_wp2_with fail
            go_quiet (fail)
            go_wp2_with fail
            go_roundw
            case rel => exact ⟨m + 1, by omega, by go_num, by rw [HTk.out], HRy.out _ ((Kept.refl _).drewN _)⟩
            case measure => simp [intOf]; omega
          | false =>
            rw [hy, Bool.false_or] at hTk
            have HTk := Lib.hid hTk
            clear hTk hy
            generalize ks[m] = x at *
            go_wp2_with fail
            go_quiet (fail)
            go_wp2_with fail
            go_roundw
            case rel => exact ⟨m + 1, by omega, by go_num, by rw [HTk.out], HRy.out _ ((Kept.refl _).drewN _)⟩
            case measure => simp [intOf]; omega
        · have hme : m = ks.length := by omega
          subst hme
          have hTk : decide (y ∈ ks.take ks.length) = true := by rw [List.take_length]; exact decide_eq_true HKd.out
          rw [hTk]
          clear hTk
          go_wp2_with fail
          go_roundw
          case rel => exact ⟨j + 1, by omega, by go_num, HRx.out _ HR6.out⟩
          case measure => simp [intOf]; omega
    · have hjl : j = L := by omega
      subst hjl
      have hj2 : ¬ (j : Int) + 1 < (j : Int) + 1 := by omega
      go_wp2_with fail
      go_ret
      exact ⟨by first | rfl | (simp; done), HKr.out⟩

/-! ### The walk: the call returns true, and of what was there nothing has changed. -/
attribute [local go_sem high] eqIdN eqIdZ eqZZ in
set_option maxRecDepth 100000 in
set_option maxHeartbeats 3200000 in
theorem walk (w : World) (lA : Option Addr) (lc : Nat) (l : List Bk) (lhm : l.length ≤ maxLen) (lhc : l.length ≤ lc) (lhw : WfL l) (lhl : CellsAt w w.heap.size lA (blockCells l)) (i : Nat × Nat) (hi1 : i.1 < 18446744073709551616) (hi2 : i.2 < 18446744073709551616) :
    Calls Try.prog 4 #[.slice lA l.length lc, .agg #[.int .u64 i.1, .int .u64 i.2]] w fun e w' => e = .returned (.bool true) ∧ Kept w w' := by
  by_cases h40 : l.length ≤ 40
  · have hl6 : l.length ≤ 1000000 := by omega
    by_cases hn : chainC l i = []
    · have XC := Lib.hid hn
      cases hm : mayB l with
      | false =>
        have XM := Lib.hid hm
        clear hm hn
        go_enter Try.func4, Try.ntmps4
        go_wp2_with fail
        have HK0 := Lib.hid ((Kept.refl w).alloc (.cells #[.int .u64 i.1, .int .u64 i.2] 25))
        have HA0 := Lib.hid (lhl.kept HK0.out)
        have HB0_0 := Lib.hid (HasCells.new w #[.int .u64 i.1, .int .u64 i.2] 25 (w.heap.size) (by simp))
        generalize (w.alloc (.cells #[.int .u64 i.1, .int .u64 i.2] 25)) = W0 at *
        generalize w.heap.size = z0 at *
        clear lhl
        refine (treeAwake W0).mono ?_
        rintro e W1 ⟨rfl, k⟩
        have HK1 := Lib.hid (HK0.out.trans k)
        have HA1 := Lib.hid (HA0.out.kept k)
        have HB0_1 := Lib.hid (HB0_0.out.kept k)
        clear k HK0 HA0 HB0_0
        obtain ⟨b00, b01⟩ := HB0_1.out.two
        have bz0 := HB0_1.out.1
        go_wp2_with fail
        clear b00 b01 bz0
        refine (chain_any lA lc l hl6 lhw i ⟨hi1, hi2⟩ W1 HA1.out).mono ?_
        rintro e W2 ⟨A', c', rfl, _, _, k⟩
        have HK2 := Lib.hid (HK1.out.trans k)
        have HA2 := Lib.hid (HA1.out.kept k)
        have HB0_2 := Lib.hid (HB0_1.out.kept k)
        clear k HK1 HA1 HB0_1
        rw [XC.out]
        obtain ⟨b00, b01⟩ := HB0_2.out.two
        have bz0 := HB0_2.out.1
        go_wp2_with fail
        clear b00 b01 bz0
        refine (may_any lA lc l hl6 lhw W2 HA2.out).mono ?_
        rintro e W3 ⟨rfl, k⟩
        have HK3 := Lib.hid (HK2.out.trans k)
        have HA3 := Lib.hid (HA2.out.kept k)
        have HB0_3 := Lib.hid (HB0_2.out.kept k)
        clear k HK2 HA2 HB0_2
        rw [XM.out]
        obtain ⟨b00, b01⟩ := HB0_3.out.two
        have bz0 := HB0_3.out.1
        go_wp2_with fail
        clear b00 b01 bz0
        go_ret
        exact ⟨by first | rfl | (simp; done), HK3.out⟩
      | true =>
        have hno := empty_no hm hn
        have XF := Lib.hid (none_find (fun _ => hno))
        have hz1 : isZ i = false := by
          cases q : isZ i with
          | false => rfl
          | true => rw [standsB_iff.2 (Or.inr (of_decide_eq_true q))] at hno; cases hno
        have XM := Lib.hid hm
        clear hm hn hno
        go_enter Try.func4, Try.ntmps4
        go_wp2_with fail
        have HK0 := Lib.hid ((Kept.refl w).alloc (.cells #[.int .u64 i.1, .int .u64 i.2] 25))
        have HA0 := Lib.hid (lhl.kept HK0.out)
        have HB0_0 := Lib.hid (HasCells.new w #[.int .u64 i.1, .int .u64 i.2] 25 (w.heap.size) (by simp))
        generalize (w.alloc (.cells #[.int .u64 i.1, .int .u64 i.2] 25)) = W0 at *
        generalize w.heap.size = z0 at *
        clear lhl
        refine (treeAwake W0).mono ?_
        rintro e W1 ⟨rfl, k⟩
        have HK1 := Lib.hid (HK0.out.trans k)
        have HA1 := Lib.hid (HA0.out.kept k)
        have HB0_1 := Lib.hid (HB0_0.out.kept k)
        clear k HK0 HA0 HB0_0
        obtain ⟨b00, b01⟩ := HB0_1.out.two
        have bz0 := HB0_1.out.1
        go_wp2_with fail
        clear b00 b01 bz0
        refine (chain_any lA lc l hl6 lhw i ⟨hi1, hi2⟩ W1 HA1.out).mono ?_
        rintro e W2 ⟨A', c', rfl, _, _, k⟩
        have HK2 := Lib.hid (HK1.out.trans k)
        have HA2 := Lib.hid (HA1.out.kept k)
        have HB0_2 := Lib.hid (HB0_1.out.kept k)
        clear k HK1 HA1 HB0_1
        rw [XC.out]
        obtain ⟨b00, b01⟩ := HB0_2.out.two
        have bz0 := HB0_2.out.1
        go_wp2_with fail
        clear b00 b01 bz0
        refine (may_any lA lc l hl6 lhw W2 HA2.out).mono ?_
        rintro e W3 ⟨rfl, k⟩
        have HK3 := Lib.hid (HK2.out.trans k)
        have HA3 := Lib.hid (HA2.out.kept k)
        have HB0_3 := Lib.hid (HB0_2.out.kept k)
        clear k HK2 HA2 HB0_2
        rw [XM.out]
        obtain ⟨b00, b01⟩ := HB0_3.out.two
        have bz0 := HB0_3.out.1
        go_wp2_with fail
        clear b00 b01 bz0
        refine (find_any lA lc l hl6 lhw i ⟨hi1, hi2⟩ W3 HA3.out).mono ?_
        rintro e W4 ⟨rfl, k⟩
        have HK4 := Lib.hid (HK3.out.trans k)
        have HA4 := Lib.hid (HA3.out.kept k)
        have HB0_4 := Lib.hid (HB0_3.out.kept k)
        clear k HK3 HA3 HB0_3
        rw [XF.out]
        obtain ⟨b00, b01⟩ := HB0_4.out.two
        have bz0 := HB0_4.out.1
        go_wp2_with fail
        clear b00 b01 bz0
        go_ret
        exact ⟨by first | rfl | (simp; done), HK4.out⟩
    · obtain ⟨hm, hs⟩ := full_yes hn
      have hpos : 0 < (chainC l i).length := List.length_pos_iff.2 hn
      have hcl := chainC_length l i
      refine main w lA lc l hl6 h40 lhw lhl i ⟨hi1, hi2⟩ (chainC l i) rfl (fun j hj => link_all hm hs j hj) ((chainC l i).length - 1) (by omega) (by omega) ?_ ?_ ?_
      · have e := chainC_yes hm hs
        obtain ⟨r, e2⟩ := chainB_head l i
        rw [e, e2]; rfl
      · have e3 : (chainC l i).getLast? = some zid := by rw [chainC_yes hm hs]; exact chain_zero hm _ rfl hs
        rw [List.getLast?_eq_getElem?] at e3
        exact e3
      · intro y hy
        rw [chainC_yes hm hs] at hy
        exact chain_wf lhw hm _ rfl hs ⟨hi1, hi2⟩ y hy
  · go_enter Try.func4, Try.ntmps4
    go_wp2_with fail
    have HK0 := Lib.hid ((Kept.refl w).alloc (.cells #[.int .u64 i.1, .int .u64 i.2] 25))
    have HA0 := Lib.hid (lhl.kept HK0.out)
    have HB0_0 := Lib.hid (HasCells.new w #[.int .u64 i.1, .int .u64 i.2] 25 (w.heap.size) (by simp))
    generalize (w.alloc (.cells #[.int .u64 i.1, .int .u64 i.2] 25)) = W0 at *
    generalize w.heap.size = z0 at *
    clear lhl
    refine (treeAwake W0).mono ?_
    rintro e W1 ⟨rfl, k⟩
    have HK1 := Lib.hid (HK0.out.trans k)
    have HA1 := Lib.hid (HA0.out.kept k)
    have HB0_1 := Lib.hid (HB0_0.out.kept k)
    clear k HK0 HA0 HB0_0
    obtain ⟨b00, b01⟩ := HB0_1.out.two
    have bz0 := HB0_1.out.1
    go_wp2_with fail
    clear b00 b01 bz0
    go_ret
    exact ⟨by first | rfl | (simp; done), HK1.out⟩

/-! ### The row's step -/
set_option maxRecDepth 100000 in
theorem lifted (os : Os) (started : os.Started) (H : Type) (enc : TypeId × Value → H) :
    ReturnsInHanded {} Try.checked os 4 .any (Rows.treeChainsSpec.pre6 enc Try.prog Try.f4 Rows.treeChainsRow.domain false) (Rows.treeChainsSpec.post enc Try.prog Try.f4 false true false false) := by
  refine returnsInHanded_of_change (C := Try.checked) own started (by kernel_rfl) Try.func4
    (ChangeSpec.witness6 (enc := enc) (C := Try.checked) false ⟨#[], #[.slice none 0 0, .agg #[.int .u64 0, .int .u64 0]], []⟩ 8 (by kernel_rfl) (by kernel_rfl) (by kernel_rfl) (by kernel_rfl)) ?_
  intro W base args ds gs before hval0 hW hcnd _
  have hval : ∀ (j : Nat) t v, Try.f4.params[j]? = some t → args[j]? = some v → Value.okWide Try.prog W .any base t v := hval0
  have hW' := hW
  obtain ⟨p, q, hA0, hV, rfl, hfz, hnd⟩ := hW
  have hA : DataW.TrodAll enc Try.prog W 0 (fun _ => true) true Try.f4.params.toList args.toList ds p := hA0
  rw [Try.params4] at hA hval
  obtain ⟨v0, vs0, d0, ds0, p0, q0, hargs, rfl, rfl, h0, r0⟩ := trodAll_cons hA
  obtain ⟨v1, vs1, d1, ds1, p1, q1, rfl, rfl, rfl, h1, r1⟩ := trodAll_cons r0
  obtain ⟨rfl, rfl, rfl⟩ := trodAll_nil r1
  obtain rfl : args = #[v0, v1] := by cases args; simp_all
  obtain ⟨rfl, rfl⟩ := trodVars_none hV
  obtain ⟨lA, lc, l, rfl, lhm, lhc, lhw, lhl⟩ := open_blocks (hval 0 _ v0 rfl rfl) h0
  obtain ⟨i, rfl, hi1, hi2⟩ := open_id (hval 1 _ v1 rfl rfl) h1
  clear hA0 hval0
  refine (walk W lA lc l lhm lhc lhw lhl i hi1 hi2).mono fun e W' ⟨he, hb⟩ => ?_
  subst he
  exact ⟨_, rfl, law_post rfl (by kernel_rfl) rfl hW' rfl hb⟩

theorem over : Rows.treeChainsRow.holds Try.pinned (OpenSpec.ofChange Rows.treeChainsSpec) :=
  OpenClaim.holds_of_wide 4 Try.f4 rfl rfl rfl rfl rfl rfl rfl ⟨rfl, rfl, rfl, rfl, rfl⟩ rfl rfl rfl rfl rfl (by kernel_rfl) Try.func4 (by kernel_rfl)
    (of_decide_eq_true (by kernel_rfl)) (by unfold Func.isWrapper; first | (rw [if_pos (by decide +kernel)]; kernel_rfl) | (rw [if_neg (by decide +kernel)]; exact ⟨rfl, rfl⟩))
    (fun os started H enc _ => lifted os started H enc)

/-- The statement. -/
theorem proved : Rows.TreeChainsSaid :=
  over
#print axioms proved
end Go.Proofs.Ytepgbnojbomicaa.treeChains
