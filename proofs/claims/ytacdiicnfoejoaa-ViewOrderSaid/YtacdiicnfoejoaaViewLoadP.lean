/-
  The contracts of package view's calls load and May.
-/
import Derived.Deep.Cut
import Derived.Test.YtacdiicnfoejoaaViewRound
import Derived.Test.YtacdiicnfoejoaaViewOnlyP
import Derived.Test.YtacdiicnfoejoaaGround
namespace Go.Proofs.Ytacdiicnfoejoaa
set_option maxRecDepth 100000
set_option linter.unusedVariables false
set_option linter.unusedSimpArgs false
set_option linter.unusedSimpArgs false
set_option linter.unusedVariables false
open Go.ChangeShapes Go.WideShapes Go.ChangeAt Go.RowKit

/-- What load ends in: a tally that has counted what it can of the view, and whether that is all. -/
def LoadGot (k : Cf) (x : Vw) (w : World) (e : Ending) (w' : World) : Prop := ∃ z A c B d M n C m, e = .returned (.tuple #[.pointer (some ⟨z, 0, none⟩), .bool (mayW k x)]) ∧ n ≤ (loadT k x).w.b.length + 1 ∧ m ≤ (loadT k x).w.v.length ∧
  TalAt w z 1048576 (loadT k x).w.b (loadT k x).w.v (loadT k x).full (slotsF (loadT k x).w.b) (standsB (loadT k x).w.b) (loadT k x).w.v A c B d M n C m w'
theorem load_caps (k : Cf) (w : Vw) : (loadT k w).w.b.length ≤ 60 ∧ (loadT k w).w.v.length ≤ 240 := ⟨pass_cap _ _ (by simp), pass_cap _ _ (by simp)⟩
theorem load_beq (k : Cf) (x : Vw) : ((((loadT k x).w.b.length + (loadT k x).w.v.length : Nat) : Int) == (x.b.length : Int) + (x.v.length : Int)) = mayW k x := by
  cases h : mayW k x with
  | true =>
    have := load_may h
    rw [beq_iff_eq]
    omega
  | false =>
    rw [beq_eq_false_iff_ne]
    intro e
    have := (load_all (k := k) (w := x) (by omega)).1
    rw [h] at this; cases this
theorem tal_made {W w w1 : World} {M C z : Nat} (hz : z = w1.heap.size) (kW : Kept W w) (hM : OwnH idKey intV M 1 (slotsF []) (standsB []) w1) (hC : SetK vtKey C 0 [] w1) (hne : M ≠ C) (gM : W.heap.size ≤ M) (gC : W.heap.size ≤ C) (k1 : Kept W w1) :
    TalAt W z 1048576 [] [] false (slotsF []) (standsB []) [] .none 0 .none 0 M 1 C 0 (w1.alloc (.cells #[.int .i64 1048576, .slice .none 0 0, .slice .none 0 0, .map (some M), .map (some C), .bool false] 64)) := by
  subst hz
  have ka := (Kept.refl w1).alloc (.cells #[.int .i64 1048576, .slice .none 0 0, .slice .none 0 0, .map (some M), .map (some C), .bool false] 64)
  exact ⟨AtB.new _ _ _, Bks.zero (k1.trans ka), Vts.none (k1.trans ka), hM.kept ka, hC.kept ka, k1.size_le, gM, gC, hne⟩
set_option maxRecDepth 100000 in
set_option maxHeartbeats 3200000 in
theorem load_any (kA : Option Addr) (kc : Nat) (k : Cf) (lA : Option Addr) (lc : Nat) (l : List Bk) (vA : Option Addr) (vc : Nat) (v : List Vt) (w : World) (hk : k.ws.length ≤ 1000) (hsd : k.seed < 18446744073709551616) (hl : l.length ≤ 10000) (hv : v.length ≤ 10000) (hwl : WfL l) (hwv : WfVs v) (hA : CellsAt w w.heap.size kA (intCells k.ws)) (hL : CellsAt w w.heap.size lA (blockCells l)) (hV : CellsAt w w.heap.size vA (votesCells v)) :
    Calls Try.prog 27 #[.agg #[.slice kA k.ws.length kc, .int .u64 k.seed, .int .i64 k.ep, .int .i64 k.nu, .int .i64 k.de], .agg #[.slice lA l.length lc, .slice vA v.length vc]] w (LoadGot k ⟨l, v⟩ w) := by
  have ka := ((Kept.refl w).alloc (.cells #[.slice kA k.ws.length kc, .int .u64 k.seed, .int .i64 k.ep, .int .i64 k.nu, .int .i64 k.de] 25)).alloc (.cells #[.slice lA l.length lc, .slice vA v.length vc] 29)
  have K0 := Lib.hid ka
  have HA := Lib.hid (hA.kept ka)
  have HL := Lib.hid (hL.kept ka)
  have HV := Lib.hid (hV.kept ka)
  have HB0 := Lib.hid ((HasCells.new w #[.slice kA k.ws.length kc, .int .u64 k.seed, .int .i64 k.ep, .int .i64 k.nu, .int .i64 k.de] 25 (w.heap.size) rfl).alloc (.cells #[.slice lA l.length lc, .slice vA v.length vc] 29))
  have HB1 := Lib.hid (HasCells.new (w.alloc (.cells #[.slice kA k.ws.length kc, .int .u64 k.seed, .int .i64 k.ep, .int .i64 k.nu, .int .i64 k.de] 25)) #[.slice lA l.length lc, .slice vA v.length vc] 29 (w.heap.size + 1) (by simp))
  have HWl := Lib.hid hwl
  have HWv := Lib.hid hwv
  have HBq := Lib.hid (load_beq k ⟨l, v⟩)
  have HLn := Lib.hid (load_len k ⟨l, v⟩)
  clear hA hL hV ka hwl hwv
  go_enter Try.func27, Try.ntmps27
  go_upto_region 1 with (fail)
  generalize (w.alloc (.cells #[.slice kA k.ws.length kc, .int .u64 k.seed, .int .i64 k.ep, .int .i64 k.nu, .int .i64 k.de] 25)).alloc (.cells #[.slice lA l.length lc, .slice vA v.length vc] 29) = W0 at *
  generalize w.heap.size + 1 = z1 at *
  generalize w.heap.size = z0 at *
  have hmm := @run_makeMap Try.prog
  have hM0 := (OwnH.made (K := idKey) (V := intV) W0)
  obtain ⟨W1, hrun0, hM1, g1⟩ := hM0.update (t := 61) Try.underlying61 (by unfold maxLen; omega) WfI.zid (y := (0 : Int)) trivial
  have hrun : (Instr.mapUpdate 61 (.map (some W0.heap.size)) (.agg #[.int .u64 0, .int .u64 0]) (.int .i64 0)).run Try.prog (W0.alloc (.map #[] 0)) = .ok () W1 := hrun0
  have k1 : Kept W0 W1 := ((Kept.refl W0).alloc _).grown g1 (fun i hi => by injection hi with hi; exact Nat.le_of_eq hi)
  have hM2 : OwnH idKey intV W0.heap.size 1 (slotsF []) (standsB []) W1 := hM1.congr (fun x _ => by rw [slotsF_nil]; unfold setF; split <;> rfl) (fun x _ => by rw [standsB_nil]; unfold setF; by_cases e : x = zid <;> simp [e])
  have hC2 := SetK.made vtKey W1
  have k2 := k1.alloc (.map #[] 0)
  have hT := Lib.hid (tal_made (z := W1.heap.size + 1) (by simp) K0.out (hM2.kept ((Kept.refl W1).alloc (.map #[] 0))) hC2 (by have := hM2.f.lt; omega) (Nat.le_trans K0.out.size_le (Nat.le_refl _)) (Nat.le_trans K0.out.size_le k1.size_le) (K0.out.trans k2))
  have K2 := Lib.hid (k2.alloc (.cells #[.int .i64 1048576, .slice .none 0 0, .slice .none 0 0, .map (some W0.heap.size), .map (some W1.heap.size), .bool false] 64))
  have HGe := Lib.hid (show z1 ≠ W0.heap.size ∧ z1 ≠ W1.heap.size ∧ z1 ≠ W1.heap.size + 1 from by have h1 := HB1.out.1; have h2 := k1.size_le; exact ⟨by omega, by omega, by omega⟩)
  clear hM0 hrun0 hM1 g1 k1 hM2 hC2 k2
  obtain ⟨d0, d1, d2, d3, d4⟩ := (HB0.out.kept K2.out).five
  have dz := (HB0.out.kept K2.out).1
  obtain ⟨v0, v1⟩ := (HB1.out.kept K2.out).two
  have vz := (HB1.out.kept K2.out).1
  go_wp2_with fail
  clear hmm hrun d0 d1 d2 d3 d4 dz v0 v1 vz
  replace HA := Lib.hid (HA.out.kept K2.out)
  replace HL := Lib.hid (HL.out.kept K2.out)
  replace HV := Lib.hid (HV.out.kept K2.out)
  generalize W0.heap.size = M at *
  generalize W1.heap.size + 1 = z at *
  generalize W1.heap.size = C at *
  generalize (W1.alloc (.map #[] 0)).alloc (.cells #[.int .i64 1048576, .slice .none 0 0, .slice .none 0 0, .map (some M), .map (some C), .bool false] 64) = W2 at *
  refine (viewOnlyN_any kA kc k lA lc l vA vc v W2 hk hsd hl hv HWl.out HWv.out HA.out HL.out HV.out).mono ?_
  rintro e W3 ⟨I, i, J, j, rfl, hI, hJ⟩
  have HT3 := Lib.hid (hT.out.kept hI.2)
  have K3 := Lib.hid (K2.out.trans hI.2)
  have hlt : ∀ x, talS z M C .none .none x → x < W2.heap.size := hT.out.lt
  have hnI : ∀ ad, I = some ad → ¬ talS z M C .none .none ad.block := fun ad e q => by
    have := (hI.1.lt ad.block (by rw [e]; rfl)).1
    have := hlt _ q; omega
  have hnJ : ∀ ad, J = some ad → ¬ talS z M C .none .none ad.block := fun ad e q => by
    have := (hJ.1.lt ad.block (by rw [e]; rfl)).1
    have := hlt _ q; omega
  have HR := Lib.hid (tallyRound_any w z 1048576 [] [] false .none 0 .none 0 M 1 C 0 I i (l.filter (blockC k)) J j (v.filter (voteC k)) W3 HT3.out (Nat.le_refl _) (Nat.le_refl _) (CellsAt.of_own hI.1) (CellsAt.of_own hJ.1) (fun _ => hnI) (fun _ => hnJ)
    (fun y hy => by
      obtain ⟨h1, h2⟩ := List.mem_filter.1 hy
      obtain ⟨_, g1, _, _, g4⟩ := blockC_yes h2
      exact ⟨HWl.out y h1, g1, g4⟩)
    (fun y hy => by
      obtain ⟨h1, h2⟩ := List.mem_filter.1 hy
      exact ⟨HWv.out y h1, (voteC_yes h2).1⟩)
    (Nat.le_trans (List.length_filter_le _ _) hl) (Nat.le_trans (List.length_filter_le _ _) hv) (fun x hx => by cases hx) (by simp) (by simp))
  clear hI hJ hlt hnI hnJ hT
  go_wp2_with fail
  refine HR.out.mono ?_
  rintro e W4 ⟨A, c, B, d, n, m, I2, i2, J2, j2, rfl, hn, hm, hT4, hI2, hJ2, _, _, hO, _⟩
  clear HR
  change n ≤ (loadT k ⟨l, v⟩).w.b.length + 1 at hn
  change m ≤ (loadT k ⟨l, v⟩).w.v.length at hm
  have HT4 := Lib.hid (show TalAt w z 1048576 (loadT k ⟨l, v⟩).w.b (loadT k ⟨l, v⟩).w.v (loadT k ⟨l, v⟩).full (slotsF (loadT k ⟨l, v⟩).w.b) (standsB (loadT k ⟨l, v⟩).w.b) (loadT k ⟨l, v⟩).w.v A c B d M n C m W4 from hT4)
  have HB14 := Lib.hid ((HB1.out.kept K3.out).off (S := talS z M C .none .none) (fun q => by
    rcases q with q | q | q | ⟨ad, q, _⟩ | ⟨ad, q, _⟩
    · exact HGe.out.2.2 q
    · exact HGe.out.1 q
    · exact HGe.out.2.1 q
    · cases q
    · cases q) hO)
  have HC := Lib.hid (load_caps k ⟨l, v⟩)
  obtain ⟨X, hX⟩ : ∃ X : Int, X = (((loadT k ⟨l, v⟩).w.b.length + (loadT k ⟨l, v⟩).w.v.length : Nat) : Int) := ⟨_, rfl⟩
  obtain ⟨g, hg⟩ : ∃ g, g = mayW k ⟨l, v⟩ := ⟨_, rfl⟩
  have HSz := Lib.hid (show ∀ V, Kept W4 V → Calls Try.prog 29 #[.pointer (some ⟨z, 0, none⟩)] V fun e w' => e = .returned (.int .i64 X) ∧ Kept V w' from fun V q => by
    rw [hX]
    exact tallySize_any w z 1048576 _ _ _ A c B d M n C m V HC.out.1 HC.out.2 (HT4.out.kept q))
  rw [← hX, ← hg] at HBq
  have HG := Lib.hid hg
  have hbq : (X == (l.length : Int) + (v.length : Int)) = g := HBq.out
  have hw1 : IntKind.i64.wrap ((l.length : Int) + (v.length : Int)) = (l.length : Int) + (v.length : Int) := by rw [IntKind.wrap_i64]; omega
  have HN := Lib.hid hn
  have HM := Lib.hid hm
  clear hX hg hT4 hI2 hJ2 hO HBq hn hm
  obtain ⟨v0, v1⟩ := HB14.out.two
  have vz := HB14.out.1
  go_wp2_with fail
  refine wp_region_noPanic ?_
  refine wp_region_held_drew (S := (fun w' => w'.cell? ⟨z1, 0, none⟩ = some (.slice lA l.length lc) ∧ w'.cell? ⟨z1, 1, none⟩ = some (.slice vA v.length vc) ∧ Kept W4 w')) (by kernel_rfl) ?_ (fun hHeld => ?_)
  · exact ⟨v0, v1, (Kept.refl _).drew⟩
  refine wpAnyH_take (i := 0) (v := ?_) (by simp only [List.getElem?_toArray, List.getElem?_cons_succ, List.getElem?_cons_zero]; rfl) (by kernel_rfl) (by kernel_rfl) (by kernel_rfl) (fun _ _ _ h => h) (Or.inl ⟨by rfl, ?_⟩) (by assumption) ?_
  rotate_left
  · intro w hSw
    (try dsimp only at hSw)
    go_simp
    (try with_reducible rfl)
  simp only [Act.put, List.setIfInBounds_toArray, List.set_cons_zero, List.set_cons_succ]
  refine wpAnyH_take (i := 1) (v := ?_) (by simp only [List.getElem?_toArray, List.getElem?_cons_succ, List.getElem?_cons_zero]; rfl) (by kernel_rfl) (by kernel_rfl) (by kernel_rfl) (fun _ _ _ h => h) (Or.inl ⟨by rfl, ?_⟩) (by assumption) ?_
  rotate_left
  · intro w hSw
    (try dsimp only at hSw)
    go_simp
    (try with_reducible rfl)
  simp only [Act.put, List.setIfInBounds_toArray, List.set_cons_zero, List.set_cons_succ]
  refine wpAnyH_take (i := 3) (v := ?_) (by simp only [List.getElem?_toArray, List.getElem?_cons_succ, List.getElem?_cons_zero]; rfl) (by kernel_rfl) (by kernel_rfl) (by kernel_rfl) (fun _ _ _ h => h) (Or.inl ⟨by rfl, ?_⟩) (by assumption) ?_
  rotate_left
  · intro w hSw
    (try dsimp only at hSw)
    go_simp
    (try with_reducible rfl)
  simp only [Act.put, List.setIfInBounds_toArray, List.set_cons_zero, List.set_cons_succ]
  refine wpAnyH_take (i := 4) (v := ?_) (by simp only [List.getElem?_toArray, List.getElem?_cons_succ, List.getElem?_cons_zero]; rfl) (by kernel_rfl) (by kernel_rfl) (by kernel_rfl) (fun _ _ _ h => h) (Or.inl ⟨by rfl, ?_⟩) (by assumption) ?_
  rotate_left
  · intro w hSw
    (try dsimp only at hSw)
    go_simp
    (try with_reducible rfl)
  simp only [Act.put, List.setIfInBounds_toArray, List.set_cons_zero, List.set_cons_succ]
  refine wpAnyH_take (i := 5) (v := ?_) (by simp only [List.getElem?_toArray, List.getElem?_cons_succ, List.getElem?_cons_zero]; rfl) (by kernel_rfl) (by kernel_rfl) (by kernel_rfl) (fun _ _ _ h => h) (Or.inl ⟨by rfl, ?_⟩) (by assumption) ?_
  rotate_left
  · intro w hSw
    (try dsimp only at hSw)
    go_simp
    (try with_reducible rfl)
  simp only [Act.put, List.setIfInBounds_toArray, List.set_cons_zero, List.set_cons_succ]
  refine wpAnyH_take (i := 6) (v := ?_) (by simp only [List.getElem?_toArray, List.getElem?_cons_succ, List.getElem?_cons_zero]; rfl) (by kernel_rfl) (by kernel_rfl) (by kernel_rfl) (fun _ _ _ h => h) (Or.inl ⟨by rfl, ?_⟩) (by assumption) ?_
  rotate_left
  · intro w hSw
    (try dsimp only at hSw)
    go_simp
    (try with_reducible rfl)
  simp only [Act.put, List.setIfInBounds_toArray, List.set_cons_zero, List.set_cons_succ]
  refine wpAnyH_take (i := 7) (v := ?_) (by simp only [List.getElem?_toArray, List.getElem?_cons_succ, List.getElem?_cons_zero]; rfl) (by kernel_rfl) (by kernel_rfl) (by kernel_rfl) (fun _ _ _ h => h) (Or.inl ⟨by rfl, ?_⟩) (by assumption) ?_
  rotate_left
  · intro w hSw
    (try dsimp only at hSw)
    go_simp
    (try with_reducible rfl)
  simp only [Act.put, List.setIfInBounds_toArray, List.set_cons_zero, List.set_cons_succ]
  refine wpAnyH_take (i := 8) (v := ?_) (by simp only [List.getElem?_toArray, List.getElem?_cons_succ, List.getElem?_cons_zero]; rfl) (by kernel_rfl) (by kernel_rfl) (by kernel_rfl) (fun _ _ _ h => h) (Or.inl ⟨by rfl, ?_⟩) (by assumption) ?_
  rotate_left
  · intro w hSw
    (try dsimp only at hSw)
    go_simp
    (try with_reducible rfl)
  simp only [Act.put, List.setIfInBounds_toArray, List.set_cons_zero, List.set_cons_succ]
  refine wpAnyH_take (i := 9) (v := ?_) (by simp only [List.getElem?_toArray, List.getElem?_cons_succ, List.getElem?_cons_zero]; rfl) (by kernel_rfl) (by kernel_rfl) (by kernel_rfl) (fun _ _ _ h => h) (Or.inl ⟨by rfl, ?_⟩) (by assumption) ?_
  rotate_left
  · intro w hSw
    (try dsimp only at hSw)
    go_simp
    (try with_reducible rfl)
  simp only [Act.put, List.setIfInBounds_toArray, List.set_cons_zero, List.set_cons_succ]
  try simp only [hw1]
  refine wpAnyH_ready (rs := [2]) (by kernel_rfl) (by simp) ?_
  refine AllReadyH.cons (by simp only [List.getElem?_toArray, List.getElem?_cons_succ, List.getElem?_cons_zero]; rfl) (fun K hK => ?_) AllReadyH.nil
  go_simp
  go_at_call 29; refine (HSz.out _ hHeld.2.2).mono ?_
  rintro e w' ⟨rfl, kk⟩
  try go_wp2_with fail
  refine hK.out _ _ ?_ (fun hHeld2 => ?_)
  · exact keepP2 vz vz hHeld kk
  clear hK K hHeld
  have hHeld := hHeld2
  clear hHeld2
  try simp only [Act.put, List.setIfInBounds_toArray, List.set_cons_zero, List.set_cons_succ]
  refine wpAnyH_take (i := 10) (v := ?_) (by simp only [List.getElem?_toArray, List.getElem?_cons_succ, List.getElem?_cons_zero]; rfl) (by kernel_rfl) (by kernel_rfl) (by kernel_rfl) (fun _ _ _ h => h) (Or.inl ⟨by rfl, ?_⟩) (by assumption) ?_
  rotate_left
  · intro w hSw
    (try dsimp only at hSw)
    go_simp
    (try with_reducible rfl)
  simp only [Act.put, List.setIfInBounds_toArray, List.set_cons_zero, List.set_cons_succ]
  try simp only [hbq]
  refine wpAnyH_take (i := 11) (v := ?_) (by simp only [List.getElem?_toArray, List.getElem?_cons_succ, List.getElem?_cons_zero]; rfl) (by kernel_rfl) (by kernel_rfl) (by kernel_rfl) (fun _ _ _ h => h) (Or.inl ⟨by rfl, ?_⟩) (by assumption) ?_
  rotate_left
  · intro w hSw
    (try dsimp only at hSw)
    go_simp
    (try with_reducible rfl)
  simp only [Act.put, List.setIfInBounds_toArray, List.set_cons_zero, List.set_cons_succ]
  refine wpAnyH_take (i := 12) (v := ?_) (by simp only [List.getElem?_toArray, List.getElem?_cons_succ, List.getElem?_cons_zero]; rfl) (by kernel_rfl) (by kernel_rfl) (by kernel_rfl) (fun _ _ _ h => h) (Or.inl ⟨by rfl, ?_⟩) (by assumption) ?_
  rotate_left
  · intro w hSw
    (try dsimp only at hSw)
    go_simp
    (try with_reducible rfl)
  simp only [Act.put, List.setIfInBounds_toArray, List.set_cons_zero, List.set_cons_succ]
  refine wpAnyH_done (by kernel_rfl) ?_ _
  refine NoPanic.normal ?_
  have kk := hHeld.2.2
  clear hHeld v0 v1 vz hbq hw1
  go_wp2_with fail
  go_ret2
  exact ⟨z, A, c, B, d, M, n, C, m, by rw [HG.out]; rfl, HN.out, HM.out, HT4.out.kept kk⟩
set_option maxRecDepth 100000 in
set_option maxHeartbeats 3200000 in
theorem viewMayN_any (kA : Option Addr) (kc : Nat) (k : Cf) (lA : Option Addr) (lc : Nat) (l : List Bk) (vA : Option Addr) (vc : Nat) (v : List Vt) (w : World) (hk : k.ws.length ≤ 1000) (hsd : k.seed < 18446744073709551616) (hl : l.length ≤ 10000) (hv : v.length ≤ 10000) (hwl : WfL l) (hwv : WfVs v) (hA : CellsAt w w.heap.size kA (intCells k.ws)) (hL : CellsAt w w.heap.size lA (blockCells l)) (hV : CellsAt w w.heap.size vA (votesCells v)) :
    Calls Try.prog 12 #[.agg #[.slice kA k.ws.length kc, .int .u64 k.seed, .int .i64 k.ep, .int .i64 k.nu, .int .i64 k.de], .agg #[.slice lA l.length lc, .slice vA v.length vc]] w fun e w' => e = .returned (.bool (mayW k ⟨l, v⟩)) ∧ Kept w w' := by
  have ka := ((Kept.refl w).alloc (.cells #[.slice kA k.ws.length kc, .int .u64 k.seed, .int .i64 k.ep, .int .i64 k.nu, .int .i64 k.de] 25)).alloc (.cells #[.slice lA l.length lc, .slice vA v.length vc] 29)
  have K0 := Lib.hid ka
  have HLd := Lib.hid (load_any kA kc k lA lc l vA vc v _ hk hsd hl hv hwl hwv (hA.kept ka) (hL.kept ka) (hV.kept ka))
  have HB0 := Lib.hid ((HasCells.new w #[.slice kA k.ws.length kc, .int .u64 k.seed, .int .i64 k.ep, .int .i64 k.nu, .int .i64 k.de] 25 (w.heap.size) rfl).alloc (.cells #[.slice lA l.length lc, .slice vA v.length vc] 29))
  have HB1 := Lib.hid (HasCells.new (w.alloc (.cells #[.slice kA k.ws.length kc, .int .u64 k.seed, .int .i64 k.ep, .int .i64 k.nu, .int .i64 k.de] 25)) #[.slice lA l.length lc, .slice vA v.length vc] 29 (w.heap.size + 1) (by simp))
  clear hA hL hV ka hwl hwv
  go_enter Try.func12, Try.ntmps12
  go_wp2_with fail
  generalize (w.alloc (.cells #[.slice kA k.ws.length kc, .int .u64 k.seed, .int .i64 k.ep, .int .i64 k.nu, .int .i64 k.de] 25)).alloc (.cells #[.slice lA l.length lc, .slice vA v.length vc] 29) = W0 at *
  generalize w.heap.size + 1 = z1 at *
  generalize w.heap.size = z0 at *
  obtain ⟨d0, d1, d2, d3, d4⟩ := HB0.out.five
  have dz := HB0.out.1
  obtain ⟨v0, v1⟩ := HB1.out.two
  have vz := HB1.out.1
  go_wp2_with fail
  clear d0 d1 d2 d3 d4 dz v0 v1 vz
  refine HLd.out.mono ?_
  rintro e W1 ⟨z, A, c, B, d, M, n, C, m, rfl, _, _, hT⟩
  have HK := Lib.hid (K0.out.trans hT.wb.2)
  clear hT
  obtain ⟨g, hg⟩ : ∃ g, g = mayW k ⟨l, v⟩ := ⟨_, rfl⟩
  have HG := Lib.hid hg
  rw [← hg]
  clear hg
  go_wp2_with fail
  go_ret
  exact ⟨by rw [HG.out]; rfl, HK.out⟩

end Go.Proofs.Ytacdiicnfoejoaa
