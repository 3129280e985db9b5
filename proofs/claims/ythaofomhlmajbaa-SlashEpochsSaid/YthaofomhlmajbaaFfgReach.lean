/-
  The contract of ffg's reachesOf: the numbers of all blocks.
-/
import Derived.Test.YthaofomhlmajbaaFfgSizes
import Derived.Test.YthaofomhlmajbaaFfgUnder
namespace Go.Proofs.Ythaofomhlmajbaa
set_option maxRecDepth 100000
set_option linter.unusedVariables false
set_option linter.unusedSimpArgs false
set_option linter.unusedSimpArgs false
set_option linter.unusedVariables false
open Go.ChangeShapes Go.WideShapes Go.ChangeAt Go.RowKit

theorem sizesOf_S {L : List Bk} (hm : mayB L = true) (hl : L.length ≤ 1000000) (hwl : WfL L) : ∃ S, SizesB L S ∧ ∀ (A : Option Addr) (c : Nat) (w : World), CellsAt w w.heap.size A (blockCells L) →
    Calls Try.prog 47 #[.slice A L.length c] w fun e w' => ∃ b m : Nat, e = .returned (.map (some b)) ∧ m ≤ 2 * L.length + 1 ∧ OwnF idKey intV b m (fun x => (S x : Int)) w' ∧ Kept w w' := by
  obtain ⟨S, I, hf⟩ := sizeI_fold hm hl L [] rfl
  refine ⟨S, I.done hm, fun A c w hA => ?_⟩
  refine (sizesN_any nameB (fun b _ => nameB_lt b) (fun b hb w => name_any b hb w) A c L hl hwl w hA).mono ?_
  rintro e w' ⟨b, m, rfl, h1, h2, h3⟩
  rw [hf] at h2
  exact ⟨b, m, rfl, h1, h2, h3⟩
/-- What a block turns: what is free, and the numbers. -/
def reaS (N : Bk → Id2) (S : Id2 → Nat) (s : (Id2 → Nat) × (Id2 → Option (Nat × Nat))) (b : Bk) : (Id2 → Nat) × (Id2 → Option (Nat × Nat)) :=
  (setN (setN s.1 (N b) (s.1 b.p + 1)) b.p (s.1 b.p + S (N b)), setO s.2 (N b) (s.1 b.p, s.1 b.p + S (N b)))
def reaS0 (S : Id2 → Nat) : (Id2 → Nat) × (Id2 → Option (Nat × Nat)) := (setN (fun _ => 0) zid 1, setO (fun _ => none) zid (0, S zid))
def reaAt (N : Bk → Id2) (S : Id2 → Nat) (L : List Bk) (j : Nat) : (Id2 → Nat) × (Id2 → Option (Nat × Nat)) := (L.take j).foldl (reaS N S) (reaS0 S)
theorem reaAt_zero (N : Bk → Id2) (S : Id2 → Nat) (L : List Bk) : reaAt N S L 0 = reaS0 S := rfl
theorem reaAt_succ (N : Bk → Id2) (S : Id2 → Nat) {L : List Bk} {j : Nat} (h : j < L.length) : reaAt N S L (j + 1) = reaS N S (reaAt N S L j) L[j] := by
  unfold reaAt
  rw [List.take_succ_eq_append_getElem h, List.foldl_append]
  rfl
/-- The three maps. -/
def ReaW (w : World) (S : Id2 → Nat) (bs ms ba bf j : Nat) (s : (Id2 → Nat) × (Id2 → Option (Nat × Nat))) (U : World) : Prop :=
  Kept w U ∧ OwnF idKey intV bs ms (fun x => (S x : Int)) U ∧ (∃ m, m ≤ j + 1 ∧ ReachM ba m s.2 U) ∧ (∃ m, m ≤ 2 * j + 1 ∧ OwnF idKey intV bf m (fun x => (s.1 x : Int)) U) ∧ bs ≠ ba ∧ bs ≠ bf ∧ ba ≠ bf ∧ w.heap.size ≤ ba ∧ w.heap.size ≤ bf
theorem ReaW.kept {w : World} {S : Id2 → Nat} {bs ms ba bf j : Nat} {s : (Id2 → Nat) × (Id2 → Option (Nat × Nat))} {U U' : World} (h : ReaW w S bs ms ba bf j s U) (k : Kept U U') : ReaW w S bs ms ba bf j s U' := by
  obtain ⟨h1, h2, ⟨m, hm, h3⟩, ⟨n, hn, h4⟩, h5⟩ := h
  exact ⟨h1.trans k, h2.kept k, ⟨m, hm, h3.kept k⟩, ⟨n, hn, h4.kept k⟩, h5⟩
theorem setN_int (F : Id2 → Nat) (x : Id2) (n : Nat) : (fun y => ((setN F x n y : Nat) : Int)) = setF (fun y => (F y : Int)) x (n : Int) := by
  funext y
  unfold setN setF
  split <;> rfl
theorem setO_dat (g : Id2 → Option (Nat × Nat)) (x : Id2) (v : Nat × Nat) : (fun y => (setO g x v y).getD (0, 0)) = setF (fun y => (g y).getD (0, 0)) x v := by
  funext y
  unfold setO setF
  split <;> rfl
theorem setO_has (g : Id2 → Option (Nat × Nat)) (x : Id2) (v : Nat × Nat) : (fun y => (setO g x v y).isSome) = setF (fun y => (g y).isSome) x true := by
  funext y
  unfold setO setF
  split <;> rfl
/-- 'all[x] = v'. -/
theorem ReachM.put {b m : Nat} {g : Id2 → Option (Nat × Nat)} {w : World} (h : ReachM b m g w) (hm : m < maxLen) {x : Id2} (hx : WfI x) (v : Nat × Nat) :
    ∃ w', (Instr.mapUpdate 71 (.map (some b)) (.agg #[.int .u64 x.1, .int .u64 x.2]) (.agg #[.int .i64 (v.1 : Int), .int .i64 (v.2 : Int)])).run Try.prog w = .ok () w' ∧ ReachM b (m + 1) (setO g x v) w' ∧ w.grownBy w' (some b) := by
  obtain ⟨w', hrun, h1, h2⟩ := OwnH.update (K := idKey) (V := reachV) (t := 71) Try.underlying71 h hm hx (y := v) trivial
  refine ⟨w', hrun, ?_, h2⟩
  unfold ReachM
  rw [setO_dat, setO_has]
  exact h1
/-- 'free[x] = n'. -/
theorem free_put {b m : Nat} {F : Id2 → Nat} {w : World} (h : OwnF idKey intV b m (fun x => (F x : Int)) w) (hm : m < maxLen) {x : Id2} (hx : WfI x) (n : Nat) :
    ∃ w', (Instr.mapUpdate 92 (.map (some b)) (.agg #[.int .u64 x.1, .int .u64 x.2]) (.int .i64 (n : Int))).run Try.prog w = .ok () w' ∧ OwnF idKey intV b (m + 1) (fun y => ((setN F x n y : Nat) : Int)) w' ∧ w.grownBy w' (some b) := by
  obtain ⟨w', hrun, h1, h2⟩ := OwnF.update (K := idKey) (V := intV) (t := 92) Try.underlying92 h hm hx (y := (n : Int)) trivial
  refine ⟨w', hrun, ?_, h2⟩
  rw [setN_int]
  exact h1
theorem int_look {b m : Nat} {F : Id2 → Nat} {w : World} (h : OwnF idKey intV b m (fun x => (F x : Int)) w) {x : Id2} (hx : WfI x) :
    (Instr.lookup 92 (.map (some b)) (.agg #[.int .u64 x.1, .int .u64 x.2]) false).run Try.prog w = .ok (.int .i64 (F x : Int)) w := OwnF.look (K := idKey) (V := intV) (t := 92) Try.underlying92 h hx
theorem other_map {α β : Type} {K : KeyKind α} {V : ValKind β} {b m c : Nat} {f : α → β} {w w' : World} (h : OwnF K V b m f w) (g : w.grownBy w' (some c)) (hne : b ≠ c) : OwnF K V b m f w' := h.at (g.block b h.lt (fun e => hne (by injection e)))
theorem other_mapH {α β : Type} {K : KeyKind α} {V : ValKind β} {b m c : Nat} {f : α → β} {k : α → Bool} {w w' : World} (h : OwnH K V b m f k w) (g : w.grownBy w' (some c)) (hne : b ≠ c) : OwnH K V b m f k w' := h.at (g.block b h.f.lt (fun e => hne (by injection e)))
theorem cells_set2 {w : World} {b : Nat} {a c : Value} (h : HasCells w b [a, c]) (u v : Value) : HasCells ((w.setCell ⟨b, 0, none⟩ u).setCell ⟨b, 1, none⟩ v) b [u, v] := by
  refine ⟨by simpa using h.1, fun j x hx => ?_⟩
  match j, hx with
  | 0, hx =>
    rw [World.cell?_setCell_other _ _ _ _ (by simp)]
    injection hx with hx
    rw [← hx]
    exact World.cell?_setCell_same _ _ _ h.at0
  | 1, hx =>
    injection hx with hx
    rw [← hx]
    exact World.cell?_setCell_same _ _ _ ((World.cell?_setCell_other _ _ _ _ (by simp)).trans h.at1)
  | j + 2, hx => simp at hx
theorem run_reachF0 (a b : Int) (w : World) : (Instr.field 95 (.agg #[.int .i64 a, .int .i64 b]) 0).run Try.prog w = .ok (.int .i64 a) w := by
  simp [Instr.field, run_underlying Try.underlying95, part, asAgg, Try.isAgg3, Result.andThen]
theorem run_reachF1 (a b : Int) (w : World) : (Instr.field 95 (.agg #[.int .i64 a, .int .i64 b]) 1).run Try.prog w = .ok (.int .i64 b) w := by
  simp [Instr.field, run_underlying Try.underlying95, part, asAgg, Try.isAgg3, Result.andThen]
attribute [local go_sem] run_reachF0 run_reachF1
def ReaNew (S : Id2 → Nat) (N : Bk → Id2) (L : List Bk) (w : World) (e : Ending) (w' : World) : Prop := ∃ b m : Nat, e = .returned (.map (some b)) ∧ ReachM b m (reaAt N S L L.length).2 w' ∧ w.heap.size ≤ b ∧ Kept w w'

set_option maxRecDepth 100000 in
set_option maxHeartbeats 3200000 in
theorem reachN_any (N : Bk → Id2) (hN : ∀ b, WfB b → WfI (N b)) (hName : ∀ b, WfB b → ∀ w, Calls Try.prog 48 #[.agg #[.int .i64 b.s, .int .i64 b.f, .int .u64 b.p.1, .int .u64 b.p.2, .int .u64 b.t]] w fun e w' => e = .returned (.agg #[.int .u64 (N b).1, .int .u64 (N b).2]) ∧ Kept w w')
    (A : Option Addr) (c : Nat) (L : List Bk) (hl : L.length ≤ 1000000) (hwl : WfL L) (S : Id2 → Nat)
    (hSz : ∀ (A : Option Addr) (c : Nat) (w : World), CellsAt w w.heap.size A (blockCells L) → Calls Try.prog 47 #[.slice A L.length c] w fun e w' => ∃ b m : Nat, e = .returned (.map (some b)) ∧ m ≤ 2 * L.length + 1 ∧ OwnF idKey intV b m (fun x => (S x : Int)) w' ∧ Kept w w')
    (HB : ∀ j (hj : j < L.length), (reaAt N S L j).1 L[j].p + S (N L[j]) ≤ 2000000 ∧ 1 ≤ S (N L[j])) (w : World) (hA : CellsAt w w.heap.size A (blockCells L)) :
    Calls Try.prog 30 #[.slice A L.length c] w (ReaNew S N L w) := by
  have HWL := Lib.hid hwl
  have HL := Lib.hid hl
  have HN := Lib.hid hN
  have HNm := Lib.hid hName
  have HBd := Lib.hid HB
  have HA := Lib.hid hA
  have HSz := Lib.hid (hSz A c w hA)
  have hmm := @run_makeMap Try.prog
  clear hN hName hwl HB hA hSz hl
  go_enter Try.func30, Try.ntmps30
  go_wp2_with fail
  refine HSz.out.mono ?_
  rintro e W1 ⟨bs, ms, rfl, hms, hS, k1⟩
  have hbs := hS.lt
  have hlz := int_look (hS.kept ((Kept.refl W1).alloc (.map #[] 0))) WfI.zid
  obtain ⟨W2, hr2, hA2, g2⟩ := ReachM.put (g := fun _ => none) (OwnH.made (K := idKey) (V := reachV) W1) (by unfold maxLen; omega) WfI.zid (0, S zid)
  have hr2' : (Instr.mapUpdate 71 (.map (some W1.heap.size)) (.agg #[.int .u64 0, .int .u64 0]) (.agg #[.int .i64 0, .int .i64 (S zid : Int)])).run Try.prog (W1.alloc (.map #[] 0)) = .ok () W2 := hr2
  have hlz' : (Instr.lookup 92 (.map (some bs)) (.agg #[.int .u64 0, .int .u64 0]) false).run Try.prog (W1.alloc (.map #[] 0)) = .ok (.int .i64 (S zid : Int)) (W1.alloc (.map #[] 0)) := hlz
  obtain ⟨W3, hr3, hF3, g3⟩ := free_put (F := fun _ => 0) (OwnF.made (K := idKey) (V := intV) W2) (by unfold maxLen; omega) WfI.zid 1
  have hr3' : (Instr.mapUpdate 92 (.map (some W2.heap.size)) (.agg #[.int .u64 0, .int .u64 0]) (.int .i64 1)).run Try.prog (W2.alloc (.map #[] 0)) = .ok () W3 := hr3
  have hz2 : W1.heap.size < W2.heap.size := by have := g2.size; simp at this; omega
  have k2 : Kept W1 W2 := ((Kept.refl W1).alloc (.map #[] 0)).grown g2 (fun k e => by cases e; exact Nat.le_refl _)
  have k3 : Kept W2 W3 := ((Kept.refl W2).alloc (.map #[] 0)).grown g3 (fun k e => by cases e; exact Nat.le_refl _)
  have HR := Lib.hid (⟨k1.trans (k2.trans k3), hS.kept (k2.trans k3), ⟨1, by omega, hA2.kept k3⟩, ⟨1, by omega, hF3⟩, by omega, by omega, by omega, k1.size_le, Nat.le_trans k1.size_le (by omega)⟩ : ReaW w S bs ms W1.heap.size W2.heap.size 0 (reaAt N S L 0) W3)
  clear hlz hr2 hA2 g2 hr3 hF3 g3 hz2 k1 k2 k3 hS hbs
  go_wp2_with fail
  clear hlz' hr2' hr3' hmm
  generalize W1.heap.size = ba at *
  generalize W2.heap.size = bf at *
  go_loopw [24] (fun i w' => ∃ j : Nat, j ≤ L.length ∧ i = .int .i64 j ∧ ReaW w S bs ms ba bf j (reaAt N S L j) w') (fun i _ => L.length - (intOf i).toNat)
  case atStart => exact ⟨0, Nat.zero_le _, rfl, HR.out⟩
  case round =>
    obtain ⟨j, hj, rfl, hR⟩ := hrel
    have HRw := Lib.hid hR
    clear hR HR
    by_cases hlt : j < L.length
    · have hwb := HWL.out _ (List.getElem_mem hlt)
      have HBj := Lib.hid (HBd.out j hlt)
      have HSt := Lib.hid (reaAt_succ N S hlt)
      obtain ⟨zb, ob, rfl, hbb, c0, c1, c2, c3, c4⟩ := block_at (HA.out.keep fun p hp => HRw.out.1.cell hp) hlt
      generalize L[j] = b at *
      go_wp2_with fail
      clear c0 c1 c2 c3 c4
      have KU : Kept wr (wr.alloc (.cells #[.int .i64 b.s, .int .i64 b.f, .int .u64 b.p.1, .int .u64 b.p.2, .int .u64 b.t] 97)) := (Kept.refl wr).alloc _
      have HRU := Lib.hid (HRw.out.kept KU)
      have HZ := Lib.hid (HasCells.new wr #[.int .i64 b.s, .int .i64 b.f, .int .u64 b.p.1, .int .u64 b.p.2, .int .u64 b.t] 97 wr.heap.size rfl)
      have HNz : Hid (wr.heap.size ≠ ba ∧ wr.heap.size ≠ bf) := Lib.hid ⟨by obtain ⟨_, _, ⟨m, _, h⟩, _⟩ := HRw.out; have := h.f.lt; omega, by obtain ⟨_, _, _, ⟨m, _, h⟩, _⟩ := HRw.out; have := h.lt; omega⟩
      have HNu : Hid (ba < (wr.alloc (.cells #[.int .i64 b.s, .int .i64 b.f, .int .u64 b.p.1, .int .u64 b.p.2, .int .u64 b.t] 97)).heap.size ∧ bf < (wr.alloc (.cells #[.int .i64 b.s, .int .i64 b.f, .int .u64 b.p.1, .int .u64 b.p.2, .int .u64 b.t] 97)).heap.size) := Lib.hid ⟨by obtain ⟨_, _, ⟨m, _, h⟩, _⟩ := HRU.out; exact h.f.lt, by obtain ⟨_, _, _, ⟨m, _, h⟩, _⟩ := HRU.out; exact h.lt⟩
      clear HRw KU
      generalize wr.alloc (.cells #[.int .i64 b.s, .int .i64 b.f, .int .u64 b.p.1, .int .u64 b.p.2, .int .u64 b.t] 97) = U at *
      generalize wr.heap.size = z at *
      generalize reaAt N S L j = s at *
      obtain ⟨Fr, g⟩ := s
      have HWb := Lib.hid hwb
      have HWp : Hid (WfI b.p) := Lib.hid hwb.1
      have HWn := Lib.hid (HN.out b hwb)
      clear hwb
      have HBq := Lib.hid (show Fr b.p + S (N b) ≤ 2000000 ∧ 1 ≤ S (N b) from HBj.out)
      have HSu := Lib.hid (show reaAt N S L (j + 1) = (setN (setN Fr (N b) (Fr b.p + 1)) b.p (Fr b.p + S (N b)), setO g (N b) (Fr b.p, Fr b.p + S (N b))) from HSt.out)
      clear HBj HSt HA HSz
      have HSof := Lib.hid (fun w' (kk : Kept U w') => (show (fun w' => w'.cell? ⟨z, 0, none⟩ = some (.int .i64 b.s) ∧ w'.cell? ⟨z, 1, none⟩ = some (.int .i64 b.f) ∧ w'.cell? ⟨z, 2, none⟩ = some (.int .u64 b.p.1) ∧ w'.cell? ⟨z, 3, none⟩ = some (.int .u64 b.p.2) ∧ w'.cell? ⟨z, 4, none⟩ = some (.int .u64 b.t) ∧ (Instr.lookup 92 (.map (some bf)) (.agg #[.int .u64 (b.p).1, .int .u64 (b.p).2]) false).run Try.prog w' = .ok (.int .i64 (Fr b.p : Int)) w' ∧ Kept U w') w' from by
        obtain ⟨c0, c1, c2, c3, c4⟩ := (HZ.out.kept kk).five
        obtain ⟨_, _, _, ⟨m, _, h⟩, _⟩ := HRU.out
        exact ⟨c0, c1, c2, c3, c4, int_look (h.kept kk) HWp.out, kk⟩))
      refine wp_region_noPanic ?_
      refine wp_region_held_drew (S := (fun w' => w'.cell? ⟨z, 0, none⟩ = some (.int .i64 b.s) ∧ w'.cell? ⟨z, 1, none⟩ = some (.int .i64 b.f) ∧ w'.cell? ⟨z, 2, none⟩ = some (.int .u64 b.p.1) ∧ w'.cell? ⟨z, 3, none⟩ = some (.int .u64 b.p.2) ∧ w'.cell? ⟨z, 4, none⟩ = some (.int .u64 b.t) ∧ (Instr.lookup 92 (.map (some bf)) (.agg #[.int .u64 (b.p).1, .int .u64 (b.p).2]) false).run Try.prog w' = .ok (.int .i64 (Fr b.p : Int)) w' ∧ Kept U w')) (by kernel_rfl) ?_ (fun hHeld => ?_)
      · exact HSof.out _ (Kept.refl U).drew
      refine wpAnyH_take (i := 0) (v := ?_) (by simp only [List.getElem?_toArray, List.getElem?_cons_succ, List.getElem?_cons_zero]; rfl) (by kernel_rfl) (by kernel_rfl) (by kernel_rfl) (fun _ _ _ h => h) (Or.inl ⟨by rfl, ?_⟩) (by assumption) ?_
      rotate_left
      · intro w hSw
        (try dsimp only at hSw)
        go_simp
        (try with_reducible rfl)
      simp only [Act.put, List.setIfInBounds_toArray, List.set_cons_zero, List.set_cons_succ]
      refine wpAnyH_take (i := 2) (v := ?_) (by simp only [List.getElem?_toArray, List.getElem?_cons_succ, List.getElem?_cons_zero]; rfl) (by kernel_rfl) (by kernel_rfl) (by kernel_rfl) (fun _ _ _ h => h) (Or.inl ⟨by rfl, ?_⟩) (by assumption) ?_
      rotate_left
      · intro w hSw
        (try dsimp only at hSw)
        go_simp
        (try with_reducible rfl)
      simp only [Act.put, List.setIfInBounds_toArray, List.set_cons_zero, List.set_cons_succ]
      refine wpAnyH_take (i := 3) (v := ?_) (by simp only [List.getElem?_toArray, List.getElem?_cons_succ, List.getElem?_cons_zero]; rfl) (by kernel_rfl) (by kernel_rfl) (by kernel_rfl) (fun _ _ _ h => h) (Or.inl ⟨by rfl, ?_⟩) (by assumption) ?_
      rotate_left
      · intro w hSw
        (try dsimp only at hSw)
        go_simp
        (try with_reducible rfl)
      simp only [Act.put, List.setIfInBounds_toArray, List.set_cons_zero, List.set_cons_succ]
      refine wpAnyH_take (i := 4) (v := ?_) (by simp only [List.getElem?_toArray, List.getElem?_cons_succ, List.getElem?_cons_zero]; rfl) (by kernel_rfl) (by kernel_rfl) (by kernel_rfl) (fun _ _ _ h => h) (Or.inl ⟨by rfl, ?_⟩) (by assumption) ?_
      rotate_left
      · intro w hSw
        (try dsimp only at hSw)
        go_simp
        (try with_reducible rfl)
      simp only [Act.put, List.setIfInBounds_toArray, List.set_cons_zero, List.set_cons_succ]
      refine wpAnyH_take (i := 5) (v := ?_) (by simp only [List.getElem?_toArray, List.getElem?_cons_succ, List.getElem?_cons_zero]; rfl) (by kernel_rfl) (by kernel_rfl) (by kernel_rfl) (fun _ _ _ h => h) (Or.inl ⟨by rfl, ?_⟩) (by assumption) ?_
      rotate_left
      · intro w hSw
        (try dsimp only at hSw)
        go_simp
        (try with_reducible rfl)
      simp only [Act.put, List.setIfInBounds_toArray, List.set_cons_zero, List.set_cons_succ]
      refine wpAnyH_ready (rs := [1, 6]) (by kernel_rfl) (by simp) ?_
      refine AllReadyH.cons (by simp only [List.getElem?_toArray, List.getElem?_cons_succ, List.getElem?_cons_zero]; rfl) (fun K hK => ?_) (AllReadyH.cons (by simp only [List.getElem?_toArray, List.getElem?_cons_succ, List.getElem?_cons_zero]; rfl) (fun K hK => ?_) (AllReadyH.nil))
      · go_simp
        go_at_call 48; with_reducible refine (HNm.out b HWb.out _).mono ?_
        rintro e w1 ⟨rfl, kk⟩
        refine hK.out _ _ ?_ (fun hHeld2 => ?_)
        · exact HSof.out _ (hHeld.2.2.2.2.2.2.trans kk)
        clear hK K hHeld
        have hHeld := hHeld2
        clear hHeld2
        try simp only [Act.put, List.setIfInBounds_toArray, List.set_cons_zero, List.set_cons_succ]
        refine wpAnyH_ready (rs := [6]) (by kernel_rfl) (by simp) ?_
        refine AllReadyH.cons (by simp only [List.getElem?_toArray, List.getElem?_cons_succ, List.getElem?_cons_zero]; rfl) (fun K hK => ?_) (AllReadyH.nil)
        have hH6 := hHeld
        go_simp
        refine hK.out _ _ ?_ (fun hHeld2 => ?_)
        · exact HSof.out _ (hHeld.2.2.2.2.2.2.alloc _)
        clear hK K hHeld
        have hHeld := hHeld2
        clear hHeld2
        try simp only [Act.put, List.setIfInBounds_toArray, List.set_cons_zero, List.set_cons_succ]
        refine wpAnyH_ready (rs := [7]) (by kernel_rfl) (by simp) ?_
        refine AllReadyH.cons (by simp only [List.getElem?_toArray, List.getElem?_cons_succ, List.getElem?_cons_zero]; rfl) (fun K hK => ?_) (AllReadyH.nil)
        go_simp
        refine hK.out _ _ ?_ (fun hHeld2 => ?_)
        · exact HSof.out _ (hH6.2.2.2.2.2.2.alloc _)
        clear hK K hHeld
        have hHeld := hHeld2
        clear hHeld2
        try simp only [Act.put, List.setIfInBounds_toArray, List.set_cons_zero, List.set_cons_succ]
        refine wpAnyH_take (i := 8) (v := ?_) (by simp only [List.getElem?_toArray, List.getElem?_cons_succ, List.getElem?_cons_zero]; rfl) (by kernel_rfl) (by kernel_rfl) (by kernel_rfl) (fun _ _ _ h => h) (Or.inl ⟨by rfl, ?_⟩) (by assumption) ?_
        rotate_left
        · intro w hSw
          (try dsimp only at hSw)
          go_simp
          (try with_reducible rfl)
        simp only [Act.put, List.setIfInBounds_toArray, List.set_cons_zero, List.set_cons_succ]
        refine wpAnyH_done (by kernel_rfl) ?_ _
        refine NoPanic.normal ?_
        have KV := Lib.hid hHeld.2.2.2.2.2.2
        have HRV := Lib.hid (HRU.out.kept KV.out)
        have HZV := Lib.hid (HZ.out.kept KV.out)
        have HYV := Lib.hid (HasCells.new w1 #[.int .u64 (N b).1, .int .u64 (N b).2] 24 w1.heap.size rfl)
        have HNy : Hid (w1.heap.size ≠ ba ∧ w1.heap.size ≠ bf) := Lib.hid (by have h1 : U.heap.size ≤ w1.heap.size := hH6.2.2.2.2.2.2.size_le; have := HNu.out; exact ⟨by omega, by omega⟩)
        clear hHeld kk HRU HZ HSof hH6 KV
        generalize w1.alloc (.cells #[.int .u64 (N b).1, .int .u64 (N b).2] 24) = V at *
        generalize w1.heap.size = y at *
        clear HNu
        obtain ⟨hk, hS, ⟨ma, hma, hA⟩, ⟨mf, hmf, hF⟩, n1, n2, n3, n4, n5⟩ := HRV.out
        have hjl : j < L.length := hlt
        have hLl := HL.out
        obtain ⟨nz1, nz2⟩ := HNz.out
        obtain ⟨ny1, ny2⟩ := HNy.out
        obtain ⟨hq1, hq2⟩ := HBq.out
        obtain ⟨V2, hr8, hA2, g2⟩ := ReachM.put (hA.kept (Kept.refl V).drew) (by unfold maxLen; omega) HWn.out (Fr b.p, Fr b.p + S (N b))
        have hF2 := other_map (hF.kept (Kept.refl V).drew) g2 (fun e => n3 e.symm)
        have hS2 := other_map (hS.kept (Kept.refl V).drew) g2 n1
        obtain ⟨V3, hr9, hF3, g3⟩ := free_put hF2 (by unfold maxLen; omega) HWn.out (Fr b.p + 1)
        have hA3 := other_mapH hA2 g3 n3
        have hS3 := other_map hS2 g3 n2
        obtain ⟨V4, hr10, hF4, g4⟩ := free_put (hF3.kept (Kept.refl V3).drew) (by unfold maxLen; omega) HWp.out (Fr b.p + S (N b))
        have hA4 := other_mapH (hA3.kept (Kept.refl V3).drew) g4 n3
        have hS4 := other_map (hS3.kept (Kept.refl V3).drew) g4 n2
        have k4 : Kept w V4 := ((hk.drew.grown g2 (fun k e => by cases e; omega)).grown g3 (fun k e => by cases e; omega)).drew.grown g4 (fun k e => by cases e; omega)
        have HEnd := Lib.hid (show ReaW w S bs ms ba bf (j + 1) (reaAt N S L (j + 1)) V4 from by
          rw [HSu.out]
          exact ⟨k4, hS4, ⟨ma + 1, by omega, hA4⟩, ⟨mf + 1 + 1, by omega, hF4⟩, n1, n2, n3, n4, n5⟩)
        have hY2 := cells_grown (HYV.out.kept (Kept.refl V).drew) g2 ny1
        have hZ2 := cells_grown (HZV.out.kept (Kept.refl V).drew) g2 nz1
        have HY3 := Lib.hid (cells_grown hY2 g3 ny2)
        have HZ3 := Lib.hid (cells_grown hZ2 g3 nz2)
        have HY2 := Lib.hid hY2
        have HLa := Lib.hid (show (Instr.lookup 71 (.map (some ba)) (.agg #[.int .u64 (N b).1, .int .u64 (N b).2]) false).run Try.prog V3.drew = .ok (.agg #[.int .i64 (Fr b.p : Int), .int .i64 ((Fr b.p + S (N b) : Nat) : Int)]) V3.drew from by
          have h := ReachM.look (g := setO g (N b) (Fr b.p, Fr b.p + S (N b))) (show ReachM ba (ma + 1) _ V3.drew from hA3.kept (Kept.refl V3).drew) HWn.out
          rw [setO_same] at h
          exact h)
        have HS8 := Lib.hid (show (fun w' => w'.cell? ⟨y, 0, none⟩ = some (.int .u64 (N b).1) ∧ w'.cell? ⟨y, 1, none⟩ = some (.int .u64 (N b).2) ∧ (Instr.lookup 92 (.map (some bs)) (.agg #[.int .u64 (N b).1, .int .u64 (N b).2]) false).run Try.prog w' = .ok (.int .i64 (S (N b) : Int)) w') V.drew from ⟨(HYV.out.kept (Kept.refl V).drew).at0, (HYV.out.kept (Kept.refl V).drew).at1, int_look (hS.kept (Kept.refl V).drew) HWn.out⟩)
        have HS10 := Lib.hid (show (fun w' => w'.cell? ⟨z, 2, none⟩ = some (.int .u64 b.p.1) ∧ w'.cell? ⟨z, 3, none⟩ = some (.int .u64 b.p.2) ∧ w'.cell? ⟨y, 0, none⟩ = some (.int .u64 (N b).1) ∧ w'.cell? ⟨y, 1, none⟩ = some (.int .u64 (N b).2) ∧ (Instr.lookup 71 (.map (some ba)) (.agg #[.int .u64 (N b).1, .int .u64 (N b).2]) false).run Try.prog w' = .ok (.agg #[.int .i64 (Fr b.p : Int), .int .i64 ((Fr b.p : Int) + (S (N b) : Int))]) w') V3.drew from ⟨(HZ3.out.kept (Kept.refl V3).drew).at2, (HZ3.out.kept (Kept.refl V3).drew).at3, (HY3.out.kept (Kept.refl V3).drew).at0, (HY3.out.kept (Kept.refl V3).drew).at1, by have h := HLa.out; rw [show ((Fr b.p + S (N b) : Nat) : Int) = (Fr b.p : Int) + (S (N b) : Int) by simp] at h; exact h⟩)
        have hr8' : (Instr.mapUpdate 71 (.map (some ba)) (.agg #[.int .u64 (N b).1, .int .u64 (N b).2]) (.agg #[.int .i64 (Fr b.p : Int), .int .i64 ((Fr b.p : Int) + (S (N b) : Int))])).run Try.prog V.drew = .ok () V2 := by
          have h := hr8
          simp only [show ((Fr b.p + S (N b) : Nat) : Int) = (Fr b.p : Int) + (S (N b) : Int) by simp] at h
          exact h
        have hr9' : (Instr.mapUpdate 92 (.map (some bf)) (.agg #[.int .u64 (N b).1, .int .u64 (N b).2]) (.int .i64 ((Fr b.p : Int) + 1))).run Try.prog V2 = .ok () V3 := by
          have h := hr9
          rw [show ((Fr b.p + 1 : Nat) : Int) = (Fr b.p : Int) + 1 by simp] at h
          exact h
        have hr10' : (Instr.mapUpdate 92 (.map (some bf)) (.agg #[.int .u64 (b.p).1, .int .u64 (b.p).2]) (.int .i64 ((Fr b.p : Int) + (S (N b) : Int)))).run Try.prog V3.drew = .ok () V4 := by
          have h := hr10
          rw [show ((Fr b.p + S (N b) : Nat) : Int) = (Fr b.p : Int) + (S (N b) : Int) by simp] at h
          exact h
        have hw1 : IntKind.i64.wrap ((Fr b.p : Int) + (S (N b) : Int)) = (Fr b.p : Int) + (S (N b) : Int) := by rw [IntKind.wrap_i64]; omega
        have hw2 : IntKind.i64.wrap ((Fr b.p : Int) + 1) = (Fr b.p : Int) + 1 := by rw [IntKind.wrap_i64]; omega
        clear hk hS hma hA hmf hF n1 n2 n3 n4 n5 nz1 nz2 ny1 ny2 hr8 hA2 g2 hF2 hS2 hr9 hF3 g3 hA3 hS3 hr10 hF4 g4 hA4 hS4 k4 hY2 hZ2 HLa HRV HZV HYV
        generalize hpq : (Fr b.p : Int) = pz at *
        generalize hqq : (S (N b) : Int) = qz at *
        go_wp2_with fail
        refine wp_region_noPanic ?_
        refine wp_region_until 9 (fun w' => w'.cell? ⟨y, 0, none⟩ = some (.int .u64 (N b).1) ∧ w'.cell? ⟨y, 1, none⟩ = some (.int .u64 (N b).2) ∧ (Instr.lookup 92 (.map (some bs)) (.agg #[.int .u64 (N b).1, .int .u64 (N b).2]) false).run Try.prog w' = .ok (.int .i64 qz) w') (by kernel_rfl) ?_ (fun hHeld => ?_)
        · exact HS8.out
        refine wpAnyU_take 0 ?_ (by simp only [List.getElem?_toArray, List.getElem?_cons_succ, List.getElem?_cons_zero]; rfl) (by kernel_rfl) (by kernel_rfl) (by kernel_rfl) (by kernel_rfl) (by kernel_rfl) (by kernel_rfl) (fun _ _ _ h => h) (Or.inl ⟨by rfl, ?_⟩) (by assumption) ?_
        rotate_left
        · intro w hSw
          (try dsimp only at hSw)
          go_simp
          (try with_reducible rfl)
        simp only [Act.put, List.setIfInBounds_toArray, List.set_cons_zero, List.set_cons_succ]
        refine wpAnyU_take 1 ?_ (by simp only [List.getElem?_toArray, List.getElem?_cons_succ, List.getElem?_cons_zero]; rfl) (by kernel_rfl) (by kernel_rfl) (by kernel_rfl) (by kernel_rfl) (by kernel_rfl) (by kernel_rfl) (fun _ _ _ h => h) (Or.inl ⟨by rfl, ?_⟩) (by assumption) ?_
        rotate_left
        · intro w hSw
          (try dsimp only at hSw)
          go_simp
          (try with_reducible rfl)
        simp only [Act.put, List.setIfInBounds_toArray, List.set_cons_zero, List.set_cons_succ]
        refine wpAnyU_take 2 ?_ (by simp only [List.getElem?_toArray, List.getElem?_cons_succ, List.getElem?_cons_zero]; rfl) (by kernel_rfl) (by kernel_rfl) (by kernel_rfl) (by kernel_rfl) (by kernel_rfl) (by kernel_rfl) (fun _ _ _ h => h) (Or.inl ⟨by rfl, ?_⟩) (by assumption) ?_
        rotate_left
        · intro w hSw
          (try dsimp only at hSw)
          go_simp
          (try with_reducible rfl)
        simp only [Act.put, List.setIfInBounds_toArray, List.set_cons_zero, List.set_cons_succ]
        refine wpAnyU_take 3 ?_ (by simp only [List.getElem?_toArray, List.getElem?_cons_succ, List.getElem?_cons_zero]; rfl) (by kernel_rfl) (by kernel_rfl) (by kernel_rfl) (by kernel_rfl) (by kernel_rfl) (by kernel_rfl) (fun _ _ _ h => h) (Or.inl ⟨by rfl, ?_⟩) (by assumption) ?_
        rotate_left
        · intro w hSw
          (try dsimp only at hSw)
          go_simp
          (try with_reducible rfl)
        simp only [Act.put, List.setIfInBounds_toArray, List.set_cons_zero, List.set_cons_succ]
        refine wpAnyU_take 4 ?_ (by simp only [List.getElem?_toArray, List.getElem?_cons_succ, List.getElem?_cons_zero]; rfl) (by kernel_rfl) (by kernel_rfl) (by kernel_rfl) (by kernel_rfl) (by kernel_rfl) (by kernel_rfl) (fun _ _ _ h => h) (Or.inl ⟨by rfl, ?_⟩) (by assumption) ?_
        rotate_left
        · intro w hSw
          (try dsimp only at hSw)
          go_simp
          (try with_reducible rfl)
        simp only [Act.put, List.setIfInBounds_toArray, List.set_cons_zero, List.set_cons_succ]
        refine wpAnyU_take 5 ?_ (by simp only [List.getElem?_toArray, List.getElem?_cons_succ, List.getElem?_cons_zero]; rfl) (by kernel_rfl) (by kernel_rfl) (by kernel_rfl) (by kernel_rfl) (by kernel_rfl) (by kernel_rfl) (fun _ _ _ h => h) (Or.inl ⟨by rfl, ?_⟩) (by assumption) ?_
        rotate_left
        · intro w hSw
          (try dsimp only at hSw)
          go_simp
          (try with_reducible rfl)
        simp only [Act.put, List.setIfInBounds_toArray, List.set_cons_zero, List.set_cons_succ]
        refine wpAnyU_take 6 ?_ (by simp only [List.getElem?_toArray, List.getElem?_cons_succ, List.getElem?_cons_zero]; rfl) (by kernel_rfl) (by kernel_rfl) (by kernel_rfl) (by kernel_rfl) (by kernel_rfl) (by kernel_rfl) (fun _ _ _ h => h) (Or.inl ⟨by rfl, ?_⟩) (by assumption) ?_
        rotate_left
        · intro w hSw
          (try dsimp only at hSw)
          go_simp
          (try with_reducible rfl)
        simp only [Act.put, List.setIfInBounds_toArray, List.set_cons_zero, List.set_cons_succ]
        refine wpAnyU_take 7 ?_ (by simp only [List.getElem?_toArray, List.getElem?_cons_succ, List.getElem?_cons_zero]; rfl) (by kernel_rfl) (by kernel_rfl) (by kernel_rfl) (by kernel_rfl) (by kernel_rfl) (by kernel_rfl) (fun _ _ _ h => h) (Or.inl ⟨by rfl, ?_⟩) (by assumption) ?_
        rotate_left
        · intro w hSw
          (try dsimp only at hSw)
          go_simp
          (try with_reducible rfl)
        simp only [Act.put, List.setIfInBounds_toArray, List.set_cons_zero, List.set_cons_succ]
        refine wpAnyU_take 8 ?_ (by simp only [List.getElem?_toArray, List.getElem?_cons_succ, List.getElem?_cons_zero]; rfl) (by kernel_rfl) (by kernel_rfl) (by kernel_rfl) (by kernel_rfl) (by kernel_rfl) (by kernel_rfl) (fun _ _ _ h => h) (Or.inl ⟨by rfl, ?_⟩) (by assumption) ?_
        rotate_left
        · intro w hSw
          (try dsimp only at hSw)
          go_simp
          (try with_reducible rfl)
        simp only [Act.put, List.setIfInBounds_toArray, List.set_cons_zero, List.set_cons_succ]
        refine wpAnyU_last (by kernel_rfl) (by simp only [List.getElem?_toArray, List.getElem?_cons_succ, List.getElem?_cons_zero]; rfl) (by kernel_rfl) (by kernel_rfl) (fun K hK => ?_)

        go_simp
        refine hK.out _ _ ?_
        clear hK K hHeld
        refine NoPanic.normal ?_
        clear HS8 hr8'
        obtain ⟨y0, y1⟩ := HY2.out.two
        go_wp2_with fail
        clear y0 y1 hr9'
        refine wp_region_noPanic ?_
        refine wp_region_until 7 (fun w' => w'.cell? ⟨z, 2, none⟩ = some (.int .u64 b.p.1) ∧ w'.cell? ⟨z, 3, none⟩ = some (.int .u64 b.p.2) ∧ w'.cell? ⟨y, 0, none⟩ = some (.int .u64 (N b).1) ∧ w'.cell? ⟨y, 1, none⟩ = some (.int .u64 (N b).2) ∧ (Instr.lookup 71 (.map (some ba)) (.agg #[.int .u64 (N b).1, .int .u64 (N b).2]) false).run Try.prog w' = .ok (.agg #[.int .i64 pz, .int .i64 (pz + qz)]) w') (by kernel_rfl) ?_ (fun hHeld => ?_)
        · exact HS10.out
        refine wpAnyU_take 0 ?_ (by simp only [List.getElem?_toArray, List.getElem?_cons_succ, List.getElem?_cons_zero]; rfl) (by kernel_rfl) (by kernel_rfl) (by kernel_rfl) (by kernel_rfl) (by kernel_rfl) (by kernel_rfl) (fun _ _ _ h => h) (Or.inl ⟨by rfl, ?_⟩) (by assumption) ?_
        rotate_left
        · intro w hSw
          (try dsimp only at hSw)
          go_simp
          (try with_reducible rfl)
        simp only [Act.put, List.setIfInBounds_toArray, List.set_cons_zero, List.set_cons_succ]
        refine wpAnyU_take 1 ?_ (by simp only [List.getElem?_toArray, List.getElem?_cons_succ, List.getElem?_cons_zero]; rfl) (by kernel_rfl) (by kernel_rfl) (by kernel_rfl) (by kernel_rfl) (by kernel_rfl) (by kernel_rfl) (fun _ _ _ h => h) (Or.inl ⟨by rfl, ?_⟩) (by assumption) ?_
        rotate_left
        · intro w hSw
          (try dsimp only at hSw)
          go_simp
          (try with_reducible rfl)
        simp only [Act.put, List.setIfInBounds_toArray, List.set_cons_zero, List.set_cons_succ]
        refine wpAnyU_take 2 ?_ (by simp only [List.getElem?_toArray, List.getElem?_cons_succ, List.getElem?_cons_zero]; rfl) (by kernel_rfl) (by kernel_rfl) (by kernel_rfl) (by kernel_rfl) (by kernel_rfl) (by kernel_rfl) (fun _ _ _ h => h) (Or.inl ⟨by rfl, ?_⟩) (by assumption) ?_
        rotate_left
        · intro w hSw
          (try dsimp only at hSw)
          go_simp
          (try with_reducible rfl)
        simp only [Act.put, List.setIfInBounds_toArray, List.set_cons_zero, List.set_cons_succ]
        refine wpAnyU_take 3 ?_ (by simp only [List.getElem?_toArray, List.getElem?_cons_succ, List.getElem?_cons_zero]; rfl) (by kernel_rfl) (by kernel_rfl) (by kernel_rfl) (by kernel_rfl) (by kernel_rfl) (by kernel_rfl) (fun _ _ _ h => h) (Or.inl ⟨by rfl, ?_⟩) (by assumption) ?_
        rotate_left
        · intro w hSw
          (try dsimp only at hSw)
          go_simp
          (try with_reducible rfl)
        simp only [Act.put, List.setIfInBounds_toArray, List.set_cons_zero, List.set_cons_succ]
        refine wpAnyU_take 4 ?_ (by simp only [List.getElem?_toArray, List.getElem?_cons_succ, List.getElem?_cons_zero]; rfl) (by kernel_rfl) (by kernel_rfl) (by kernel_rfl) (by kernel_rfl) (by kernel_rfl) (by kernel_rfl) (fun _ _ _ h => h) (Or.inl ⟨by rfl, ?_⟩) (by assumption) ?_
        rotate_left
        · intro w hSw
          (try dsimp only at hSw)
          go_simp
          (try with_reducible rfl)
        simp only [Act.put, List.setIfInBounds_toArray, List.set_cons_zero, List.set_cons_succ]
        refine wpAnyU_take 5 ?_ (by simp only [List.getElem?_toArray, List.getElem?_cons_succ, List.getElem?_cons_zero]; rfl) (by kernel_rfl) (by kernel_rfl) (by kernel_rfl) (by kernel_rfl) (by kernel_rfl) (by kernel_rfl) (fun _ _ _ h => h) (Or.inl ⟨by rfl, ?_⟩) (by assumption) ?_
        rotate_left
        · intro w hSw
          (try dsimp only at hSw)
          go_simp
          (try with_reducible rfl)
        simp only [Act.put, List.setIfInBounds_toArray, List.set_cons_zero, List.set_cons_succ]
        refine wpAnyU_take 6 ?_ (by simp only [List.getElem?_toArray, List.getElem?_cons_succ, List.getElem?_cons_zero]; rfl) (by kernel_rfl) (by kernel_rfl) (by kernel_rfl) (by kernel_rfl) (by kernel_rfl) (by kernel_rfl) (fun _ _ _ h => h) (Or.inl ⟨by rfl, ?_⟩) (by assumption) ?_
        rotate_left
        · intro w hSw
          (try dsimp only at hSw)
          go_simp
          (try with_reducible rfl)
        simp only [Act.put, List.setIfInBounds_toArray, List.set_cons_zero, List.set_cons_succ]
        refine wpAnyU_last (by kernel_rfl) (by simp only [List.getElem?_toArray, List.getElem?_cons_succ, List.getElem?_cons_zero]; rfl) (by kernel_rfl) (by kernel_rfl) (fun K hK => ?_)

        go_simp
        refine hK.out _ _ ?_
        clear hK K hHeld
        refine NoPanic.normal ?_
        clear HS10 hr10'
        go_wp2_with fail
        go_roundw
        case rel => exact ⟨j + 1, by omega, by go_num, HEnd.out⟩
        case measure => simp [intOf]; omega
      · have hH6 := hHeld
        go_simp
        refine hK.out _ _ ?_ (fun hHeld2 => ?_)
        · exact HSof.out _ (hHeld.2.2.2.2.2.2.alloc _)
        clear hK K hHeld
        have hHeld := hHeld2
        clear hHeld2
        try simp only [Act.put, List.setIfInBounds_toArray, List.set_cons_zero, List.set_cons_succ]
        refine wpAnyH_ready (rs := [1]) (by kernel_rfl) (by simp) ?_
        refine AllReadyH.cons (by simp only [List.getElem?_toArray, List.getElem?_cons_succ, List.getElem?_cons_zero]; rfl) (fun K hK => ?_) (AllReadyH.nil)
        go_simp
        go_at_call 48; with_reducible refine (HNm.out b HWb.out _).mono ?_
        rintro e w1 ⟨rfl, kk⟩
        have kn : Kept (U.alloc (.cells #[.int .u64 0, .int .u64 0] 24)) w1 := Kept.trans (Kept.drew (Kept.refl _)) kk
        have hN : HasCells w1 U.heap.size [.int .u64 0, .int .u64 0] := (HasCells.new U #[.int .u64 0, .int .u64 0] 24 U.heap.size rfl).kept kn
        have hZ : ∀ j, w1.frozen? ⟨U.heap.size, j, none⟩ = false := fun j => (kn.frozen (p := ⟨U.heap.size, j, none⟩) (by simp)).trans (by simp [go_sem])
        refine hK.out _ _ ?_ (fun hHeld2 => ?_)
        · exact HSof.out _ (hHeld.2.2.2.2.2.2.trans kk)
        clear hK K hHeld
        have hHeld := hHeld2
        clear hHeld2
        try simp only [Act.put, List.setIfInBounds_toArray, List.set_cons_zero, List.set_cons_succ]
        refine wpAnyH_ready (rs := [7]) (by kernel_rfl) (by simp) ?_
        refine AllReadyH.cons (by simp only [List.getElem?_toArray, List.getElem?_cons_succ, List.getElem?_cons_zero]; rfl) (fun K hK => ?_) (AllReadyH.nil)
        obtain ⟨e0, e1⟩ := hN.two
        have f0 := hZ 0
        have f1 := hZ 1
        go_simp
        refine hK.out _ _ ?_ (fun hHeld2 => ?_)
        · exact HSof.out _ ((hHeld.2.2.2.2.2.2.setCell (p := ⟨U.heap.size, 0, none⟩) (Nat.le_refl _) _).setCell (p := ⟨U.heap.size, 1, none⟩) (Nat.le_refl _) _)
        clear hK K hHeld
        have hHeld := hHeld2
        clear hHeld2
        try simp only [Act.put, List.setIfInBounds_toArray, List.set_cons_zero, List.set_cons_succ]
        refine wpAnyH_take (i := 8) (v := ?_) (by simp only [List.getElem?_toArray, List.getElem?_cons_succ, List.getElem?_cons_zero]; rfl) (by kernel_rfl) (by kernel_rfl) (by kernel_rfl) (fun _ _ _ h => h) (Or.inl ⟨by rfl, ?_⟩) (by assumption) ?_
        rotate_left
        · intro w hSw
          (try dsimp only at hSw)
          go_simp
          (try with_reducible rfl)
        simp only [Act.put, List.setIfInBounds_toArray, List.set_cons_zero, List.set_cons_succ]
        refine wpAnyH_done (by kernel_rfl) ?_ _
        refine NoPanic.normal ?_
        have KV := Lib.hid hHeld.2.2.2.2.2.2
        have HRV := Lib.hid (HRU.out.kept KV.out)
        have HZV := Lib.hid (HZ.out.kept KV.out)
        have HYV := Lib.hid (cells_set2 hN (.int .u64 (N b).1) (.int .u64 (N b).2))
        have HNy : Hid (U.heap.size ≠ ba ∧ U.heap.size ≠ bf) := Lib.hid (by have h1 : U.heap.size ≤ U.heap.size := Nat.le_refl _; have := HNu.out; exact ⟨by omega, by omega⟩)
        clear hHeld kk HRU HZ HSof hH6 hN hZ e0 e1 f0 f1 kn KV
        generalize (w1.setCell ⟨U.heap.size, 0, none⟩ (.int .u64 (N b).1)).setCell ⟨U.heap.size, 1, none⟩ (.int .u64 (N b).2) = V at *
        generalize U.heap.size = y at *
        clear HNu
        obtain ⟨hk, hS, ⟨ma, hma, hA⟩, ⟨mf, hmf, hF⟩, n1, n2, n3, n4, n5⟩ := HRV.out
        have hjl : j < L.length := hlt
        have hLl := HL.out
        obtain ⟨nz1, nz2⟩ := HNz.out
        obtain ⟨ny1, ny2⟩ := HNy.out
        obtain ⟨hq1, hq2⟩ := HBq.out
        obtain ⟨V2, hr8, hA2, g2⟩ := ReachM.put (hA.kept (Kept.refl V).drew) (by unfold maxLen; omega) HWn.out (Fr b.p, Fr b.p + S (N b))
        have hF2 := other_map (hF.kept (Kept.refl V).drew) g2 (fun e => n3 e.symm)
        have hS2 := other_map (hS.kept (Kept.refl V).drew) g2 n1
        obtain ⟨V3, hr9, hF3, g3⟩ := free_put hF2 (by unfold maxLen; omega) HWn.out (Fr b.p + 1)
        have hA3 := other_mapH hA2 g3 n3
        have hS3 := other_map hS2 g3 n2
        obtain ⟨V4, hr10, hF4, g4⟩ := free_put (hF3.kept (Kept.refl V3).drew) (by unfold maxLen; omega) HWp.out (Fr b.p + S (N b))
        have hA4 := other_mapH (hA3.kept (Kept.refl V3).drew) g4 n3
        have hS4 := other_map (hS3.kept (Kept.refl V3).drew) g4 n2
        have k4 : Kept w V4 := ((hk.drew.grown g2 (fun k e => by cases e; omega)).grown g3 (fun k e => by cases e; omega)).drew.grown g4 (fun k e => by cases e; omega)
        have HEnd := Lib.hid (show ReaW w S bs ms ba bf (j + 1) (reaAt N S L (j + 1)) V4 from by
          rw [HSu.out]
          exact ⟨k4, hS4, ⟨ma + 1, by omega, hA4⟩, ⟨mf + 1 + 1, by omega, hF4⟩, n1, n2, n3, n4, n5⟩)
        have hY2 := cells_grown (HYV.out.kept (Kept.refl V).drew) g2 ny1
        have hZ2 := cells_grown (HZV.out.kept (Kept.refl V).drew) g2 nz1
        have HY3 := Lib.hid (cells_grown hY2 g3 ny2)
        have HZ3 := Lib.hid (cells_grown hZ2 g3 nz2)
        have HY2 := Lib.hid hY2
        have HLa := Lib.hid (show (Instr.lookup 71 (.map (some ba)) (.agg #[.int .u64 (N b).1, .int .u64 (N b).2]) false).run Try.prog V3.drew = .ok (.agg #[.int .i64 (Fr b.p : Int), .int .i64 ((Fr b.p + S (N b) : Nat) : Int)]) V3.drew from by
          have h := ReachM.look (g := setO g (N b) (Fr b.p, Fr b.p + S (N b))) (show ReachM ba (ma + 1) _ V3.drew from hA3.kept (Kept.refl V3).drew) HWn.out
          rw [setO_same] at h
          exact h)
        have HS8 := Lib.hid (show (fun w' => w'.cell? ⟨y, 0, none⟩ = some (.int .u64 (N b).1) ∧ w'.cell? ⟨y, 1, none⟩ = some (.int .u64 (N b).2) ∧ (Instr.lookup 92 (.map (some bs)) (.agg #[.int .u64 (N b).1, .int .u64 (N b).2]) false).run Try.prog w' = .ok (.int .i64 (S (N b) : Int)) w') V.drew from ⟨(HYV.out.kept (Kept.refl V).drew).at0, (HYV.out.kept (Kept.refl V).drew).at1, int_look (hS.kept (Kept.refl V).drew) HWn.out⟩)
        have HS10 := Lib.hid (show (fun w' => w'.cell? ⟨z, 2, none⟩ = some (.int .u64 b.p.1) ∧ w'.cell? ⟨z, 3, none⟩ = some (.int .u64 b.p.2) ∧ w'.cell? ⟨y, 0, none⟩ = some (.int .u64 (N b).1) ∧ w'.cell? ⟨y, 1, none⟩ = some (.int .u64 (N b).2) ∧ (Instr.lookup 71 (.map (some ba)) (.agg #[.int .u64 (N b).1, .int .u64 (N b).2]) false).run Try.prog w' = .ok (.agg #[.int .i64 (Fr b.p : Int), .int .i64 ((Fr b.p : Int) + (S (N b) : Int))]) w') V3.drew from ⟨(HZ3.out.kept (Kept.refl V3).drew).at2, (HZ3.out.kept (Kept.refl V3).drew).at3, (HY3.out.kept (Kept.refl V3).drew).at0, (HY3.out.kept (Kept.refl V3).drew).at1, by have h := HLa.out; rw [show ((Fr b.p + S (N b) : Nat) : Int) = (Fr b.p : Int) + (S (N b) : Int) by simp] at h; exact h⟩)
        have hr8' : (Instr.mapUpdate 71 (.map (some ba)) (.agg #[.int .u64 (N b).1, .int .u64 (N b).2]) (.agg #[.int .i64 (Fr b.p : Int), .int .i64 ((Fr b.p : Int) + (S (N b) : Int))])).run Try.prog V.drew = .ok () V2 := by
          have h := hr8
          simp only [show ((Fr b.p + S (N b) : Nat) : Int) = (Fr b.p : Int) + (S (N b) : Int) by simp] at h
          exact h
        have hr9' : (Instr.mapUpdate 92 (.map (some bf)) (.agg #[.int .u64 (N b).1, .int .u64 (N b).2]) (.int .i64 ((Fr b.p : Int) + 1))).run Try.prog V2 = .ok () V3 := by
          have h := hr9
          rw [show ((Fr b.p + 1 : Nat) : Int) = (Fr b.p : Int) + 1 by simp] at h
          exact h
        have hr10' : (Instr.mapUpdate 92 (.map (some bf)) (.agg #[.int .u64 (b.p).1, .int .u64 (b.p).2]) (.int .i64 ((Fr b.p : Int) + (S (N b) : Int)))).run Try.prog V3.drew = .ok () V4 := by
          have h := hr10
          rw [show ((Fr b.p + S (N b) : Nat) : Int) = (Fr b.p : Int) + (S (N b) : Int) by simp] at h
          exact h
        have hw1 : IntKind.i64.wrap ((Fr b.p : Int) + (S (N b) : Int)) = (Fr b.p : Int) + (S (N b) : Int) := by rw [IntKind.wrap_i64]; omega
        have hw2 : IntKind.i64.wrap ((Fr b.p : Int) + 1) = (Fr b.p : Int) + 1 := by rw [IntKind.wrap_i64]; omega
        clear hk hS hma hA hmf hF n1 n2 n3 n4 n5 nz1 nz2 ny1 ny2 hr8 hA2 g2 hF2 hS2 hr9 hF3 g3 hA3 hS3 hr10 hF4 g4 hA4 hS4 k4 hY2 hZ2 HLa HRV HZV HYV
        generalize hpq : (Fr b.p : Int) = pz at *
        generalize hqq : (S (N b) : Int) = qz at *
        go_wp2_with fail
        refine wp_region_noPanic ?_
        refine wp_region_until 9 (fun w' => w'.cell? ⟨y, 0, none⟩ = some (.int .u64 (N b).1) ∧ w'.cell? ⟨y, 1, none⟩ = some (.int .u64 (N b).2) ∧ (Instr.lookup 92 (.map (some bs)) (.agg #[.int .u64 (N b).1, .int .u64 (N b).2]) false).run Try.prog w' = .ok (.int .i64 qz) w') (by kernel_rfl) ?_ (fun hHeld => ?_)
        · exact HS8.out
        refine wpAnyU_take 0 ?_ (by simp only [List.getElem?_toArray, List.getElem?_cons_succ, List.getElem?_cons_zero]; rfl) (by kernel_rfl) (by kernel_rfl) (by kernel_rfl) (by kernel_rfl) (by kernel_rfl) (by kernel_rfl) (fun _ _ _ h => h) (Or.inl ⟨by rfl, ?_⟩) (by assumption) ?_
        rotate_left
        · intro w hSw
          (try dsimp only at hSw)
          go_simp
          (try with_reducible rfl)
        simp only [Act.put, List.setIfInBounds_toArray, List.set_cons_zero, List.set_cons_succ]
        refine wpAnyU_take 1 ?_ (by simp only [List.getElem?_toArray, List.getElem?_cons_succ, List.getElem?_cons_zero]; rfl) (by kernel_rfl) (by kernel_rfl) (by kernel_rfl) (by kernel_rfl) (by kernel_rfl) (by kernel_rfl) (fun _ _ _ h => h) (Or.inl ⟨by rfl, ?_⟩) (by assumption) ?_
        rotate_left
        · intro w hSw
          (try dsimp only at hSw)
          go_simp
          (try with_reducible rfl)
        simp only [Act.put, List.setIfInBounds_toArray, List.set_cons_zero, List.set_cons_succ]
        refine wpAnyU_take 2 ?_ (by simp only [List.getElem?_toArray, List.getElem?_cons_succ, List.getElem?_cons_zero]; rfl) (by kernel_rfl) (by kernel_rfl) (by kernel_rfl) (by kernel_rfl) (by kernel_rfl) (by kernel_rfl) (fun _ _ _ h => h) (Or.inl ⟨by rfl, ?_⟩) (by assumption) ?_
        rotate_left
        · intro w hSw
          (try dsimp only at hSw)
          go_simp
          (try with_reducible rfl)
        simp only [Act.put, List.setIfInBounds_toArray, List.set_cons_zero, List.set_cons_succ]
        refine wpAnyU_take 3 ?_ (by simp only [List.getElem?_toArray, List.getElem?_cons_succ, List.getElem?_cons_zero]; rfl) (by kernel_rfl) (by kernel_rfl) (by kernel_rfl) (by kernel_rfl) (by kernel_rfl) (by kernel_rfl) (fun _ _ _ h => h) (Or.inl ⟨by rfl, ?_⟩) (by assumption) ?_
        rotate_left
        · intro w hSw
          (try dsimp only at hSw)
          go_simp
          (try with_reducible rfl)
        simp only [Act.put, List.setIfInBounds_toArray, List.set_cons_zero, List.set_cons_succ]
        refine wpAnyU_take 4 ?_ (by simp only [List.getElem?_toArray, List.getElem?_cons_succ, List.getElem?_cons_zero]; rfl) (by kernel_rfl) (by kernel_rfl) (by kernel_rfl) (by kernel_rfl) (by kernel_rfl) (by kernel_rfl) (fun _ _ _ h => h) (Or.inl ⟨by rfl, ?_⟩) (by assumption) ?_
        rotate_left
        · intro w hSw
          (try dsimp only at hSw)
          go_simp
          (try with_reducible rfl)
        simp only [Act.put, List.setIfInBounds_toArray, List.set_cons_zero, List.set_cons_succ]
        refine wpAnyU_take 5 ?_ (by simp only [List.getElem?_toArray, List.getElem?_cons_succ, List.getElem?_cons_zero]; rfl) (by kernel_rfl) (by kernel_rfl) (by kernel_rfl) (by kernel_rfl) (by kernel_rfl) (by kernel_rfl) (fun _ _ _ h => h) (Or.inl ⟨by rfl, ?_⟩) (by assumption) ?_
        rotate_left
        · intro w hSw
          (try dsimp only at hSw)
          go_simp
          (try with_reducible rfl)
        simp only [Act.put, List.setIfInBounds_toArray, List.set_cons_zero, List.set_cons_succ]
        refine wpAnyU_take 6 ?_ (by simp only [List.getElem?_toArray, List.getElem?_cons_succ, List.getElem?_cons_zero]; rfl) (by kernel_rfl) (by kernel_rfl) (by kernel_rfl) (by kernel_rfl) (by kernel_rfl) (by kernel_rfl) (fun _ _ _ h => h) (Or.inl ⟨by rfl, ?_⟩) (by assumption) ?_
        rotate_left
        · intro w hSw
          (try dsimp only at hSw)
          go_simp
          (try with_reducible rfl)
        simp only [Act.put, List.setIfInBounds_toArray, List.set_cons_zero, List.set_cons_succ]
        refine wpAnyU_take 7 ?_ (by simp only [List.getElem?_toArray, List.getElem?_cons_succ, List.getElem?_cons_zero]; rfl) (by kernel_rfl) (by kernel_rfl) (by kernel_rfl) (by kernel_rfl) (by kernel_rfl) (by kernel_rfl) (fun _ _ _ h => h) (Or.inl ⟨by rfl, ?_⟩) (by assumption) ?_
        rotate_left
        · intro w hSw
          (try dsimp only at hSw)
          go_simp
          (try with_reducible rfl)
        simp only [Act.put, List.setIfInBounds_toArray, List.set_cons_zero, List.set_cons_succ]
        refine wpAnyU_take 8 ?_ (by simp only [List.getElem?_toArray, List.getElem?_cons_succ, List.getElem?_cons_zero]; rfl) (by kernel_rfl) (by kernel_rfl) (by kernel_rfl) (by kernel_rfl) (by kernel_rfl) (by kernel_rfl) (fun _ _ _ h => h) (Or.inl ⟨by rfl, ?_⟩) (by assumption) ?_
        rotate_left
        · intro w hSw
          (try dsimp only at hSw)
          go_simp
          (try with_reducible rfl)
        simp only [Act.put, List.setIfInBounds_toArray, List.set_cons_zero, List.set_cons_succ]
        refine wpAnyU_last (by kernel_rfl) (by simp only [List.getElem?_toArray, List.getElem?_cons_succ, List.getElem?_cons_zero]; rfl) (by kernel_rfl) (by kernel_rfl) (fun K hK => ?_)

        go_simp
        refine hK.out _ _ ?_
        clear hK K hHeld
        refine NoPanic.normal ?_
        clear HS8 hr8'
        obtain ⟨y0, y1⟩ := HY2.out.two
        go_wp2_with fail
        clear y0 y1 hr9'
        refine wp_region_noPanic ?_
        refine wp_region_until 7 (fun w' => w'.cell? ⟨z, 2, none⟩ = some (.int .u64 b.p.1) ∧ w'.cell? ⟨z, 3, none⟩ = some (.int .u64 b.p.2) ∧ w'.cell? ⟨y, 0, none⟩ = some (.int .u64 (N b).1) ∧ w'.cell? ⟨y, 1, none⟩ = some (.int .u64 (N b).2) ∧ (Instr.lookup 71 (.map (some ba)) (.agg #[.int .u64 (N b).1, .int .u64 (N b).2]) false).run Try.prog w' = .ok (.agg #[.int .i64 pz, .int .i64 (pz + qz)]) w') (by kernel_rfl) ?_ (fun hHeld => ?_)
        · exact HS10.out
        refine wpAnyU_take 0 ?_ (by simp only [List.getElem?_toArray, List.getElem?_cons_succ, List.getElem?_cons_zero]; rfl) (by kernel_rfl) (by kernel_rfl) (by kernel_rfl) (by kernel_rfl) (by kernel_rfl) (by kernel_rfl) (fun _ _ _ h => h) (Or.inl ⟨by rfl, ?_⟩) (by assumption) ?_
        rotate_left
        · intro w hSw
          (try dsimp only at hSw)
          go_simp
          (try with_reducible rfl)
        simp only [Act.put, List.setIfInBounds_toArray, List.set_cons_zero, List.set_cons_succ]
        refine wpAnyU_take 1 ?_ (by simp only [List.getElem?_toArray, List.getElem?_cons_succ, List.getElem?_cons_zero]; rfl) (by kernel_rfl) (by kernel_rfl) (by kernel_rfl) (by kernel_rfl) (by kernel_rfl) (by kernel_rfl) (fun _ _ _ h => h) (Or.inl ⟨by rfl, ?_⟩) (by assumption) ?_
        rotate_left
        · intro w hSw
          (try dsimp only at hSw)
          go_simp
          (try with_reducible rfl)
        simp only [Act.put, List.setIfInBounds_toArray, List.set_cons_zero, List.set_cons_succ]
        refine wpAnyU_take 2 ?_ (by simp only [List.getElem?_toArray, List.getElem?_cons_succ, List.getElem?_cons_zero]; rfl) (by kernel_rfl) (by kernel_rfl) (by kernel_rfl) (by kernel_rfl) (by kernel_rfl) (by kernel_rfl) (fun _ _ _ h => h) (Or.inl ⟨by rfl, ?_⟩) (by assumption) ?_
        rotate_left
        · intro w hSw
          (try dsimp only at hSw)
          go_simp
          (try with_reducible rfl)
        simp only [Act.put, List.setIfInBounds_toArray, List.set_cons_zero, List.set_cons_succ]
        refine wpAnyU_take 3 ?_ (by simp only [List.getElem?_toArray, List.getElem?_cons_succ, List.getElem?_cons_zero]; rfl) (by kernel_rfl) (by kernel_rfl) (by kernel_rfl) (by kernel_rfl) (by kernel_rfl) (by kernel_rfl) (fun _ _ _ h => h) (Or.inl ⟨by rfl, ?_⟩) (by assumption) ?_
        rotate_left
        · intro w hSw
          (try dsimp only at hSw)
          go_simp
          (try with_reducible rfl)
        simp only [Act.put, List.setIfInBounds_toArray, List.set_cons_zero, List.set_cons_succ]
        refine wpAnyU_take 4 ?_ (by simp only [List.getElem?_toArray, List.getElem?_cons_succ, List.getElem?_cons_zero]; rfl) (by kernel_rfl) (by kernel_rfl) (by kernel_rfl) (by kernel_rfl) (by kernel_rfl) (by kernel_rfl) (fun _ _ _ h => h) (Or.inl ⟨by rfl, ?_⟩) (by assumption) ?_
        rotate_left
        · intro w hSw
          (try dsimp only at hSw)
          go_simp
          (try with_reducible rfl)
        simp only [Act.put, List.setIfInBounds_toArray, List.set_cons_zero, List.set_cons_succ]
        refine wpAnyU_take 5 ?_ (by simp only [List.getElem?_toArray, List.getElem?_cons_succ, List.getElem?_cons_zero]; rfl) (by kernel_rfl) (by kernel_rfl) (by kernel_rfl) (by kernel_rfl) (by kernel_rfl) (by kernel_rfl) (fun _ _ _ h => h) (Or.inl ⟨by rfl, ?_⟩) (by assumption) ?_
        rotate_left
        · intro w hSw
          (try dsimp only at hSw)
          go_simp
          (try with_reducible rfl)
        simp only [Act.put, List.setIfInBounds_toArray, List.set_cons_zero, List.set_cons_succ]
        refine wpAnyU_take 6 ?_ (by simp only [List.getElem?_toArray, List.getElem?_cons_succ, List.getElem?_cons_zero]; rfl) (by kernel_rfl) (by kernel_rfl) (by kernel_rfl) (by kernel_rfl) (by kernel_rfl) (by kernel_rfl) (fun _ _ _ h => h) (Or.inl ⟨by rfl, ?_⟩) (by assumption) ?_
        rotate_left
        · intro w hSw
          (try dsimp only at hSw)
          go_simp
          (try with_reducible rfl)
        simp only [Act.put, List.setIfInBounds_toArray, List.set_cons_zero, List.set_cons_succ]
        refine wpAnyU_last (by kernel_rfl) (by simp only [List.getElem?_toArray, List.getElem?_cons_succ, List.getElem?_cons_zero]; rfl) (by kernel_rfl) (by kernel_rfl) (fun K hK => ?_)

        go_simp
        refine hK.out _ _ ?_
        clear hK K hHeld
        refine NoPanic.normal ?_
        clear HS10 hr10'
        go_wp2_with fail
        go_roundw
        case rel => exact ⟨j + 1, by omega, by go_num, HEnd.out⟩
        case measure => simp [intOf]; omega
    · have hjx : j = L.length := by omega
      subst hjx
      have HRf := Lib.hid HRw.out
      clear HRw
      go_wp2_with fail
      go_ret
      obtain ⟨h1, _, ⟨m, _, h3⟩, _, _, _, _, h4, _⟩ := HRf.out
      exact ⟨ba, m, rfl, h3, h4, h1⟩

theorem rea_inv {L : List Bk} (h : mayB L = true) {S : Id2 → Nat} (hS : SizesB L S) : ∀ (j : Nat), j ≤ L.length → ReachI (L.take j) (L.drop j) S (reaAt nameB S L j).1 (reaAt nameB S L j).2
  | 0, _ => ReachI.start hS
  | j + 1, hj => by
    have I := rea_inv h hS j (by omega)
    have hjl : j < L.length := by omega
    have e : L.take j ++ L[j] :: L.drop (j + 1) = L := by rw [List.getElem_cons_drop, List.take_append_drop]
    rw [reaAt_succ nameB S hjl, List.take_succ_eq_append_getElem hjl]
    rw [← List.getElem_cons_drop (h := hjl)] at I
    exact ReachI.step (by rw [e]; exact h) (by rw [e]; exact hS) I
theorem ReachI.room_le {l r : List Bk} {b : Bk} (h : mayB (l ++ b :: r) = true) {S F : Id2 → Nat} {g : Id2 → Option (Nat × Nat)} (hS : SizesB (l ++ b :: r) S) (I : ReachI l (b :: r) S F g) : F b.p + S (nameB b) ≤ (l ++ b :: r).length + 1 ∧ 1 ≤ S (nameB b) := by
  have hm := part_mayL h
  have hsp : standsB l b.p = true := (stands_mem hm).2 (part_parent h)
  have hst : standsB (l ++ b :: r) (nameB b) = true := standsB_iff.2 (Or.inl ⟨_, part_pos h⟩)
  have h1 := hS.1 _ hst
  have hz := hS.2 zid
  obtain ⟨op, hp, hgp⟩ : ∃ o q, g b.p = some (o, q) := by
    have := I.knows b.p
    rw [hsp] at this
    obtain ⟨v, e⟩ := Option.isSome_iff_exists.1 this
    exact ⟨v.1, v.2, e⟩
  have hroom := I.room _ _ _ hgp
  rw [kidS_cons, if_pos rfl] at hroom
  refine ⟨?_, by omega⟩
  by_cases e : zid = b.p
  · have ht := I.top
    rw [e, hgp] at ht
    injection ht with ht
    injection ht with _ ht
    rw [← e] at ht
    omega
  · have k := I.under _ _ _ _ _ _ I.top hgp e (under_zero (chain_pos hm hsp))
    have k2 := I.room _ _ _ I.top
    omega
def ReachNew (L : List Bk) (w : World) (e : Ending) (w' : World) : Prop := ∃ (b m : Nat) (g : Id2 → Option (Nat × Nat)), e = .returned (.map (some b)) ∧ ReachB L g ∧ ReachM b m g w' ∧ w.heap.size ≤ b ∧ Kept w w'
theorem reachesOf_any (A : Option Addr) (c : Nat) (L : List Bk) (hl : L.length ≤ 1000000) (hwl : WfL L) (hm : mayB L = true) (w : World) (hA : CellsAt w w.heap.size A (blockCells L)) :
    Calls Try.prog 30 #[.slice A L.length c] w (ReachNew L w) := by
  obtain ⟨S, hS, hSz⟩ := sizesOf_S hm hl hwl
  have HI := rea_inv hm hS
  have HB : ∀ j (hj : j < L.length), (reaAt nameB S L j).1 L[j].p + S (nameB L[j]) ≤ 2000000 ∧ 1 ≤ S (nameB L[j]) := fun j hj => by
    have I := HI j (by omega)
    have e : L.take j ++ L[j] :: L.drop (j + 1) = L := by rw [List.getElem_cons_drop, List.take_append_drop]
    rw [← List.getElem_cons_drop (h := hj)] at I
    have k := ReachI.room_le (by rw [e]; exact hm) (by rw [e]; exact hS) I
    rw [e] at k
    exact ⟨by omega, k.2⟩
  refine (reachN_any nameB (fun b _ => nameB_lt b) (fun b hb w => name_any b hb w) A c L hl hwl S hSz HB w hA).mono ?_
  rintro e w' ⟨b, m, rfl, h1, h2, h3⟩
  have I := HI L.length (Nat.le_refl _)
  rw [List.take_length, List.drop_length] at I
  exact ⟨b, m, _, rfl, I.done hm hS, h1, h2, h3⟩

end Go.Proofs.Ythaofomhlmajbaa
