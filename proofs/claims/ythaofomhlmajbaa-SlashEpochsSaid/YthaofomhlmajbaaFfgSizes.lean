/-
  The contract of ffg's sizesOf: how many stand on each.
-/
import Derived.Test.YthaofomhlmajbaaSeqBack
import Derived.Test.YthaofomhlmajbaaRoundRegion
import Derived.Test.YthaofomhlmajbaaMapKinds
import Derived.Test.YthaofomhlmajbaaFfgReachMath
import Derived.Test.YthaofomhlmajbaaDutyG
import Derived.Test.YthaofomhlmajbaaTreeG
namespace Go.Proofs.Ythaofomhlmajbaa
set_option maxRecDepth 100000
set_option linter.unusedVariables false
set_option linter.unusedSimpArgs false
set_option linter.unusedSimpArgs false
set_option linter.unusedVariables false
open Go.ChangeShapes Go.WideShapes Go.ChangeAt Go.RowKit Go.Shelf

attribute [local go_sem] Oper.semAt_some

theorem BelowB.alloc {n b : Nat} {w w' : World} (h : BelowB n b w w') (hn : n ≤ w'.heap.size) (hb : b < w'.heap.size) (o : Obj) : BelowB n b w (w'.alloc o) := ⟨h.1.alloc hn o, (Below.heap_alloc w' o b hb).trans h.2⟩
theorem BelowB.grown {n b : Nat} {w w' w2 : World} {g : Nat} (h : BelowB n b w w') (hn : n ≤ w'.heap.size) (hb : b < w'.heap.size) (hg : w'.grownBy w2 (some g)) (h1 : n ≤ g) (h2 : b ≠ g) : BelowB n b w w2 :=
  ⟨h.1.grown hg hn (fun k e => by cases e; exact h1), (hg.block b hb (fun e => h2 (by cases e; rfl))).trans h.2⟩
theorem BelowB.drew {n b : Nat} {w w' : World} (h : BelowB n b w w') : BelowB n b w w'.drew := ⟨h.1.drew, h.2⟩
theorem BelowB.kept {n b : Nat} {w w' w2 : World} (h : BelowB n b w w') (hn : n ≤ w'.heap.size) (hb : b < w'.heap.size) (k : Kept w' w2) : BelowB n b w w2 := ⟨h.1.trans (k.mono hn), (k.heap hb).trans h.2⟩
theorem cells_grown {w w' : World} {z b : Nat} {xs : List Value} (h : HasCells w z xs) (hg : w.grownBy w' (some b)) (hne : z ≠ b) : HasCells w' z xs :=
  ⟨Nat.lt_of_lt_of_le h.1 hg.size, fun j u hu => (cell_of_heap (p := ⟨z, j, none⟩) (hg.block z h.1 (fun e => hne (by cases e; rfl)))).trans (h.2 j u hu)⟩
theorem KeepsFrom.kept {B : Nat} {w w' : World} (k : Kept w w') : KeepsFrom B w w' := ⟨k.size_le, fun i o _ hi _ => (k.heap (Array.getElem?_eq_some_iff.1 hi).1).trans hi⟩
/-- How world U lies to V, in a round of sizesOf: the map is block w.heap.size, the variable block w1.heap.size. -/
def SizF (w w1 V U : World) : Prop := KeepsFrom (w1.heap.size + 2) V U ∧ BelowB w.heap.size (w1.heap.size + 1) V U ∧ U.heap[w1.heap.size]? = some (.cells #[.map (some w.heap.size)] 92 (0, 0)) ∧ Below w.heap.size w U ∧ w1.heap.size + 2 ≤ U.heap.size ∧ w.heap.size < w1.heap.size
theorem SizF.cell {w w1 V U : World} (h : SizF w w1 V U) : U.cell? ⟨w1.heap.size, 0, none⟩ = some (.map (some w.heap.size)) := (cells_block h.2.2.1).at0
theorem SizF.kept {w w1 V U U' : World} (h : SizF w w1 V U) (k : Kept U U') : SizF w w1 V U' := by
  obtain ⟨h1, h2, h3, h4, h5, h6⟩ := h
  exact ⟨h1.trans (KeepsFrom.kept k), h2.kept (by omega) (by omega) k, (k.heap (by omega)).trans h3, h4.trans (k.mono (by omega)), Nat.le_trans h5 k.size_le, h6⟩
theorem SizF.grown {w w1 V U U' : World} (h : SizF w w1 V U) (g : U.grownBy U' (some w.heap.size)) : SizF w w1 V U' := by
  obtain ⟨h1, h2, h3, h4, h5, h6⟩ := h
  exact ⟨h1.trans (KeepsFrom.of_grownBy g (fun j e => by cases e; omega)), h2.grown (by omega) (by omega) g (by omega) (by omega), (g.block _ (by omega) (fun e => by injection e with e; omega)).trans h3, h4.grown g (by omega) (fun k e => by cases e; omega), Nat.le_trans h5 g.size, h6⟩
/-- What a block turns, N telling its name. -/
def sizeI (N : Bk → Id2) (f : Id2 → Int) (b : Bk) : Id2 → Int :=
  setF (setF f (N b) (IntKind.i64.wrap (f (N b) + 1))) b.p (IntKind.i64.wrap (setF f (N b) (IntKind.i64.wrap (f (N b) + 1)) b.p + setF f (N b) (IntKind.i64.wrap (f (N b) + 1)) (N b)))
def sizeI0 : Id2 → Int := setF (fun _ => 0) zid 1
/-- What sizesOf hands back. -/
def SizesN (N : Bk → Id2) (L : List Bk) (w : World) (e : Ending) (w' : World) : Prop := ∃ b m : Nat, e = .returned (.map (some b)) ∧ m ≤ 2 * L.length + 1 ∧ OwnF idKey intV b m (L.reverse.foldl (sizeI N) sizeI0) w' ∧ Kept w w'
set_option maxRecDepth 100000 in
set_option maxHeartbeats 3200000 in
theorem sizesN_any (N : Bk → Id2) (hN : ∀ b, WfB b → WfI (N b)) (hName : ∀ b, WfB b → ∀ w, Calls Try.prog 48 #[.agg #[.int .i64 b.s, .int .i64 b.f, .int .u64 b.p.1, .int .u64 b.p.2, .int .u64 b.t]] w fun e w' => e = .returned (.agg #[.int .u64 (N b).1, .int .u64 (N b).2]) ∧ Kept w w')
    (A : Option Addr) (c : Nat) (L : List Bk) (hl : L.length ≤ 1000000) (hwl : WfL L) (w : World) (hA : CellsAt w w.heap.size A (blockCells L)) :
    Calls Try.prog 47 #[.slice A L.length c] w (SizesN N L w) := by
  obtain ⟨w1, hrun, H1, g1⟩ := OwnF.update (K := idKey) (V := intV) (t := 92) Try.underlying92 (OwnF.made w) (by unfold maxLen; omega) WfI.zid (y := (1 : Int)) trivial
  have hrun' : (Instr.mapUpdate 92 (.map (some w.heap.size)) (.agg #[.int .u64 0, .int .u64 0]) (.int .i64 1)).run Try.prog (w.alloc (.map #[] 0)) = .ok () w1 := hrun
  clear hrun
  have K1 := Lib.hid (((Kept.refl w).alloc (.map #[] 0)).grown g1 (fun k hk => by cases hk; exact Nat.le_refl _))
  have HM := Lib.hid (show OwnF idKey intV w.heap.size 1 sizeI0 w1 from H1)
  have HWL := Lib.hid hwl
  have HL := Lib.hid hl
  have HN := Lib.hid hN
  have HNm := Lib.hid hName
  have HA := Lib.hid (show CellsAt w1 w.heap.size A (blockCells L) from hA.keep fun p hp => K1.out.cell hp)
  have hb1 := H1.lt
  have hmm := @run_makeMap Try.prog
  clear H1 g1 hwl hl hN hName hA
  refine (callsIn_wide (n := 3)).1 ?_
  refine callsIn_of_wp_marks Try.func47 rfl trivial ?_ rfl
  simp only [Try.ntmps47, List.size_toArray, List.length_cons, List.length_nil, Nat.reduceAdd, Nat.reduceSub, Array.replicate_succ, Array.replicate_zero, List.push_toArray, List.append_toArray, List.nil_append, List.cons_append]
  gi_wp2_with (refine ⟨trivial, ?_⟩; gi_at_call 61; refine (callsIn_wide.2 (back_any A L.length c _)).mono ?_; rintro e w' ⟨rfl, rfl⟩)
  clear hmm hrun'
  have bM := Boxed.new w1 92 (.map (some w.heap.size))
  have bN := Boxed.new (w1.alloc (.cells #[.map (some w.heap.size)] 92)) 38 (.slice A L.length c)
  rw [World.size_alloc] at bN
  have hK0 : Kept w ((w1.alloc (.cells #[.map (some w.heap.size)] 92)).alloc (.cells #[.slice A L.length c] 38)) := (K1.out.alloc _).alloc _
  have hM0 := (HM.out.kept ((Kept.refl w1).alloc (.cells #[.map (some w.heap.size)] 92))).kept ((Kept.refl _).alloc (.cells #[.slice A L.length c] 38))
  refine range_back (w1.heap.size + 1) w.heap.size A c L HL.out rfl rfl (by simp) (by simp; omega) bN.cell (HA.out.keep fun p hp => ((((Below.refl w.heap.size w1).alloc (by omega) _).alloc (by simp; omega) _).cell hp))
    (sizeI N) sizeI0 (fun n f V => (∃ m, m ≤ 2 * n + 1 ∧ OwnF idKey intV w.heap.size m f V) ∧ V.heap[w1.heap.size]? = some (.cells #[.map (some w.heap.size)] 92 (0, 0)) ∧ Below w.heap.size w V ∧ w1.heap.size + 2 ≤ V.heap.size)
    (fun n => ?own) ⟨⟨1, by omega, hM0⟩, bM.alloc _, hK0, by simp⟩
    (fun i b a' V => ∃ z, a' = { tmps := #[.slice A L.length c, undef, .map none, .pointer (some ⟨w1.heap.size, 0, none⟩), undef, .pointer (some ⟨z, 0, none⟩), undef, .map (some w.heap.size), .agg #[.int .u64 0, .int .u64 0], .map (some w.heap.size),
      .slice A L.length c, .func (.func 81) #[] #[.pointer (some ⟨w1.heap.size + 1, 0, none⟩)], .int .i64 (i : Int), .agg #[.int .i64 b.s, .int .i64 b.f, .int .u64 b.p.1, .int .u64 b.p.2, .int .u64 b.t], undef, undef, undef, undef, undef, undef, undef, undef, undef, undef, undef, undef, undef, undef, undef, undef, undef, undef, undef], defers := [] } ∧ V.heap[z]? = some (.cells #[.int .i64 b.s, .int .i64 b.f, .int .u64 b.p.1, .int .u64 b.p.2, .int .u64 b.t] 97 (0, 0)))
    (fun i b a' => ?ownA) ?assign ?body ?done
  case own =>
    refine OwnFrom.and ?_ (OwnFrom.and (own_block _ _ _ _ _) (OwnFrom.and (ownFrom_below (Nat.le_refl _) (by simp; omega)) (fun _ V V' _ h hg _ => Nat.le_trans h hg.size)))
    rintro f V V' row ⟨m, hm, hM⟩ hg hr
    exact ⟨m, hm, own_map (f := fun f => f) (by simp; omega) f V V' row hM hg hr⟩
  case ownA =>
    rintro _ V V' row ⟨z, e, hz⟩ hg hr
    exact ⟨z, e, own_block _ z _ _ _ () V V' row hz hg hr⟩
  case assign =>
    clear hM0 hK0 bM bN
    rintro l n f i b V K ⟨⟨m, hm, hM⟩, hc, hB, hs⟩ hK
    have HI := Lib.hid (⟨⟨m, hm, hM⟩, hc, hB, hs⟩ : (∃ m, m ≤ 2 * n + 1 ∧ OwnF idKey intV w.heap.size m f V) ∧ V.heap[w1.heap.size]? = some (.cells #[.map (some w.heap.size)] 92 (0, 0)) ∧ Below w.heap.size w V ∧ w1.heap.size + 2 ≤ V.heap.size)
    have HK := Lib.hid hK
    have HS := Lib.hid hs
    have hlt := (Array.getElem?_eq_some_iff.1 hc).1
    clear hm hM hc hB hK hs
    gi_wp2
    have hs := HS.out
    have kA : Kept V (V.alloc (.cells #[.int .i64 b.s, .int .i64 b.f, .int .u64 b.p.1, .int .u64 b.p.2, .int .u64 b.t] 97)) := (Kept.refl V).alloc _
    obtain ⟨⟨m, hm, hM⟩, hc, hB, hs⟩ := HI.out
    exact HK.out _ _ (KeepsFrom.kept kA) ((BelowB.refl _ _ V).kept (by omega) (by omega) kA) ⟨⟨m, hm, hM.kept kA⟩, (kA.heap hlt).trans hc, hB.trans (kA.mono (by omega)), by simp; omega⟩ ⟨_, rfl, World.alloc_heap_new _ _⟩
  case body =>
    simp only [World.size_alloc, Nat.add_assoc, Nat.reduceAdd]
    clear hM0 hK0 bM bN
    rintro l n f i b a' V hbL hn ⟨⟨m, hm, hM⟩, hc, hB, hs⟩ ⟨z, rfl, hz⟩
    have hwb := HWL.out b hbL
    have hwn := HN.out b hwb
    obtain ⟨b0, b1, b2, b3, b4⟩ := (cells_block hz).five
    have hzl := (cells_block hz).1
    gi_wp2_with fail
    refine ⟨trivial, ?_⟩
    refine (CallsIn.inRound l (callsIn_wide.2 (HNm.out b hwb V))).mono ?_
    rintro e V1 ⟨rfl, k1⟩
    have HM1 := Lib.hid (⟨hm, hM.kept k1⟩ : m ≤ 2 * n + 1 ∧ OwnF idKey intV w.heap.size m f V1)
    have HF1 := Lib.hid (SizF.kept (w := w) (w1 := w1) ⟨KeepsFrom.refl _ V, BelowB.refl _ _ V, hc, hB, hs, hb1⟩ k1)
    have HNz : Hid (z ≠ w.heap.size) := Lib.hid (fun e => by obtain ⟨D, ⟨es, clock, hb, _⟩, _⟩ := hM; rw [e, hb] at hz; cases hz)
    have HZ1 := Lib.hid (cells_block ((k1.heap hzl).trans hz))
    clear k1 hM hm hc hB hs hz hzl b0 b1 b2 b3 b4
    have HWb := Lib.hid hwb
    have HWn := Lib.hid hwn
    clear hwb hwn
    have HWp : Hid (WfI b.p) := Lib.hid HWb.out.1
    gi_wp2_with fail
    have KA : Kept V1 (V1.alloc (.cells #[.int .u64 (N b).1, .int .u64 (N b).2] 24)) := (Kept.refl V1).alloc _
    have HMU := Lib.hid (⟨HM1.out.1, HM1.out.2.kept KA⟩ : m ≤ 2 * n + 1 ∧ OwnF idKey intV w.heap.size m f (V1.alloc (.cells #[.int .u64 (N b).1, .int .u64 (N b).2] 24)))
    have HFU := Lib.hid (HF1.out.kept KA)
    have HZU := Lib.hid (HZ1.out.kept KA)
    have HYU := Lib.hid (HasCells.new V1 #[.int .u64 (N b).1, .int .u64 (N b).2] 24 V1.heap.size rfl)
    have HNe := Lib.hid (⟨HNz.out, by have := HF1.out.2.2.2.2; omega⟩ : z ≠ w.heap.size ∧ V1.heap.size ≠ w.heap.size)
    generalize V1.alloc (.cells #[.int .u64 (N b).1, .int .u64 (N b).2] 24) = U at *
    clear KA HM1 HF1 HZ1 HNz
    generalize V1.heap.size = y at *
    obtain ⟨hm, hM⟩ := HMU.out
    have hFd := HFU.out.kept (Kept.refl U).drew
    have hMd := hM.kept (Kept.refl U).drew
    have hZd := HZU.out.kept (Kept.refl U).drew
    have hYd := HYU.out.kept (Kept.refl U).drew
    obtain ⟨st, U1, hent, hPe, hg1⟩ := OwnF.entry (K := idKey) (V := intV) (t := 92) Try.underlying92 Try.arrID.law hMd (by have := HL.out; unfold maxLen; omega) (x := N b) HWn.out
    have hent' : (Instr.mapEntry 92 (.map (some w.heap.size)) (.agg #[.int .u64 (N b).1, .int .u64 (N b).2])).run Try.prog U.drew = .ok (.tuple #[.int .i64 ((f) (N b)), .int .i64 (st : Nat)]) U1 := hent
    obtain ⟨U2, hst, hM3, hg2⟩ := hPe.2 U1 (IntKind.i64.wrap (f (N b) + 1)) trivial rfl
    have hst' : (Instr.entryStore 92 (.map (some w.heap.size)) (.int .i64 (st : Nat)) (.int .i64 (IntKind.i64.wrap (f (N b) + 1)))).run Try.prog U1 = .ok () U2 := hst
    have hzne : z ≠ w.heap.size := HNe.out.1
    have hyne : y ≠ w.heap.size := HNe.out.2
    have hF1 := hFd.grown hg1
    have hZ1 := cells_grown hZd hg1 hzne
    have hY1 := cells_grown hYd hg1 hyne
    have HS0 := Lib.hid (show (fun w' => w'.cell? ⟨w1.heap.size, 0, none⟩ = some (.map (some w.heap.size)) ∧ w'.cell? ⟨y, 0, none⟩ = some (.int .u64 (N b).1) ∧ w'.cell? ⟨y, 1, none⟩ = some (.int .u64 (N b).2) ∧ (Instr.lookup 92 (.map (some w.heap.size)) (.agg #[.int .u64 (N b).1, .int .u64 (N b).2]) false).run Try.prog w' = .ok (.int .i64 (f (N b))) w') U.drew from ⟨hFd.cell, hYd.at0, hYd.at1, OwnF.look (K := idKey) (V := intV) (t := 92) Try.underlying92 hMd HWn.out⟩)
    have HS1 := Lib.hid (show (fun w' => w'.cell? ⟨w1.heap.size, 0, none⟩ = some (.map (some w.heap.size)) ∧ w'.cell? ⟨y, 0, none⟩ = some (.int .u64 (N b).1) ∧ w'.cell? ⟨y, 1, none⟩ = some (.int .u64 (N b).2) ∧ (Instr.lookup 92 (.map (some w.heap.size)) (.agg #[.int .u64 (N b).1, .int .u64 (N b).2]) false).run Try.prog w' = .ok (.int .i64 (f (N b))) w') U1 from ⟨hF1.cell, hY1.at0, hY1.at1, OwnF.look (K := idKey) (V := intV) (t := 92) Try.underlying92 hPe.1 HWn.out⟩)
    have HMU2 := Lib.hid (⟨by omega, hM3⟩ : m + 1 ≤ 2 * n + 2 ∧ OwnF idKey intV w.heap.size (m + 1) (setF (f) (N b) (IntKind.i64.wrap (f (N b) + 1))) U2)
    have HFU2 := Lib.hid (hF1.grown hg2)
    have HZU2 := Lib.hid (cells_grown hZ1 hg2 hzne)
    have HYU2 := Lib.hid (cells_grown hY1 hg2 hyne)
    clear hm hM hFd hMd hZd hYd hent hPe hg1 hst hM3 hg2 hzne hyne hF1 hZ1 hY1
    refine wpIn_region_until 6 (fun w' => w'.cell? ⟨w1.heap.size, 0, none⟩ = some (.map (some w.heap.size)) ∧ w'.cell? ⟨y, 0, none⟩ = some (.int .u64 (N b).1) ∧ w'.cell? ⟨y, 1, none⟩ = some (.int .u64 (N b).2) ∧ (Instr.lookup 92 (.map (some w.heap.size)) (.agg #[.int .u64 (N b).1, .int .u64 (N b).2]) false).run Try.prog w' = .ok (.int .i64 (f (N b))) w') (by kernel_rfl) (by kernel_rfl) ?_ (fun hHeld => ?_)
    · exact HS0.out
    refine wpAnyU_take 0 ?_ (by simp only [List.getElem?_toArray, List.getElem?_cons_succ, List.getElem?_cons_zero]; rfl) (by kernel_rfl) (by kernel_rfl) (by kernel_rfl) (by kernel_rfl) (by kernel_rfl) (by kernel_rfl) (fun _ _ _ h => h) (Or.inl ⟨by rfl, ?_⟩) (by assumption) ?_
    rotate_left
    · intro w hSw
      (try dsimp only at hSw)
      go_simp
      (try with_reducible rfl)
    simp only [Act.put, List.setIfInBounds_toArray, List.set_cons_zero, List.set_cons_succ]
    refine wpAnyU_take 1 ?_ (by simp only [List.getElem?_toArray, List.getElem?_cons_succ, List.getElem?_cons_zero]; rfl) (by kernel_rfl) (by kernel_rfl) (by kernel_rfl) (by kernel_rfl) (by kernel_rfl) (by kernel_rfl) (fun _ _ _ h => h) (Or.inl ⟨by rfl, ?_⟩) (by assumption) ?_
    rotate_left
    · intro w hSw
      (try dsimp only at hSw)
      go_simp
      (try with_reducible rfl)
    simp only [Act.put, List.setIfInBounds_toArray, List.set_cons_zero, List.set_cons_succ]
    refine wpAnyU_take 2 ?_ (by simp only [List.getElem?_toArray, List.getElem?_cons_succ, List.getElem?_cons_zero]; rfl) (by kernel_rfl) (by kernel_rfl) (by kernel_rfl) (by kernel_rfl) (by kernel_rfl) (by kernel_rfl) (fun _ _ _ h => h) (Or.inl ⟨by rfl, ?_⟩) (by assumption) ?_
    rotate_left
    · intro w hSw
      (try dsimp only at hSw)
      go_simp
      (try with_reducible rfl)
    simp only [Act.put, List.setIfInBounds_toArray, List.set_cons_zero, List.set_cons_succ]
    refine wpAnyU_take 3 ?_ (by simp only [List.getElem?_toArray, List.getElem?_cons_succ, List.getElem?_cons_zero]; rfl) (by kernel_rfl) (by kernel_rfl) (by kernel_rfl) (by kernel_rfl) (by kernel_rfl) (by kernel_rfl) (fun _ _ _ h => h) (Or.inl ⟨by rfl, ?_⟩) (by assumption) ?_
    rotate_left
    · intro w hSw
      (try dsimp only at hSw)
      go_simp
      (try with_reducible rfl)
    simp only [Act.put, List.setIfInBounds_toArray, List.set_cons_zero, List.set_cons_succ]
    refine wpAnyU_one 4 (by kernel_rfl) (by simp only [List.getElem?_toArray, List.getElem?_cons_succ, List.getElem?_cons_zero]; rfl) (fun K hK => ?_)
    go_simp
    refine hK.out _ _ ?_ (fun hHeld2 => ?_)
    · exact HS1.out
    clear hK K hHeld
    have hHeld := hHeld2
    clear hHeld2
    try simp only [Act.put, List.setIfInBounds_toArray, List.set_cons_zero, List.set_cons_succ]
    refine wpAnyU_take 5 ?_ (by simp only [List.getElem?_toArray, List.getElem?_cons_succ, List.getElem?_cons_zero]; rfl) (by kernel_rfl) (by kernel_rfl) (by kernel_rfl) (by kernel_rfl) (by kernel_rfl) (by kernel_rfl) (fun _ _ _ h => h) (Or.inl ⟨by rfl, ?_⟩) (by assumption) ?_
    rotate_left
    · intro w hSw
      (try dsimp only at hSw)
      go_simp
      (try with_reducible rfl)
    simp only [Act.put, List.setIfInBounds_toArray, List.set_cons_zero, List.set_cons_succ]
    refine wpAnyU_last (by kernel_rfl) (by simp only [List.getElem?_toArray, List.getElem?_cons_succ, List.getElem?_cons_zero]; rfl) (by kernel_rfl) (by kernel_rfl) (fun K hK => ?_)

    go_simp
    refine hK.out _ _ ?_
    clear hK K hHeld
    refine NoOut.normal ?_
    clear HS0 HS1 hent' hst' HMU HFU HZU HYU
    gi_wp2_with fail
    obtain ⟨hm, hM⟩ := HMU2.out
    have hFd := HFU2.out.kept (Kept.refl U2).drew
    have hMd := hM.kept (Kept.refl U2).drew
    have hZd := HZU2.out.kept (Kept.refl U2).drew
    have hYd := HYU2.out.kept (Kept.refl U2).drew
    obtain ⟨st, U21, hent, hPe, hg1⟩ := OwnF.entry (K := idKey) (V := intV) (t := 92) Try.underlying92 Try.arrID.law hMd (by have := HL.out; unfold maxLen; omega) (x := b.p) HWp.out
    have hent' : (Instr.mapEntry 92 (.map (some w.heap.size)) (.agg #[.int .u64 (b.p).1, .int .u64 (b.p).2])).run Try.prog U2.drew = .ok (.tuple #[.int .i64 ((setF f (N b) (IntKind.i64.wrap (f (N b) + 1))) (b.p)), .int .i64 (st : Nat)]) U21 := hent
    obtain ⟨U22, hst, hM3, hg2⟩ := hPe.2 U21 (IntKind.i64.wrap ((setF f (N b) (IntKind.i64.wrap (f (N b) + 1))) b.p + (setF f (N b) (IntKind.i64.wrap (f (N b) + 1))) (N b))) trivial rfl
    have hst' : (Instr.entryStore 92 (.map (some w.heap.size)) (.int .i64 (st : Nat)) (.int .i64 (IntKind.i64.wrap ((setF f (N b) (IntKind.i64.wrap (f (N b) + 1))) b.p + (setF f (N b) (IntKind.i64.wrap (f (N b) + 1))) (N b))))).run Try.prog U21 = .ok () U22 := hst
    have hzne : z ≠ w.heap.size := HNe.out.1
    have hyne : y ≠ w.heap.size := HNe.out.2
    have hF1 := hFd.grown hg1
    have hZ1 := cells_grown hZd hg1 hzne
    have hY1 := cells_grown hYd hg1 hyne
    have HS0 := Lib.hid (show (fun w' => w'.cell? ⟨w1.heap.size, 0, none⟩ = some (.map (some w.heap.size)) ∧ w'.cell? ⟨z, 2, none⟩ = some (.int .u64 b.p.1) ∧ w'.cell? ⟨z, 3, none⟩ = some (.int .u64 b.p.2) ∧ w'.cell? ⟨y, 0, none⟩ = some (.int .u64 (N b).1) ∧ w'.cell? ⟨y, 1, none⟩ = some (.int .u64 (N b).2) ∧ (Instr.lookup 92 (.map (some w.heap.size)) (.agg #[.int .u64 (b.p).1, .int .u64 (b.p).2]) false).run Try.prog w' = .ok (.int .i64 ((setF f (N b) (IntKind.i64.wrap (f (N b) + 1))) b.p)) w' ∧ (Instr.lookup 92 (.map (some w.heap.size)) (.agg #[.int .u64 (N b).1, .int .u64 (N b).2]) false).run Try.prog w' = .ok (.int .i64 ((setF f (N b) (IntKind.i64.wrap (f (N b) + 1))) (N b))) w') U2.drew from ⟨hFd.cell, hZd.at2, hZd.at3, hYd.at0, hYd.at1, OwnF.look (K := idKey) (V := intV) (t := 92) Try.underlying92 hMd HWp.out, OwnF.look (K := idKey) (V := intV) (t := 92) Try.underlying92 hMd HWn.out⟩)
    have HS1 := Lib.hid (show (fun w' => w'.cell? ⟨w1.heap.size, 0, none⟩ = some (.map (some w.heap.size)) ∧ w'.cell? ⟨z, 2, none⟩ = some (.int .u64 b.p.1) ∧ w'.cell? ⟨z, 3, none⟩ = some (.int .u64 b.p.2) ∧ w'.cell? ⟨y, 0, none⟩ = some (.int .u64 (N b).1) ∧ w'.cell? ⟨y, 1, none⟩ = some (.int .u64 (N b).2) ∧ (Instr.lookup 92 (.map (some w.heap.size)) (.agg #[.int .u64 (b.p).1, .int .u64 (b.p).2]) false).run Try.prog w' = .ok (.int .i64 ((setF f (N b) (IntKind.i64.wrap (f (N b) + 1))) b.p)) w' ∧ (Instr.lookup 92 (.map (some w.heap.size)) (.agg #[.int .u64 (N b).1, .int .u64 (N b).2]) false).run Try.prog w' = .ok (.int .i64 ((setF f (N b) (IntKind.i64.wrap (f (N b) + 1))) (N b))) w') U21 from ⟨hF1.cell, hZ1.at2, hZ1.at3, hY1.at0, hY1.at1, OwnF.look (K := idKey) (V := intV) (t := 92) Try.underlying92 hPe.1 HWp.out, OwnF.look (K := idKey) (V := intV) (t := 92) Try.underlying92 hPe.1 HWn.out⟩)
    have HMU22 := Lib.hid (⟨by omega, hM3⟩ : m + 1 + 1 ≤ 2 * (n + 1) + 1 ∧ OwnF idKey intV w.heap.size (m + 1 + 1) (setF (setF f (N b) (IntKind.i64.wrap (f (N b) + 1))) (b.p) (IntKind.i64.wrap ((setF f (N b) (IntKind.i64.wrap (f (N b) + 1))) b.p + (setF f (N b) (IntKind.i64.wrap (f (N b) + 1))) (N b)))) U22)
    have HFU22 := Lib.hid (hF1.grown hg2)
    have HZU22 := Lib.hid (cells_grown hZ1 hg2 hzne)
    have HYU22 := Lib.hid (cells_grown hY1 hg2 hyne)
    clear hm hM hFd hMd hZd hYd hent hPe hg1 hst hM3 hg2 hzne hyne hF1 hZ1 hY1
    refine wpIn_region_until 10 (fun w' => w'.cell? ⟨w1.heap.size, 0, none⟩ = some (.map (some w.heap.size)) ∧ w'.cell? ⟨z, 2, none⟩ = some (.int .u64 b.p.1) ∧ w'.cell? ⟨z, 3, none⟩ = some (.int .u64 b.p.2) ∧ w'.cell? ⟨y, 0, none⟩ = some (.int .u64 (N b).1) ∧ w'.cell? ⟨y, 1, none⟩ = some (.int .u64 (N b).2) ∧ (Instr.lookup 92 (.map (some w.heap.size)) (.agg #[.int .u64 (b.p).1, .int .u64 (b.p).2]) false).run Try.prog w' = .ok (.int .i64 ((setF f (N b) (IntKind.i64.wrap (f (N b) + 1))) b.p)) w' ∧ (Instr.lookup 92 (.map (some w.heap.size)) (.agg #[.int .u64 (N b).1, .int .u64 (N b).2]) false).run Try.prog w' = .ok (.int .i64 ((setF f (N b) (IntKind.i64.wrap (f (N b) + 1))) (N b))) w') (by kernel_rfl) (by kernel_rfl) ?_ (fun hHeld => ?_)
    · exact HS0.out
    refine wpAnyU_take 0 ?_ (by simp only [List.getElem?_toArray, List.getElem?_cons_succ, List.getElem?_cons_zero]; rfl) (by kernel_rfl) (by kernel_rfl) (by kernel_rfl) (by kernel_rfl) (by kernel_rfl) (by kernel_rfl) (fun _ _ _ h => h) (Or.inl ⟨by rfl, ?_⟩) (by assumption) ?_
    rotate_left
    · intro w hSw
      (try dsimp only at hSw)
      go_simp
      (try with_reducible rfl)
    simp only [Act.put, List.setIfInBounds_toArray, List.set_cons_zero, List.set_cons_succ]
    refine wpAnyU_take 1 ?_ (by simp only [List.getElem?_toArray, List.getElem?_cons_succ, List.getElem?_cons_zero]; rfl) (by kernel_rfl) (by kernel_rfl) (by kernel_rfl) (by kernel_rfl) (by kernel_rfl) (by kernel_rfl) (fun _ _ _ h => h) (Or.inl ⟨by rfl, ?_⟩) (by assumption) ?_
    rotate_left
    · intro w hSw
      (try dsimp only at hSw)
      go_simp
      (try with_reducible rfl)
    simp only [Act.put, List.setIfInBounds_toArray, List.set_cons_zero, List.set_cons_succ]
    refine wpAnyU_take 2 ?_ (by simp only [List.getElem?_toArray, List.getElem?_cons_succ, List.getElem?_cons_zero]; rfl) (by kernel_rfl) (by kernel_rfl) (by kernel_rfl) (by kernel_rfl) (by kernel_rfl) (by kernel_rfl) (fun _ _ _ h => h) (Or.inl ⟨by rfl, ?_⟩) (by assumption) ?_
    rotate_left
    · intro w hSw
      (try dsimp only at hSw)
      go_simp
      (try with_reducible rfl)
    simp only [Act.put, List.setIfInBounds_toArray, List.set_cons_zero, List.set_cons_succ]
    refine wpAnyU_take 3 ?_ (by simp only [List.getElem?_toArray, List.getElem?_cons_succ, List.getElem?_cons_zero]; rfl) (by kernel_rfl) (by kernel_rfl) (by kernel_rfl) (by kernel_rfl) (by kernel_rfl) (by kernel_rfl) (fun _ _ _ h => h) (Or.inl ⟨by rfl, ?_⟩) (by assumption) ?_
    rotate_left
    · intro w hSw
      (try dsimp only at hSw)
      go_simp
      (try with_reducible rfl)
    simp only [Act.put, List.setIfInBounds_toArray, List.set_cons_zero, List.set_cons_succ]
    refine wpAnyU_take 4 ?_ (by simp only [List.getElem?_toArray, List.getElem?_cons_succ, List.getElem?_cons_zero]; rfl) (by kernel_rfl) (by kernel_rfl) (by kernel_rfl) (by kernel_rfl) (by kernel_rfl) (by kernel_rfl) (fun _ _ _ h => h) (Or.inl ⟨by rfl, ?_⟩) (by assumption) ?_
    rotate_left
    · intro w hSw
      (try dsimp only at hSw)
      go_simp
      (try with_reducible rfl)
    simp only [Act.put, List.setIfInBounds_toArray, List.set_cons_zero, List.set_cons_succ]
    refine wpAnyU_take 5 ?_ (by simp only [List.getElem?_toArray, List.getElem?_cons_succ, List.getElem?_cons_zero]; rfl) (by kernel_rfl) (by kernel_rfl) (by kernel_rfl) (by kernel_rfl) (by kernel_rfl) (by kernel_rfl) (fun _ _ _ h => h) (Or.inl ⟨by rfl, ?_⟩) (by assumption) ?_
    rotate_left
    · intro w hSw
      (try dsimp only at hSw)
      go_simp
      (try with_reducible rfl)
    simp only [Act.put, List.setIfInBounds_toArray, List.set_cons_zero, List.set_cons_succ]
    refine wpAnyU_take 6 ?_ (by simp only [List.getElem?_toArray, List.getElem?_cons_succ, List.getElem?_cons_zero]; rfl) (by kernel_rfl) (by kernel_rfl) (by kernel_rfl) (by kernel_rfl) (by kernel_rfl) (by kernel_rfl) (fun _ _ _ h => h) (Or.inl ⟨by rfl, ?_⟩) (by assumption) ?_
    rotate_left
    · intro w hSw
      (try dsimp only at hSw)
      go_simp
      (try with_reducible rfl)
    simp only [Act.put, List.setIfInBounds_toArray, List.set_cons_zero, List.set_cons_succ]
    refine wpAnyU_take 7 ?_ (by simp only [List.getElem?_toArray, List.getElem?_cons_succ, List.getElem?_cons_zero]; rfl) (by kernel_rfl) (by kernel_rfl) (by kernel_rfl) (by kernel_rfl) (by kernel_rfl) (by kernel_rfl) (fun _ _ _ h => h) (Or.inl ⟨by rfl, ?_⟩) (by assumption) ?_
    rotate_left
    · intro w hSw
      (try dsimp only at hSw)
      go_simp
      (try with_reducible rfl)
    simp only [Act.put, List.setIfInBounds_toArray, List.set_cons_zero, List.set_cons_succ]
    refine wpAnyU_one 8 (by kernel_rfl) (by simp only [List.getElem?_toArray, List.getElem?_cons_succ, List.getElem?_cons_zero]; rfl) (fun K hK => ?_)
    go_simp
    refine hK.out _ _ ?_ (fun hHeld2 => ?_)
    · exact HS1.out
    clear hK K hHeld
    have hHeld := hHeld2
    clear hHeld2
    try simp only [Act.put, List.setIfInBounds_toArray, List.set_cons_zero, List.set_cons_succ]
    refine wpAnyU_take 9 ?_ (by simp only [List.getElem?_toArray, List.getElem?_cons_succ, List.getElem?_cons_zero]; rfl) (by kernel_rfl) (by kernel_rfl) (by kernel_rfl) (by kernel_rfl) (by kernel_rfl) (by kernel_rfl) (fun _ _ _ h => h) (Or.inl ⟨by rfl, ?_⟩) (by assumption) ?_
    rotate_left
    · intro w hSw
      (try dsimp only at hSw)
      go_simp
      (try with_reducible rfl)
    simp only [Act.put, List.setIfInBounds_toArray, List.set_cons_zero, List.set_cons_succ]
    refine wpAnyU_last (by kernel_rfl) (by simp only [List.getElem?_toArray, List.getElem?_cons_succ, List.getElem?_cons_zero]; rfl) (by kernel_rfl) (by kernel_rfl) (fun K hK => ?_)

    go_simp
    refine hK.out _ _ ?_
    clear hK K hHeld
    refine NoOut.normal ?_
    clear HS0 HS1 hent' hst' HMU2 HFU2 HZU2 HYU2
    obtain ⟨h1, h2, h3, h4, h5, h6⟩ := HFU22.out
    exact ⟨h1, h2, ⟨m + 1 + 1, HMU22.out.1, HMU22.out.2⟩, h3, h4, h5⟩
  case done =>
    clear hM0 hK0 bM bN
    rintro D V hD ⟨⟨m, hm, hM⟩, hc, hB, hs⟩ hK
    have hcb := (cells_block hc).at0
    have HKV := Lib.hid hB
    have HD := Lib.hid (show w.heap.size < D by simp at hD; omega)
    have HMD := Lib.hid (⟨hm, hM⟩ : m ≤ 2 * L.length + 1 ∧ OwnF idKey intV w.heap.size m (L.reverse.foldl (sizeI N) sizeI0) V)
    clear hB hD hm hM hc hs
    gi_wp2
    refine ⟨by simp, .inl ⟨_, _, rfl, run_takeDeferred hK, ?_⟩⟩
    have hne : w.heap.size ≠ D := by have := HD.out; omega
    exact ⟨_, results_tmp rfl _ _ _, w.heap.size, m, rfl, HMD.out.1, HMD.out.2.at ((grownBy_putObj' V D _).block _ HMD.out.2.lt (fun e => hne (by injection e))), HKV.out.trans (belowK_b (w := w) (Nat.le_refl _) V D _ _ (by have := HD.out; omega) hK rfl rfl)⟩

theorem wrap_small {n : Nat} (h : n ≤ 4000000) : IntKind.i64.wrap (n : Int) = n := by rw [IntKind.wrap_i64]; omega
theorem sizeI_step {l r : List Bk} {b : Bk} (h : mayB (l ++ b :: r) = true) {S : Id2 → Nat} (I : SizeI (l ++ [b]) r S) (hr : r.length ≤ 1000000) : sizeI nameB (fun x => (S x : Int)) b = fun x => (sizeStep S b x : Int) := by
  have hS : ∀ x, S x ≤ 1000001 := fun x => by have := I.le x; omega
  have ho := part_own h
  funext x
  rw [sizeStep_eq h]
  unfold sizeI
  have e1 : IntKind.i64.wrap ((S (nameB b) : Int) + 1) = ((S (nameB b) + 1 : Nat) : Int) := by
    have := hS (nameB b)
    rw [show (S (nameB b) : Int) + 1 = ((S (nameB b) + 1 : Nat) : Int) by simp, wrap_small (by omega)]
  rw [e1]
  by_cases e : x = b.p
  · rw [if_pos e, e, setF_same, setF_other _ ho, setF_same]
    have h1 := hS b.p
    have h2 := hS (nameB b)
    rw [show (S b.p : Int) + ((S (nameB b) + 1 : Nat) : Int) = ((S b.p + (S (nameB b) + 1) : Nat) : Int) by simp, wrap_small (by omega)]
  · rw [if_neg e, setF_other _ e]
    by_cases e2 : x = nameB b
    · rw [if_pos e2, e2, setF_same]
    · rw [if_neg e2, setF_other _ e2]
theorem sizeI_fold {L : List Bk} (h : mayB L = true) (hl : L.length ≤ 1000000) : ∀ (r l : List Bk), l ++ r = L → ∃ S, SizeI l r S ∧ r.reverse.foldl (sizeI nameB) sizeI0 = fun x => (S x : Int)
  | [], l, e => ⟨_, by rw [← e, List.append_nil] at h; exact SizeI.start h, by
    funext x
    show setF (fun _ => (0 : Int)) zid 1 x = ((if x = zid then 1 else 0 : Nat) : Int)
    by_cases q : x = zid
    · rw [if_pos q, q, setF_same]; rfl
    · rw [if_neg q, setF_other _ q]; rfl⟩
  | b :: r, l, e => by
    obtain ⟨S, I, hf⟩ := sizeI_fold h hl r (l ++ [b]) (by rw [← e]; simp)
    have hm : mayB (l ++ b :: r) = true := by rw [e]; exact h
    have hlr : r.length ≤ 1000000 := by rw [← e] at hl; simp at hl; omega
    refine ⟨_, I.step hm, ?_⟩
    rw [List.reverse_cons, List.foldl_append, hf]
    exact sizeI_step hm I hlr
/-- What sizesOf hands back, of blocks that may be. -/
def SizesNew (L : List Bk) (w : World) (e : Ending) (w' : World) : Prop := ∃ (b m : Nat) (S : Id2 → Nat), e = .returned (.map (some b)) ∧ m ≤ 2 * L.length + 1 ∧ SizesB L S ∧ OwnF idKey intV b m (fun x => (S x : Int)) w' ∧ Kept w w'
theorem sizesOf_any (A : Option Addr) (c : Nat) (L : List Bk) (hl : L.length ≤ 1000000) (hwl : WfL L) (hm : mayB L = true) (w : World) (hA : CellsAt w w.heap.size A (blockCells L)) :
    Calls Try.prog 47 #[.slice A L.length c] w (SizesNew L w) := by
  refine (sizesN_any nameB (fun b _ => nameB_lt b) (fun b hb w => name_any b hb w) A c L hl hwl w hA).mono ?_
  rintro e w' ⟨b, m, rfl, h1, h2, h3⟩
  obtain ⟨S, I, hf⟩ := sizeI_fold hm hl L [] rfl
  rw [hf] at h2
  exact ⟨b, m, S, rfl, h1, I.done hm, h2, h3⟩

end Go.Proofs.Ythaofomhlmajbaa
