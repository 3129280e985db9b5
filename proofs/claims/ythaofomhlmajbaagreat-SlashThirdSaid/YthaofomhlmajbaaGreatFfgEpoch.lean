/-
  The contract of ffg's byEpoch.
-/
import Derived.Test.YthaofomhlmajbaaGreatFfgVoters
import Derived.Test.YthaofomhlmajbaaGreatCkRow
import Derived.Test.YthaofomhlmajbaaGreatMapKinds
import Derived.Test.YthaofomhlmajbaaGreatGroupF
import Derived.Test.YthaofomhlmajbaaGreatUntil
import Derived.Test.YthaofomhlmajbaaGreatSeqBack
namespace Go.Proofs.YthaofomhlmajbaaGreat
set_option maxRecDepth 100000
set_option linter.unusedVariables false
set_option linter.unusedSimpArgs false
set_option linter.unusedSimpArgs false
set_option linter.unusedVariables false
open Go.ChangeShapes Go.WideShapes Go.ChangeAt Go.RowKit

def epoF (l : List Ck) (e : Int) : List Ck := l.filter fun x => decide (x.e = e)
theorem epoF_snoc (l : List Ck) (x : Ck) : epoF (l ++ [x]) = growG (epoF l) x.e x := by
  funext e
  unfold epoF growG setF
  rw [List.filter_append]
  by_cases q : e = x.e
  · rw [if_pos q, q, List.filter_cons_of_pos (by simp), List.filter_nil]
  · rw [if_neg q, List.filter_cons_of_neg (by simpa using fun z => q z.symm), List.filter_nil, List.append_nil]
theorem epoF_length (l : List Ck) (e : Int) : (epoF l e).length ≤ l.length := List.length_filter_le _ _
theorem Group.look2 {α γ : Type} {K : KeyKind α} {S : RowKind γ} {B : Nat} {f : α → List γ} {b m : Nat} {w : World} (h : Group K S B f b m w) {t : TypeId} (ht : Tryz.prog.underlying t = some (.map K.k S.sl)) {x : α} (hx : K.wf x) :
    ∃ A c, GPend K S (ByKey K S b m) B f b x (.slice A (f x).length c) w ∧ ∀ w' : World, w'.heap[b]? = w.heap[b]? → (Instr.lookup t (.map (some b)) (K.key x) false).run Tryz.prog w' = .ok (.slice A (f x).length c) w' := by
  obtain ⟨V, h0, hb, hB, h1, h2⟩ := h
  obtain ⟨A, c, e⟩ := row_form (h1 x hx)
  exact ⟨A, c, ⟨hb, hB, V, h0, e.symm, h1, h2⟩, fun w' hw => by rw [(OwnF.at h0 hw).look (t := t) ht hx, ← e]; rfl⟩
theorem GPend.far {α γ : Type} {K : KeyKind α} {S : RowKind γ} {M : (α → Value) → World → Prop} {B : Nat} {f : α → List γ} {b : Nat} {x : α} {v : Value} {w : World} (h : GPend K S M B f b x v w) (hx : K.wf x) : ∀ g, v.ownBlock = some g → B ≤ g ∧ g < w.heap.size := by
  obtain ⟨_, _, V, _, rfl, h2, _⟩ := h
  exact (h2 x hx).lt
def EpoNew (l : List Ck) (w : World) (e : Ending) (w' : World) : Prop := ∃ b m B : Nat, e = .returned (.map (some b)) ∧ m ≤ l.length ∧ Group epKey ckRow B (epoF l) b m w' ∧ w.heap.size ≤ b ∧ Kept w w'

set_option maxRecDepth 100000 in
set_option maxHeartbeats 3200000 in
theorem byEpoch_any (A : Option Addr) (c : Nat) (l : List Ck) (hl : l.length ≤ 20000) (hwf : ∀ x ∈ l, WfK x) (w : World) (hA : CellsAt w w.heap.size A (cksCells l)) :
    Calls Tryz.prog 17 #[.slice A l.length c] w (EpoNew l w) := by
  have HA := Lib.hid hA
  have HWf := Lib.hid hwf
  have HLl := Lib.hid hl
  have hmm := @run_makeMap Tryz.prog
  have HG0 := Lib.hid (Group.made (K := epKey) (S := ckRow) w)
  have K0 := Lib.hid ((Kept.refl w).alloc (.map #[] 0))
  clear hA hwf hl
  go_enter Tryz.func17, Tryz.ntmps17
  go_wp2_with fail
  clear hmm
  generalize w.alloc (.map #[] 0) = W0 at *
  generalize hb : w.heap.size = b at *
  have HBw := Lib.hid hb
  clear hb
  go_loopw [9] (fun i wr => ∃ j m : Nat, j ≤ l.length ∧ i = .int .i64 j ∧ m ≤ j ∧ Group epKey ckRow (b + 1) (epoF (l.take j)) b m wr ∧ Kept w wr) (fun i _ => l.length - (intOf i).toNat)
  case atStart => exact ⟨0, 0, Nat.zero_le _, rfl, Nat.le_refl _, HG0.out.congr (fun x _ => rfl), K0.out⟩
  case round =>
    obtain ⟨j, m, hj, rfl, hm, hG, hK⟩ := hrel
    have HG := Lib.hid hG
    have HK := Lib.hid hK
    have HM := Lib.hid hm
    clear hG hK hm HG0 K0
    have hll := HLl.out
    by_cases hlt : j < l.length
    · have HX := Lib.hid (HWf.out _ (List.getElem_mem hlt))
      have HTk := Lib.hid (show l.take (j + 1) = l.take j ++ [l[j]] from List.take_succ_eq_append_getElem hlt)
      obtain ⟨zc, oc, rfl, hbc, x0, x1, x2⟩ := ck_at (HA.out.keep fun p hp => HK.out.cell (by rw [HBw.out]; exact hp)) hlt
      generalize l[j] = x at *
      go_wp2_with fail
      clear x0 x1 x2
      have KU : Kept wr (wr.alloc (.cells #[.int .i64 x.e, .int .u64 x.r.1, .int .u64 x.r.2] 38)) := (Kept.refl wr).alloc _
      have HGU := Lib.hid (HG.out.kept KU)
      have HKU := Lib.hid (HK.out.trans KU)
      have HY := Lib.hid (HasCells.new wr #[.int .i64 x.e, .int .u64 x.r.1, .int .u64 x.r.2] 38 wr.heap.size rfl)
      have HFl := Lib.hid (fun e => Nat.le_trans (epoF_length (l.take j) e) (by rw [List.length_take]; exact Nat.min_le_right _ _))
      have HSn := Lib.hid (epoF_snoc (l.take j) x)
      have HNy : Hid (b < wr.heap.size) := Lib.hid HG.out.lt
      obtain ⟨A1, c1, hP0, hLk⟩ := HG.out.look2 (t := 54) Tryz.underlying54 (x := x.e) HX.out.1
      have HFar := Lib.hid (hP0.far HX.out.1)
      have HP := Lib.hid (GPend.kept (M := ByKey epKey ckRow b m) (fun V u u' h e => ByKey.at h e) hP0 KU)
      have HLk := Lib.hid (show ∀ w' : World, w'.heap[b]? = wr.heap[b]? → (Instr.lookup 54 (.map (some b)) (.int .i64 x.e) false).run Tryz.prog w' = .ok (.slice A1 (epoF (l.take j) x.e).length c1) w' from hLk)
      have HWr := Lib.hid (fun i (hi : i < wr.heap.size) => KU.heap hi)
      clear hP0 hLk
      clear KU HG HK
      generalize wr.alloc (.cells #[.int .i64 x.e, .int .u64 x.r.1, .int .u64 x.r.2] 38) = U at *
      generalize wr.heap.size = y at *
      generalize epoF (l.take j) = f at *
      have hyU := HY.out.1
      have hby := HNy.out
      have HSof := Lib.hid (fun (w' : World) (h1 : ∀ i, i ≤ y → (∀ g, (Value.slice A1 (f x.e).length c1).ownBlock = some g → i ≠ g) → w'.heap[i]? = U.heap[i]?) => (show (fun w' => w'.cell? ⟨y, 0, none⟩ = some (.int .i64 x.e) ∧ w'.cell? ⟨y, 1, none⟩ = some (.int .u64 x.r.1) ∧ w'.cell? ⟨y, 2, none⟩ = some (.int .u64 x.r.2) ∧ (Instr.lookup 54 (.map (some b)) (.int .i64 x.e) false).run Tryz.prog w' = .ok (.slice A1 (f x.e).length c1) w') w' from by
        have e1 := h1 y (Nat.le_refl _) (fun g hg e => by have := (HFar.out g hg).2; omega)
        have e2 := h1 b (by omega) (fun g hg e => by have := (HFar.out g hg).1; omega)
        have hc : ∀ i u, U.cell? ⟨y, i, none⟩ = some u → w'.cell? ⟨y, i, none⟩ = some u := fun i u h => (cell_of_heap (p := ⟨y, i, none⟩) e1).trans h
        exact ⟨hc _ _ HY.out.at0, hc _ _ HY.out.at1, hc _ _ HY.out.at2, HLk.out w' (e2.trans (HWr.out b hby))⟩))
      have HS0 := Lib.hid (HSof.out U.drew (fun i _ _ => rfl))
      have HS8 := Lib.hid (HSof.out (U.drew.alloc (.cells #[.int .i64 x.e, .int .u64 x.r.1, .int .u64 x.r.2] 38)) (fun i hi _ => Below.heap_alloc _ _ _ (show i < U.heap.size by omega)))
      have hSf := fun w9 (g9 : (U.drew.alloc (.cells #[.int .i64 x.e, .int .u64 x.r.1, .int .u64 x.r.2] 38)).grownBy w9 (Value.slice A1 (f x.e).length c1).ownBlock) => HSof.out w9 (fun i hi hn => (g9.block i (by simp; omega) (fun e => hn i e.symm rfl)).trans (Below.heap_alloc _ _ _ (show i < U.heap.size by omega)))
      go_wp2_with fail
      refine wp_region_noPanic ?_
      refine wp_region_until 10 (fun w' => w'.cell? ⟨y, 0, none⟩ = some (.int .i64 x.e) ∧ w'.cell? ⟨y, 1, none⟩ = some (.int .u64 x.r.1) ∧ w'.cell? ⟨y, 2, none⟩ = some (.int .u64 x.r.2) ∧ (Instr.lookup 54 (.map (some b)) (.int .i64 x.e) false).run Tryz.prog w' = .ok (.slice A1 (f x.e).length c1) w') (by kernel_rfl) ?_ (fun hHeld => ?_)
      · exact HS0.out
      refine wpAnyU_take 0 ?_ (by simp only [List.getElem?_toArray, List.getElem?_cons_succ, List.getElem?_cons_zero]; rfl) (by kernel_rfl) (by kernel_rfl) (by kernel_rfl) (by kernel_rfl) (by kernel_rfl) (by kernel_rfl) (fun _ _ _ h => h) (Or.inl ⟨by rfl, ?_⟩) (by assumption) ?_
      rotate_left
      · intro w hSw
        (try dsimp only at hSw)
        go_simp
        (try with_reducible rfl)
      simp only [Act.put, List.setIfInBounds_toArray, List.set_cons_zero, List.set_cons_succ]
      refine wpAnyU_take 1 ?_ (by simp only [List.getElem?_toArray, List.getElem?_cons_succ, List.getElem?_cons_zero]; rfl) (by kernel_rfl) (by kernel_rfl) (by kernel_rfl) (by kernel_rfl) (by kernel_rfl) (by kernel_rfl) (fun _ _ _ h => h) (Or.inl ⟨by rfl, ?_⟩) (by assumption) ?_
      rotate_left
      · intro w hSw
        (try dsimp only at hSw)
        go_simp
        (try with_reducible rfl)
      simp only [Act.put, List.setIfInBounds_toArray, List.set_cons_zero, List.set_cons_succ]
      refine wpAnyU_take 2 ?_ (by simp only [List.getElem?_toArray, List.getElem?_cons_succ, List.getElem?_cons_zero]; rfl) (by kernel_rfl) (by kernel_rfl) (by kernel_rfl) (by kernel_rfl) (by kernel_rfl) (by kernel_rfl) (fun _ _ _ h => h) (Or.inl ⟨by rfl, ?_⟩) (by assumption) ?_
      rotate_left
      · intro w hSw
        (try dsimp only at hSw)
        go_simp
        (try with_reducible rfl)
      simp only [Act.put, List.setIfInBounds_toArray, List.set_cons_zero, List.set_cons_succ]
      refine wpAnyU_take 3 ?_ (by simp only [List.getElem?_toArray, List.getElem?_cons_succ, List.getElem?_cons_zero]; rfl) (by kernel_rfl) (by kernel_rfl) (by kernel_rfl) (by kernel_rfl) (by kernel_rfl) (by kernel_rfl) (fun _ _ _ h => h) (Or.inl ⟨by rfl, ?_⟩) (by assumption) ?_
      rotate_left
      · intro w hSw
        (try dsimp only at hSw)
        go_simp
        (try with_reducible rfl)
      simp only [Act.put, List.setIfInBounds_toArray, List.set_cons_zero, List.set_cons_succ]
      refine wpAnyU_take 4 ?_ (by simp only [List.getElem?_toArray, List.getElem?_cons_succ, List.getElem?_cons_zero]; rfl) (by kernel_rfl) (by kernel_rfl) (by kernel_rfl) (by kernel_rfl) (by kernel_rfl) (by kernel_rfl) (fun _ _ _ h => h) (Or.inl ⟨by rfl, ?_⟩) (by assumption) ?_
      rotate_left
      · intro w hSw
        (try dsimp only at hSw)
        go_simp
        (try with_reducible rfl)
      simp only [Act.put, List.setIfInBounds_toArray, List.set_cons_zero, List.set_cons_succ]
      refine wpAnyU_take 5 ?_ (by simp only [List.getElem?_toArray, List.getElem?_cons_succ, List.getElem?_cons_zero]; rfl) (by kernel_rfl) (by kernel_rfl) (by kernel_rfl) (by kernel_rfl) (by kernel_rfl) (by kernel_rfl) (fun _ _ _ h => h) (Or.inl ⟨by rfl, ?_⟩) (by assumption) ?_
      rotate_left
      · intro w hSw
        (try dsimp only at hSw)
        go_simp
        (try with_reducible rfl)
      simp only [Act.put, List.setIfInBounds_toArray, List.set_cons_zero, List.set_cons_succ]
      refine wpAnyU_take 6 ?_ (by simp only [List.getElem?_toArray, List.getElem?_cons_succ, List.getElem?_cons_zero]; rfl) (by kernel_rfl) (by kernel_rfl) (by kernel_rfl) (by kernel_rfl) (by kernel_rfl) (by kernel_rfl) (fun _ _ _ h => h) (Or.inl ⟨by rfl, ?_⟩) (by assumption) ?_
      rotate_left
      · intro w hSw
        (try dsimp only at hSw)
        go_simp
        (try with_reducible rfl)
      simp only [Act.put, List.setIfInBounds_toArray, List.set_cons_zero, List.set_cons_succ]
      refine wpAnyU_take 7 ?_ (by simp only [List.getElem?_toArray, List.getElem?_cons_succ, List.getElem?_cons_zero]; rfl) (by kernel_rfl) (by kernel_rfl) (by kernel_rfl) (by kernel_rfl) (by kernel_rfl) (by kernel_rfl) (fun _ _ _ h => h) (Or.inl ⟨by rfl, ?_⟩) (by assumption) ?_
      rotate_left
      · intro w hSw
        (try dsimp only at hSw)
        go_simp
        (try with_reducible rfl)
      simp only [Act.put, List.setIfInBounds_toArray, List.set_cons_zero, List.set_cons_succ]
      refine wpAnyU_one 8 (by kernel_rfl) (by simp only [List.getElem?_toArray, List.getElem?_cons_succ, List.getElem?_cons_zero]; rfl) (fun K hK => ?_)
      go_simp
      refine hK.out _ _ ?_ (fun hHeld2 => ?_)
      · exact HS8.out
      clear hK K hHeld
      have hHeld := hHeld2
      clear hHeld2
      try simp only [Act.put, List.setIfInBounds_toArray, List.set_cons_zero, List.set_cons_succ]
      refine wpAnyU_one 9 (by kernel_rfl) (by simp only [List.getElem?_toArray, List.getElem?_cons_succ, List.getElem?_cons_zero]; rfl) (fun K hK => ?_)
      rw [if_pos (by rfl)]
      refine wp_gapp (K := epKey) (S := ckRow) _ (.tmp 19) (.tmp 21) (by rfl) (ByKey epKey ckRow b m) (b + 1) f b x.e HX.out.1 (.slice A1 (f x.e).length c1) (by rfl) (GPend.kept (M := ByKey epKey ckRow b m) (fun V u u' h e => ByKey.at h e) HP.out ((Kept.refl U).drew.alloc (.cells #[.int .i64 x.e, .int .u64 x.r.1, .int .u64 x.r.2] 38))) (fun V u h e => ByKey.at h e) _ (some ⟨U.heap.size, 0, none⟩) 1 x (by rfl) (cks_new (w := U.drew) U.heap.size rfl _) (by have := HFl.out x.e; have := HLl.out; omega) ?_
      intro A2 c2 w9 hG9 g9 hB9
      have g9' : (U.drew.alloc (.cells #[.int .i64 x.e, .int .u64 x.r.1, .int .u64 x.r.2] 38)).grownBy w9 (Value.slice A1 (f x.e).length c1).ownBlock := g9
      obtain ⟨w10, hr10, hG10, g10⟩ := Group.update (t := 54) Tryz.underlying54 hG9 (by have := HLl.out; have := HM.out; unfold maxLen; omega) HX.out.1
      have hr10' : (Instr.mapUpdate 54 (.map (some b)) (.int .i64 x.e) (.slice A2 ((f x.e).length + 1) c2)).run Tryz.prog w9 = .ok () w10 := hr10
      have HS9 := hSf w9 g9'
      refine hK.out _ _ ?_ (fun hHeld2 => ?_)
      · exact HS9
      clear hK K hHeld
      have hHeld := hHeld2
      clear hHeld2
      try simp only [Act.put, List.setIfInBounds_toArray, List.set_cons_zero, List.set_cons_succ]
      refine wpAnyU_last (by kernel_rfl) (by simp only [List.getElem?_toArray, List.getElem?_cons_succ, List.getElem?_cons_zero]; rfl) (by kernel_rfl) (by kernel_rfl) (fun K hK => ?_)

      go_simp
      refine hK.out _ _ ?_
      clear hK K hHeld
      refine NoPanic.normal ?_
      have HG10 := Lib.hid hG10
      have hbw := HBw.out
      have HK10 := Lib.hid ((((HKU.out.drew).alloc (.cells #[.int .i64 x.e, .int .u64 x.r.1, .int .u64 x.r.2] 38)).grown g9' (fun k e => by have := (HFar.out k e).1; omega)).grown g10 (fun k e => by cases e; omega))
      clear hG10 g10 hG9 g9 g9' hB9 hr10 hr10' HS9 hSf hbw
      go_wp2_with fail
      go_roundw
      case rel => exact ⟨j + 1, m + 1, by omega, by go_num, by have := HM.out; omega, by rw [HTk.out, HSn.out]; exact HG10.out, HK10.out⟩
      case measure => simp [intOf]; omega
    · have hjx : j = l.length := by omega
      subst hjx
      have HE := Lib.hid (show l.take l.length = l from List.take_length)
      go_wp2_with fail
      go_ret
      exact ⟨b, m, b + 1, rfl, HM.out, by have := HG.out; rw [HE.out] at this; exact this, by rw [HBw.out]; exact Nat.le_refl _, HK.out⟩

end Go.Proofs.YthaofomhlmajbaaGreat
