/-
  The contract of package mix's call Of.
-/
import Derived.Test.YtepgbnojbomicaaMixStep
namespace Go.Proofs.Ytepgbnojbomicaa
open Go.ChangeShapes Go.WideShapes Go.ChangeAt Go.RowKit

/-! ### Of -/
theorem step_not (h x : Nat) (hh : h < 18446744073709551616) (hx : x < 18446744073709551616) (w : World) :
    Calls Try.prog 38 #[.int .u64 h, .int .u64 (bits .xor .u64 IntKind.u64.max x)] w fun e w' => e = .returned (.int .u64 (stepN h (notN x))) ∧ w = w' := by
  rw [not_int x hx]; exact step_any h _ hh (notN_lt x) w
/-- Words that lie one behind another: those of l, from A on, below block B. -/
def WordsAt (w : World) (B : Nat) (A : Option Addr) (l : List Nat) : Prop := ∀ j x, l[j]? = some x → ∃ ad : Addr, A = some ad ∧ ad.block < B ∧ w.cell? (ad.add j) = some (.int .u64 (x : Nat))
theorem WordsAt.keep {w w' : World} {B : Nat} {A : Option Addr} {l : List Nat} (h : WordsAt w B A l) (hk : ∀ p : Addr, p.block < B → w'.cell? p = w.cell? p) : WordsAt w' B A l := fun j x hx => by
  obtain ⟨ad, e, hb, hc⟩ := h j x hx
  exact ⟨ad, e, hb, (hk _ (by rw [block_add]; exact hb)).trans hc⟩

def wordCells (l : List Nat) : List Value := l.map fun x : Nat => .int .u64 x
theorem WordsAt.of_cells {w : World} {B : Nat} {A : Option Addr} {l : List Nat} (h : CellsAt w B A (wordCells l)) : WordsAt w B A l := fun j x hx => h j _ (by simp [wordCells, List.getElem?_map, hx])
theorem WordsAt.cells {w : World} {B : Nat} {A : Option Addr} {l : List Nat} (h : WordsAt w B A l) : CellsAt w B A (wordCells l) := fun j u hu => by
  simp only [wordCells, List.getElem?_map, Option.map_eq_some_iff] at hu
  obtain ⟨x, hx, rfl⟩ := hu
  exact h j x hx
theorem wordCells_one (l : List Nat) : ∀ u ∈ wordCells l, u.oneCell' = true := fun u hu => by
  simp only [wordCells, List.mem_map] at hu
  obtain ⟨x, _, rfl⟩ := hu
  rfl

/-- What Of's loop holds: the id's two cells in block b; all that lay in W lies as it was. -/
def OfAt (W : World) (b : Nat) (p : Nat × Nat) (w : World) : Prop :=
  W.heap.size ≤ b ∧ w.cell? ⟨b, 0, none⟩ = some (.int .u64 p.1) ∧ w.cell? ⟨b, 1, none⟩ = some (.int .u64 p.2) ∧ w.frozen? ⟨b, 0, none⟩ = false ∧ w.frozen? ⟨b, 1, none⟩ = false ∧ Kept W w
theorem OfAt.put {W w : World} {b : Nat} {p : Nat × Nat} (h : OfAt W b p w) (u v : Nat) :
    OfAt W b (u, v) ((w.setCell ⟨b, 0, none⟩ (.int .u64 u)).setCell ⟨b, 1, none⟩ (.int .u64 v)).drew := by
  obtain ⟨hb, c0, c1, f0, f1, hk⟩ := h
  refine ⟨hb, ?_, ?_, ?_, ?_, ((hk.setCell (p := ⟨b, 0, none⟩) hb _).setCell (p := ⟨b, 1, none⟩) hb _).drew⟩
  · rw [World.cell?_drew, World.cell?_setCell_other _ _ _ _ (by simp), World.cell?_setCell_same' _ _ _ (by simp [c0])]
  · rw [World.cell?_drew, World.cell?_setCell_same' _ _ _ (by rw [World.cell?_setCell_other _ _ _ _ (by simp)]; simp [c1])]
  · simpa using f0
  · simpa using f1
theorem OfAt.step {W w : World} {b : Nat} {p : Nat × Nat} (h : OfAt W b p w) (x : Nat) :
    OfAt W b (idStep p x) ((w.setCell ⟨b, 0, none⟩ (.int .u64 (stepN p.1 x))).setCell ⟨b, 1, none⟩ (.int .u64 (stepN p.2 (notN x)))).drew := by
  unfold idStep
  exact h.put _ _

attribute [local go_sem] u64_signed in
set_option maxRecDepth 100000 in
set_option maxHeartbeats 800000 in
theorem take_any (W : World) (b x : Nat) (p : Nat × Nat) (w : World) (hx : x < 18446744073709551616) (hp : p.1 < 18446744073709551616) (hq : p.2 < 18446744073709551616) (H : Hid (OfAt W b p w)) :
    Calls Try.prog 37 #[.int .u64 x, .pointer (some ⟨b, 0, none⟩)] w fun e w' => e = .returned (.tuple #[]) ∧ OfAt W b (idStep p x) w' := by
  have hs := Lib.hid (H.out.step x)
  obtain ⟨hb, h0, h1, f0, f1, hk⟩ := H.out
  clear hb hk
  obtain ⟨p, q⟩ := p
  go_enter Try.func37, Try.ntmps37
  go_wp2_with fail
  refine wp_region_still_tail 10 (by kernel_rfl) (by kernel_rfl) ?_
  change wpStill _ _ w.drew _ _ _
  simp only [List.take_succ_cons, List.take_zero, List.drop_succ_cons, List.drop_zero]
  repeat still_step
  still_call (still_of (step_any _ _ hp hx _))
  repeat still_step
  still_call (still_of (step_not _ _ hq hx _))
  repeat still_step
  refine wpStill_nil ?_
  change wpList _ _ _ _ _ w.drew
  go_wp2
  go_end0
  exact ⟨rfl, hs.out⟩

set_option maxHeartbeats 800000 in
theorem of_any (A : Option Addr) (n c : Nat) (l : List Nat) (hl : l.length = n) (hn : n ≤ 65536) (w : World) (hx : ∀ x ∈ l, x < 18446744073709551616) (hc : WordsAt w w.heap.size A l) :
    Calls Try.prog 32 #[.slice A n c] w fun e w' => e = .returned (.agg #[.int .u64 (idOf l).1, .int .u64 (idOf l).2]) ∧ Kept w w' := by
  have HL := Lib.hid hl
  have HX := Lib.hid hx
  have HC := Lib.hid hc
  clear hl hx hc
  go_enter Try.func32, Try.ntmps32
  go_wp2_with fail
  go_loopw [11] (fun i w' => ∃ k : Nat, k ≤ n ∧ i = .int .i64 k ∧ OfAt (w.alloc (.cells #[.int .u64 0, .int .u64 0] 25)) (w.heap.size + 1) (idFold (l.take k)) w') (fun i _ => n - (intOf i).toNat)
  case atStart => exact ⟨0, by omega, rfl, by simp, by simp [go_sem, idFold], by simp [go_sem, idFold], by simp [go_sem], by simp [go_sem], (Kept.refl _).alloc _⟩
  case round =>
    obtain ⟨k, hk, rfl, H⟩ := hrel
    by_cases hlt : k < n
    · have hkl : k < l.length := by rw [HL.out]; exact hlt
      have hj : l[k]? = some l[k] := List.getElem?_eq_getElem hkl
      have hxk := HX.out l[k] (List.getElem_mem hkl)
      obtain ⟨ad, rfl, hb, hcell⟩ := HC.out k _ hj
      have hw : wr.cell? (ad.add k) = some (.int .u64 (l[k] : Nat)) := by
        rw [H.2.2.2.2.2.cell (by rw [block_add]; simp; omega), World.cell?_alloc_lt _ _ _ (by rw [block_add]; exact hb)]; exact hcell
      have HS := Lib.hid (show idFold (l.take (k + 1)) = idStep (idFold (l.take k)) l[k] by rw [List.take_succ_eq_append_getElem hkl, idFold_snoc])
      have hp := idFold_lt (l.take k)
      have HH := Lib.hid H
      clear H hj hcell
      generalize l[k] = x at *
      generalize idFold (l.take k) = p at *
      go_wp2_with fail
      refine (take_any _ _ _ p _ hxk hp.1 hp.2 HH).mono ?_
      rintro e w1 ⟨rfl, HN⟩
      go_wp2_with fail
      go_roundw
      case rel => exact ⟨k + 1, by omega, by go_num, by rw [HS.out]; exact HN⟩
      case measure => simp [intOf]; omega
    · have hkn : k = n := by omega
      subst hkn
      have HS := Lib.hid (show idFold (l.take k) = idFold l by rw [List.take_of_length_le (by rw [HL.out]; omega)])
      have HE := Lib.hid (show idStep (idFold l) k = idOf l by unfold idOf; rw [HL.out])
      rw [HS.out] at H
      have hp := idFold_lt l
      have HH := Lib.hid H
      clear H
      go_wp2_with fail
      refine (take_any _ _ _ (idFold l) _ (by omega) hp.1 hp.2 HH).mono ?_
      rintro e w1 ⟨rfl, HN⟩
      rw [HE.out] at HN
      obtain ⟨hb, c0, c1, f0, f1, hk⟩ := HN
      have hz : w.heap.size < w1.heap.size := by have := hk.size_le; simp at this; omega
      have d0 : w1.cell? ⟨w.heap.size, 0, none⟩ = some (.int .u64 0) := by rw [hk.cell (by simp)]; simp [go_sem]
      have d1 : w1.cell? ⟨w.heap.size, 1, none⟩ = some (.int .u64 0) := by rw [hk.cell (by simp)]; simp [go_sem]
      have e0 : w1.frozen? ⟨w.heap.size, 0, none⟩ = false := by rw [hk.frozen (by simp)]; simp
      have e1 : w1.frozen? ⟨w.heap.size, 1, none⟩ = false := by rw [hk.frozen (by simp)]; simp
      clear hp HE HS HH
      obtain ⟨p, hP⟩ : ∃ p, idOf l = p := ⟨_, rfl⟩
      rw [hP] at c0 c1
      have HP := Lib.hid hP
      clear hP
      go_wp2_with fail
      refine bodyPost_ret (v := .agg #[.int .u64 p.1, .int .u64 p.2]) (by simp [results, Try.results32, go_sem, d0, d1]) rfl ⟨by rw [HP.out], ?_⟩
      exact ((((Kept.refl _).alloc _).trans hk).setCell (p := ⟨w.heap.size, 0, none⟩) (Nat.le_refl _) _).setCell (p := ⟨w.heap.size, 1, none⟩) (Nat.le_refl _) _

end Go.Proofs.Ytepgbnojbomicaa
