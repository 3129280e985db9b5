/-
  Plain numbers: what package mix reckons, as functions of natural numbers, and that each loses nothing.
  The contracts of package mix's calls fold, Word and Step.
  The contract of package mix's call Of.
  The arguments of layer 2's laws, opened: a word, an id, a list of words.
  Plain numbers: what package shuffle reckons, as functions of natural numbers; each round undoes itself, so Back undoes At, and all places together stay as many.
-/
import Derived.Test.YtacdiicnfoejoaaRows
import Derived.Lib.Zigzag
import Derived.Deep.QuietTactic
import Derived.BigQuiet
import Derived.Deep.RegionHeld3
import Derived.StillTailTactics
import Derived.Test.YtacdiicnfoejoaaGround
namespace Go.Proofs.Ytacdiicnfoejoaa
set_option maxRecDepth 100000
set_option linter.unusedVariables false
set_option linter.unusedSimpArgs false
section
def foldN (x n : Nat) : Nat := x ^^^ x / 2 ^ n
def mulM (x c : Nat) : Nat := x * c % 18446744073709551616
def wordN (x : Nat) : Nat := foldN (mulM (foldN (mulM (foldN x 30) 13787848793156543929) 27) 10723151780598845931) 31
def stepN (h x : Nat) : Nat := wordN (((h ^^^ x) + 11400714819323198485) % 18446744073709551616)
def notN (x : Nat) : Nat := 18446744073709551615 - x

theorem xor_lt64 {a b : Nat} (ha : a < 18446744073709551616) (hb : b < 18446744073709551616) : a ^^^ b < 18446744073709551616 :=
  Nat.xor_lt_two_pow (n := 64) ha hb
theorem foldN_lt {x n : Nat} (h : x < 18446744073709551616) : foldN x n < 18446744073709551616 :=
  xor_lt64 h (Nat.lt_of_le_of_lt (Nat.div_le_self _ _) h)
theorem mulM_lt (x c : Nat) : mulM x c < 18446744073709551616 := Nat.mod_lt _ (by decide)
theorem wordN_lt (x : Nat) : wordN x < 18446744073709551616 := foldN_lt (mulM_lt _ _)
theorem stepN_lt (h x : Nat) : stepN h x < 18446744073709551616 := wordN_lt _
theorem notN_lt (x : Nat) : notN x < 18446744073709551616 := by unfold notN; omega

theorem xor_left {a b c : Nat} (h : a ^^^ b = a ^^^ c) : b = c := by
  have k : a ^^^ (a ^^^ b) = a ^^^ (a ^^^ c) := by rw [h]
  rwa [← Nat.xor_assoc, ← Nat.xor_assoc, Nat.xor_self, Nat.zero_xor, Nat.zero_xor] at k
theorem xor_zero {a b : Nat} (h : a ^^^ b = 0) : a = b := (xor_left (a := a) (by rw [h, Nat.xor_self])).symm
theorem foldN_inj {x y n : Nat} (hn : 0 < n) (h : foldN x n = foldN y n) : x = y := by
  unfold foldN at h
  rw [← Nat.shiftRight_eq_div_pow, ← Nat.shiftRight_eq_div_pow] at h
  have e : x ^^^ y = (x ^^^ y) >>> n := by
    rw [Nat.shiftRight_xor_distrib]
    have h2 : (x ^^^ x >>> n) ^^^ (y ^^^ x >>> n) = (y ^^^ y >>> n) ^^^ (y ^^^ x >>> n) := by rw [h]
    have l : (x ^^^ x >>> n) ^^^ (y ^^^ x >>> n) = x ^^^ y := by
      rw [Nat.xor_comm y (x >>> n), Nat.xor_assoc, ← Nat.xor_assoc (x >>> n), Nat.xor_self, Nat.zero_xor]
    have r : (y ^^^ y >>> n) ^^^ (y ^^^ x >>> n) = x >>> n ^^^ y >>> n := by
      rw [Nat.xor_comm y (y >>> n), Nat.xor_assoc, ← Nat.xor_assoc y, Nat.xor_self, Nat.zero_xor, Nat.xor_comm]
    rw [l, r] at h2; exact h2
  have z : x ^^^ y = 0 := by
    rw [Nat.shiftRight_eq_div_pow] at e
    rcases Nat.eq_zero_or_pos (x ^^^ y) with h0 | h0
    · exact h0
    · exact absurd e (Nat.ne_of_gt (Nat.div_lt_self h0 (Nat.one_lt_two_pow (by omega))))
  exact xor_zero z

theorem mulM_inj {x y c d : Nat} (hx : x < 18446744073709551616) (hy : y < 18446744073709551616) (hc : c * d % 18446744073709551616 = 1) (h : mulM x c = mulM y c) : x = y := by
  unfold mulM at h
  have k : ∀ z : Nat, z < 18446744073709551616 → z * c % 18446744073709551616 * d % 18446744073709551616 = z := fun z hz => by
    rw [Nat.mod_mul_mod, Nat.mul_assoc, Nat.mul_mod, hc, Nat.mul_one, Nat.mod_mod, Nat.mod_eq_of_lt hz]
  rw [← k x hx, ← k y hy, h]

theorem wordN_inj {x y : Nat} (hx : x < 18446744073709551616) (hy : y < 18446744073709551616) (h : wordN x = wordN y) : x = y := by
  unfold wordN at h
  have h1 := mulM_inj (d := 3573116690164977347) (foldN_lt (mulM_lt _ _)) (foldN_lt (mulM_lt _ _)) (by decide) (foldN_inj (by decide) h)
  have h2 := mulM_inj (d := 10871156337175269513) (foldN_lt hx) (foldN_lt hy) (by decide) (foldN_inj (by decide) h1)
  exact foldN_inj (by decide) h2
theorem stepN_comm (h x : Nat) : stepN h x = stepN x h := by unfold stepN; rw [Nat.xor_comm]
theorem stepN_inj {h x y : Nat} (hh : h < 18446744073709551616) (hx : x < 18446744073709551616) (hy : y < 18446744073709551616) (e : stepN h x = stepN h y) : x = y := by
  unfold stepN at e
  have e1 := wordN_inj (Nat.mod_lt _ (by decide)) (Nat.mod_lt _ (by decide)) e
  have b1 := xor_lt64 hh hx
  have b2 := xor_lt64 hh hy
  exact xor_left (a := h) (by omega)
theorem notN_inj {x y : Nat} (hx : x < 18446744073709551616) (hy : y < 18446744073709551616) (h : notN x = notN y) : x = y := by unfold notN at h; omega

/-! ### IDs -/
def idStep (p : Nat × Nat) (x : Nat) : Nat × Nat := (stepN p.1 x, stepN p.2 (notN x))
def idFold (l : List Nat) : Nat × Nat := l.foldl idStep (1, 2)
def idOf (l : List Nat) : Nat × Nat := idStep (idFold l) l.length
def lessN (a b : Nat × Nat) : Bool := decide (a.1 < b.1 ∨ (a.1 = b.1 ∧ a.2 < b.2))

theorem idStep_lt (p : Nat × Nat) (x : Nat) : (idStep p x).1 < 18446744073709551616 ∧ (idStep p x).2 < 18446744073709551616 := ⟨stepN_lt _ _, stepN_lt _ _⟩
theorem idFold_snoc (l : List Nat) (x : Nat) : idFold (l ++ [x]) = idStep (idFold l) x := by simp [idFold]
theorem idFold_lt (l : List Nat) : (idFold l).1 < 18446744073709551616 ∧ (idFold l).2 < 18446744073709551616 := by
  rcases List.eq_nil_or_concat l with rfl | ⟨a, x, rfl⟩
  · exact ⟨by decide, by decide⟩
  · rw [List.concat_eq_append, idFold_snoc]; exact idStep_lt _ _
theorem idOf_lt (l : List Nat) : (idOf l).1 < 18446744073709551616 ∧ (idOf l).2 < 18446744073709551616 := idStep_lt _ _
end

section
open Go.ChangeShapes Go.WideShapes Go.ChangeAt Go.RowKit

/-! ### fold, Word, Step -/
theorem ret_int {k : IntKind} {a b : Int} (h : a = b) : Ending.returned (.int k a) = .returned (.int k b) := by rw [h]
theorem fold_int (x n : Nat) (hx : x < 18446744073709551616) : bits .xor .u64 (x : Int) ((x : Int) / 2 ^ n) = ((foldN x n : Nat) : Int) := by
  have h := xorShift_u64 x (2 ^ n) hx
  rw [Int.natCast_pow] at h
  exact h
set_option maxHeartbeats 400000 in
theorem fold_any (x n : Nat) (hx : x < 18446744073709551616) (hn : n ≤ 63) (w : World) :
    Calls Try.prog 61 #[.int .u64 x, .int .u64 n] w fun e w' => e = .returned (.int .u64 (foldN x n)) ∧ w = w' := by
  go_enter Try.func61, Try.ntmps61
  go_wp2
  go_ret
  exact ⟨ret_int (fold_int x n hx), rfl⟩

theorem mul1_int (a : Nat) : IntKind.u64.wrap ((a : Int) * 13787848793156543929) = ((mulM a 13787848793156543929 : Nat) : Int) := by
  rw [IntKind.wrap_u64]; unfold mulM; omega
theorem mul2_int (a : Nat) : IntKind.u64.wrap ((a : Int) * 10723151780598845931) = ((mulM a 10723151780598845931 : Nat) : Int) := by
  rw [IntKind.wrap_u64]; unfold mulM; omega
theorem add_int (h x : Nat) (hh : h < 18446744073709551616) (hx : x < 18446744073709551616) :
    IntKind.u64.wrap (bits .xor .u64 (h : Int) (x : Int) + 11400714819323198485) = ((((h ^^^ x) + 11400714819323198485) % 18446744073709551616 : Nat) : Int) := by
  rw [bits_xor_u64_nat h x hh hx, IntKind.wrap_u64]; omega
theorem u64_signed : IntKind.u64.signed = false := rfl
theorem not_int (x : Nat) (hx : x < 18446744073709551616) : bits .xor .u64 IntKind.u64.max (x : Int) = ((notN x : Nat) : Int) := by
  have h := bits_xor_u64_nat 18446744073709551615 x (by decide) hx
  have k := Lib.xor_ones64 x hx
  rw [show IntKind.u64.max = ((18446744073709551615 : Nat) : Int) from rfl, h]
  exact congrArg Int.ofNat k

set_option maxHeartbeats 400000 in
theorem word_any (x : Nat) (hx : x < 18446744073709551616) (w : World) :
    Calls Try.prog 56 #[.int .u64 x] w fun e w' => e = .returned (.int .u64 (wordN x)) ∧ w = w' := by
  go_enter Try.func56, Try.ntmps56
  go_wp2_with fail
  refine (fold_any _ 30 hx (by omega) _).mono ?_
  rintro e w' ⟨rfl, rfl⟩
  go_wp2_with fail
  rw [mul1_int]
  refine (fold_any _ 27 (mulM_lt _ _) (by omega) _).mono ?_
  rintro e w' ⟨rfl, rfl⟩
  go_wp2_with fail
  rw [mul2_int]
  refine (fold_any _ 31 (mulM_lt _ _) (by omega) _).mono ?_
  rintro e w' ⟨rfl, rfl⟩
  go_wp2_with fail
  go_ret
  exact ⟨rfl, rfl⟩
set_option maxHeartbeats 400000 in
theorem step_any (h x : Nat) (hh : h < 18446744073709551616) (hx : x < 18446744073709551616) (w : World) :
    Calls Try.prog 44 #[.int .u64 h, .int .u64 x] w fun e w' => e = .returned (.int .u64 (stepN h x)) ∧ w = w' := by
  go_enter Try.func44, Try.ntmps44
  go_wp2_with fail
  rw [add_int _ _ hh hx]
  refine (word_any _ (Nat.mod_lt _ (by decide)) _).mono ?_
  rintro e w' ⟨rfl, rfl⟩
  go_wp2_with fail
  go_ret
  exact ⟨rfl, rfl⟩
theorem still_of {P : Program} {f : FuncId} {args : Array Value} {w : World} {v : Value} (h : Calls P f args w fun e w' => e = .returned v ∧ w = w') : Calls P f args w fun e w' => e = .returned v ∧ w' = w :=
  h.mono fun _ _ ⟨he, hw⟩ => ⟨he, hw.symm⟩
end

section
open Go.ChangeShapes Go.WideShapes Go.ChangeAt Go.RowKit

/-! ### Of -/
theorem step_not (h x : Nat) (hh : h < 18446744073709551616) (hx : x < 18446744073709551616) (w : World) :
    Calls Try.prog 44 #[.int .u64 h, .int .u64 (bits .xor .u64 IntKind.u64.max x)] w fun e w' => e = .returned (.int .u64 (stepN h (notN x))) ∧ w = w' := by
  rw [not_int x hx]; exact step_any h _ hh (notN_lt x) w
/-- Words that lie one behind another: those of l, from A on, below block B. -/
def WordsAt (w : World) (B : Nat) (A : Option Addr) (l : List Nat) : Prop := ∀ j x, l[j]? = some x → ∃ ad : Addr, A = some ad ∧ ad.block < B ∧ w.cell? (ad.add j) = some (.int .u64 (x : Nat))
theorem WordsAt.keep {w w' : World} {B : Nat} {A : Option Addr} {l : List Nat} (h : WordsAt w B A l) (hk : ∀ p : Addr, p.block < B → w'.cell? p = w.cell? p) : WordsAt w' B A l := fun j x hx => by
  obtain ⟨ad, e, hb, hc⟩ := h j x hx
  exact ⟨ad, e, hb, (hk _ (by rw [block_add]; exact hb)).trans hc⟩

def wordCells (l : List Nat) : List Value := l.map fun x : Nat => .int .u64 x
theorem WordsAt.of_cells {w : World} {B : Nat} {A : Option Addr} {l : List Nat} (h : CellsAt w B A (wordCells l)) : WordsAt w B A l := fun j x hx => h j _ (by simp [wordCells, List.getElem?_map, hx])
theorem WordsAt.cells {w : World} {B : Nat} {A : Option Addr} {l : List Nat} (h : WordsAt w B A l) : CellsAt w B A (wordCells l) := fun j u hu => by
  simp only [wordCells, List.getElem?_map, Option.map_eq_some_iff] at hu
  obtain ⟨x, hx, rfl⟩ := hu
  exact h j x hx
theorem wordCells_one (l : List Nat) : ∀ u ∈ wordCells l, u.oneCell' = true := fun u hu => by
  simp only [wordCells, List.mem_map] at hu
  obtain ⟨x, _, rfl⟩ := hu
  rfl

/-- What Of's loop holds: the id's two cells in block b; all that lay in W lies as it was. -/
def OfAt (W : World) (b : Nat) (p : Nat × Nat) (w : World) : Prop :=
  W.heap.size ≤ b ∧ w.cell? ⟨b, 0, none⟩ = some (.int .u64 p.1) ∧ w.cell? ⟨b, 1, none⟩ = some (.int .u64 p.2) ∧ w.frozen? ⟨b, 0, none⟩ = false ∧ w.frozen? ⟨b, 1, none⟩ = false ∧ Kept W w
theorem OfAt.put {W w : World} {b : Nat} {p : Nat × Nat} (h : OfAt W b p w) (u v : Nat) :
    OfAt W b (u, v) ((w.setCell ⟨b, 0, none⟩ (.int .u64 u)).setCell ⟨b, 1, none⟩ (.int .u64 v)).drew := by
  obtain ⟨hb, c0, c1, f0, f1, hk⟩ := h
  refine ⟨hb, ?_, ?_, ?_, ?_, ((hk.setCell (p := ⟨b, 0, none⟩) hb _).setCell (p := ⟨b, 1, none⟩) hb _).drew⟩
  · rw [World.cell?_drew, World.cell?_setCell_other _ _ _ _ (by simp), World.cell?_setCell_same' _ _ _ (by simp [c0])]
  · rw [World.cell?_drew, World.cell?_setCell_same' _ _ _ (by rw [World.cell?_setCell_other _ _ _ _ (by simp)]; simp [c1])]
  · simpa using f0
  · simpa using f1
theorem OfAt.step {W w : World} {b : Nat} {p : Nat × Nat} (h : OfAt W b p w) (x : Nat) :
    OfAt W b (idStep p x) ((w.setCell ⟨b, 0, none⟩ (.int .u64 (stepN p.1 x))).setCell ⟨b, 1, none⟩ (.int .u64 (stepN p.2 (notN x)))).drew := by
  unfold idStep
  exact h.put _ _

attribute [local go_sem] u64_signed in
set_option maxRecDepth 100000 in
set_option maxHeartbeats 800000 in
theorem takeM_any (W : World) (b x : Nat) (p : Nat × Nat) (w : World) (hx : x < 18446744073709551616) (hp : p.1 < 18446744073709551616) (hq : p.2 < 18446744073709551616) (H : Hid (OfAt W b p w)) :
    Calls Try.prog 53 #[.int .u64 x, .pointer (some ⟨b, 0, none⟩)] w fun e w' => e = .returned (.tuple #[]) ∧ OfAt W b (idStep p x) w' := by
  have hs := Lib.hid (H.out.step x)
  obtain ⟨hb, h0, h1, f0, f1, hk⟩ := H.out
  clear hb hk
  obtain ⟨p, q⟩ := p
  go_enter Try.func53, Try.ntmps53
  go_wp2_with fail
  refine wp_region_still_tail 10 (by kernel_rfl) (by kernel_rfl) ?_
  change wpStill _ _ w.drew _ _ _
  simp only [List.take_succ_cons, List.take_zero, List.drop_succ_cons, List.drop_zero]
  repeat still_step
  still_call (still_of (step_any _ _ hp hx _))
  repeat still_step
  still_call (still_of (step_not _ _ hq hx _))
  repeat still_step
  refine wpStill_nil ?_
  change wpList _ _ _ _ _ w.drew
  go_wp2
  go_end0
  exact ⟨rfl, hs.out⟩

set_option maxHeartbeats 800000 in
theorem of_any (A : Option Addr) (n c : Nat) (l : List Nat) (hl : l.length = n) (hn : n ≤ 65536) (w : World) (hx : ∀ x ∈ l, x < 18446744073709551616) (hc : WordsAt w w.heap.size A l) :
    Calls Try.prog 35 #[.slice A n c] w fun e w' => e = .returned (.agg #[.int .u64 (idOf l).1, .int .u64 (idOf l).2]) ∧ Kept w w' := by
  have HL := Lib.hid hl
  have HX := Lib.hid hx
  have HC := Lib.hid hc
  clear hl hx hc
  go_enter Try.func35, Try.ntmps35
  go_wp2_with fail
  go_loopw [11] (fun i w' => ∃ k : Nat, k ≤ n ∧ i = .int .i64 k ∧ OfAt (w.alloc (.cells #[.int .u64 0, .int .u64 0] 39)) (w.heap.size + 1) (idFold (l.take k)) w') (fun i _ => n - (intOf i).toNat)
  case atStart => exact ⟨0, by omega, rfl, by simp, by simp [go_sem, idFold], by simp [go_sem, idFold], by simp [go_sem], by simp [go_sem], (Kept.refl _).alloc _⟩
  case round =>
    obtain ⟨k, hk, rfl, H⟩ := hrel
    by_cases hlt : k < n
    · have hkl : k < l.length := by rw [HL.out]; exact hlt
      have hj : l[k]? = some l[k] := List.getElem?_eq_getElem hkl
      have hxk := HX.out l[k] (List.getElem_mem hkl)
      obtain ⟨ad, rfl, hb, hcell⟩ := HC.out k _ hj
      have hw : wr.cell? (ad.add k) = some (.int .u64 (l[k] : Nat)) := by
        rw [H.2.2.2.2.2.cell (by rw [block_add]; simp; omega), World.cell?_alloc_lt _ _ _ (by rw [block_add]; exact hb)]; exact hcell
      have HS := Lib.hid (show idFold (l.take (k + 1)) = idStep (idFold (l.take k)) l[k] by rw [List.take_succ_eq_append_getElem hkl, idFold_snoc])
      have hp := idFold_lt (l.take k)
      have HH := Lib.hid H
      clear H hj hcell
      generalize l[k] = x at *
      generalize idFold (l.take k) = p at *
      go_wp2_with fail
      refine (takeM_any _ _ _ p _ hxk hp.1 hp.2 HH).mono ?_
      rintro e w1 ⟨rfl, HN⟩
      go_wp2_with fail
      go_roundw
      case rel => exact ⟨k + 1, by omega, by go_num, by rw [HS.out]; exact HN⟩
      case measure => simp [intOf]; omega
    · have hkn : k = n := by omega
      subst hkn
      have HS := Lib.hid (show idFold (l.take k) = idFold l by rw [List.take_of_length_le (by rw [HL.out]; omega)])
      have HE := Lib.hid (show idStep (idFold l) k = idOf l by unfold idOf; rw [HL.out])
      rw [HS.out] at H
      have hp := idFold_lt l
      have HH := Lib.hid H
      clear H
      go_wp2_with fail
      refine (takeM_any _ _ _ (idFold l) _ (by omega) hp.1 hp.2 HH).mono ?_
      rintro e w1 ⟨rfl, HN⟩
      rw [HE.out] at HN
      obtain ⟨hb, c0, c1, f0, f1, hk⟩ := HN
      have hz : w.heap.size < w1.heap.size := by have := hk.size_le; simp at this; omega
      have d0 : w1.cell? ⟨w.heap.size, 0, none⟩ = some (.int .u64 0) := by rw [hk.cell (by simp)]; simp [go_sem]
      have d1 : w1.cell? ⟨w.heap.size, 1, none⟩ = some (.int .u64 0) := by rw [hk.cell (by simp)]; simp [go_sem]
      have e0 : w1.frozen? ⟨w.heap.size, 0, none⟩ = false := by rw [hk.frozen (by simp)]; simp
      have e1 : w1.frozen? ⟨w.heap.size, 1, none⟩ = false := by rw [hk.frozen (by simp)]; simp
      clear hp HE HS HH
      obtain ⟨p, hP⟩ : ∃ p, idOf l = p := ⟨_, rfl⟩
      rw [hP] at c0 c1
      have HP := Lib.hid hP
      clear hP
      go_wp2_with fail
      refine bodyPost_ret (v := .agg #[.int .u64 p.1, .int .u64 p.2]) (by simp [results, Try.results35, go_sem, d0, d1]) rfl ⟨by rw [HP.out], ?_⟩
      exact ((((Kept.refl _).alloc _).trans hk).setCell (p := ⟨w.heap.size, 0, none⟩) (Nat.le_refl _) _).setCell (p := ⟨w.heap.size, 1, none⟩) (Nat.le_refl _) _
end

section
open Go.ChangeShapes Go.WideShapes Go.ChangeAt Go.RowKit

section
variable {H : Type} {enc : TypeId × Value → H} {W : World} {base : Nat} {sp : Nat → Bool} {held : Bool} {r : Reach} {b0 : Nat} {v : Value} {d : DataW H} {ps : List MemPlace}

theorem Try.cellsID : Try.prog.cellsOf 39 = 2 := by kernel_rfl
theorem Try.cellsU : Try.prog.cellsOf 23 = 1 := by kernel_rfl
theorem id_cells {fuel : Nat} {cs : List Value} {x : DataW H × List MemPlace} (h : DataW.trod enc Try.prog W base sp held fuel 39 cs = some x) :
    ∃ p : Nat × Nat, cs = [.int .u64 p.1, .int .u64 p.2] ∧ p.1 < 18446744073709551616 ∧ p.2 < 18446744073709551616 := by
  obtain ⟨xs, m, _, _, hl, hn, hi⟩ := DataW.trod_array Try.underlying39 h
  rw [Try.cellsID] at hl
  match cs, hl with
  | [c0, c1], _ =>
    have h0 := hi 0 (by omega)
    have h1 := hi 1 (by omega)
    rw [List.getElem?_eq_getElem (by omega), Try.cellsU] at h0 h1
    obtain ⟨a, ea, _, wa⟩ := DataW.trod_int Try.underlying23 h0
    obtain ⟨b, eb, _, wb⟩ := DataW.trod_int Try.underlying23 h1
    obtain ⟨x, rfl, hx⟩ := nat_of_u64 wa
    obtain ⟨y, rfl, hy⟩ := nat_of_u64 wb
    simp at ea eb
    exact ⟨(x, y), by rw [ea, eb], hx, hy⟩
theorem open_id (hval : Value.okWide Try.prog W r b0 39 v) (hd : DataW.Trod enc Try.prog W base sp held 39 v d ps) :
    ∃ p : Nat × Nat, v = .agg #[.int .u64 p.1, .int .u64 p.2] ∧ p.1 < 18446744073709551616 ∧ p.2 < 18446744073709551616 := by
  simp only [Value.okWide, Try.underlying39] at hval
  obtain ⟨cs, rfl, _, _⟩ := hval
  obtain ⟨fuel, hf⟩ := hd
  obtain ⟨p, hp, h1, h2⟩ := id_cells hf
  refine ⟨p, ?_, h1, h2⟩
  simp only [Value.cells] at hp
  rw [← Array.toArray_toList (xs := cs), hp]

theorem open_words (hval : Value.okWide Try.prog W r b0 72 v) (hd : DataW.Trod enc Try.prog W base sp held 72 v d ps) :
    ∃ (A : Option Addr) (n c : Nat) (l : List Nat), v = .slice A n c ∧ l.length = n ∧ n ≤ maxLen ∧ (∀ x ∈ l, x < 18446744073709551616) ∧ WordsAt W W.heap.size A l := by
  obtain ⟨A, n, c, rfl⟩ := okWide_slice Try.underlying72 hval
  obtain ⟨fuel, hf⟩ := hd
  rcases open_ints Try.underlying72 Try.underlying23 Try.cellsU hf with ⟨hcs, _⟩ | ⟨a, len, cap, zs, hcs, _, hle, hmax, hall, _, hcell, hwf⟩
  · simp [Value.cells] at hcs
    obtain ⟨rfl, rfl, rfl⟩ := hcs
    exact ⟨_, _, _, [], rfl, rfl, by unfold maxLen; omega, by simp, fun j x hx => by simp at hx⟩
  · simp [Value.cells] at hcs
    obtain ⟨rfl, rfl, rfl⟩ := hcs
    have hzl : n ≤ zs.length := by rw [hall]; split <;> omega
    refine ⟨_, _, _, (zs.take n).map Int.toNat, rfl, by simp; omega, by omega, ?_, ?_⟩
    · intro x hx
      obtain ⟨z, hz, rfl⟩ := List.mem_map.1 hx
      have := bounds_u64 (hwf z (List.mem_of_mem_take hz))
      omega
    · intro j x hx
      have hj : j < n := by
        have := (List.getElem?_eq_some_iff.1 hx).1
        simp at this; omega
      have hc := hcell j (by omega)
      have hb := World.block_lt_of_cell? W _ hc
      rw [block_add] at hb
      refine ⟨a, rfl, hb, ?_⟩
      rw [hc]
      have hz : zs.getD j 0 = zs[j]'(by omega) := by simp [List.getD, List.getElem?_eq_getElem (show j < zs.length by omega)]
      have hb0 := bounds_u64 (hwf _ (List.getElem_mem (show j < zs.length by omega)))
      rw [List.getElem?_map, List.getElem?_take_of_lt hj, List.getElem?_eq_getElem (show j < zs.length by omega)] at hx
      simp at hx
      rw [hz, ← hx]
      congr 2
      omega
end

/-! ### Ids that lie in a block of their own -/
def HasId (w : World) (b : Nat) (p : Nat × Nat) : Prop := w.cell? ⟨b, 0, none⟩ = some (.int .u64 p.1) ∧ w.cell? ⟨b, 1, none⟩ = some (.int .u64 p.2) ∧ b < w.heap.size
theorem HasId.kept {w w' : World} {b : Nat} {p : Nat × Nat} (h : HasId w b p) (k : Kept w w') : HasId w' b p :=
  ⟨(k.cell (p := ⟨b, 0, none⟩) h.2.2).trans h.1, (k.cell (p := ⟨b, 1, none⟩) h.2.2).trans h.2.1, Nat.lt_of_lt_of_le h.2.2 k.size_le⟩
theorem HasId.new (w : World) (b : Nat) (p : Nat × Nat) (hb : b = w.heap.size) : HasId (w.alloc (.cells #[.int .u64 p.1, .int .u64 p.2] 39)) b p := by
  subst hb
  exact ⟨by simp [go_sem], by simp [go_sem], by simp⟩
theorem HasId.alloc {w : World} {b : Nat} {p : Nat × Nat} (h : HasId w b p) (o : Obj) : HasId (w.alloc o) b p := h.kept ((Kept.refl _).alloc _)
theorem HasId.drew {w : World} {b : Nat} {p : Nat × Nat} (h : HasId w b p) : HasId w.drew b p := h

theorem lessN_self (a : Nat × Nat) : lessN a a = false := decide_eq_false (by omega)
theorem lessN_tri (a b : Nat × Nat) : a = b ∨ (lessN a b = true ∧ lessN b a = false) ∨ (lessN a b = false ∧ lessN b a = true) := by
  obtain ⟨a0, a1⟩ := a
  obtain ⟨b0, b1⟩ := b
  by_cases h : a0 < b0 ∨ (a0 = b0 ∧ a1 < b1)
  · exact Or.inr (Or.inl ⟨decide_eq_true h, decide_eq_false (by simp; omega)⟩)
  · by_cases k : b0 < a0 ∨ (b0 = a0 ∧ b1 < a1)
    · exact Or.inr (Or.inr ⟨decide_eq_false h, decide_eq_true k⟩)
    · left; simp; omega
theorem lessN_trans {a b c : Nat × Nat} (h : lessN a b = true) (k : lessN b c = true) : lessN a c = true := by
  have h' := of_decide_eq_true h
  have k' := of_decide_eq_true k
  exact decide_eq_true (by omega)
theorem id_ne {a b : Nat × Nat} (h : a ≠ b) : (((a.1 : Int) == (b.1 : Int)) && ((a.2 : Int) == (b.2 : Int))) = false := by
  obtain ⟨a0, a1⟩ := a
  obtain ⟨b0, b1⟩ := b
  simp at h ⊢
  omega
theorem lessN_ne {a b : Nat × Nat} (h : lessN a b = true) : a ≠ b := fun e => by subst e; rw [lessN_self] at h; cases h
end

section
def pivotN (seed n r : Nat) : Nat := stepN seed r % n
def turnN (seed r : Nat) : Nat := stepN seed (1000 + r)
def mateN (p n i : Nat) : Nat := (p + n - i) % n
def pickN (turn i m : Nat) : Nat := if stepN turn (max i m) % 2 = 0 then i else m
def roundN (seed n r i : Nat) : Nat := pickN (turnN seed r) i (mateN (pivotN seed n r) n i)
def forthN (seed n : Nat) : Nat → Nat → Nat
  | 0, i => i
  | k + 1, i => roundN seed n k (forthN seed n k i)
def backN (seed n : Nat) : Nat → Nat → Nat
  | 0, i => i
  | k + 1, i => roundN seed n (9 - k) (backN seed n k i)
def atN (seed n i : Nat) : Nat := forthN seed n 10 i
def backAtN (seed n i : Nat) : Nat := backN seed n 10 i

theorem pivotN_lt {seed n r : Nat} (hn : 0 < n) : pivotN seed n r < n := Nat.mod_lt _ hn
theorem turnN_lt (seed r : Nat) : turnN seed r < 18446744073709551616 := stepN_lt _ _
theorem mateN_lt {p n i : Nat} (hn : 0 < n) : mateN p n i < n := Nat.mod_lt _ hn
theorem mateN_eq {p n i : Nat} (hp : p < n) (hi : i < n) : mateN p n i = if p < i then p + n - i else p - i := by
  unfold mateN
  split
  · exact Nat.mod_eq_of_lt (by omega)
  · rw [show p + n - i = (p - i) + n by omega, Nat.add_mod_right]; exact Nat.mod_eq_of_lt (by omega)
theorem mateN_mateN {p n i : Nat} (hp : p < n) (hi : i < n) : mateN p n (mateN p n i) = i := by
  rw [mateN_eq hp (mateN_lt (by omega)), mateN_eq hp hi]
  split <;> split <;> omega
theorem roundN_lt {seed n r i : Nat} (hi : i < n) : roundN seed n r i < n := by
  unfold roundN pickN
  split
  · exact hi
  · exact mateN_lt (by omega)
theorem pickN_comm {t p n i : Nat} (hp : p < n) (hi : i < n) : pickN t (pickN t i (mateN p n i)) (mateN p n (pickN t i (mateN p n i))) = i := by
  have h : pickN t i (mateN p n i) = i ∨ pickN t i (mateN p n i) = mateN p n i := by unfold pickN; split <;> simp
  by_cases c : stepN t (max i (mateN p n i)) % 2 = 0
  · have e : pickN t i (mateN p n i) = i := by unfold pickN; rw [if_pos c]
    rw [e, e]
  · have e : pickN t i (mateN p n i) = mateN p n i := by unfold pickN; rw [if_neg c]
    rw [e, mateN_mateN hp hi]
    unfold pickN
    rw [Nat.max_comm, if_neg c]
theorem roundN_roundN {seed n r i : Nat} (hi : i < n) : roundN seed n r (roundN seed n r i) = i := by
  unfold roundN
  exact pickN_comm (pivotN_lt (by omega)) hi
theorem forthN_lt {seed n i : Nat} (hi : i < n) : ∀ k, forthN seed n k i < n
  | 0 => hi
  | k + 1 => roundN_lt (forthN_lt hi k)
theorem backN_lt {seed n i : Nat} (hi : i < n) : ∀ k, backN seed n k i < n
  | 0 => hi
  | k + 1 => roundN_lt (backN_lt hi k)
theorem atN_lt {seed n i : Nat} (hi : i < n) : atN seed n i < n := forthN_lt hi 10
theorem backAtN_lt {seed n i : Nat} (hi : i < n) : backAtN seed n i < n := backN_lt hi 10
theorem back_forth {seed n i : Nat} (hi : i < n) : ∀ k, k ≤ 10 → backN seed n k (forthN seed n 10 i) = forthN seed n (10 - k) i
  | 0, _ => rfl
  | k + 1, hk => by
    have h := back_forth (seed := seed) hi k (by omega)
    show roundN seed n (9 - k) (backN seed n k (forthN seed n 10 i)) = _
    rw [h, show 10 - k = (9 - k) + 1 by omega, show 10 - (k + 1) = 9 - k by omega]
    exact roundN_roundN (forthN_lt hi _)
theorem forth_back {seed n i : Nat} (hi : i < n) : ∀ k, k ≤ 10 → forthN seed n k (backN seed n 10 i) = backN seed n (10 - k) i
  | 0, _ => rfl
  | k + 1, hk => by
    have h := forth_back (seed := seed) hi k (by omega)
    show roundN seed n k (forthN seed n k (backN seed n 10 i)) = _
    rw [h, show 10 - k = (9 - k) + 1 by omega, show 10 - (k + 1) = 9 - k by omega]
    show roundN seed n k (roundN seed n (9 - (9 - k)) (backN seed n (9 - k) i)) = _
    rw [show 9 - (9 - k) = k by omega]
    exact roundN_roundN (backN_lt hi _)
theorem backAtN_atN {seed n i : Nat} (hi : i < n) : backAtN seed n (atN seed n i) = i := back_forth hi 10 (Nat.le_refl _)
theorem atN_backAtN {seed n i : Nat} (hi : i < n) : atN seed n (backAtN seed n i) = i := forth_back hi 10 (Nat.le_refl _)
theorem atN_inj {seed n i j : Nat} (hi : i < n) (hj : j < n) (h : atN seed n i = atN seed n j) : i = j := by
  rw [← backAtN_atN (seed := seed) hi, ← backAtN_atN (seed := seed) hj, h]

/-! ### Sums -/
def sumN (f : Nat → Nat) : Nat → Nat
  | 0 => 0
  | k + 1 => sumN f k + f k
theorem sumN_congr {f g : Nat → Nat} : ∀ n, (∀ i, i < n → f i = g i) → sumN f n = sumN g n
  | 0, _ => rfl
  | n + 1, h => by
    show sumN f n + f n = sumN g n + g n
    rw [sumN_congr n (fun i hi => h i (by omega)), h n (by omega)]
theorem sumN_zero : ∀ n, sumN (fun _ => 0) n = 0
  | 0 => rfl
  | n + 1 => by show sumN (fun _ => 0) n + 0 = 0; rw [sumN_zero n]
theorem sumN_add (f g : Nat → Nat) : ∀ n, sumN (fun i => f i + g i) n = sumN f n + sumN g n
  | 0 => rfl
  | n + 1 => by
    show sumN (fun i => f i + g i) n + (f n + g n) = (sumN f n + f n) + (sumN g n + g n)
    rw [sumN_add f g n]; omega
theorem sumN_swap (f : Nat → Nat → Nat) (m : Nat) : ∀ n, sumN (fun i => sumN (fun j => f i j) m) n = sumN (fun j => sumN (fun i => f i j) n) m
  | 0 => by show 0 = sumN (fun _ => 0) m; rw [sumN_zero]
  | n + 1 => by
    show sumN (fun i => sumN (fun j => f i j) m) n + sumN (fun j => f n j) m = sumN (fun j => sumN (fun i => f i j) n + f n j) m
    rw [sumN_swap f m n, sumN_add]
theorem sumN_one (a c : Nat) : ∀ n, sumN (fun j => if j = a then c else 0) n = if a < n then c else 0
  | 0 => by simp [sumN]
  | n + 1 => by
    show sumN (fun j => if j = a then c else 0) n + (if n = a then c else 0) = _
    rw [sumN_one a c n]
    by_cases h1 : n = a
    · subst h1; simp
    · simp only [h1, if_false]
      by_cases h2 : a < n
      · rw [if_pos h2, if_pos (by omega)]; omega
      · rw [if_neg h2, if_neg (by omega)]
/-- What goes one to one from the places below n to such has their sum. -/
theorem sumN_perm {f g : Nat → Nat} {n : Nat} (hf : ∀ i, i < n → f i < n) (hg : ∀ i, i < n → g i < n) (h1 : ∀ i, i < n → g (f i) = i) (h2 : ∀ i, i < n → f (g i) = i) : sumN f n = sumN (fun i => i) n := by
  have e1 : sumN f n = sumN (fun i => sumN (fun j => if j = f i then j else 0) n) n := sumN_congr n fun i hi => by
    have : sumN (fun j => if j = f i then j else 0) n = sumN (fun j => if j = f i then f i else 0) n := sumN_congr n fun j _ => by
      by_cases h : j = f i
      · simp [h]
      · simp [h]
    rw [this, sumN_one, if_pos (hf i hi)]
  have e2 : sumN (fun i => sumN (fun j => if j = f i then j else 0) n) n = sumN (fun j => sumN (fun i => if j = f i then j else 0) n) n := sumN_swap _ n n
  have e3 : sumN (fun j => sumN (fun i => if j = f i then j else 0) n) n = sumN (fun j => j) n := sumN_congr n fun j hj => by
    have : sumN (fun i => if j = f i then j else 0) n = sumN (fun i => if i = g j then j else 0) n := sumN_congr n fun i hi => by
      by_cases h : j = f i
      · have : i = g j := by rw [h, h1 i hi]
        rw [if_pos h, if_pos this]
      · have : ¬ i = g j := fun e => h (by rw [e, h2 j hj])
        rw [if_neg h, if_neg this]
    rw [this, sumN_one, if_pos (hg j hj)]
  rw [e1, e2, e3]
theorem sumN_id : ∀ n, 2 * sumN (fun i => i) n = n * (n - 1)
  | 0 => rfl
  | 1 => rfl
  | n + 2 => by
    have h := sumN_id (n + 1)
    show 2 * (sumN (fun i => i) (n + 1) + (n + 1)) = (n + 2) * (n + 1)
    rw [Nat.mul_add, h, show n + 1 - 1 = n by omega, Nat.mul_comm (n + 1) n, ← Nat.add_mul]
theorem sum_at (seed n : Nat) : 2 * sumN (atN seed n) n = n * (n - 1) := by
  rw [sumN_perm (g := backAtN seed n) (fun _ h => atN_lt h) (fun _ h => backAtN_lt h) (fun _ h => backAtN_atN h) (fun _ h => atN_backAtN h)]
  exact sumN_id n
theorem at_two (seed : Nat) : atN seed 2 0 + atN seed 2 1 = 1 := by
  have h := sum_at seed 2
  have e : sumN (atN seed 2) 2 = 0 + atN seed 2 0 + atN seed 2 1 := rfl
  omega
end

end Go.Proofs.Ytacdiicnfoejoaa
