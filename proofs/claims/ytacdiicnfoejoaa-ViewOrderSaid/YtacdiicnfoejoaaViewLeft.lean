/-
  The contracts of package view's generic call left, at blocks and at votes: each is asked for once, in order; what is asked may write blocks of its own.
-/
import Derived.Test.YtacdiicnfoejoaaViewGrow
import Derived.Test.YtacdiicnfoejoaaViewCome
namespace Go.Proofs.Ytacdiicnfoejoaa
set_option maxRecDepth 100000
set_option linter.unusedVariables false
set_option linter.unusedSimpArgs false
set_option linter.unusedSimpArgs false
set_option linter.unusedVariables false
open Go.ChangeShapes Go.WideShapes Go.ChangeAt Go.RowKit

/-! ### Blocks that a callee may write -/
/-- What lies in w lies in w' as it was, but for the blocks that S names. -/
structure Off (S : Nat → Prop) (w w' : World) : Prop where
  size : w.heap.size ≤ w'.heap.size
  heap : ∀ b, b < w.heap.size → ¬ S b → w'.heap[b]? = w.heap[b]?
theorem Off.refl (S : Nat → Prop) (w : World) : Off S w w := ⟨Nat.le_refl _, fun _ _ _ => rfl⟩
theorem Off.kept {S : Nat → Prop} {a w w' : World} (h : Off S a w) (k : Kept w w') : Off S a w' := ⟨Nat.le_trans h.size k.size_le, fun b hb hn => (k.heap (Nat.lt_of_lt_of_le hb h.size)).trans (h.heap b hb hn)⟩
theorem Off.of_kept {S : Nat → Prop} {w w' : World} (k : Kept w w') : Off S w w' := (Off.refl S w).kept k
theorem Off.trans {S0 S : Nat → Prop} {a w w' : World} (h : Off S0 a w) (k : Off S w w') (hs : ∀ x, S x → S0 x ∨ a.heap.size ≤ x) : Off S0 a w' :=
  ⟨Nat.le_trans h.size k.size, fun b hb hn => (k.heap b (Nat.lt_of_lt_of_le hb h.size) fun q => (hs b q).elim hn (fun r => absurd hb (Nat.not_lt.2 r))).trans (h.heap b hb hn)⟩
theorem cell_heap {w w' : World} {p : Addr} (h : w'.heap[p.block]? = w.heap[p.block]?) : w'.cell? p = w.cell? p := by unfold World.cell?; rw [h]
theorem CellsAt.off {S : Nat → Prop} {w w' : World} {A : Option Addr} {xs : List Value} (h : CellsAt w w.heap.size A xs) (hS : 0 < xs.length → ∀ ad, A = some ad → ¬ S ad.block) (k : Off S w w') : CellsAt w' w'.heap.size A xs := fun j u hu => by
  obtain ⟨ad, e, hb, hc⟩ := h j u hu
  refine ⟨ad, e, Nat.lt_of_lt_of_le hb k.size, ?_⟩
  rw [cell_heap (w := w) (by rw [block_add]; exact k.heap _ hb (hS (by have := (List.getElem?_eq_some_iff.1 hu).1; omega) ad e))]
  exact hc
theorem HasCells.off {S : Nat → Prop} {w w' : World} {z : Nat} {xs : List Value} (h : HasCells w z xs) (hS : ¬ S z) (k : Off S w w') : HasCells w' z xs :=
  ⟨Nat.lt_of_lt_of_le h.1 k.size, fun j u hu => (cell_heap (w := w) (p := ⟨z, j, none⟩) (k.heap z h.1 hS)).trans (h.2 j u hu)⟩
theorem AtB.off {S : Nat → Prop} {w w' : World} {z : Nat} {xs : Array Value} {t : TypeId} (h : AtB w z xs t) (hS : ¬ S z) (k : Off S w w') : AtB w' z xs t := (k.heap z h.lt hS).trans h
/-- Rows of one's own lie where they are told to lie. -/
theorem own_off {S : Nat → Prop} {w w' : World} {base : Nat} {e : TypeId} {size n : Nat} {v : Value} {xs : List Value} (h : w.ownsRow base e size v n xs) (hS : ∀ x, v.ownBlock = some x → ¬ S x) (k : Off S w w') : w'.ownsRow base e size v n xs := by
  refine ⟨h.1, ?_⟩
  rcases h.2 with h2 | ⟨g, cap, cur, hv, hg, hh, r⟩
  · exact Or.inl h2
  · exact Or.inr ⟨g, cap, cur, hv, hg, (k.heap g (Array.getElem?_eq_some_iff.1 hh).1 (hS g (by rw [hv]; rfl))).trans hh, r⟩

/-! ### Each is asked for once -/
/-- What is asked of each of l, in order: St tells the state ahead of number j, L being those of the ones before that stay; S names the blocks that it writes. -/
structure Asks {α : Type} (W : World) (call : α → World → (Ending → World → Prop) → Prop) (l : List α) (St : Nat → List α → (Nat → Prop) → World → Prop) : Prop where
  step : ∀ j (hj : j < l.length) L S w, St j L S w → call l[j] w fun e w' => ∃ b S', e = .returned (.bool b) ∧ St (j + 1) (if b then L ++ [l[j]] else L) S' w' ∧ Off S w w' ∧ ∀ x, S' x → S x ∨ w.heap.size ≤ x
  keep : ∀ j L S w w', St j L S w → Kept W w' → w.heap.size ≤ w'.heap.size → (∀ b, S b → w'.heap[b]? = w.heap[b]?) → St j L S w'
  lt : ∀ j L S w, St j L S w → Kept W w ∧ ∀ x, S x → x < w.heap.size
/-- What the slice of those that stay has come to. -/
structure LeftIB (W w0 : World) (S0 : Nat → Prop) (j : Nat) (L : List Bk) (A : Option Addr) (c : Nat) (S : Nat → Prop) (w : World) : Prop where
  row : Bks W L (.slice A L.length c) w
  apart : ∀ x, (Value.slice A L.length c).ownBlock = some x → ¬ S x ∧ w0.heap.size ≤ x
  off : Off S0 w0 w
  sub : ∀ x, S x → S0 x ∨ w0.heap.size ≤ x
  lj : L.length ≤ j
section
variable {W w0 : World} {S0 : Nat → Prop} {j : Nat} {L : List Bk} {A : Option Addr} {c : Nat} {S : Nat → Prop} {w w' : World}
theorem LeftIB.start {W w0 : World} {S0 : Nat → Prop} (hW : Kept W w0) : LeftIB W w0 S0 0 [] .none 0 S0 w0 := ⟨⟨World.ownsRow_nil _ _ _ _, hW⟩, (fun x hx => by cases hx), Off.refl _ _, fun x hx => Or.inl hx, Nat.le_refl _⟩
theorem LeftIB.kept (h : LeftIB W w0 S0 j L A c S w) (k : Kept w w') : LeftIB W w0 S0 j L A c S w' := ⟨h.row.kept k, h.apart, h.off.kept k, h.sub, h.lj⟩
theorem LeftIB.called (h : LeftIB W w0 S0 j L A c S w) {S' : Nat → Prop} (k : Off S w w') (hs : ∀ x, S' x → S x ∨ w.heap.size ≤ x) (kW : Kept W w') : LeftIB W w0 S0 j L A c S' w' :=
  ⟨⟨own_off h.row.1 (fun x hx => (h.apart x hx).1) k, kW⟩, fun x hx => ⟨fun q => (hs x q).elim (h.apart x hx).1 (fun r => by have := (h.row.1.lt x hx).2; omega), (h.apart x hx).2⟩, h.off.trans k h.sub, fun x hx => (hs x hx).elim (h.sub x) (fun r => Or.inr (Nat.le_trans h.off.size r)), h.lj⟩
theorem LeftIB.stays {l2 : List Bk} {y : Bk} (h : LeftIB W w0 S0 j L A c S w) (h2 : L ++ [y] = l2) (hlt : ∀ x, S x → x < w.heap.size) {A' : Option Addr} {c' : Nat} (hl : Bks W l2 (.slice A' l2.length c') w') (g : w.grownBy w' (Value.slice A L.length c).ownBlock) (lo : LiesAt w (.slice A L.length c) (.slice A' l2.length c')) : LeftIB W w0 S0 (j + 1) l2 A' c' S w' := by
  subst h2
  refine ⟨hl, fun x hx => ?_, ⟨Nat.le_trans h.off.size g.size, fun b hb hn => (g.block b (Nat.lt_of_lt_of_le hb h.off.size) (fun q => ?_)).trans (h.off.heap b hb hn)⟩, h.sub, by rw [List.length_append, List.length_singleton]; exact Nat.succ_le_succ h.lj⟩
  · rcases lo with e | e
    · rw [e] at hx; exact h.apart x hx
    · rw [e] at hx
      injection hx with hx
      subst hx
      exact ⟨fun q => Nat.lt_irrefl _ (hlt _ q), h.off.size⟩
  · have := (h.apart b q.symm).2
    omega
theorem LeftIB.next (h : LeftIB W w0 S0 j L A c S w) : LeftIB W w0 S0 (j + 1) L A c S w := ⟨h.row, h.apart, h.off, h.sub, Nat.le_succ_of_le h.lj⟩
end
/-- What the slice of those that stay has come to. -/
structure LeftIV (W w0 : World) (S0 : Nat → Prop) (j : Nat) (L : List Vt) (A : Option Addr) (c : Nat) (S : Nat → Prop) (w : World) : Prop where
  row : Vts W L (.slice A L.length c) w
  apart : ∀ x, (Value.slice A L.length c).ownBlock = some x → ¬ S x ∧ w0.heap.size ≤ x
  off : Off S0 w0 w
  sub : ∀ x, S x → S0 x ∨ w0.heap.size ≤ x
  lj : L.length ≤ j
section
variable {W w0 : World} {S0 : Nat → Prop} {j : Nat} {L : List Vt} {A : Option Addr} {c : Nat} {S : Nat → Prop} {w w' : World}
theorem LeftIV.start {W w0 : World} {S0 : Nat → Prop} (hW : Kept W w0) : LeftIV W w0 S0 0 [] .none 0 S0 w0 := ⟨⟨World.ownsRow_nil _ _ _ _, hW⟩, (fun x hx => by cases hx), Off.refl _ _, fun x hx => Or.inl hx, Nat.le_refl _⟩
theorem LeftIV.kept (h : LeftIV W w0 S0 j L A c S w) (k : Kept w w') : LeftIV W w0 S0 j L A c S w' := ⟨h.row.kept k, h.apart, h.off.kept k, h.sub, h.lj⟩
theorem LeftIV.called (h : LeftIV W w0 S0 j L A c S w) {S' : Nat → Prop} (k : Off S w w') (hs : ∀ x, S' x → S x ∨ w.heap.size ≤ x) (kW : Kept W w') : LeftIV W w0 S0 j L A c S' w' :=
  ⟨⟨own_off h.row.1 (fun x hx => (h.apart x hx).1) k, kW⟩, fun x hx => ⟨fun q => (hs x q).elim (h.apart x hx).1 (fun r => by have := (h.row.1.lt x hx).2; omega), (h.apart x hx).2⟩, h.off.trans k h.sub, fun x hx => (hs x hx).elim (h.sub x) (fun r => Or.inr (Nat.le_trans h.off.size r)), h.lj⟩
theorem LeftIV.stays {l2 : List Vt} {y : Vt} (h : LeftIV W w0 S0 j L A c S w) (h2 : L ++ [y] = l2) (hlt : ∀ x, S x → x < w.heap.size) {A' : Option Addr} {c' : Nat} (hl : Vts W l2 (.slice A' l2.length c') w') (g : w.grownBy w' (Value.slice A L.length c).ownBlock) (lo : LiesAt w (.slice A L.length c) (.slice A' l2.length c')) : LeftIV W w0 S0 (j + 1) l2 A' c' S w' := by
  subst h2
  refine ⟨hl, fun x hx => ?_, ⟨Nat.le_trans h.off.size g.size, fun b hb hn => (g.block b (Nat.lt_of_lt_of_le hb h.off.size) (fun q => ?_)).trans (h.off.heap b hb hn)⟩, h.sub, by rw [List.length_append, List.length_singleton]; exact Nat.succ_le_succ h.lj⟩
  · rcases lo with e | e
    · rw [e] at hx; exact h.apart x hx
    · rw [e] at hx
      injection hx with hx
      subst hx
      exact ⟨fun q => Nat.lt_irrefl _ (hlt _ q), h.off.size⟩
  · have := (h.apart b q.symm).2
    omega
theorem LeftIV.next (h : LeftIV W w0 S0 j L A c S w) : LeftIV W w0 S0 (j + 1) L A c S w := ⟨h.row, h.apart, h.off, h.sub, Nat.le_succ_of_le h.lj⟩
end
set_option maxRecDepth 100000 in
set_option maxHeartbeats 3200000 in
theorem leftBBd_any (W : World) (f : Nat) (bd : Value) (S0 : Nat → Prop) (A0 : Option Addr) (c0 : Nat) (l : List Bk) (St : Nat → List Bk → (Nat → Prop) → World → Prop) (w : World) (hl : l.length ≤ 10000) (hA : CellsAt w w.heap.size A0 (blockCells l)) (hS : 0 < l.length → ∀ ad, A0 = some ad → ¬ S0 ad.block) (hW : Kept W w)
    (eg : ∀ args w, (callFunc f args).run Try.prog w = .ok (.enter f args) w) (hF : Asks W (fun y w Q => Calls Try.prog f #[bd, .agg #[.int .i64 y.s, .int .i64 y.f, .int .u64 y.p.1, .int .u64 y.p.2, .int .u64 y.t]] w Q) l St) (h0 : St 0 [] S0 w) :
    Calls Try.prog 37 #[.slice A0 l.length c0, .func (.func f) #[bd] #[]] w fun e w' => ∃ L A c S, e = .returned (.slice A L.length c) ∧ St l.length L S w' ∧ LeftIB W w S0 l.length L A c S w' := by
  have HA := Lib.hid hA
  have HS0 := Lib.hid hS
  have HF := Lib.hid hF
  have HT0 := Lib.hid h0
  have HI0 := Lib.hid (LeftIB.start (S0 := S0) hW)
  clear hA hF hS h0 hW
  go_enter Try.func37, Try.ntmps37
  go_wp2_with fail
  go_loopw [5, 10] (fun all i w' => ∃ (j : Nat) (L : List Bk) (A : Option Addr) (c : Nat) (S : Nat → Prop), j ≤ l.length ∧ i = .int .i64 (j : Nat) ∧ all = .slice A L.length c ∧ Hid (St j L S w') ∧ Hid (LeftIB W w S0 j L A c S w')) (fun _ i _ => l.length - (intOf i).toNat)
  case atStart => exact ⟨0, [], .none, 0, S0, by omega, rfl, rfl, HT0, HI0⟩
  case round =>
    clear HT0 HI0
    obtain ⟨j, L, A, c, S, hj, rfl, rfl, HT, HI⟩ := hrel
    by_cases hlt : j < l.length
    · have HStep := Lib.hid (HF.out.step j hlt L S)
      have HLn := Lib.hid HI.out.lj
      obtain ⟨z, o, rfl, hb, c0, c1, c2, c3, c4⟩ := block_at (HA.out.off (fun _ => HS0.out (by omega)) HI.out.off) hlt
      obtain ⟨y, hy⟩ : ∃ y, y = l[j] := ⟨_, rfl⟩
      rw [← hy] at c0 c1 c2 c3 c4 HStep
      clear hy
      go_wp2_with fail
      clear hb c0 c1 c2 c3 c4
      have ka := (Kept.refl wr).alloc (.cells #[.int .i64 y.s, .int .i64 y.f, .int .u64 y.p.1, .int .u64 y.p.2, .int .u64 y.t] 42)
      have HT1 := Lib.hid (HF.out.keep _ _ _ _ _ HT.out ((HF.out.lt _ _ _ _ HT.out).1.trans ka) ka.size_le fun b hb => ka.heap ((HF.out.lt _ _ _ _ HT.out).2 b hb))
      have HI1 := Lib.hid (HI.out.kept ka)
      have HB1 := Lib.hid (HasCells.new wr #[.int .i64 y.s, .int .i64 y.f, .int .u64 y.p.1, .int .u64 y.p.2, .int .u64 y.t] 42 wr.heap.size rfl)
      have HN1 := Lib.hid (show ¬ S wr.heap.size from fun q => Nat.lt_irrefl _ ((HF.out.lt _ _ _ _ HT.out).2 _ q))
      clear ka HT HI
      generalize wr.alloc (.cells #[.int .i64 y.s, .int .i64 y.f, .int .u64 y.p.1, .int .u64 y.p.2, .int .u64 y.t] 42) = W1 at *
      generalize wr.heap.size = z1 at *
      refine (HStep.out W1 HT1.out).mono ?_
      rintro e W2 ⟨b, S', rfl, hT2, hO2, hS2⟩
      have HI2 := Lib.hid (HI1.out.called hO2 hS2 (HF.out.lt _ _ _ _ hT2).1)
      have HB2 := Lib.hid (HB1.out.off HN1.out hO2)
      have HT2 := Lib.hid hT2
      clear hT2 hO2 hS2 HT1 HI1 HB1 HN1 HStep
      cases b with
      | false =>
        replace HT2 := Lib.hid (show St (j + 1) L S' W2 from HT2.out)
        go_wp2_with fail
        go_roundw
        case rel => exact ⟨j + 1, L, A, c, S', by omega, by go_num, rfl, HT2, Lib.hid HI2.out.next⟩
        case measure => simp [intOf]; omega
      | true =>
        obtain ⟨l2, hl2⟩ : ∃ l2, L ++ [y] = l2 := ⟨_, rfl⟩
        replace HT2 := Lib.hid (show St (j + 1) l2 S' W2 from by have := HT2.out; simp only [if_true] at this; rw [hl2] at this; exact this)
        obtain ⟨d0, d1, d2, d3, d4⟩ := HB2.out.five
        have dz := HB2.out.1
        have ka := (Kept.refl W2).alloc (.cells #[.int .i64 y.s, .int .i64 y.f, .int .u64 y.p.1, .int .u64 y.p.2, .int .u64 y.t] 42)
        have hI3 := HI2.out.kept ka
        have hT3 := HF.out.keep _ _ _ _ _ HT2.out ((HF.out.lt _ _ _ _ HT2.out).1.trans ka) ka.size_le fun b hb => ka.heap ((HF.out.lt _ _ _ _ HT2.out).2 b hb)
        have hol : L.length + 1 ≤ 1000000 := by have := HLn.out; omega
        go_wp2_with (refine wpList_bgrow _ rfl _ _ rfl W L _ (by rfl) hI3.row _ _ 1 1 [y] (by rfl) (by rfl) (blocks_one_at (HasCells.new _ _ _ _ rfl)) hol ?_; intro A2 c2 W4 hL2 g2 lo2; rw [hl2] at hL2 lo2 ⊢; have HE := Lib.hid (hI3.stays hl2 (HF.out.lt _ _ _ _ hT3).2 hL2 g2 lo2); have HT4 := Lib.hid (HF.out.keep _ _ _ _ _ hT3 hL2.2 g2.size fun b hb => g2.block b ((HF.out.lt _ _ _ _ hT3).2 b hb) (fun q => (hI3.apart b q.symm).1 hb)); clear hL2 g2 lo2 hI3 hT3)
        go_roundw
        case rel => exact ⟨j + 1, l2, A2, c2, S', by omega, by go_num, rfl, HT4, HE⟩
        case measure => simp [intOf]; omega
    · obtain rfl : j = l.length := by omega
      go_wp2_with fail
      go_ret
      exact ⟨L, A, c, S, rfl, HT.out, HI.out⟩
set_option maxRecDepth 100000 in
set_option maxHeartbeats 3200000 in
theorem leftBCb_any (W : World) (f : Nat) (cb : Array Value) (S0 : Nat → Prop) (A0 : Option Addr) (c0 : Nat) (l : List Bk) (St : Nat → List Bk → (Nat → Prop) → World → Prop) (w : World) (hl : l.length ≤ 10000) (hA : CellsAt w w.heap.size A0 (blockCells l)) (hS : 0 < l.length → ∀ ad, A0 = some ad → ¬ S0 ad.block) (hW : Kept W w)
    (eg : ∀ args w, (callFunc f args).run Try.prog w = .ok (.enter f args) w) (hF : Asks W (fun y w Q => Calls Try.prog f (#[.agg #[.int .i64 y.s, .int .i64 y.f, .int .u64 y.p.1, .int .u64 y.p.2, .int .u64 y.t]] ++ cb) w Q) l St) (h0 : St 0 [] S0 w) :
    Calls Try.prog 37 #[.slice A0 l.length c0, .func (.func f) #[] cb] w fun e w' => ∃ L A c S, e = .returned (.slice A L.length c) ∧ St l.length L S w' ∧ LeftIB W w S0 l.length L A c S w' := by
  have HA := Lib.hid hA
  have HS0 := Lib.hid hS
  have HF := Lib.hid hF
  have HT0 := Lib.hid h0
  have HI0 := Lib.hid (LeftIB.start (S0 := S0) hW)
  clear hA hF hS h0 hW
  go_enter Try.func37, Try.ntmps37
  go_wp2_with fail
  go_loopw [5, 10] (fun all i w' => ∃ (j : Nat) (L : List Bk) (A : Option Addr) (c : Nat) (S : Nat → Prop), j ≤ l.length ∧ i = .int .i64 (j : Nat) ∧ all = .slice A L.length c ∧ Hid (St j L S w') ∧ Hid (LeftIB W w S0 j L A c S w')) (fun _ i _ => l.length - (intOf i).toNat)
  case atStart => exact ⟨0, [], .none, 0, S0, by omega, rfl, rfl, HT0, HI0⟩
  case round =>
    clear HT0 HI0
    obtain ⟨j, L, A, c, S, hj, rfl, rfl, HT, HI⟩ := hrel
    by_cases hlt : j < l.length
    · have HStep := Lib.hid (HF.out.step j hlt L S)
      have HLn := Lib.hid HI.out.lj
      obtain ⟨z, o, rfl, hb, c0, c1, c2, c3, c4⟩ := block_at (HA.out.off (fun _ => HS0.out (by omega)) HI.out.off) hlt
      obtain ⟨y, hy⟩ : ∃ y, y = l[j] := ⟨_, rfl⟩
      rw [← hy] at c0 c1 c2 c3 c4 HStep
      clear hy
      go_wp2_with fail
      clear hb c0 c1 c2 c3 c4
      have ka := (Kept.refl wr).alloc (.cells #[.int .i64 y.s, .int .i64 y.f, .int .u64 y.p.1, .int .u64 y.p.2, .int .u64 y.t] 42)
      have HT1 := Lib.hid (HF.out.keep _ _ _ _ _ HT.out ((HF.out.lt _ _ _ _ HT.out).1.trans ka) ka.size_le fun b hb => ka.heap ((HF.out.lt _ _ _ _ HT.out).2 b hb))
      have HI1 := Lib.hid (HI.out.kept ka)
      have HB1 := Lib.hid (HasCells.new wr #[.int .i64 y.s, .int .i64 y.f, .int .u64 y.p.1, .int .u64 y.p.2, .int .u64 y.t] 42 wr.heap.size rfl)
      have HN1 := Lib.hid (show ¬ S wr.heap.size from fun q => Nat.lt_irrefl _ ((HF.out.lt _ _ _ _ HT.out).2 _ q))
      clear ka HT HI
      generalize wr.alloc (.cells #[.int .i64 y.s, .int .i64 y.f, .int .u64 y.p.1, .int .u64 y.p.2, .int .u64 y.t] 42) = W1 at *
      generalize wr.heap.size = z1 at *
      refine (HStep.out W1 HT1.out).mono ?_
      rintro e W2 ⟨b, S', rfl, hT2, hO2, hS2⟩
      have HI2 := Lib.hid (HI1.out.called hO2 hS2 (HF.out.lt _ _ _ _ hT2).1)
      have HB2 := Lib.hid (HB1.out.off HN1.out hO2)
      have HT2 := Lib.hid hT2
      clear hT2 hO2 hS2 HT1 HI1 HB1 HN1 HStep
      cases b with
      | false =>
        replace HT2 := Lib.hid (show St (j + 1) L S' W2 from HT2.out)
        go_wp2_with fail
        go_roundw
        case rel => exact ⟨j + 1, L, A, c, S', by omega, by go_num, rfl, HT2, Lib.hid HI2.out.next⟩
        case measure => simp [intOf]; omega
      | true =>
        obtain ⟨l2, hl2⟩ : ∃ l2, L ++ [y] = l2 := ⟨_, rfl⟩
        replace HT2 := Lib.hid (show St (j + 1) l2 S' W2 from by have := HT2.out; simp only [if_true] at this; rw [hl2] at this; exact this)
        obtain ⟨d0, d1, d2, d3, d4⟩ := HB2.out.five
        have dz := HB2.out.1
        have ka := (Kept.refl W2).alloc (.cells #[.int .i64 y.s, .int .i64 y.f, .int .u64 y.p.1, .int .u64 y.p.2, .int .u64 y.t] 42)
        have hI3 := HI2.out.kept ka
        have hT3 := HF.out.keep _ _ _ _ _ HT2.out ((HF.out.lt _ _ _ _ HT2.out).1.trans ka) ka.size_le fun b hb => ka.heap ((HF.out.lt _ _ _ _ HT2.out).2 b hb)
        have hol : L.length + 1 ≤ 1000000 := by have := HLn.out; omega
        go_wp2_with (refine wpList_bgrow _ rfl _ _ rfl W L _ (by rfl) hI3.row _ _ 1 1 [y] (by rfl) (by rfl) (blocks_one_at (HasCells.new _ _ _ _ rfl)) hol ?_; intro A2 c2 W4 hL2 g2 lo2; rw [hl2] at hL2 lo2 ⊢; have HE := Lib.hid (hI3.stays hl2 (HF.out.lt _ _ _ _ hT3).2 hL2 g2 lo2); have HT4 := Lib.hid (HF.out.keep _ _ _ _ _ hT3 hL2.2 g2.size fun b hb => g2.block b ((HF.out.lt _ _ _ _ hT3).2 b hb) (fun q => (hI3.apart b q.symm).1 hb)); clear hL2 g2 lo2 hI3 hT3)
        go_roundw
        case rel => exact ⟨j + 1, l2, A2, c2, S', by omega, by go_num, rfl, HT4, HE⟩
        case measure => simp [intOf]; omega
    · obtain rfl : j = l.length := by omega
      go_wp2_with fail
      go_ret
      exact ⟨L, A, c, S, rfl, HT.out, HI.out⟩
set_option maxRecDepth 100000 in
set_option maxHeartbeats 3200000 in
theorem leftVBd_any (W : World) (f : Nat) (bd : Value) (S0 : Nat → Prop) (A0 : Option Addr) (c0 : Nat) (l : List Vt) (St : Nat → List Vt → (Nat → Prop) → World → Prop) (w : World) (hl : l.length ≤ 10000) (hA : CellsAt w w.heap.size A0 (votesCells l)) (hS : 0 < l.length → ∀ ad, A0 = some ad → ¬ S0 ad.block) (hW : Kept W w)
    (eg : ∀ args w, (callFunc f args).run Try.prog w = .ok (.enter f args) w) (hF : Asks W (fun y w Q => Calls Try.prog f #[bd, .agg #[.int .i64 y.f, .int .i64 y.s, .int .u64 y.p.1, .int .u64 y.p.2]] w Q) l St) (h0 : St 0 [] S0 w) :
    Calls Try.prog 39 #[.slice A0 l.length c0, .func (.func f) #[bd] #[]] w fun e w' => ∃ L A c S, e = .returned (.slice A L.length c) ∧ St l.length L S w' ∧ LeftIV W w S0 l.length L A c S w' := by
  have HA := Lib.hid hA
  have HS0 := Lib.hid hS
  have HF := Lib.hid hF
  have HT0 := Lib.hid h0
  have HI0 := Lib.hid (LeftIV.start (S0 := S0) hW)
  clear hA hF hS h0 hW
  go_enter Try.func39, Try.ntmps39
  go_wp2_with fail
  go_loopw [5, 10] (fun all i w' => ∃ (j : Nat) (L : List Vt) (A : Option Addr) (c : Nat) (S : Nat → Prop), j ≤ l.length ∧ i = .int .i64 (j : Nat) ∧ all = .slice A L.length c ∧ Hid (St j L S w') ∧ Hid (LeftIV W w S0 j L A c S w')) (fun _ i _ => l.length - (intOf i).toNat)
  case atStart => exact ⟨0, [], .none, 0, S0, by omega, rfl, rfl, HT0, HI0⟩
  case round =>
    clear HT0 HI0
    obtain ⟨j, L, A, c, S, hj, rfl, rfl, HT, HI⟩ := hrel
    by_cases hlt : j < l.length
    · have HStep := Lib.hid (HF.out.step j hlt L S)
      have HLn := Lib.hid HI.out.lj
      obtain ⟨z, o, rfl, hb, c0, c1, c2, c3⟩ := vote_at (HA.out.off (fun _ => HS0.out (by omega)) HI.out.off) hlt
      obtain ⟨y, hy⟩ : ∃ y, y = l[j] := ⟨_, rfl⟩
      rw [← hy] at c0 c1 c2 c3 HStep
      clear hy
      go_wp2_with fail
      clear hb c0 c1 c2 c3
      have ka := (Kept.refl wr).alloc (.cells #[.int .i64 y.f, .int .i64 y.s, .int .u64 y.p.1, .int .u64 y.p.2] 45)
      have HT1 := Lib.hid (HF.out.keep _ _ _ _ _ HT.out ((HF.out.lt _ _ _ _ HT.out).1.trans ka) ka.size_le fun b hb => ka.heap ((HF.out.lt _ _ _ _ HT.out).2 b hb))
      have HI1 := Lib.hid (HI.out.kept ka)
      have HB1 := Lib.hid (HasCells.new wr #[.int .i64 y.f, .int .i64 y.s, .int .u64 y.p.1, .int .u64 y.p.2] 45 wr.heap.size rfl)
      have HN1 := Lib.hid (show ¬ S wr.heap.size from fun q => Nat.lt_irrefl _ ((HF.out.lt _ _ _ _ HT.out).2 _ q))
      clear ka HT HI
      generalize wr.alloc (.cells #[.int .i64 y.f, .int .i64 y.s, .int .u64 y.p.1, .int .u64 y.p.2] 45) = W1 at *
      generalize wr.heap.size = z1 at *
      refine (HStep.out W1 HT1.out).mono ?_
      rintro e W2 ⟨b, S', rfl, hT2, hO2, hS2⟩
      have HI2 := Lib.hid (HI1.out.called hO2 hS2 (HF.out.lt _ _ _ _ hT2).1)
      have HB2 := Lib.hid (HB1.out.off HN1.out hO2)
      have HT2 := Lib.hid hT2
      clear hT2 hO2 hS2 HT1 HI1 HB1 HN1 HStep
      cases b with
      | false =>
        replace HT2 := Lib.hid (show St (j + 1) L S' W2 from HT2.out)
        go_wp2_with fail
        go_roundw
        case rel => exact ⟨j + 1, L, A, c, S', by omega, by go_num, rfl, HT2, Lib.hid HI2.out.next⟩
        case measure => simp [intOf]; omega
      | true =>
        obtain ⟨l2, hl2⟩ : ∃ l2, L ++ [y] = l2 := ⟨_, rfl⟩
        replace HT2 := Lib.hid (show St (j + 1) l2 S' W2 from by have := HT2.out; simp only [if_true] at this; rw [hl2] at this; exact this)
        obtain ⟨d0, d1, d2, d3⟩ := HB2.out.four
        have dz := HB2.out.1
        have ka := (Kept.refl W2).alloc (.cells #[.int .i64 y.f, .int .i64 y.s, .int .u64 y.p.1, .int .u64 y.p.2] 45)
        have hI3 := HI2.out.kept ka
        have hT3 := HF.out.keep _ _ _ _ _ HT2.out ((HF.out.lt _ _ _ _ HT2.out).1.trans ka) ka.size_le fun b hb => ka.heap ((HF.out.lt _ _ _ _ HT2.out).2 b hb)
        have hol : L.length + 1 ≤ 1000000 := by have := HLn.out; omega
        go_wp2_with (refine wpList_vgrow _ rfl _ _ rfl W L _ (by rfl) hI3.row _ _ 1 1 [y] (by rfl) (by rfl) (votes_one_at (HasCells.new _ _ _ _ rfl)) hol ?_; intro A2 c2 W4 hL2 g2 lo2; rw [hl2] at hL2 lo2 ⊢; have HE := Lib.hid (hI3.stays hl2 (HF.out.lt _ _ _ _ hT3).2 hL2 g2 lo2); have HT4 := Lib.hid (HF.out.keep _ _ _ _ _ hT3 hL2.2 g2.size fun b hb => g2.block b ((HF.out.lt _ _ _ _ hT3).2 b hb) (fun q => (hI3.apart b q.symm).1 hb)); clear hL2 g2 lo2 hI3 hT3)
        go_roundw
        case rel => exact ⟨j + 1, l2, A2, c2, S', by omega, by go_num, rfl, HT4, HE⟩
        case measure => simp [intOf]; omega
    · obtain rfl : j = l.length := by omega
      go_wp2_with fail
      go_ret
      exact ⟨L, A, c, S, rfl, HT.out, HI.out⟩
set_option maxRecDepth 100000 in
set_option maxHeartbeats 3200000 in
theorem leftVCb_any (W : World) (f : Nat) (cb : Array Value) (S0 : Nat → Prop) (A0 : Option Addr) (c0 : Nat) (l : List Vt) (St : Nat → List Vt → (Nat → Prop) → World → Prop) (w : World) (hl : l.length ≤ 10000) (hA : CellsAt w w.heap.size A0 (votesCells l)) (hS : 0 < l.length → ∀ ad, A0 = some ad → ¬ S0 ad.block) (hW : Kept W w)
    (eg : ∀ args w, (callFunc f args).run Try.prog w = .ok (.enter f args) w) (hF : Asks W (fun y w Q => Calls Try.prog f (#[.agg #[.int .i64 y.f, .int .i64 y.s, .int .u64 y.p.1, .int .u64 y.p.2]] ++ cb) w Q) l St) (h0 : St 0 [] S0 w) :
    Calls Try.prog 39 #[.slice A0 l.length c0, .func (.func f) #[] cb] w fun e w' => ∃ L A c S, e = .returned (.slice A L.length c) ∧ St l.length L S w' ∧ LeftIV W w S0 l.length L A c S w' := by
  have HA := Lib.hid hA
  have HS0 := Lib.hid hS
  have HF := Lib.hid hF
  have HT0 := Lib.hid h0
  have HI0 := Lib.hid (LeftIV.start (S0 := S0) hW)
  clear hA hF hS h0 hW
  go_enter Try.func39, Try.ntmps39
  go_wp2_with fail
  go_loopw [5, 10] (fun all i w' => ∃ (j : Nat) (L : List Vt) (A : Option Addr) (c : Nat) (S : Nat → Prop), j ≤ l.length ∧ i = .int .i64 (j : Nat) ∧ all = .slice A L.length c ∧ Hid (St j L S w') ∧ Hid (LeftIV W w S0 j L A c S w')) (fun _ i _ => l.length - (intOf i).toNat)
  case atStart => exact ⟨0, [], .none, 0, S0, by omega, rfl, rfl, HT0, HI0⟩
  case round =>
    clear HT0 HI0
    obtain ⟨j, L, A, c, S, hj, rfl, rfl, HT, HI⟩ := hrel
    by_cases hlt : j < l.length
    · have HStep := Lib.hid (HF.out.step j hlt L S)
      have HLn := Lib.hid HI.out.lj
      obtain ⟨z, o, rfl, hb, c0, c1, c2, c3⟩ := vote_at (HA.out.off (fun _ => HS0.out (by omega)) HI.out.off) hlt
      obtain ⟨y, hy⟩ : ∃ y, y = l[j] := ⟨_, rfl⟩
      rw [← hy] at c0 c1 c2 c3 HStep
      clear hy
      go_wp2_with fail
      clear hb c0 c1 c2 c3
      have ka := (Kept.refl wr).alloc (.cells #[.int .i64 y.f, .int .i64 y.s, .int .u64 y.p.1, .int .u64 y.p.2] 45)
      have HT1 := Lib.hid (HF.out.keep _ _ _ _ _ HT.out ((HF.out.lt _ _ _ _ HT.out).1.trans ka) ka.size_le fun b hb => ka.heap ((HF.out.lt _ _ _ _ HT.out).2 b hb))
      have HI1 := Lib.hid (HI.out.kept ka)
      have HB1 := Lib.hid (HasCells.new wr #[.int .i64 y.f, .int .i64 y.s, .int .u64 y.p.1, .int .u64 y.p.2] 45 wr.heap.size rfl)
      have HN1 := Lib.hid (show ¬ S wr.heap.size from fun q => Nat.lt_irrefl _ ((HF.out.lt _ _ _ _ HT.out).2 _ q))
      clear ka HT HI
      generalize wr.alloc (.cells #[.int .i64 y.f, .int .i64 y.s, .int .u64 y.p.1, .int .u64 y.p.2] 45) = W1 at *
      generalize wr.heap.size = z1 at *
      refine (HStep.out W1 HT1.out).mono ?_
      rintro e W2 ⟨b, S', rfl, hT2, hO2, hS2⟩
      have HI2 := Lib.hid (HI1.out.called hO2 hS2 (HF.out.lt _ _ _ _ hT2).1)
      have HB2 := Lib.hid (HB1.out.off HN1.out hO2)
      have HT2 := Lib.hid hT2
      clear hT2 hO2 hS2 HT1 HI1 HB1 HN1 HStep
      cases b with
      | false =>
        replace HT2 := Lib.hid (show St (j + 1) L S' W2 from HT2.out)
        go_wp2_with fail
        go_roundw
        case rel => exact ⟨j + 1, L, A, c, S', by omega, by go_num, rfl, HT2, Lib.hid HI2.out.next⟩
        case measure => simp [intOf]; omega
      | true =>
        obtain ⟨l2, hl2⟩ : ∃ l2, L ++ [y] = l2 := ⟨_, rfl⟩
        replace HT2 := Lib.hid (show St (j + 1) l2 S' W2 from by have := HT2.out; simp only [if_true] at this; rw [hl2] at this; exact this)
        obtain ⟨d0, d1, d2, d3⟩ := HB2.out.four
        have dz := HB2.out.1
        have ka := (Kept.refl W2).alloc (.cells #[.int .i64 y.f, .int .i64 y.s, .int .u64 y.p.1, .int .u64 y.p.2] 45)
        have hI3 := HI2.out.kept ka
        have hT3 := HF.out.keep _ _ _ _ _ HT2.out ((HF.out.lt _ _ _ _ HT2.out).1.trans ka) ka.size_le fun b hb => ka.heap ((HF.out.lt _ _ _ _ HT2.out).2 b hb)
        have hol : L.length + 1 ≤ 1000000 := by have := HLn.out; omega
        go_wp2_with (refine wpList_vgrow _ rfl _ _ rfl W L _ (by rfl) hI3.row _ _ 1 1 [y] (by rfl) (by rfl) (votes_one_at (HasCells.new _ _ _ _ rfl)) hol ?_; intro A2 c2 W4 hL2 g2 lo2; rw [hl2] at hL2 lo2 ⊢; have HE := Lib.hid (hI3.stays hl2 (HF.out.lt _ _ _ _ hT3).2 hL2 g2 lo2); have HT4 := Lib.hid (HF.out.keep _ _ _ _ _ hT3 hL2.2 g2.size fun b hb => g2.block b ((HF.out.lt _ _ _ _ hT3).2 b hb) (fun q => (hI3.apart b q.symm).1 hb)); clear hL2 g2 lo2 hI3 hT3)
        go_roundw
        case rel => exact ⟨j + 1, l2, A2, c2, S', by omega, by go_num, rfl, HT4, HE⟩
        case measure => simp [intOf]; omega
    · obtain rfl : j = l.length := by omega
      go_wp2_with fail
      go_ret
      exact ⟨L, A, c, S, rfl, HT.out, HI.out⟩

end Go.Proofs.Ytacdiicnfoejoaa
