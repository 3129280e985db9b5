/-
  The chapter's example, which every law of layer 16 asks first: it is so.
-/
import Derived.Test.YtacdiicnfoejoaaView
import Derived.Test.YtacdiicnfoejoaaHeadG
import Derived.Test.YtacdiicnfoejoaaDutyG
import Derived.Test.YtacdiicnfoejoaaOrders
import Derived.Test.YtacdiicnfoejoaaGround
namespace Go.Proofs.Ytacdiicnfoejoaa
set_option maxRecDepth 100000
set_option linter.unusedVariables false
set_option linter.unusedSimpArgs false
set_option linter.unusedSimpArgs false
set_option linter.unusedVariables false
open Go.ChangeShapes Go.WideShapes Go.ChangeAt Go.RowKit

structure FA (W : World) (n1 n2 : Id2) (L : Nat → Bool) (A : Option Addr) (zl zu : Nat) (P : Option Addr) (p : Nat) (Q : Option Addr) (q : Nat) (R : Option Addr) (r : Nat) (S : Option Addr) (s z3 z4 : Nat) (w : World) : Prop where
  k : Kept W w
  f0 : L 0 = true → CellsAt w w.heap.size A [.int .i64 1]
  f4 : L 4 = true → CellsAt w w.heap.size (some ⟨zl, 0, none⟩) [.int .i64 2, .int .i64 0, .int .u64 n1.1, .int .u64 n1.2, .int .u64 0, .int .i64 1, .int .i64 0, .int .u64 0, .int .u64 0, .int .u64 0]
  f8 : L 8 = true → CellsAt w w.heap.size (some ⟨zu, 0, none⟩) [.int .i64 0, .int .i64 2, .int .u64 n2.1, .int .u64 n2.2]
  f10 : L 10 = true → 2 ≤ p ∧ 1 ≤ q ∧ CellsAt w w.heap.size P [.int .i64 1, .int .i64 0, .int .u64 0, .int .u64 0, .int .u64 0, .int .i64 2, .int .i64 0, .int .u64 n1.1, .int .u64 n1.2, .int .u64 0] ∧ CellsAt w w.heap.size Q [.int .i64 0, .int .i64 2, .int .u64 n2.1, .int .u64 n2.2]
  f15 : L 15 = true → W.heap.size ≤ z3 ∧ AtB w z3 (if L 17 = true then #[.slice P 2 p, .slice Q 1 q] else #[.slice none 0 0, .slice none 0 0]) 29
  f16 : L 16 = true → W.heap.size ≤ z4 ∧ AtB w z4 (if L 18 = true then #[.slice R 0 r, .slice S 0 s] else #[.slice none 0 0, .slice none 0 0]) 29
  f34 : L 15 = true → L 16 = true → z3 ≠ z4
section
variable {W : World} {n1 n2 : Id2} {L : Nat → Bool} {A : Option Addr} {zl zu : Nat} {P : Option Addr} {p : Nat} {Q : Option Addr} {q : Nat} {R : Option Addr} {r : Nat} {S : Option Addr} {s z3 z4 : Nat} {w : World}
theorem FA.kept {w' : World} (h : FA W n1 n2 L A zl zu P p Q q R r S s z3 z4 w) (k : Kept w w') : FA W n1 n2 L A zl zu P p Q q R r S s z3 z4 w' :=
  ⟨h.k.trans k, fun x => (h.f0 x).kept k, fun x => (h.f4 x).kept k, fun x => (h.f8 x).kept k, fun x => ⟨(h.f10 x).1, (h.f10 x).2.1, (h.f10 x).2.2.1.kept k, (h.f10 x).2.2.2.kept k⟩, fun x => ⟨(h.f15 x).1, (h.f15 x).2.kept k⟩, fun x => ⟨(h.f16 x).1, (h.f16 x).2.kept k⟩, h.f34⟩
theorem FA.flags (h : FA W n1 n2 L A zl zu P p Q q R r S s z3 z4 w) {L' : Nat → Bool} (e0 : L' 0 = L 0) (e4 : L' 4 = L 4) (e8 : L' 8 = L 8) (e10 : L' 10 = L 10) (e15 : L' 15 = L 15) (e16 : L' 16 = L 16) (e17 : L' 17 = L 17) (e18 : L' 18 = L 18) : FA W n1 n2 L' A zl zu P p Q q R r S s z3 z4 w :=
  ⟨h.k, by rw [e0]; exact h.f0, by rw [e4]; exact h.f4, by rw [e8]; exact h.f8, by rw [e10]; exact h.f10, by rw [e15, e17]; exact h.f15, by rw [e16, e18]; exact h.f16, by rw [e15, e16]; exact h.f34⟩
theorem FA.s0 (h : FA W n1 n2 L A zl zu P p Q q R r S s z3 z4 w) {A' : Option Addr} (hA : CellsAt w w.heap.size A' [.int .i64 1]) : FA W n1 n2 (up L 0) A' zl zu P p Q q R r S s z3 z4 w :=
  ⟨h.k, fun _ => hA, h.f4, h.f8, h.f10, h.f15, h.f16, h.f34⟩
theorem FA.s4 (h : FA W n1 n2 L A zl zu P p Q q R r S s z3 z4 w) {zl' : Nat} (hl : CellsAt w w.heap.size (some ⟨zl', 0, none⟩) [.int .i64 2, .int .i64 0, .int .u64 n1.1, .int .u64 n1.2, .int .u64 0, .int .i64 1, .int .i64 0, .int .u64 0, .int .u64 0, .int .u64 0]) : FA W n1 n2 (up L 4) A zl' zu P p Q q R r S s z3 z4 w :=
  ⟨h.k, h.f0, fun _ => hl, h.f8, h.f10, h.f15, h.f16, h.f34⟩
theorem FA.s8 (h : FA W n1 n2 L A zl zu P p Q q R r S s z3 z4 w) {zu' : Nat} (hl : CellsAt w w.heap.size (some ⟨zu', 0, none⟩) [.int .i64 0, .int .i64 2, .int .u64 n2.1, .int .u64 n2.2]) : FA W n1 n2 (up L 8) A zl zu' P p Q q R r S s z3 z4 w :=
  ⟨h.k, h.f0, h.f4, fun _ => hl, h.f10, h.f15, h.f16, h.f34⟩
theorem FA.s10 (h : FA W n1 n2 L A zl zu P p Q q R r S s z3 z4 w) (n17 : L 17 = false) (n18 : L 18 = false) {P' : Option Addr} {p' : Nat} {Q' : Option Addr} {q' : Nat} {R' : Option Addr} {r' : Nat} {S' : Option Addr} {s' : Nat} (hp : 2 ≤ p') (hq : 1 ≤ q') (hP : CellsAt w w.heap.size P' [.int .i64 1, .int .i64 0, .int .u64 0, .int .u64 0, .int .u64 0, .int .i64 2, .int .i64 0, .int .u64 n1.1, .int .u64 n1.2, .int .u64 0]) (hQ : CellsAt w w.heap.size Q' [.int .i64 0, .int .i64 2, .int .u64 n2.1, .int .u64 n2.2]) : FA W n1 n2 (up L 10) A zl zu P' p' Q' q' R' r' S' s' z3 z4 w := by
  refine ⟨h.k, h.f0, h.f4, h.f8, fun _ => ⟨hp, hq, hP, hQ⟩, fun x => ?_, fun x => ?_, h.f34⟩
  · have := h.f15 x
    rw [n17] at this
    rw [show up L 10 17 = false from n17]
    exact this
  · have := h.f16 x
    rw [n18] at this
    rw [show up L 10 18 = false from n18]
    exact this
theorem FA.s15 (h : FA W n1 n2 L A zl zu P p Q q R r S s z3 z4 w) (n17 : L 17 = false) {z : Nat} (hz : W.heap.size ≤ z) (ha : AtB w z #[.slice none 0 0, .slice none 0 0] 29) (hne : L 16 = true → z ≠ z4) : FA W n1 n2 (up L 15) A zl zu P p Q q R r S s z z4 w :=
  ⟨h.k, h.f0, h.f4, h.f8, h.f10, fun _ => ⟨hz, by rw [show up L 15 17 = false from n17]; exact ha⟩, h.f16, fun _ x => hne x⟩
theorem FA.s16 (h : FA W n1 n2 L A zl zu P p Q q R r S s z3 z4 w) (n18 : L 18 = false) {z : Nat} (hz : W.heap.size ≤ z) (ha : AtB w z #[.slice none 0 0, .slice none 0 0] 29) (hne : L 15 = true → z3 ≠ z) : FA W n1 n2 (up L 16) A zl zu P p Q q R r S s z3 z w :=
  ⟨h.k, h.f0, h.f4, h.f8, h.f10, h.f15, fun _ => ⟨hz, by rw [show up L 16 18 = false from n18]; exact ha⟩, fun x _ => hne x⟩
theorem FA.s17 (h : FA W n1 n2 L A zl zu P p Q q R r S s z3 z4 w) (h15 : L 15 = true) (n17 : L 17 = false) : FA W n1 n2 (up L 17) A zl zu P p Q q R r S s z3 z4 ((w.setCell ⟨z3, 0, none⟩ (.slice P 2 p)).setCell ⟨z3, 1, none⟩ (.slice Q 1 q)) := by
  obtain ⟨hz, ha⟩ := h.f15 h15
  rw [n17] at ha
  simp only [Bool.false_eq_true, if_false] at ha
  have c0 : w.cell? ⟨z3, 0, none⟩ = some (.slice none 0 0) := ha.cell
  have c1 : (w.setCell ⟨z3, 0, none⟩ (.slice P 2 p)).cell? ⟨z3, 1, none⟩ = some (.slice none 0 0) := (ha.set 0 _).cell
  have ps : ∀ {B : Option Addr} {xs : List Value}, Value.slice none 0 0 ∉ xs → CellsAt w w.heap.size B xs → CellsAt ((w.setCell ⟨z3, 0, none⟩ (.slice P 2 p)).setCell ⟨z3, 1, none⟩ (.slice Q 1 q)) ((w.setCell ⟨z3, 0, none⟩ (.slice P 2 p)).setCell ⟨z3, 1, none⟩ (.slice Q 1 q)).heap.size B xs := fun hn hc => (hc.past c0 hn _).past c1 hn _
  refine ⟨(h.k.setCell (p := ⟨z3, 0, none⟩) hz _).setCell (p := ⟨z3, 1, none⟩) hz _, fun x => ps (by simp) (h.f0 x), fun x => ps (by simp) (h.f4 x), fun x => ps (by simp) (h.f8 x), fun x => ⟨(h.f10 x).1, (h.f10 x).2.1, ps (by simp) (h.f10 x).2.2.1, ps (by simp) (h.f10 x).2.2.2⟩, fun _ => ⟨hz, ?_⟩, fun x => ⟨(h.f16 x).1, ?_⟩, h.f34⟩
  · rw [if_pos (up_same L 17)]
    exact ha.set2 _ _
  · exact ((h.f16 x).2.other (p := ⟨z3, 0, none⟩) (h.f34 h15 x) _).other (p := ⟨z3, 1, none⟩) (h.f34 h15 x) _
theorem FA.s18 (h : FA W n1 n2 L A zl zu P p Q q R r S s z3 z4 w) (h16 : L 16 = true) (n18 : L 18 = false) : FA W n1 n2 (up L 18) A zl zu P p Q q R r S s z3 z4 ((w.setCell ⟨z4, 0, none⟩ (.slice R 0 r)).setCell ⟨z4, 1, none⟩ (.slice S 0 s)) := by
  obtain ⟨hz, ha⟩ := h.f16 h16
  rw [n18] at ha
  simp only [Bool.false_eq_true, if_false] at ha
  have c0 : w.cell? ⟨z4, 0, none⟩ = some (.slice none 0 0) := ha.cell
  have c1 : (w.setCell ⟨z4, 0, none⟩ (.slice R 0 r)).cell? ⟨z4, 1, none⟩ = some (.slice none 0 0) := (ha.set 0 _).cell
  have ps : ∀ {B : Option Addr} {xs : List Value}, Value.slice none 0 0 ∉ xs → CellsAt w w.heap.size B xs → CellsAt ((w.setCell ⟨z4, 0, none⟩ (.slice R 0 r)).setCell ⟨z4, 1, none⟩ (.slice S 0 s)) ((w.setCell ⟨z4, 0, none⟩ (.slice R 0 r)).setCell ⟨z4, 1, none⟩ (.slice S 0 s)).heap.size B xs := fun hn hc => (hc.past c0 hn _).past c1 hn _
  refine ⟨(h.k.setCell (p := ⟨z4, 0, none⟩) hz _).setCell (p := ⟨z4, 1, none⟩) hz _, fun x => ps (by simp) (h.f0 x), fun x => ps (by simp) (h.f4 x), fun x => ps (by simp) (h.f8 x), fun x => ⟨(h.f10 x).1, (h.f10 x).2.1, ps (by simp) (h.f10 x).2.2.1, ps (by simp) (h.f10 x).2.2.2⟩, fun x => ⟨(h.f15 x).1, ?_⟩, fun _ => ⟨hz, ?_⟩, h.f34⟩
  · exact ((h.f15 x).2.other (p := ⟨z4, 0, none⟩) (fun e => h.f34 x h16 e.symm) _).other (p := ⟨z4, 1, none⟩) (fun e => h.f34 x h16 e.symm) _
  · rw [if_pos (up_same L 18)]
    exact ha.set2 _ _
end
def IA (W : World) (n1 n2 : Id2) (z1 z2 : Nat) (L : Nat → Bool) (a : Act) (w : World) : Prop := ∃ (A : Option Addr) (c zl zu : Nat) (P : Option Addr) (p : Nat) (Q : Option Addr) (q : Nat) (R : Option Addr) (r : Nat) (S : Option Addr) (s z3 z4 : Nat), a = ⟨#[.bool false, .pointer (some ⟨z1, 0, none⟩), .pointer (some ⟨z2, 0, none⟩), lz L 15 (.pointer (some ⟨z3, 0, none⟩)), lz L 16 (.pointer (some ⟨z4, 0, none⟩)), lz L 19 (.bool false), .agg #[.int .i64 1, .int .i64 0, .int .u64 0, .int .u64 0, .int .u64 0], .agg #[.int .i64 1, .int .i64 0, .int .u64 0, .int .u64 0, .int .u64 0], .agg #[.int .u64 n1.1, .int .u64 n1.2], .agg #[.int .i64 2, .int .i64 0, .int .u64 n1.1, .int .u64 n1.2, .int .u64 0], lz L 11 (.tuple #[.agg #[.slice P 2 p, .slice Q 1 q], .agg #[.slice R 0 r, .slice S 0 s], .bool false]), lz L 0 (.agg #[.slice A 1 c, .int .u64 0, .int .i64 1, .int .i64 1, .int .i64 4]), lz L 1 (.agg #[.slice none 0 0, .slice none 0 0]), lz L 2 (.agg #[.int .i64 2, .int .i64 0, .int .u64 n1.1, .int .u64 n1.2, .int .u64 0]), lz L 3 (.agg #[.int .i64 1, .int .i64 0, .int .u64 0, .int .u64 0, .int .u64 0]), lz L 4 (.slice (some ⟨zl, 0, none⟩) 2 2), lz L 5 (.agg #[.int .i64 2, .int .i64 0, .int .u64 n1.1, .int .u64 n1.2, .int .u64 0]), lz L 6 (.agg #[.int .u64 n2.1, .int .u64 n2.2]), lz L 7 (.agg #[.int .i64 0, .int .i64 2, .int .u64 n2.1, .int .u64 n2.2]), lz L 8 (.slice (some ⟨zu, 0, none⟩) 1 1), lz L 9 (.agg #[.slice (some ⟨zl, 0, none⟩) 2 2, .slice (some ⟨zu, 0, none⟩) 1 1]), lz L 10 (.tuple #[.agg #[.slice P 2 p, .slice Q 1 q], .agg #[.slice R 0 r, .slice S 0 s], .bool false]), lz L 12 (.agg #[.slice P 2 p, .slice Q 1 q]), lz L 13 (.agg #[.slice R 0 r, .slice S 0 s]), lz L 14 (.bool false), undef, undef, undef, undef, undef, undef, undef, undef, undef, undef, undef, undef, undef, undef, undef, undef, undef, undef, undef, undef, undef, undef, undef, undef, undef, undef, undef, undef, undef, undef, undef, undef, undef, undef, undef, undef], []⟩ ∧ FA W n1 n2 L A zl zu P p Q q R r S s z3 z4 w
set_option maxRecDepth 100000 in
set_option maxHeartbeats 6400000 in
theorem awake16_of (n1 n2 : Id2)
    (hN1 : ∀ w, Calls Try.prog 16 #[.agg #[.int .i64 1, .int .i64 0, .int .u64 0, .int .u64 0, .int .u64 0]] w fun e w' => e = .returned (.agg #[.int .u64 n1.1, .int .u64 n1.2]) ∧ Kept w w')
    (hN2 : ∀ w, Calls Try.prog 16 #[.agg #[.int .i64 2, .int .i64 0, .int .u64 n1.1, .int .u64 n1.2, .int .u64 0]] w fun e w' => e = .returned (.agg #[.int .u64 n2.1, .int .u64 n2.2]) ∧ Kept w w')
    (hO : ∀ w, Calls Try.prog 26 #[] w fun e w' => ∃ A c, e = .returned (.agg #[.slice A 1 c, .int .u64 0, .int .i64 1, .int .i64 1, .int .i64 4]) ∧ CellsAt w' w'.heap.size A [.int .i64 1] ∧ Kept w w')
    (hT : ∀ A c L U w, CellsAt w w.heap.size A [.int .i64 1] → CellsAt w w.heap.size L [.int .i64 2, .int .i64 0, .int .u64 n1.1, .int .u64 n1.2, .int .u64 0, .int .i64 1, .int .i64 0, .int .u64 0, .int .u64 0, .int .u64 0] → CellsAt w w.heap.size U [.int .i64 0, .int .i64 2, .int .u64 n2.1, .int .u64 n2.2] →
      Calls Try.prog 13 #[.agg #[.slice A 1 c, .int .u64 0, .int .i64 1, .int .i64 1, .int .i64 4], .agg #[.slice none 0 0, .slice none 0 0], .agg #[.slice L 2 2, .slice U 1 1], .int .i64 2] w fun e w' => ∃ P p Q q R r S s, e = .returned (.tuple #[.agg #[.slice P 2 p, .slice Q 1 q], .agg #[.slice R 0 r, .slice S 0 s], .bool false]) ∧ 2 ≤ p ∧ 1 ≤ q ∧ CellsAt w' w'.heap.size P [.int .i64 1, .int .i64 0, .int .u64 0, .int .u64 0, .int .u64 0, .int .i64 2, .int .i64 0, .int .u64 n1.1, .int .u64 n1.2, .int .u64 0] ∧ CellsAt w' w'.heap.size Q [.int .i64 0, .int .i64 2, .int .u64 n2.1, .int .u64 n2.2] ∧ Kept w w')
    (hM : ∀ A c P p Q q w, CellsAt w w.heap.size A [.int .i64 1] → 2 ≤ p → 1 ≤ q → CellsAt w w.heap.size P [.int .i64 1, .int .i64 0, .int .u64 0, .int .u64 0, .int .u64 0, .int .i64 2, .int .i64 0, .int .u64 n1.1, .int .u64 n1.2, .int .u64 0] → CellsAt w w.heap.size Q [.int .i64 0, .int .i64 2, .int .u64 n2.1, .int .u64 n2.2] →
      Calls Try.prog 12 #[.agg #[.slice A 1 c, .int .u64 0, .int .i64 1, .int .i64 1, .int .i64 4], .agg #[.slice P 2 p, .slice Q 1 q]] w fun e w' => e = .returned (.bool true) ∧ Kept w w')
    (hB1 : ∀ A c w, CellsAt w w.heap.size A [.int .i64 1] → Calls Try.prog 19 #[.agg #[.slice A 1 c, .int .u64 0, .int .i64 1, .int .i64 1, .int .i64 4], .agg #[.int .i64 1, .int .i64 0, .int .u64 0, .int .u64 0, .int .u64 0]] w fun e w' => e = .returned (.bool true) ∧ Kept w w')
    (hB2 : ∀ A c w, CellsAt w w.heap.size A [.int .i64 1] → Calls Try.prog 19 #[.agg #[.slice A 1 c, .int .u64 0, .int .i64 1, .int .i64 1, .int .i64 4], .agg #[.int .i64 1, .int .i64 1, .int .u64 0, .int .u64 0, .int .u64 0]] w fun e w' => e = .returned (.bool false) ∧ Kept w w')
    (w : World) : Calls Try.prog 10 #[] w fun e w' => e = .returned (.bool true) ∧ Kept w w' := by
  have HN1 := Lib.hid hN1
  have HN2 := Lib.hid hN2
  have HO := Lib.hid hO
  have HT := Lib.hid hT
  have HM := Lib.hid hM
  have HB1 := Lib.hid hB1
  have HB2 := Lib.hid hB2
  clear hN1 hN2 hO hT hM hB1 hB2
  have HK0 := Lib.hid ((Kept.refl w).alloc (.cells #[.int .i64 1, .int .i64 0, .int .u64 0, .int .u64 0, .int .u64 0] 42))
  have HA0 := Lib.hid (HasCells.new w #[.int .i64 1, .int .i64 0, .int .u64 0, .int .u64 0, .int .u64 0] 42 w.heap.size rfl)
  go_enter Try.func10, Try.ntmps10
  go_wp2_with fail
  generalize w.alloc (.cells #[.int .i64 1, .int .i64 0, .int .u64 0, .int .u64 0, .int .u64 0] 42) = W0 at *
  generalize w.heap.size = z1 at *
  refine (HN1.out W0).mono ?_
  rintro e W1 ⟨rfl, k1⟩
  have HA1 := Lib.hid (HA0.out.kept (k1.alloc (.cells #[.int .i64 2, .int .i64 0, .int .u64 n1.1, .int .u64 n1.2, .int .u64 0] 42)))
  have HK1 := Lib.hid ((HK0.out.trans k1).alloc (.cells #[.int .i64 2, .int .i64 0, .int .u64 n1.1, .int .u64 n1.2, .int .u64 0] 42))
  have HB0 := Lib.hid (HasCells.new W1 #[.int .i64 2, .int .i64 0, .int .u64 n1.1, .int .u64 n1.2, .int .u64 0] 42 W1.heap.size rfl)
  obtain ⟨a0, a1, a2, a3, a4⟩ := (HA0.out.kept k1).five
  have bza := (HA0.out.kept k1).1
  clear k1
  go_wp2_with fail
  clear a0 a1 a2 a3 a4 bza
  generalize W1.alloc (.cells #[.int .i64 2, .int .i64 0, .int .u64 n1.1, .int .u64 n1.2, .int .u64 0] 42) = W2 at *
  generalize W1.heap.size = z2 at *
  refine wp_region_noPanic ?_
  refine wp_region_inv (I := IA W2 n1 n2 z1 z2) (by kernel_rfl) (by kernel_rfl) ?_ ⟨?_, ?_, ?_, ?_, ?_, ?_, ?_, ?_, ?_, ?_, ?_, ?_, ?_, ?_, ?_, ?_, ?_, ?_, ?_, ?_, trivial⟩ ?_
  · exact ⟨none, 0, 0, 0, none, 0, none, 0, none, 0, none, 0, 0, 0, by simp only [lz_no (L := fun _ => false) rfl], ⟨(Kept.refl W2).drew, (fun h => nomatch h), (fun h => nomatch h), (fun h => nomatch h), (fun h => nomatch h), (fun h => nomatch h), (fun h => nomatch h), (fun h => nomatch h)⟩⟩
  · intro L a w hL hcl hd hI K hK
    obtain ⟨A, c, zl, zu, P, p, Q, q, R, r, S, s, z3, z4, rfl, hF⟩ := hI
    rw [if_pos (by rfl)]
    go_simp
    go_at_call 26; with_reducible refine (HO.out _).mono ?_
    rintro e w1 ⟨A1, c1, rfl, hA, k⟩
    try dsimp only
    refine hK.out _ _ ⟨A1, c1, zl, zu, P, p, Q, q, R, r, S, s, z3, z4, ?_, (hF.kept k).s0 hA⟩
    simp only [Act.put, List.setIfInBounds_toArray, List.set_cons_zero, List.set_cons_succ, lz_up, lz_far L (show (1 : Nat) ≠ 0 by decide), lz_far L (show (2 : Nat) ≠ 0 by decide), lz_far L (show (3 : Nat) ≠ 0 by decide), lz_far L (show (4 : Nat) ≠ 0 by decide), lz_far L (show (5 : Nat) ≠ 0 by decide), lz_far L (show (6 : Nat) ≠ 0 by decide), lz_far L (show (7 : Nat) ≠ 0 by decide), lz_far L (show (8 : Nat) ≠ 0 by decide), lz_far L (show (9 : Nat) ≠ 0 by decide), lz_far L (show (10 : Nat) ≠ 0 by decide), lz_far L (show (11 : Nat) ≠ 0 by decide), lz_far L (show (12 : Nat) ≠ 0 by decide), lz_far L (show (13 : Nat) ≠ 0 by decide), lz_far L (show (14 : Nat) ≠ 0 by decide), lz_far L (show (15 : Nat) ≠ 0 by decide), lz_far L (show (16 : Nat) ≠ 0 by decide), lz_far L (show (19 : Nat) ≠ 0 by decide)]
  · intro L a w hL hcl hd hI K hK
    obtain ⟨A, c, zl, zu, P, p, Q, q, R, r, S, s, z3, z4, rfl, hF⟩ := hI
    rw [if_pos (by rfl)]
    go_simp
    refine hK.out _ _ ⟨A, c, zl, zu, P, p, Q, q, R, r, S, s, z3, z4, ?_, hF.flags rfl rfl rfl rfl rfl rfl rfl rfl⟩
    simp only [Act.put, List.setIfInBounds_toArray, List.set_cons_zero, List.set_cons_succ, lz_up, lz_far L (show (0 : Nat) ≠ 1 by decide), lz_far L (show (2 : Nat) ≠ 1 by decide), lz_far L (show (3 : Nat) ≠ 1 by decide), lz_far L (show (4 : Nat) ≠ 1 by decide), lz_far L (show (5 : Nat) ≠ 1 by decide), lz_far L (show (6 : Nat) ≠ 1 by decide), lz_far L (show (7 : Nat) ≠ 1 by decide), lz_far L (show (8 : Nat) ≠ 1 by decide), lz_far L (show (9 : Nat) ≠ 1 by decide), lz_far L (show (10 : Nat) ≠ 1 by decide), lz_far L (show (11 : Nat) ≠ 1 by decide), lz_far L (show (12 : Nat) ≠ 1 by decide), lz_far L (show (13 : Nat) ≠ 1 by decide), lz_far L (show (14 : Nat) ≠ 1 by decide), lz_far L (show (15 : Nat) ≠ 1 by decide), lz_far L (show (16 : Nat) ≠ 1 by decide), lz_far L (show (19 : Nat) ≠ 1 by decide)]
  · intro L a w hL hcl hd hI K hK
    obtain ⟨A, c, zl, zu, P, p, Q, q, R, r, S, s, z3, z4, rfl, hF⟩ := hI
    obtain ⟨c0, c1, c2, c3, c4⟩ := (HB0.out.kept hF.k).five
    have cz := (HB0.out.kept hF.k).1
    rw [if_pos (by rfl)]
    go_simp
    refine hK.out _ _ ⟨A, c, zl, zu, P, p, Q, q, R, r, S, s, z3, z4, ?_, hF.flags rfl rfl rfl rfl rfl rfl rfl rfl⟩
    simp only [Act.put, List.setIfInBounds_toArray, List.set_cons_zero, List.set_cons_succ, lz_up, lz_far L (show (0 : Nat) ≠ 2 by decide), lz_far L (show (1 : Nat) ≠ 2 by decide), lz_far L (show (3 : Nat) ≠ 2 by decide), lz_far L (show (4 : Nat) ≠ 2 by decide), lz_far L (show (5 : Nat) ≠ 2 by decide), lz_far L (show (6 : Nat) ≠ 2 by decide), lz_far L (show (7 : Nat) ≠ 2 by decide), lz_far L (show (8 : Nat) ≠ 2 by decide), lz_far L (show (9 : Nat) ≠ 2 by decide), lz_far L (show (10 : Nat) ≠ 2 by decide), lz_far L (show (11 : Nat) ≠ 2 by decide), lz_far L (show (12 : Nat) ≠ 2 by decide), lz_far L (show (13 : Nat) ≠ 2 by decide), lz_far L (show (14 : Nat) ≠ 2 by decide), lz_far L (show (15 : Nat) ≠ 2 by decide), lz_far L (show (16 : Nat) ≠ 2 by decide), lz_far L (show (19 : Nat) ≠ 2 by decide)]
  · intro L a w hL hcl hd hI K hK
    obtain ⟨A, c, zl, zu, P, p, Q, q, R, r, S, s, z3, z4, rfl, hF⟩ := hI
    obtain ⟨c0, c1, c2, c3, c4⟩ := (HA1.out.kept hF.k).five
    have cz := (HA1.out.kept hF.k).1
    rw [if_pos (by rfl)]
    go_simp
    refine hK.out _ _ ⟨A, c, zl, zu, P, p, Q, q, R, r, S, s, z3, z4, ?_, hF.flags rfl rfl rfl rfl rfl rfl rfl rfl⟩
    simp only [Act.put, List.setIfInBounds_toArray, List.set_cons_zero, List.set_cons_succ, lz_up, lz_far L (show (0 : Nat) ≠ 3 by decide), lz_far L (show (1 : Nat) ≠ 3 by decide), lz_far L (show (2 : Nat) ≠ 3 by decide), lz_far L (show (4 : Nat) ≠ 3 by decide), lz_far L (show (5 : Nat) ≠ 3 by decide), lz_far L (show (6 : Nat) ≠ 3 by decide), lz_far L (show (7 : Nat) ≠ 3 by decide), lz_far L (show (8 : Nat) ≠ 3 by decide), lz_far L (show (9 : Nat) ≠ 3 by decide), lz_far L (show (10 : Nat) ≠ 3 by decide), lz_far L (show (11 : Nat) ≠ 3 by decide), lz_far L (show (12 : Nat) ≠ 3 by decide), lz_far L (show (13 : Nat) ≠ 3 by decide), lz_far L (show (14 : Nat) ≠ 3 by decide), lz_far L (show (15 : Nat) ≠ 3 by decide), lz_far L (show (16 : Nat) ≠ 3 by decide), lz_far L (show (19 : Nat) ≠ 3 by decide)]
  · intro L a w hL hcl hd hI K hK
    obtain ⟨A, c, zl, zu, P, p, Q, q, R, r, S, s, z3, z4, rfl, hF⟩ := hI
    have d2 : L 2 = true := hd ⟨2, .data⟩ (by simp) (by rfl)
    have d3 : L 3 = true := hd ⟨3, .data⟩ (by simp) (by rfl)
    simp only [lz_yes d2, lz_yes d3]
    have n9 : L 9 = false := by
      cases h : L 9 with
      | false => rfl
      | true =>
        have q := hcl 9 _ rfl h ⟨4, .data⟩ (by simp) (by rfl)
        rw [hL] at q
        cases q
    rw [if_pos (by rfl)]
    go_simp
    refine hK.out _ _ ⟨A, c, w.heap.size, zu, P, p, Q, q, R, r, S, s, z3, z4, ?_, (hF.kept ((Kept.refl w).alloc _)).s4 (CellsAt.new _ _ _ _ rfl)⟩
    simp only [Act.put, List.setIfInBounds_toArray, List.set_cons_zero, List.set_cons_succ, lz_up, lz_far L (show (0 : Nat) ≠ 4 by decide), lz_far L (show (1 : Nat) ≠ 4 by decide), lz_far L (show (2 : Nat) ≠ 4 by decide), lz_far L (show (3 : Nat) ≠ 4 by decide), lz_far L (show (5 : Nat) ≠ 4 by decide), lz_far L (show (6 : Nat) ≠ 4 by decide), lz_far L (show (7 : Nat) ≠ 4 by decide), lz_far L (show (8 : Nat) ≠ 4 by decide), lz_far L (show (9 : Nat) ≠ 4 by decide), lz_far L (show (10 : Nat) ≠ 4 by decide), lz_far L (show (11 : Nat) ≠ 4 by decide), lz_far L (show (12 : Nat) ≠ 4 by decide), lz_far L (show (13 : Nat) ≠ 4 by decide), lz_far L (show (14 : Nat) ≠ 4 by decide), lz_far L (show (15 : Nat) ≠ 4 by decide), lz_far L (show (16 : Nat) ≠ 4 by decide), lz_far L (show (19 : Nat) ≠ 4 by decide), lz_no n9, lz_yes d2, lz_yes d3]
  · intro L a w hL hcl hd hI K hK
    obtain ⟨A, c, zl, zu, P, p, Q, q, R, r, S, s, z3, z4, rfl, hF⟩ := hI
    obtain ⟨c0, c1, c2, c3, c4⟩ := (HB0.out.kept hF.k).five
    have cz := (HB0.out.kept hF.k).1
    rw [if_pos (by rfl)]
    go_simp
    refine hK.out _ _ ⟨A, c, zl, zu, P, p, Q, q, R, r, S, s, z3, z4, ?_, hF.flags rfl rfl rfl rfl rfl rfl rfl rfl⟩
    simp only [Act.put, List.setIfInBounds_toArray, List.set_cons_zero, List.set_cons_succ, lz_up, lz_far L (show (0 : Nat) ≠ 5 by decide), lz_far L (show (1 : Nat) ≠ 5 by decide), lz_far L (show (2 : Nat) ≠ 5 by decide), lz_far L (show (3 : Nat) ≠ 5 by decide), lz_far L (show (4 : Nat) ≠ 5 by decide), lz_far L (show (6 : Nat) ≠ 5 by decide), lz_far L (show (7 : Nat) ≠ 5 by decide), lz_far L (show (8 : Nat) ≠ 5 by decide), lz_far L (show (9 : Nat) ≠ 5 by decide), lz_far L (show (10 : Nat) ≠ 5 by decide), lz_far L (show (11 : Nat) ≠ 5 by decide), lz_far L (show (12 : Nat) ≠ 5 by decide), lz_far L (show (13 : Nat) ≠ 5 by decide), lz_far L (show (14 : Nat) ≠ 5 by decide), lz_far L (show (15 : Nat) ≠ 5 by decide), lz_far L (show (16 : Nat) ≠ 5 by decide), lz_far L (show (19 : Nat) ≠ 5 by decide)]
  · intro L a w hL hcl hd hI K hK
    obtain ⟨A, c, zl, zu, P, p, Q, q, R, r, S, s, z3, z4, rfl, hF⟩ := hI
    have d5 : L 5 = true := hd ⟨5, .data⟩ (by simp) (by rfl)
    have d0 : L 0 = true := hd ⟨0, .chain⟩ (by simp) (by rfl)
    simp only [lz_yes d0, lz_yes d5]
    rw [if_pos (by rfl)]
    go_simp
    go_at_call 16; with_reducible refine (HN2.out _).mono ?_
    rintro e w1 ⟨rfl, k⟩
    try dsimp only
    refine hK.out _ _ ⟨A, c, zl, zu, P, p, Q, q, R, r, S, s, z3, z4, ?_, (hF.kept k).flags rfl rfl rfl rfl rfl rfl rfl rfl⟩
    simp only [Act.put, List.setIfInBounds_toArray, List.set_cons_zero, List.set_cons_succ, lz_up, lz_far L (show (0 : Nat) ≠ 6 by decide), lz_far L (show (1 : Nat) ≠ 6 by decide), lz_far L (show (2 : Nat) ≠ 6 by decide), lz_far L (show (3 : Nat) ≠ 6 by decide), lz_far L (show (4 : Nat) ≠ 6 by decide), lz_far L (show (5 : Nat) ≠ 6 by decide), lz_far L (show (7 : Nat) ≠ 6 by decide), lz_far L (show (8 : Nat) ≠ 6 by decide), lz_far L (show (9 : Nat) ≠ 6 by decide), lz_far L (show (10 : Nat) ≠ 6 by decide), lz_far L (show (11 : Nat) ≠ 6 by decide), lz_far L (show (12 : Nat) ≠ 6 by decide), lz_far L (show (13 : Nat) ≠ 6 by decide), lz_far L (show (14 : Nat) ≠ 6 by decide), lz_far L (show (15 : Nat) ≠ 6 by decide), lz_far L (show (16 : Nat) ≠ 6 by decide), lz_far L (show (19 : Nat) ≠ 6 by decide), lz_yes d0, lz_yes d5]
  · intro L a w hL hcl hd hI K hK
    obtain ⟨A, c, zl, zu, P, p, Q, q, R, r, S, s, z3, z4, rfl, hF⟩ := hI
    have d6 : L 6 = true := hd ⟨6, .data⟩ (by simp) (by rfl)
    simp only [lz_yes d6]
    rw [if_pos (by rfl)]
    go_simp
    refine hK.out _ _ ⟨A, c, zl, zu, P, p, Q, q, R, r, S, s, z3, z4, ?_, hF.flags rfl rfl rfl rfl rfl rfl rfl rfl⟩
    simp only [Act.put, List.setIfInBounds_toArray, List.set_cons_zero, List.set_cons_succ, lz_up, lz_far L (show (0 : Nat) ≠ 7 by decide), lz_far L (show (1 : Nat) ≠ 7 by decide), lz_far L (show (2 : Nat) ≠ 7 by decide), lz_far L (show (3 : Nat) ≠ 7 by decide), lz_far L (show (4 : Nat) ≠ 7 by decide), lz_far L (show (5 : Nat) ≠ 7 by decide), lz_far L (show (6 : Nat) ≠ 7 by decide), lz_far L (show (8 : Nat) ≠ 7 by decide), lz_far L (show (9 : Nat) ≠ 7 by decide), lz_far L (show (10 : Nat) ≠ 7 by decide), lz_far L (show (11 : Nat) ≠ 7 by decide), lz_far L (show (12 : Nat) ≠ 7 by decide), lz_far L (show (13 : Nat) ≠ 7 by decide), lz_far L (show (14 : Nat) ≠ 7 by decide), lz_far L (show (15 : Nat) ≠ 7 by decide), lz_far L (show (16 : Nat) ≠ 7 by decide), lz_far L (show (19 : Nat) ≠ 7 by decide), lz_yes d6]
  · intro L a w hL hcl hd hI K hK
    obtain ⟨A, c, zl, zu, P, p, Q, q, R, r, S, s, z3, z4, rfl, hF⟩ := hI
    have d7 : L 7 = true := hd ⟨7, .data⟩ (by simp) (by rfl)
    simp only [lz_yes d7]
    have n9 : L 9 = false := by
      cases h : L 9 with
      | false => rfl
      | true =>
        have q := hcl 9 _ rfl h ⟨8, .data⟩ (by simp) (by rfl)
        rw [hL] at q
        cases q
    rw [if_pos (by rfl)]
    go_simp
    refine hK.out _ _ ⟨A, c, zl, w.heap.size, P, p, Q, q, R, r, S, s, z3, z4, ?_, (hF.kept ((Kept.refl w).alloc _)).s8 (CellsAt.new _ _ _ _ rfl)⟩
    simp only [Act.put, List.setIfInBounds_toArray, List.set_cons_zero, List.set_cons_succ, lz_up, lz_far L (show (0 : Nat) ≠ 8 by decide), lz_far L (show (1 : Nat) ≠ 8 by decide), lz_far L (show (2 : Nat) ≠ 8 by decide), lz_far L (show (3 : Nat) ≠ 8 by decide), lz_far L (show (4 : Nat) ≠ 8 by decide), lz_far L (show (5 : Nat) ≠ 8 by decide), lz_far L (show (6 : Nat) ≠ 8 by decide), lz_far L (show (7 : Nat) ≠ 8 by decide), lz_far L (show (9 : Nat) ≠ 8 by decide), lz_far L (show (10 : Nat) ≠ 8 by decide), lz_far L (show (11 : Nat) ≠ 8 by decide), lz_far L (show (12 : Nat) ≠ 8 by decide), lz_far L (show (13 : Nat) ≠ 8 by decide), lz_far L (show (14 : Nat) ≠ 8 by decide), lz_far L (show (15 : Nat) ≠ 8 by decide), lz_far L (show (16 : Nat) ≠ 8 by decide), lz_far L (show (19 : Nat) ≠ 8 by decide), lz_no n9, lz_yes d7]
  · intro L a w hL hcl hd hI K hK
    obtain ⟨A, c, zl, zu, P, p, Q, q, R, r, S, s, z3, z4, rfl, hF⟩ := hI
    have d4 : L 4 = true := hd ⟨4, .data⟩ (by simp) (by rfl)
    have d8 : L 8 = true := hd ⟨8, .data⟩ (by simp) (by rfl)
    simp only [lz_yes d4, lz_yes d8]
    rw [if_pos (by rfl)]
    go_simp
    refine hK.out _ _ ⟨A, c, zl, zu, P, p, Q, q, R, r, S, s, z3, z4, ?_, hF.flags rfl rfl rfl rfl rfl rfl rfl rfl⟩
    simp only [Act.put, List.setIfInBounds_toArray, List.set_cons_zero, List.set_cons_succ, lz_up, lz_far L (show (0 : Nat) ≠ 9 by decide), lz_far L (show (1 : Nat) ≠ 9 by decide), lz_far L (show (2 : Nat) ≠ 9 by decide), lz_far L (show (3 : Nat) ≠ 9 by decide), lz_far L (show (4 : Nat) ≠ 9 by decide), lz_far L (show (5 : Nat) ≠ 9 by decide), lz_far L (show (6 : Nat) ≠ 9 by decide), lz_far L (show (7 : Nat) ≠ 9 by decide), lz_far L (show (8 : Nat) ≠ 9 by decide), lz_far L (show (10 : Nat) ≠ 9 by decide), lz_far L (show (11 : Nat) ≠ 9 by decide), lz_far L (show (12 : Nat) ≠ 9 by decide), lz_far L (show (13 : Nat) ≠ 9 by decide), lz_far L (show (14 : Nat) ≠ 9 by decide), lz_far L (show (15 : Nat) ≠ 9 by decide), lz_far L (show (16 : Nat) ≠ 9 by decide), lz_far L (show (19 : Nat) ≠ 9 by decide), lz_yes d4, lz_yes d8]
  · intro L a w hL hcl hd hI K hK
    obtain ⟨A, c, zl, zu, P, p, Q, q, R, r, S, s, z3, z4, rfl, hF⟩ := hI
    have d0 : L 0 = true := hd ⟨0, .data⟩ (by simp) (by rfl)
    have d1 : L 1 = true := hd ⟨1, .data⟩ (by simp) (by rfl)
    have d9 : L 9 = true := hd ⟨9, .data⟩ (by simp) (by rfl)
    have d6 : L 6 = true := hd ⟨6, .chain⟩ (by simp) (by rfl)
    simp only [lz_yes d0, lz_yes d1, lz_yes d6, lz_yes d9]
    have n11 : L 11 = false := by
      cases h : L 11 with
      | false => rfl
      | true =>
        have q := hcl 11 _ rfl h ⟨10, .data⟩ (by simp) (by rfl)
        rw [hL] at q
        cases q
    have n12 : L 12 = false := by
      cases h : L 12 with
      | false => rfl
      | true =>
        have q := hcl 12 _ rfl h ⟨11, .data⟩ (by simp) (by rfl)
        rw [n11] at q
        cases q
    have n13 : L 13 = false := by
      cases h : L 13 with
      | false => rfl
      | true =>
        have q := hcl 13 _ rfl h ⟨11, .data⟩ (by simp) (by rfl)
        rw [n11] at q
        cases q
    have n17 : L 17 = false := by
      cases h : L 17 with
      | false => rfl
      | true =>
        have q := hcl 17 _ rfl h ⟨12, .data⟩ (by simp) (by rfl)
        rw [n12] at q
        cases q
    have n18 : L 18 = false := by
      cases h : L 18 with
      | false => rfl
      | true =>
        have q := hcl 18 _ rfl h ⟨13, .data⟩ (by simp) (by rfl)
        rw [n13] at q
        cases q
    have h0 := hF.f0 d0
    have d4 : L 4 = true := hcl 9 _ rfl d9 ⟨4, .data⟩ (by simp) (by rfl)
    have d8 : L 8 = true := hcl 9 _ rfl d9 ⟨8, .data⟩ (by simp) (by rfl)
    have h4 := hF.f4 d4
    have h8 := hF.f8 d8
    rw [if_pos (by rfl)]
    go_simp
    go_at_call 13; with_reducible refine (HT.out A c _ _ _ h0 h4 h8).mono ?_
    rintro e w1 ⟨P1, p1, Q1, q1, R1, r1, S1, s1, rfl, hp, hq, hP, hQ, k⟩
    try dsimp only
    refine hK.out _ _ ⟨A, c, zl, zu, P1, p1, Q1, q1, R1, r1, S1, s1, z3, z4, ?_, (hF.kept k).s10 n17 n18 hp hq hP hQ⟩
    simp only [Act.put, List.setIfInBounds_toArray, List.set_cons_zero, List.set_cons_succ, lz_up, lz_far L (show (0 : Nat) ≠ 10 by decide), lz_far L (show (1 : Nat) ≠ 10 by decide), lz_far L (show (2 : Nat) ≠ 10 by decide), lz_far L (show (3 : Nat) ≠ 10 by decide), lz_far L (show (4 : Nat) ≠ 10 by decide), lz_far L (show (5 : Nat) ≠ 10 by decide), lz_far L (show (6 : Nat) ≠ 10 by decide), lz_far L (show (7 : Nat) ≠ 10 by decide), lz_far L (show (8 : Nat) ≠ 10 by decide), lz_far L (show (9 : Nat) ≠ 10 by decide), lz_far L (show (11 : Nat) ≠ 10 by decide), lz_far L (show (12 : Nat) ≠ 10 by decide), lz_far L (show (13 : Nat) ≠ 10 by decide), lz_far L (show (14 : Nat) ≠ 10 by decide), lz_far L (show (15 : Nat) ≠ 10 by decide), lz_far L (show (16 : Nat) ≠ 10 by decide), lz_far L (show (19 : Nat) ≠ 10 by decide), lz_no n11, lz_no n12, lz_no n13, lz_yes d0, lz_yes d1, lz_yes d6, lz_yes d9]
  · intro L a w hL hcl hd hI K hK
    obtain ⟨A, c, zl, zu, P, p, Q, q, R, r, S, s, z3, z4, rfl, hF⟩ := hI
    have d10 : L 10 = true := hd ⟨10, .data⟩ (by simp) (by rfl)
    simp only [lz_yes d10]
    rw [if_pos (by rfl)]
    go_simp
    refine hK.out _ _ ⟨A, c, zl, zu, P, p, Q, q, R, r, S, s, z3, z4, ?_, hF.flags rfl rfl rfl rfl rfl rfl rfl rfl⟩
    simp only [Act.put, List.setIfInBounds_toArray, List.set_cons_zero, List.set_cons_succ, lz_up, lz_far L (show (0 : Nat) ≠ 11 by decide), lz_far L (show (1 : Nat) ≠ 11 by decide), lz_far L (show (2 : Nat) ≠ 11 by decide), lz_far L (show (3 : Nat) ≠ 11 by decide), lz_far L (show (4 : Nat) ≠ 11 by decide), lz_far L (show (5 : Nat) ≠ 11 by decide), lz_far L (show (6 : Nat) ≠ 11 by decide), lz_far L (show (7 : Nat) ≠ 11 by decide), lz_far L (show (8 : Nat) ≠ 11 by decide), lz_far L (show (9 : Nat) ≠ 11 by decide), lz_far L (show (10 : Nat) ≠ 11 by decide), lz_far L (show (12 : Nat) ≠ 11 by decide), lz_far L (show (13 : Nat) ≠ 11 by decide), lz_far L (show (14 : Nat) ≠ 11 by decide), lz_far L (show (15 : Nat) ≠ 11 by decide), lz_far L (show (16 : Nat) ≠ 11 by decide), lz_far L (show (19 : Nat) ≠ 11 by decide), lz_yes d10]
  · intro L a w hL hcl hd hI K hK
    obtain ⟨A, c, zl, zu, P, p, Q, q, R, r, S, s, z3, z4, rfl, hF⟩ := hI
    have d11 : L 11 = true := hd ⟨11, .data⟩ (by simp) (by rfl)
    simp only [lz_yes d11]
    rw [if_pos (by rfl)]
    go_simp
    refine hK.out _ _ ⟨A, c, zl, zu, P, p, Q, q, R, r, S, s, z3, z4, ?_, hF.flags rfl rfl rfl rfl rfl rfl rfl rfl⟩
    simp only [Act.put, List.setIfInBounds_toArray, List.set_cons_zero, List.set_cons_succ, lz_up, lz_far L (show (0 : Nat) ≠ 12 by decide), lz_far L (show (1 : Nat) ≠ 12 by decide), lz_far L (show (2 : Nat) ≠ 12 by decide), lz_far L (show (3 : Nat) ≠ 12 by decide), lz_far L (show (4 : Nat) ≠ 12 by decide), lz_far L (show (5 : Nat) ≠ 12 by decide), lz_far L (show (6 : Nat) ≠ 12 by decide), lz_far L (show (7 : Nat) ≠ 12 by decide), lz_far L (show (8 : Nat) ≠ 12 by decide), lz_far L (show (9 : Nat) ≠ 12 by decide), lz_far L (show (10 : Nat) ≠ 12 by decide), lz_far L (show (11 : Nat) ≠ 12 by decide), lz_far L (show (13 : Nat) ≠ 12 by decide), lz_far L (show (14 : Nat) ≠ 12 by decide), lz_far L (show (15 : Nat) ≠ 12 by decide), lz_far L (show (16 : Nat) ≠ 12 by decide), lz_far L (show (19 : Nat) ≠ 12 by decide), lz_yes d11]
  · intro L a w hL hcl hd hI K hK
    obtain ⟨A, c, zl, zu, P, p, Q, q, R, r, S, s, z3, z4, rfl, hF⟩ := hI
    have d11 : L 11 = true := hd ⟨11, .data⟩ (by simp) (by rfl)
    simp only [lz_yes d11]
    rw [if_pos (by rfl)]
    go_simp
    refine hK.out _ _ ⟨A, c, zl, zu, P, p, Q, q, R, r, S, s, z3, z4, ?_, hF.flags rfl rfl rfl rfl rfl rfl rfl rfl⟩
    simp only [Act.put, List.setIfInBounds_toArray, List.set_cons_zero, List.set_cons_succ, lz_up, lz_far L (show (0 : Nat) ≠ 13 by decide), lz_far L (show (1 : Nat) ≠ 13 by decide), lz_far L (show (2 : Nat) ≠ 13 by decide), lz_far L (show (3 : Nat) ≠ 13 by decide), lz_far L (show (4 : Nat) ≠ 13 by decide), lz_far L (show (5 : Nat) ≠ 13 by decide), lz_far L (show (6 : Nat) ≠ 13 by decide), lz_far L (show (7 : Nat) ≠ 13 by decide), lz_far L (show (8 : Nat) ≠ 13 by decide), lz_far L (show (9 : Nat) ≠ 13 by decide), lz_far L (show (10 : Nat) ≠ 13 by decide), lz_far L (show (11 : Nat) ≠ 13 by decide), lz_far L (show (12 : Nat) ≠ 13 by decide), lz_far L (show (14 : Nat) ≠ 13 by decide), lz_far L (show (15 : Nat) ≠ 13 by decide), lz_far L (show (16 : Nat) ≠ 13 by decide), lz_far L (show (19 : Nat) ≠ 13 by decide), lz_yes d11]
  · intro L a w hL hcl hd hI K hK
    obtain ⟨A, c, zl, zu, P, p, Q, q, R, r, S, s, z3, z4, rfl, hF⟩ := hI
    have d11 : L 11 = true := hd ⟨11, .data⟩ (by simp) (by rfl)
    simp only [lz_yes d11]
    rw [if_pos (by rfl)]
    go_simp
    refine hK.out _ _ ⟨A, c, zl, zu, P, p, Q, q, R, r, S, s, z3, z4, ?_, hF.flags rfl rfl rfl rfl rfl rfl rfl rfl⟩
    simp only [Act.put, List.setIfInBounds_toArray, List.set_cons_zero, List.set_cons_succ, lz_up, lz_far L (show (0 : Nat) ≠ 14 by decide), lz_far L (show (1 : Nat) ≠ 14 by decide), lz_far L (show (2 : Nat) ≠ 14 by decide), lz_far L (show (3 : Nat) ≠ 14 by decide), lz_far L (show (4 : Nat) ≠ 14 by decide), lz_far L (show (5 : Nat) ≠ 14 by decide), lz_far L (show (6 : Nat) ≠ 14 by decide), lz_far L (show (7 : Nat) ≠ 14 by decide), lz_far L (show (8 : Nat) ≠ 14 by decide), lz_far L (show (9 : Nat) ≠ 14 by decide), lz_far L (show (10 : Nat) ≠ 14 by decide), lz_far L (show (11 : Nat) ≠ 14 by decide), lz_far L (show (12 : Nat) ≠ 14 by decide), lz_far L (show (13 : Nat) ≠ 14 by decide), lz_far L (show (15 : Nat) ≠ 14 by decide), lz_far L (show (16 : Nat) ≠ 14 by decide), lz_far L (show (19 : Nat) ≠ 14 by decide), lz_yes d11]
  · intro L a w hL hcl hd hI K hK
    obtain ⟨A, c, zl, zu, P, p, Q, q, R, r, S, s, z3, z4, rfl, hF⟩ := hI
    have n17 : L 17 = false := by
      cases h : L 17 with
      | false => rfl
      | true =>
        have q := hcl 17 _ rfl h ⟨15, .data⟩ (by simp) (by rfl)
        rw [hL] at q
        cases q
    rw [if_pos (by rfl)]
    go_simp
    refine hK.out _ _ ⟨A, c, zl, zu, P, p, Q, q, R, r, S, s, w.heap.size, z4, ?_, (hF.kept ((Kept.refl w).alloc _)).s15 n17 hF.k.size_le (AtB.new _ _ _) (fun x => Nat.ne_of_gt (hF.f16 x).2.lt)⟩
    simp only [Act.put, List.setIfInBounds_toArray, List.set_cons_zero, List.set_cons_succ, lz_up, lz_far L (show (0 : Nat) ≠ 15 by decide), lz_far L (show (1 : Nat) ≠ 15 by decide), lz_far L (show (2 : Nat) ≠ 15 by decide), lz_far L (show (3 : Nat) ≠ 15 by decide), lz_far L (show (4 : Nat) ≠ 15 by decide), lz_far L (show (5 : Nat) ≠ 15 by decide), lz_far L (show (6 : Nat) ≠ 15 by decide), lz_far L (show (7 : Nat) ≠ 15 by decide), lz_far L (show (8 : Nat) ≠ 15 by decide), lz_far L (show (9 : Nat) ≠ 15 by decide), lz_far L (show (10 : Nat) ≠ 15 by decide), lz_far L (show (11 : Nat) ≠ 15 by decide), lz_far L (show (12 : Nat) ≠ 15 by decide), lz_far L (show (13 : Nat) ≠ 15 by decide), lz_far L (show (14 : Nat) ≠ 15 by decide), lz_far L (show (16 : Nat) ≠ 15 by decide), lz_far L (show (19 : Nat) ≠ 15 by decide)]
  · intro L a w hL hcl hd hI K hK
    obtain ⟨A, c, zl, zu, P, p, Q, q, R, r, S, s, z3, z4, rfl, hF⟩ := hI
    have n18 : L 18 = false := by
      cases h : L 18 with
      | false => rfl
      | true =>
        have q := hcl 18 _ rfl h ⟨16, .data⟩ (by simp) (by rfl)
        rw [hL] at q
        cases q
    rw [if_pos (by rfl)]
    go_simp
    refine hK.out _ _ ⟨A, c, zl, zu, P, p, Q, q, R, r, S, s, z3, w.heap.size, ?_, (hF.kept ((Kept.refl w).alloc _)).s16 n18 hF.k.size_le (AtB.new _ _ _) (fun x => Nat.ne_of_lt (hF.f15 x).2.lt)⟩
    simp only [Act.put, List.setIfInBounds_toArray, List.set_cons_zero, List.set_cons_succ, lz_up, lz_far L (show (0 : Nat) ≠ 16 by decide), lz_far L (show (1 : Nat) ≠ 16 by decide), lz_far L (show (2 : Nat) ≠ 16 by decide), lz_far L (show (3 : Nat) ≠ 16 by decide), lz_far L (show (4 : Nat) ≠ 16 by decide), lz_far L (show (5 : Nat) ≠ 16 by decide), lz_far L (show (6 : Nat) ≠ 16 by decide), lz_far L (show (7 : Nat) ≠ 16 by decide), lz_far L (show (8 : Nat) ≠ 16 by decide), lz_far L (show (9 : Nat) ≠ 16 by decide), lz_far L (show (10 : Nat) ≠ 16 by decide), lz_far L (show (11 : Nat) ≠ 16 by decide), lz_far L (show (12 : Nat) ≠ 16 by decide), lz_far L (show (13 : Nat) ≠ 16 by decide), lz_far L (show (14 : Nat) ≠ 16 by decide), lz_far L (show (15 : Nat) ≠ 16 by decide), lz_far L (show (19 : Nat) ≠ 16 by decide)]
  · intro L a w hL hcl hd hI K hK
    obtain ⟨A, c, zl, zu, P, p, Q, q, R, r, S, s, z3, z4, rfl, hF⟩ := hI
    have d15 : L 15 = true := hd ⟨15, .data⟩ (by simp) (by rfl)
    have d12 : L 12 = true := hd ⟨12, .data⟩ (by simp) (by rfl)
    have d10 : L 10 = true := hd ⟨10, .chain⟩ (by simp) (by rfl)
    have d0 : L 0 = true := hd ⟨0, .phase⟩ (by simp) (by rfl)
    have d1 : L 1 = true := hd ⟨1, .phase⟩ (by simp) (by rfl)
    have d2 : L 2 = true := hd ⟨2, .phase⟩ (by simp) (by rfl)
    have d3 : L 3 = true := hd ⟨3, .phase⟩ (by simp) (by rfl)
    have d4 : L 4 = true := hd ⟨4, .phase⟩ (by simp) (by rfl)
    have d5 : L 5 = true := hd ⟨5, .phase⟩ (by simp) (by rfl)
    have d6 : L 6 = true := hd ⟨6, .phase⟩ (by simp) (by rfl)
    have d7 : L 7 = true := hd ⟨7, .phase⟩ (by simp) (by rfl)
    have d8 : L 8 = true := hd ⟨8, .phase⟩ (by simp) (by rfl)
    have d9 : L 9 = true := hd ⟨9, .phase⟩ (by simp) (by rfl)
    have d11 : L 11 = true := hd ⟨11, .phase⟩ (by simp) (by rfl)
    have d16 : L 16 = true := hd ⟨16, .phase⟩ (by simp) (by rfl)
    simp only [lz_yes d0, lz_yes d1, lz_yes d2, lz_yes d3, lz_yes d4, lz_yes d5, lz_yes d6, lz_yes d7, lz_yes d8, lz_yes d9, lz_yes d10, lz_yes d11, lz_yes d12, lz_yes d15, lz_yes d16]
    have hb := (hF.f15 d15).2
    rw [hL] at hb
    simp only [Bool.false_eq_true, if_false] at hb
    have c0 : w.cell? ⟨z3, 0, none⟩ = some (.slice none 0 0) := hb.cell
    have c1 : w.cell? ⟨z3, 1, none⟩ = some (.slice none 0 0) := hb.cell
    have g0 := hb.fr 0
    have g1 := hb.fr 1
    have lt := hb.lt
    rw [if_pos (by rfl)]
    go_simp
    refine hK.out _ _ ⟨A, c, zl, zu, P, p, Q, q, R, r, S, s, z3, z4, ?_, hF.s17 d15 hL⟩
    simp only [Act.put, List.setIfInBounds_toArray, List.set_cons_zero, List.set_cons_succ, lz_up, lz_far L (show (0 : Nat) ≠ 17 by decide), lz_far L (show (1 : Nat) ≠ 17 by decide), lz_far L (show (2 : Nat) ≠ 17 by decide), lz_far L (show (3 : Nat) ≠ 17 by decide), lz_far L (show (4 : Nat) ≠ 17 by decide), lz_far L (show (5 : Nat) ≠ 17 by decide), lz_far L (show (6 : Nat) ≠ 17 by decide), lz_far L (show (7 : Nat) ≠ 17 by decide), lz_far L (show (8 : Nat) ≠ 17 by decide), lz_far L (show (9 : Nat) ≠ 17 by decide), lz_far L (show (10 : Nat) ≠ 17 by decide), lz_far L (show (11 : Nat) ≠ 17 by decide), lz_far L (show (12 : Nat) ≠ 17 by decide), lz_far L (show (13 : Nat) ≠ 17 by decide), lz_far L (show (14 : Nat) ≠ 17 by decide), lz_far L (show (15 : Nat) ≠ 17 by decide), lz_far L (show (16 : Nat) ≠ 17 by decide), lz_far L (show (19 : Nat) ≠ 17 by decide), lz_yes d0, lz_yes d1, lz_yes d2, lz_yes d3, lz_yes d4, lz_yes d5, lz_yes d6, lz_yes d7, lz_yes d8, lz_yes d9, lz_yes d10, lz_yes d11, lz_yes d12, lz_yes d15, lz_yes d16]
  · intro L a w hL hcl hd hI K hK
    obtain ⟨A, c, zl, zu, P, p, Q, q, R, r, S, s, z3, z4, rfl, hF⟩ := hI
    have d16 : L 16 = true := hd ⟨16, .data⟩ (by simp) (by rfl)
    have d13 : L 13 = true := hd ⟨13, .data⟩ (by simp) (by rfl)
    have d17 : L 17 = true := hd ⟨17, .chain⟩ (by simp) (by rfl)
    have d0 : L 0 = true := hd ⟨0, .phase⟩ (by simp) (by rfl)
    have d1 : L 1 = true := hd ⟨1, .phase⟩ (by simp) (by rfl)
    have d2 : L 2 = true := hd ⟨2, .phase⟩ (by simp) (by rfl)
    have d3 : L 3 = true := hd ⟨3, .phase⟩ (by simp) (by rfl)
    have d4 : L 4 = true := hd ⟨4, .phase⟩ (by simp) (by rfl)
    have d5 : L 5 = true := hd ⟨5, .phase⟩ (by simp) (by rfl)
    have d6 : L 6 = true := hd ⟨6, .phase⟩ (by simp) (by rfl)
    have d7 : L 7 = true := hd ⟨7, .phase⟩ (by simp) (by rfl)
    have d8 : L 8 = true := hd ⟨8, .phase⟩ (by simp) (by rfl)
    have d9 : L 9 = true := hd ⟨9, .phase⟩ (by simp) (by rfl)
    have d10 : L 10 = true := hd ⟨10, .phase⟩ (by simp) (by rfl)
    have d11 : L 11 = true := hd ⟨11, .phase⟩ (by simp) (by rfl)
    have d12 : L 12 = true := hd ⟨12, .phase⟩ (by simp) (by rfl)
    have d15 : L 15 = true := hd ⟨15, .phase⟩ (by simp) (by rfl)
    simp only [lz_yes d0, lz_yes d1, lz_yes d2, lz_yes d3, lz_yes d4, lz_yes d5, lz_yes d6, lz_yes d7, lz_yes d8, lz_yes d9, lz_yes d10, lz_yes d11, lz_yes d12, lz_yes d13, lz_yes d15, lz_yes d16]
    have hb := (hF.f16 d16).2
    rw [hL] at hb
    simp only [Bool.false_eq_true, if_false] at hb
    have c0 : w.cell? ⟨z4, 0, none⟩ = some (.slice none 0 0) := hb.cell
    have c1 : w.cell? ⟨z4, 1, none⟩ = some (.slice none 0 0) := hb.cell
    have g0 := hb.fr 0
    have g1 := hb.fr 1
    have lt := hb.lt
    rw [if_pos (by rfl)]
    go_simp
    refine hK.out _ _ ⟨A, c, zl, zu, P, p, Q, q, R, r, S, s, z3, z4, ?_, hF.s18 d16 hL⟩
    simp only [Act.put, List.setIfInBounds_toArray, List.set_cons_zero, List.set_cons_succ, lz_up, lz_far L (show (0 : Nat) ≠ 18 by decide), lz_far L (show (1 : Nat) ≠ 18 by decide), lz_far L (show (2 : Nat) ≠ 18 by decide), lz_far L (show (3 : Nat) ≠ 18 by decide), lz_far L (show (4 : Nat) ≠ 18 by decide), lz_far L (show (5 : Nat) ≠ 18 by decide), lz_far L (show (6 : Nat) ≠ 18 by decide), lz_far L (show (7 : Nat) ≠ 18 by decide), lz_far L (show (8 : Nat) ≠ 18 by decide), lz_far L (show (9 : Nat) ≠ 18 by decide), lz_far L (show (10 : Nat) ≠ 18 by decide), lz_far L (show (11 : Nat) ≠ 18 by decide), lz_far L (show (12 : Nat) ≠ 18 by decide), lz_far L (show (13 : Nat) ≠ 18 by decide), lz_far L (show (14 : Nat) ≠ 18 by decide), lz_far L (show (15 : Nat) ≠ 18 by decide), lz_far L (show (16 : Nat) ≠ 18 by decide), lz_far L (show (19 : Nat) ≠ 18 by decide), lz_yes d0, lz_yes d1, lz_yes d2, lz_yes d3, lz_yes d4, lz_yes d5, lz_yes d6, lz_yes d7, lz_yes d8, lz_yes d9, lz_yes d10, lz_yes d11, lz_yes d12, lz_yes d13, lz_yes d15, lz_yes d16]
  · intro L a w hL hcl hd hI K hK
    obtain ⟨A, c, zl, zu, P, p, Q, q, R, r, S, s, z3, z4, rfl, hF⟩ := hI
    have d14 : L 14 = true := hd ⟨14, .data⟩ (by simp) (by rfl)
    have d18 : L 18 = true := hd ⟨18, .chain⟩ (by simp) (by rfl)
    have d0 : L 0 = true := hd ⟨0, .phase⟩ (by simp) (by rfl)
    have d1 : L 1 = true := hd ⟨1, .phase⟩ (by simp) (by rfl)
    have d2 : L 2 = true := hd ⟨2, .phase⟩ (by simp) (by rfl)
    have d3 : L 3 = true := hd ⟨3, .phase⟩ (by simp) (by rfl)
    have d4 : L 4 = true := hd ⟨4, .phase⟩ (by simp) (by rfl)
    have d5 : L 5 = true := hd ⟨5, .phase⟩ (by simp) (by rfl)
    have d6 : L 6 = true := hd ⟨6, .phase⟩ (by simp) (by rfl)
    have d7 : L 7 = true := hd ⟨7, .phase⟩ (by simp) (by rfl)
    have d8 : L 8 = true := hd ⟨8, .phase⟩ (by simp) (by rfl)
    have d9 : L 9 = true := hd ⟨9, .phase⟩ (by simp) (by rfl)
    have d10 : L 10 = true := hd ⟨10, .phase⟩ (by simp) (by rfl)
    have d11 : L 11 = true := hd ⟨11, .phase⟩ (by simp) (by rfl)
    have d12 : L 12 = true := hd ⟨12, .phase⟩ (by simp) (by rfl)
    have d13 : L 13 = true := hd ⟨13, .phase⟩ (by simp) (by rfl)
    have d15 : L 15 = true := hd ⟨15, .phase⟩ (by simp) (by rfl)
    have d16 : L 16 = true := hd ⟨16, .phase⟩ (by simp) (by rfl)
    have d17 : L 17 = true := hd ⟨17, .phase⟩ (by simp) (by rfl)
    simp only [lz_yes d0, lz_yes d1, lz_yes d2, lz_yes d3, lz_yes d4, lz_yes d5, lz_yes d6, lz_yes d7, lz_yes d8, lz_yes d9, lz_yes d10, lz_yes d11, lz_yes d12, lz_yes d13, lz_yes d14, lz_yes d15, lz_yes d16]
    rw [if_pos (by rfl)]
    go_simp
    refine hK.out _ _ ⟨A, c, zl, zu, P, p, Q, q, R, r, S, s, z3, z4, ?_, hF.flags rfl rfl rfl rfl rfl rfl rfl rfl⟩
    simp only [Act.put, List.setIfInBounds_toArray, List.set_cons_zero, List.set_cons_succ, lz_up, lz_far L (show (0 : Nat) ≠ 19 by decide), lz_far L (show (1 : Nat) ≠ 19 by decide), lz_far L (show (2 : Nat) ≠ 19 by decide), lz_far L (show (3 : Nat) ≠ 19 by decide), lz_far L (show (4 : Nat) ≠ 19 by decide), lz_far L (show (5 : Nat) ≠ 19 by decide), lz_far L (show (6 : Nat) ≠ 19 by decide), lz_far L (show (7 : Nat) ≠ 19 by decide), lz_far L (show (8 : Nat) ≠ 19 by decide), lz_far L (show (9 : Nat) ≠ 19 by decide), lz_far L (show (10 : Nat) ≠ 19 by decide), lz_far L (show (11 : Nat) ≠ 19 by decide), lz_far L (show (12 : Nat) ≠ 19 by decide), lz_far L (show (13 : Nat) ≠ 19 by decide), lz_far L (show (14 : Nat) ≠ 19 by decide), lz_far L (show (15 : Nat) ≠ 19 by decide), lz_far L (show (16 : Nat) ≠ 19 by decide), lz_yes d0, lz_yes d1, lz_yes d2, lz_yes d3, lz_yes d4, lz_yes d5, lz_yes d6, lz_yes d7, lz_yes d8, lz_yes d9, lz_yes d10, lz_yes d11, lz_yes d12, lz_yes d13, lz_yes d14, lz_yes d15, lz_yes d16]
  intro L a w hall hI
  obtain ⟨A, c, zl, zu, P, p, Q, q, R, r, S, s, z3, z4, rfl, hF⟩ := hI
  have d0 : L 0 = true := hall 0 (by decide)
  have d1 : L 1 = true := hall 1 (by decide)
  have d2 : L 2 = true := hall 2 (by decide)
  have d3 : L 3 = true := hall 3 (by decide)
  have d4 : L 4 = true := hall 4 (by decide)
  have d5 : L 5 = true := hall 5 (by decide)
  have d6 : L 6 = true := hall 6 (by decide)
  have d7 : L 7 = true := hall 7 (by decide)
  have d8 : L 8 = true := hall 8 (by decide)
  have d9 : L 9 = true := hall 9 (by decide)
  have d10 : L 10 = true := hall 10 (by decide)
  have d11 : L 11 = true := hall 11 (by decide)
  have d12 : L 12 = true := hall 12 (by decide)
  have d13 : L 13 = true := hall 13 (by decide)
  have d14 : L 14 = true := hall 14 (by decide)
  have d15 : L 15 = true := hall 15 (by decide)
  have d16 : L 16 = true := hall 16 (by decide)
  have d17 : L 17 = true := hall 17 (by decide)
  have d18 : L 18 = true := hall 18 (by decide)
  have d19 : L 19 = true := hall 19 (by decide)
  simp only [lz_yes d0, lz_yes d1, lz_yes d2, lz_yes d3, lz_yes d4, lz_yes d5, lz_yes d6, lz_yes d7, lz_yes d8, lz_yes d9, lz_yes d10, lz_yes d11, lz_yes d12, lz_yes d13, lz_yes d14, lz_yes d15, lz_yes d16, lz_yes d19]
  have h3 := (hF.f15 d15).2
  have h4 := (hF.f16 d16).2
  rw [if_pos d17] at h3
  rw [if_pos d18] at h4
  have H3 := Lib.hid h3
  have H4 := Lib.hid h4
  have HP := Lib.hid (hF.f10 d10)
  have HKF := Lib.hid hF.k
  clear h3 h4 hF hall d0 d1 d2 d3 d4 d5 d6 d7 d8 d9 d10 d11 d12 d13 d14 d15 d16 d17 d18 d19
  have x0 : w.cell? ⟨z3, 0, none⟩ = some (.slice P 2 p) := H3.out.cell
  have x1 : w.cell? ⟨z3, 1, none⟩ = some (.slice Q 1 q) := H3.out.cell
  have xz := H3.out.lt
  have y0 : w.cell? ⟨z4, 0, none⟩ = some (.slice R 0 r) := H4.out.cell
  have yz := H4.out.lt
  obtain ⟨a0, a1, a2, a3, a4⟩ := (HA1.out.kept HKF.out).five
  have bza := (HA1.out.kept HKF.out).1
  refine NoPanic.normal ?_
  try dsimp only
  go_wp2_with fail
  refine wp_region_noPanic ?_
  refine wp_region_held_drew (S := (fun w' => w'.cell? ⟨z3, 0, none⟩ = some (.slice P 2 p) ∧ w'.cell? ⟨z3, 1, none⟩ = some (.slice Q 1 q) ∧ w'.cell? ⟨z4, 0, none⟩ = some (.slice R 0 r) ∧ w'.cell? ⟨z1, 0, none⟩ = some (.int .i64 1) ∧ w'.cell? ⟨z1, 1, none⟩ = some (.int .i64 0) ∧ w'.cell? ⟨z1, 2, none⟩ = some (.int .u64 0) ∧ w'.cell? ⟨z1, 3, none⟩ = some (.int .u64 0) ∧ w'.cell? ⟨z1, 4, none⟩ = some (.int .u64 0) ∧ Kept w w')) (by kernel_rfl) ?_ (fun hHeld => ?_)
  · exact ⟨x0, x1, y0, a0, a1, a2, a3, a4, (Kept.refl _).drew⟩
  refine wpAnyH_take (i := 0) (v := ?_) (by simp only [List.getElem?_toArray, List.getElem?_cons_succ, List.getElem?_cons_zero]; rfl) (by kernel_rfl) (by kernel_rfl) (by kernel_rfl) (fun _ _ _ h => h) (Or.inl ⟨by rfl, ?_⟩) (by assumption) ?_
  rotate_left
  · intro w hSw
    (try dsimp only at hSw)
    go_simp
    (try with_reducible rfl)
  simp only [Act.put, List.setIfInBounds_toArray, List.set_cons_zero, List.set_cons_succ]
  refine wpAnyH_take (i := 1) (v := ?_) (by simp only [List.getElem?_toArray, List.getElem?_cons_succ, List.getElem?_cons_zero]; rfl) (by kernel_rfl) (by kernel_rfl) (by kernel_rfl) (fun _ _ _ h => h) (Or.inl ⟨by rfl, ?_⟩) (by assumption) ?_
  rotate_left
  · intro w hSw
    (try dsimp only at hSw)
    go_simp
    (try with_reducible rfl)
  simp only [Act.put, List.setIfInBounds_toArray, List.set_cons_zero, List.set_cons_succ]
  refine wpAnyH_take (i := 2) (v := ?_) (by simp only [List.getElem?_toArray, List.getElem?_cons_succ, List.getElem?_cons_zero]; rfl) (by kernel_rfl) (by kernel_rfl) (by kernel_rfl) (fun _ _ _ h => h) (Or.inl ⟨by rfl, ?_⟩) (by assumption) ?_
  rotate_left
  · intro w hSw
    (try dsimp only at hSw)
    go_simp
    (try with_reducible rfl)
  simp only [Act.put, List.setIfInBounds_toArray, List.set_cons_zero, List.set_cons_succ]
  refine wpAnyH_take (i := 3) (v := ?_) (by simp only [List.getElem?_toArray, List.getElem?_cons_succ, List.getElem?_cons_zero]; rfl) (by kernel_rfl) (by kernel_rfl) (by kernel_rfl) (fun _ _ _ h => h) (Or.inl ⟨by rfl, ?_⟩) (by assumption) ?_
  rotate_left
  · intro w hSw
    (try dsimp only at hSw)
    go_simp
    (try with_reducible rfl)
  simp only [Act.put, List.setIfInBounds_toArray, List.set_cons_zero, List.set_cons_succ]
  refine wpAnyH_take (i := 4) (v := ?_) (by simp only [List.getElem?_toArray, List.getElem?_cons_succ, List.getElem?_cons_zero]; rfl) (by kernel_rfl) (by kernel_rfl) (by kernel_rfl) (fun _ _ _ h => h) (Or.inl ⟨by rfl, ?_⟩) (by assumption) ?_
  rotate_left
  · intro w hSw
    (try dsimp only at hSw)
    go_simp
    (try with_reducible rfl)
  simp only [Act.put, List.setIfInBounds_toArray, List.set_cons_zero, List.set_cons_succ]
  refine wpAnyH_take (i := 5) (v := ?_) (by simp only [List.getElem?_toArray, List.getElem?_cons_succ, List.getElem?_cons_zero]; rfl) (by kernel_rfl) (by kernel_rfl) (by kernel_rfl) (fun _ _ _ h => h) (Or.inl ⟨by rfl, ?_⟩) (by assumption) ?_
  rotate_left
  · intro w hSw
    (try dsimp only at hSw)
    go_simp
    (try with_reducible rfl)
  simp only [Act.put, List.setIfInBounds_toArray, List.set_cons_zero, List.set_cons_succ]
  refine wpAnyH_take (i := 6) (v := ?_) (by simp only [List.getElem?_toArray, List.getElem?_cons_succ, List.getElem?_cons_zero]; rfl) (by kernel_rfl) (by kernel_rfl) (by kernel_rfl) (fun _ _ _ h => h) (Or.inl ⟨by rfl, ?_⟩) (by assumption) ?_
  rotate_left
  · intro w hSw
    (try dsimp only at hSw)
    go_simp
    (try with_reducible rfl)
  simp only [Act.put, List.setIfInBounds_toArray, List.set_cons_zero, List.set_cons_succ]
  refine wpAnyH_take (i := 7) (v := ?_) (by simp only [List.getElem?_toArray, List.getElem?_cons_succ, List.getElem?_cons_zero]; rfl) (by kernel_rfl) (by kernel_rfl) (by kernel_rfl) (fun _ _ _ h => h) (Or.inl ⟨by rfl, ?_⟩) (by assumption) ?_
  rotate_left
  · intro w hSw
    (try dsimp only at hSw)
    go_simp
    (try with_reducible rfl)
  simp only [Act.put, List.setIfInBounds_toArray, List.set_cons_zero, List.set_cons_succ]
  refine wpAnyH_take (i := 8) (v := ?_) (by simp only [List.getElem?_toArray, List.getElem?_cons_succ, List.getElem?_cons_zero]; rfl) (by kernel_rfl) (by kernel_rfl) (by kernel_rfl) (fun _ _ _ h => h) (Or.inl ⟨by rfl, ?_⟩) (by assumption) ?_
  rotate_left
  · intro w hSw
    (try dsimp only at hSw)
    go_simp
    (try with_reducible rfl)
  simp only [Act.put, List.setIfInBounds_toArray, List.set_cons_zero, List.set_cons_succ]
  refine wpAnyH_take (i := 9) (v := ?_) (by simp only [List.getElem?_toArray, List.getElem?_cons_succ, List.getElem?_cons_zero]; rfl) (by kernel_rfl) (by kernel_rfl) (by kernel_rfl) (fun _ _ _ h => h) (Or.inl ⟨by rfl, ?_⟩) (by assumption) ?_
  rotate_left
  · intro w hSw
    (try dsimp only at hSw)
    go_simp
    (try with_reducible rfl)
  simp only [Act.put, List.setIfInBounds_toArray, List.set_cons_zero, List.set_cons_succ]
  refine wpAnyH_take (i := 10) (v := ?_) (by simp only [List.getElem?_toArray, List.getElem?_cons_succ, List.getElem?_cons_zero]; rfl) (by kernel_rfl) (by kernel_rfl) (by kernel_rfl) (fun _ _ _ h => h) (Or.inl ⟨by rfl, ?_⟩) (by assumption) ?_
  rotate_left
  · intro w hSw
    (try dsimp only at hSw)
    go_simp
    (try with_reducible rfl)
  simp only [Act.put, List.setIfInBounds_toArray, List.set_cons_zero, List.set_cons_succ]
  refine wpAnyH_take (i := 11) (v := ?_) (by simp only [List.getElem?_toArray, List.getElem?_cons_succ, List.getElem?_cons_zero]; rfl) (by kernel_rfl) (by kernel_rfl) (by kernel_rfl) (fun _ _ _ h => h) (Or.inl ⟨by rfl, ?_⟩) (by assumption) ?_
  rotate_left
  · intro w hSw
    (try dsimp only at hSw)
    go_simp
    (try with_reducible rfl)
  simp only [Act.put, List.setIfInBounds_toArray, List.set_cons_zero, List.set_cons_succ]
  refine wpAnyH_take (i := 12) (v := ?_) (by simp only [List.getElem?_toArray, List.getElem?_cons_succ, List.getElem?_cons_zero]; rfl) (by kernel_rfl) (by kernel_rfl) (by kernel_rfl) (fun _ _ _ h => h) (Or.inl ⟨by rfl, ?_⟩) (by assumption) ?_
  rotate_left
  · intro w hSw
    (try dsimp only at hSw)
    go_simp
    (try with_reducible rfl)
  simp only [Act.put, List.setIfInBounds_toArray, List.set_cons_zero, List.set_cons_succ]
  refine wpAnyH_take (i := 13) (v := ?_) (by simp only [List.getElem?_toArray, List.getElem?_cons_succ, List.getElem?_cons_zero]; rfl) (by kernel_rfl) (by kernel_rfl) (by kernel_rfl) (fun _ _ _ h => h) (Or.inl ⟨by rfl, ?_⟩) (by assumption) ?_
  rotate_left
  · intro w hSw
    (try dsimp only at hSw)
    go_simp
    (try with_reducible rfl)
  simp only [Act.put, List.setIfInBounds_toArray, List.set_cons_zero, List.set_cons_succ]
  refine wpAnyH_take (i := 14) (v := ?_) (by simp only [List.getElem?_toArray, List.getElem?_cons_succ, List.getElem?_cons_zero]; rfl) (by kernel_rfl) (by kernel_rfl) (by kernel_rfl) (fun _ _ _ h => h) (Or.inl ⟨by rfl, ?_⟩) (by assumption) ?_
  rotate_left
  · intro w hSw
    (try dsimp only at hSw)
    go_simp
    (try with_reducible rfl)
  simp only [Act.put, List.setIfInBounds_toArray, List.set_cons_zero, List.set_cons_succ]
  refine wpAnyH_take (i := 15) (v := ?_) (by simp only [List.getElem?_toArray, List.getElem?_cons_succ, List.getElem?_cons_zero]; rfl) (by kernel_rfl) (by kernel_rfl) (by kernel_rfl) (fun _ _ _ h => h) (Or.inl ⟨by rfl, ?_⟩) (by assumption) ?_
  rotate_left
  · intro w hSw
    (try dsimp only at hSw)
    go_simp
    (try with_reducible rfl)
  simp only [Act.put, List.setIfInBounds_toArray, List.set_cons_zero, List.set_cons_succ]
  refine wpAnyH_take (i := 16) (v := ?_) (by simp only [List.getElem?_toArray, List.getElem?_cons_succ, List.getElem?_cons_zero]; rfl) (by kernel_rfl) (by kernel_rfl) (by kernel_rfl) (fun _ _ _ h => h) (Or.inl ⟨by rfl, ?_⟩) (by assumption) ?_
  rotate_left
  · intro w hSw
    (try dsimp only at hSw)
    go_simp
    (try with_reducible rfl)
  simp only [Act.put, List.setIfInBounds_toArray, List.set_cons_zero, List.set_cons_succ]
  refine wpAnyH_take (i := 17) (v := ?_) (by simp only [List.getElem?_toArray, List.getElem?_cons_succ, List.getElem?_cons_zero]; rfl) (by kernel_rfl) (by kernel_rfl) (by kernel_rfl) (fun _ _ _ h => h) (Or.inl ⟨by rfl, ?_⟩) (by assumption) ?_
  rotate_left
  · intro w hSw
    (try dsimp only at hSw)
    go_simp
    (try with_reducible rfl)
  simp only [Act.put, List.setIfInBounds_toArray, List.set_cons_zero, List.set_cons_succ]
  refine wpAnyH_take (i := 18) (v := ?_) (by simp only [List.getElem?_toArray, List.getElem?_cons_succ, List.getElem?_cons_zero]; rfl) (by kernel_rfl) (by kernel_rfl) (by kernel_rfl) (fun _ _ _ h => h) (Or.inl ⟨by rfl, ?_⟩) (by assumption) ?_
  rotate_left
  · intro w hSw
    (try dsimp only at hSw)
    go_simp
    (try with_reducible rfl)
  simp only [Act.put, List.setIfInBounds_toArray, List.set_cons_zero, List.set_cons_succ]
  refine wpAnyH_take (i := 19) (v := ?_) (by simp only [List.getElem?_toArray, List.getElem?_cons_succ, List.getElem?_cons_zero]; rfl) (by kernel_rfl) (by kernel_rfl) (by kernel_rfl) (fun _ _ _ h => h) (Or.inl ⟨by rfl, ?_⟩) (by assumption) ?_
  rotate_left
  · intro w hSw
    (try dsimp only at hSw)
    go_simp
    (try with_reducible rfl)
  simp only [Act.put, List.setIfInBounds_toArray, List.set_cons_zero, List.set_cons_succ]
  refine wpAnyH_take (i := 20) (v := ?_) (by simp only [List.getElem?_toArray, List.getElem?_cons_succ, List.getElem?_cons_zero]; rfl) (by kernel_rfl) (by kernel_rfl) (by kernel_rfl) (fun _ _ _ h => h) (Or.inl ⟨by rfl, ?_⟩) (by assumption) ?_
  rotate_left
  · intro w hSw
    (try dsimp only at hSw)
    go_simp
    (try with_reducible rfl)
  simp only [Act.put, List.setIfInBounds_toArray, List.set_cons_zero, List.set_cons_succ]
  refine wpAnyH_take (i := 22) (v := ?_) (by simp only [List.getElem?_toArray, List.getElem?_cons_succ, List.getElem?_cons_zero]; rfl) (by kernel_rfl) (by kernel_rfl) (by kernel_rfl) (fun _ _ _ h => h) (Or.inl ⟨by rfl, ?_⟩) (by assumption) ?_
  rotate_left
  · intro w hSw
    (try dsimp only at hSw)
    go_simp
    (try with_reducible rfl)
  simp only [Act.put, List.setIfInBounds_toArray, List.set_cons_zero, List.set_cons_succ]
  refine wpAnyH_ready (rs := [21]) (by kernel_rfl) (by simp) ?_
  refine AllReadyH.cons (by simp only [List.getElem?_toArray, List.getElem?_cons_succ, List.getElem?_cons_zero]; rfl) (fun K hK => ?_) AllReadyH.nil
  go_simp
  go_at_call 26; with_reducible refine (HO.out _).mono ?_
  rintro e u1 ⟨A1, c1, rfl, hA1, kk⟩

  try go_wp2_with fail
  refine hK.out _ _ ?_ (fun hHeld2 => ?_)
  · exact keepP8 xz xz yz bza bza bza bza bza hHeld kk
  clear hK K hHeld
  have hHeld := hHeld2
  clear hHeld2
  try simp only [Act.put, List.setIfInBounds_toArray, List.set_cons_zero, List.set_cons_succ]
  refine wpAnyH_ready (rs := [23]) (by kernel_rfl) (by simp) ?_
  refine AllReadyH.cons (by simp only [List.getElem?_toArray, List.getElem?_cons_succ, List.getElem?_cons_zero]; rfl) (fun K hK => ?_) AllReadyH.nil
  go_simp
  go_at_call 12; with_reducible refine (HM.out A1 c1 P p Q q _ hA1 HP.out.1 HP.out.2.1 (HP.out.2.2.1.kept hHeld.2.2.2.2.2.2.2.2) (HP.out.2.2.2.kept hHeld.2.2.2.2.2.2.2.2)).mono ?_
  rintro e u2 ⟨rfl, kk⟩

  try go_wp2_with fail
  refine hK.out _ _ ?_ (fun hHeld2 => ?_)
  · exact keepP8 xz xz yz bza bza bza bza bza hHeld kk
  clear hK K hHeld
  have hHeld := hHeld2
  clear hHeld2
  try simp only [Act.put, List.setIfInBounds_toArray, List.set_cons_zero, List.set_cons_succ]
  refine wpAnyH_take (i := 24) (v := ?_) (by simp only [List.getElem?_toArray, List.getElem?_cons_succ, List.getElem?_cons_zero]; rfl) (by kernel_rfl) (by kernel_rfl) (by kernel_rfl) (fun _ _ _ h => h) (Or.inl ⟨by rfl, ?_⟩) (by assumption) ?_
  rotate_left
  · intro w hSw
    (try dsimp only at hSw)
    go_simp
    (try with_reducible rfl)
  simp only [Act.put, List.setIfInBounds_toArray, List.set_cons_zero, List.set_cons_succ]
  refine wpAnyH_take (i := 25) (v := ?_) (by simp only [List.getElem?_toArray, List.getElem?_cons_succ, List.getElem?_cons_zero]; rfl) (by kernel_rfl) (by kernel_rfl) (by kernel_rfl) (fun _ _ _ h => h) (Or.inl ⟨by rfl, ?_⟩) (by assumption) ?_
  rotate_left
  · intro w hSw
    (try dsimp only at hSw)
    go_simp
    (try with_reducible rfl)
  simp only [Act.put, List.setIfInBounds_toArray, List.set_cons_zero, List.set_cons_succ]
  refine wpAnyH_take (i := 27) (v := ?_) (by simp only [List.getElem?_toArray, List.getElem?_cons_succ, List.getElem?_cons_zero]; rfl) (by kernel_rfl) (by kernel_rfl) (by kernel_rfl) (fun _ _ _ h => h) (Or.inl ⟨by rfl, ?_⟩) (by assumption) ?_
  rotate_left
  · intro w hSw
    (try dsimp only at hSw)
    go_simp
    (try with_reducible rfl)
  simp only [Act.put, List.setIfInBounds_toArray, List.set_cons_zero, List.set_cons_succ]
  refine wpAnyH_ready (rs := [26]) (by kernel_rfl) (by simp) ?_
  refine AllReadyH.cons (by simp only [List.getElem?_toArray, List.getElem?_cons_succ, List.getElem?_cons_zero]; rfl) (fun K hK => ?_) AllReadyH.nil
  go_simp
  go_at_call 26; with_reducible refine (HO.out _).mono ?_
  rintro e u3 ⟨A2, c2, rfl, hA2, kk⟩

  try go_wp2_with fail
  refine hK.out _ _ ?_ (fun hHeld2 => ?_)
  · exact keepP8 xz xz yz bza bza bza bza bza hHeld kk
  clear hK K hHeld
  have hHeld := hHeld2
  clear hHeld2
  try simp only [Act.put, List.setIfInBounds_toArray, List.set_cons_zero, List.set_cons_succ]
  refine wpAnyH_ready (rs := [28]) (by kernel_rfl) (by simp) ?_
  refine AllReadyH.cons (by simp only [List.getElem?_toArray, List.getElem?_cons_succ, List.getElem?_cons_zero]; rfl) (fun K hK => ?_) AllReadyH.nil
  go_simp
  go_at_call 19; with_reducible refine (HB1.out A2 c2 _ hA2).mono ?_
  rintro e u4 ⟨rfl, kk⟩

  try go_wp2_with fail
  refine hK.out _ _ ?_ (fun hHeld2 => ?_)
  · exact keepP8 xz xz yz bza bza bza bza bza hHeld kk
  clear hK K hHeld
  have hHeld := hHeld2
  clear hHeld2
  try simp only [Act.put, List.setIfInBounds_toArray, List.set_cons_zero, List.set_cons_succ]
  refine wpAnyH_take (i := 29) (v := ?_) (by simp only [List.getElem?_toArray, List.getElem?_cons_succ, List.getElem?_cons_zero]; rfl) (by kernel_rfl) (by kernel_rfl) (by kernel_rfl) (fun _ _ _ h => h) (Or.inl ⟨by rfl, ?_⟩) (by assumption) ?_
  rotate_left
  · intro w hSw
    (try dsimp only at hSw)
    go_simp
    (try with_reducible rfl)
  simp only [Act.put, List.setIfInBounds_toArray, List.set_cons_zero, List.set_cons_succ]
  refine wpAnyH_take (i := 30) (v := ?_) (by simp only [List.getElem?_toArray, List.getElem?_cons_succ, List.getElem?_cons_zero]; rfl) (by kernel_rfl) (by kernel_rfl) (by kernel_rfl) (fun _ _ _ h => h) (Or.inl ⟨by rfl, ?_⟩) (by assumption) ?_
  rotate_left
  · intro w hSw
    (try dsimp only at hSw)
    go_simp
    (try with_reducible rfl)
  simp only [Act.put, List.setIfInBounds_toArray, List.set_cons_zero, List.set_cons_succ]
  refine wpAnyH_take (i := 32) (v := ?_) (by simp only [List.getElem?_toArray, List.getElem?_cons_succ, List.getElem?_cons_zero]; rfl) (by kernel_rfl) (by kernel_rfl) (by kernel_rfl) (fun _ _ _ h => h) (Or.inl ⟨by rfl, ?_⟩) (by assumption) ?_
  rotate_left
  · intro w hSw
    (try dsimp only at hSw)
    go_simp
    (try with_reducible rfl)
  simp only [Act.put, List.setIfInBounds_toArray, List.set_cons_zero, List.set_cons_succ]
  refine wpAnyH_ready (rs := [31]) (by kernel_rfl) (by simp) ?_
  refine AllReadyH.cons (by simp only [List.getElem?_toArray, List.getElem?_cons_succ, List.getElem?_cons_zero]; rfl) (fun K hK => ?_) AllReadyH.nil
  go_simp
  go_at_call 26; with_reducible refine (HO.out _).mono ?_
  rintro e u5 ⟨A3, c3, rfl, hA3, kk⟩

  try go_wp2_with fail
  refine hK.out _ _ ?_ (fun hHeld2 => ?_)
  · exact keepP8 xz xz yz bza bza bza bza bza hHeld kk
  clear hK K hHeld
  have hHeld := hHeld2
  clear hHeld2
  try simp only [Act.put, List.setIfInBounds_toArray, List.set_cons_zero, List.set_cons_succ]
  refine wpAnyH_ready (rs := [33]) (by kernel_rfl) (by simp) ?_
  refine AllReadyH.cons (by simp only [List.getElem?_toArray, List.getElem?_cons_succ, List.getElem?_cons_zero]; rfl) (fun K hK => ?_) AllReadyH.nil
  go_simp
  go_at_call 19; with_reducible refine (HB2.out A3 c3 _ hA3).mono ?_
  rintro e u6 ⟨rfl, kk⟩

  try go_wp2_with fail
  refine hK.out _ _ ?_ (fun hHeld2 => ?_)
  · exact keepP8 xz xz yz bza bza bza bza bza hHeld kk
  clear hK K hHeld
  have hHeld := hHeld2
  clear hHeld2
  try simp only [Act.put, List.setIfInBounds_toArray, List.set_cons_zero, List.set_cons_succ]
  refine wpAnyH_take (i := 34) (v := ?_) (by simp only [List.getElem?_toArray, List.getElem?_cons_succ, List.getElem?_cons_zero]; rfl) (by kernel_rfl) (by kernel_rfl) (by kernel_rfl) (fun _ _ _ h => h) (Or.inl ⟨by rfl, ?_⟩) (by assumption) ?_
  rotate_left
  · intro w hSw
    (try dsimp only at hSw)
    go_simp
    (try with_reducible rfl)
  simp only [Act.put, List.setIfInBounds_toArray, List.set_cons_zero, List.set_cons_succ]
  refine wpAnyH_take (i := 35) (v := ?_) (by simp only [List.getElem?_toArray, List.getElem?_cons_succ, List.getElem?_cons_zero]; rfl) (by kernel_rfl) (by kernel_rfl) (by kernel_rfl) (fun _ _ _ h => h) (Or.inl ⟨by rfl, ?_⟩) (by assumption) ?_
  rotate_left
  · intro w hSw
    (try dsimp only at hSw)
    go_simp
    (try with_reducible rfl)
  simp only [Act.put, List.setIfInBounds_toArray, List.set_cons_zero, List.set_cons_succ]
  refine wpAnyH_take (i := 36) (v := ?_) (by simp only [List.getElem?_toArray, List.getElem?_cons_succ, List.getElem?_cons_zero]; rfl) (by kernel_rfl) (by kernel_rfl) (by kernel_rfl) (fun _ _ _ h => h) (Or.inl ⟨by rfl, ?_⟩) (by assumption) ?_
  rotate_left
  · intro w hSw
    (try dsimp only at hSw)
    go_simp
    (try with_reducible rfl)
  simp only [Act.put, List.setIfInBounds_toArray, List.set_cons_zero, List.set_cons_succ]
  refine wpAnyH_done (by kernel_rfl) ?_ _
  refine NoPanic.normal ?_
  have k := hHeld.2.2.2.2.2.2.2.2
  clear hHeld
  go_wp2_with fail
  go_ret
  exact ⟨by first | rfl | (simp; done), HK1.out.trans (HKF.out.trans k)⟩

def kOn : Cf := ⟨[1], 0, 1, 1, 4⟩
def bV : Bk := ⟨2, 0, nameB gA, 0⟩
def vV : Vt := ⟨0, 2, nameB bV⟩
theorem bV_wf : WfB bV := ⟨nameB_lt gA, by decide⟩
def b11 : Bk := ⟨1, 1, (0, 0), 0⟩
theorem b11_wf : WfB b11 := ⟨⟨by decide, by decide⟩, by decide⟩
theorem lV_wf : WfL [bV, gA] := fun b hb => by
  rcases List.mem_cons.1 hb with rfl | hb
  · exact bV_wf
  · rw [List.mem_singleton] at hb; subst hb; exact gA_wf
theorem lV2_wf : WfL [gA, bV] := fun b hb => by
  rcases List.mem_cons.1 hb with rfl | hb
  · exact gA_wf
  · rw [List.mem_singleton] at hb; subst hb; exact bV_wf
theorem vV_wf : WfVs [vV] := fun b hb => by
  rw [List.mem_singleton] at hb; subst hb; exact ⟨⟨by decide, by decide⟩, ⟨by decide, by decide⟩, nameB_lt bV⟩
theorem exV_b : (takeC kOn ⟨[], []⟩ ⟨[bV, gA], [vV]⟩ 2).w.b = [gA, bV] := by decide +kernel
theorem exV_v : (takeC kOn ⟨[], []⟩ ⟨[bV, gA], [vV]⟩ 2).w.v = [vV] := by decide +kernel
theorem exV_ib : (takeC kOn ⟨[], []⟩ ⟨[bV, gA], [vV]⟩ 2).i.b = [] := by decide +kernel
theorem exV_iv : (takeC kOn ⟨[], []⟩ ⟨[bV, gA], [vV]⟩ 2).i.v = [] := by decide +kernel
theorem exV_f : (takeC kOn ⟨[], []⟩ ⟨[bV, gA], [vV]⟩ 2).full = false := by decide +kernel
theorem exV_may : mayW kOn ⟨[gA, bV], [vV]⟩ = true := by decide +kernel
theorem exV_b1 : blockC kOn gA = true := by decide +kernel
theorem exV_b2 : blockC kOn b11 = false := by decide +kernel
theorem one_any (w : World) : Calls Try.prog 26 #[] w fun e w' => ∃ A c, e = .returned (.agg #[.slice A 1 c, .int .u64 0, .int .i64 1, .int .i64 1, .int .i64 4]) ∧ CellsAt w' w'.heap.size A [.int .i64 1] ∧ Kept w w' := by
  go_enter Try.func26, Try.ntmps26
  go_wp2_with fail
  refine bodyPost_ret (v := .agg #[.slice (some ⟨w.heap.size + 1, 0, none⟩) 1 1, .int .u64 0, .int .i64 1, .int .i64 1, .int .i64 4]) (by simp [results, Try.results26, go_sem]) rfl ?_
  exact ⟨_, 1, rfl, CellsAt.new _ #[.int .i64 1] 3 (w.heap.size + 1) (by simp), ((Kept.refl w).alloc _).alloc _⟩
theorem awake16 (w : World) : Calls Try.prog 10 #[] w fun e w' => e = .returned (.bool true) ∧ Kept w w' := by
  refine awake16_of (nameB gA) (nameB bV) (fun w => name_any gA gA_wf w) (fun w => name_any bV bV_wf w) one_any ?_ ?_ ?_ ?_ w
  · intro A c L U w hA hL hU
    refine (viewTake_any A c kOn none 0 [] none 0 [] L 2 [bV, gA] U 1 [vV] 2 w (by decide) (by decide) (by decide) (by decide) (by decide) (by decide) (by decide) (by decide) (by decide) (by decide) (fun _ q => by cases q) (fun _ q => by cases q) lV_wf vV_wf hA CellsAt.nil CellsAt.nil hL hU).mono ?_
    have e1 := exV_b
    have e2 := exV_v
    have e3 := exV_ib
    have e4 := exV_iv
    have e5 := exV_f
    generalize takeC kOn ⟨[], []⟩ ⟨[bV, gA], [vV]⟩ 2 = t at *
    obtain ⟨⟨b, v⟩, ⟨ib, iv⟩, f⟩ := t
    simp only at e1 e2 e3 e4 e5
    subst e1 e2 e3 e4 e5
    rintro e w' ⟨A1, c1, B1, d1, C1, a1, D1, b1, rfl, h1, h2, h3, h4, hA1, hB1, hC1, hD1, k⟩
    exact ⟨A1, c1, B1, d1, C1, a1, D1, b1, rfl, h1, h2, hA1, hB1, k⟩
  · intro A c P p Q q w hA hp hq hP hQ
    refine (viewMay_any A c kOn P p [gA, bV] Q q [vV] w (by decide) (by decide) (by decide) (by decide) hp hq lV2_wf vV_wf hA hP hQ).mono ?_
    rw [exV_may]
    exact fun _ _ h => h
  · intro A c w hA
    refine (viewBlock_any A c kOn gA gA_wf w (by decide) (by decide) hA).mono ?_
    rw [exV_b1]
    exact fun _ _ h => h
  · intro A c w hA
    refine (viewBlock_any A c kOn b11 b11_wf w (by decide) (by decide) hA).mono ?_
    rw [exV_b2]
    exact fun _ _ h => h

end Go.Proofs.Ytacdiicnfoejoaa
