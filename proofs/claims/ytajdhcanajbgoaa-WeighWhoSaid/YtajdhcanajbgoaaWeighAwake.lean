/-
  The chapter's example, which every law of layer 8 asks first: it is so; and few.
-/
import Derived.Test.YtajdhcanajbgoaaWeighOn
namespace Go.Proofs.Ytajdhcanajbgoaa
set_option maxRecDepth 100000
open Go.ChangeShapes Go.WideShapes Go.ChangeAt Go.RowKit

/-- The example's conf, blocks and votes. -/
def kWe : Cf := ⟨[1, 2, 3], 0, 1, 0, 4⟩
def bA : Bk := ⟨1, 0, (0, 0), 0⟩
def bB : Bk := ⟨2, 0, nameB bA, 0⟩
def lW : List Bk := [bA, bB]
def vW : List Vt := [⟨1, 2, nameB bA⟩, ⟨2, 2, nameB bB⟩]
theorem ex_on1 : onC kWe lW vW (nameB bA) = 5 := by decide +kernel
theorem ex_on2 : onC kWe lW vW (nameB bB) = 3 := by decide +kernel
theorem ex_all : onC kWe lW vW zid = 5 := by decide +kernel
theorem bA_wf : WfB bA := ⟨⟨by decide, by decide⟩, by decide⟩
theorem bB_wf : WfB bB := ⟨nameB_lt bA, by decide⟩
theorem lW_wf : WfL lW := fun b hb => by
  rcases List.mem_cons.1 hb with rfl | hb
  · exact bA_wf
  · rw [List.mem_singleton] at hb; subst hb; exact bB_wf
theorem vW_wf : WfVs vW := fun b hb => by
  rcases List.mem_cons.1 hb with rfl | hb
  · exact ⟨⟨by decide, by decide⟩, ⟨by decide, by decide⟩, nameB_lt bA⟩
  · rw [List.mem_singleton] at hb; subst hb; exact ⟨⟨by decide, by decide⟩, ⟨by decide, by decide⟩, nameB_lt bB⟩

theorem keepT {W w w' : World} {a b : Nat} {x0 x1 x2 x3 x4 y0 y1 y2 y3 y4 : Value} (ha : a < W.heap.size) (hb : b < W.heap.size)
    (h : (w.cell? ⟨a, 0, none⟩ = some x0 ∧ w.cell? ⟨a, 1, none⟩ = some x1 ∧ w.cell? ⟨a, 2, none⟩ = some x2 ∧ w.cell? ⟨a, 3, none⟩ = some x3 ∧ w.cell? ⟨a, 4, none⟩ = some x4) ∧
      (w.cell? ⟨b, 0, none⟩ = some y0 ∧ w.cell? ⟨b, 1, none⟩ = some y1 ∧ w.cell? ⟨b, 2, none⟩ = some y2 ∧ w.cell? ⟨b, 3, none⟩ = some y3 ∧ w.cell? ⟨b, 4, none⟩ = some y4) ∧ Kept W w) (k : Kept w w') :
    (w'.cell? ⟨a, 0, none⟩ = some x0 ∧ w'.cell? ⟨a, 1, none⟩ = some x1 ∧ w'.cell? ⟨a, 2, none⟩ = some x2 ∧ w'.cell? ⟨a, 3, none⟩ = some x3 ∧ w'.cell? ⟨a, 4, none⟩ = some x4) ∧
      (w'.cell? ⟨b, 0, none⟩ = some y0 ∧ w'.cell? ⟨b, 1, none⟩ = some y1 ∧ w'.cell? ⟨b, 2, none⟩ = some y2 ∧ w'.cell? ⟨b, 3, none⟩ = some y3 ∧ w'.cell? ⟨b, 4, none⟩ = some y4) ∧ Kept W w' := by
  obtain ⟨⟨h0, h1, h2, h3, h4⟩, ⟨g0, g1, g2, g3, g4⟩, hk⟩ := h
  have ha' : a < w.heap.size := Nat.lt_of_lt_of_le ha hk.size_le
  have hb' : b < w.heap.size := Nat.lt_of_lt_of_le hb hk.size_le
  exact ⟨⟨(k.cell (p := ⟨a, 0, none⟩) ha').trans h0, (k.cell (p := ⟨a, 1, none⟩) ha').trans h1, (k.cell (p := ⟨a, 2, none⟩) ha').trans h2, (k.cell (p := ⟨a, 3, none⟩) ha').trans h3, (k.cell (p := ⟨a, 4, none⟩) ha').trans h4⟩,
    ⟨(k.cell (p := ⟨b, 0, none⟩) hb').trans g0, (k.cell (p := ⟨b, 1, none⟩) hb').trans g1, (k.cell (p := ⟨b, 2, none⟩) hb').trans g2, (k.cell (p := ⟨b, 3, none⟩) hb').trans g3, (k.cell (p := ⟨b, 4, none⟩) hb').trans g4⟩, hk.trans k⟩

theorem keepU {W w w' : World} {c a b : Nat} {u0 u1 u2 u3 u4 x0 x1 x2 x3 x4 y0 y1 y2 y3 y4 : Value} (hc : c < W.heap.size) (ha : a < W.heap.size) (hb : b < W.heap.size)
    (h : (w.cell? ⟨c, 0, none⟩ = some (u0) ∧ w.cell? ⟨c, 1, none⟩ = some (u1) ∧ w.cell? ⟨c, 2, none⟩ = some (u2) ∧ w.cell? ⟨c, 3, none⟩ = some (u3) ∧ w.cell? ⟨c, 4, none⟩ = some (u4)) ∧ (w.cell? ⟨a, 0, none⟩ = some (x0) ∧ w.cell? ⟨a, 1, none⟩ = some (x1) ∧ w.cell? ⟨a, 2, none⟩ = some (x2) ∧ w.cell? ⟨a, 3, none⟩ = some (x3) ∧ w.cell? ⟨a, 4, none⟩ = some (x4)) ∧ (w.cell? ⟨b, 0, none⟩ = some (y0) ∧ w.cell? ⟨b, 1, none⟩ = some (y1) ∧ w.cell? ⟨b, 2, none⟩ = some (y2) ∧ w.cell? ⟨b, 3, none⟩ = some (y3) ∧ w.cell? ⟨b, 4, none⟩ = some (y4)) ∧ Kept W w) (k : Kept w w') :
    (w'.cell? ⟨c, 0, none⟩ = some (u0) ∧ w'.cell? ⟨c, 1, none⟩ = some (u1) ∧ w'.cell? ⟨c, 2, none⟩ = some (u2) ∧ w'.cell? ⟨c, 3, none⟩ = some (u3) ∧ w'.cell? ⟨c, 4, none⟩ = some (u4)) ∧ (w'.cell? ⟨a, 0, none⟩ = some (x0) ∧ w'.cell? ⟨a, 1, none⟩ = some (x1) ∧ w'.cell? ⟨a, 2, none⟩ = some (x2) ∧ w'.cell? ⟨a, 3, none⟩ = some (x3) ∧ w'.cell? ⟨a, 4, none⟩ = some (x4)) ∧ (w'.cell? ⟨b, 0, none⟩ = some (y0) ∧ w'.cell? ⟨b, 1, none⟩ = some (y1) ∧ w'.cell? ⟨b, 2, none⟩ = some (y2) ∧ w'.cell? ⟨b, 3, none⟩ = some (y3) ∧ w'.cell? ⟨b, 4, none⟩ = some (y4)) ∧ Kept W w' := by
  obtain ⟨h1, h2, h3, hk⟩ := h
  obtain ⟨g2, g3, _⟩ := keepT ha hb ⟨h2, h3, hk⟩ k
  obtain ⟨g1, _, g4⟩ := keepT hc ha ⟨h1, h2, hk⟩ k
  exact ⟨g1, g2, g3, g4⟩

def cellsC : List Value := [.int .i64 1, .int .i64 2, .int .i64 3]
def cellsL (n1 : Id2) : List Value := [.int .i64 1, .int .i64 0, .int .u64 0, .int .u64 0, .int .u64 0, .int .i64 2, .int .i64 0, .int .u64 n1.1, .int .u64 n1.2, .int .u64 0]
def cellsV (n1 n2 : Id2) : List Value := [.int .i64 1, .int .i64 2, .int .u64 n1.1, .int .u64 n1.2, .int .i64 2, .int .i64 2, .int .u64 n2.1, .int .u64 n2.2]

set_option maxRecDepth 100000 in
set_option maxHeartbeats 3200000 in
theorem weighAwake_of (n1 n2 : Id2)
    (hN1 : ∀ w, Calls Try.prog 23 #[.agg #[.int .i64 1, .int .i64 0, .int .u64 0, .int .u64 0, .int .u64 0]] w fun e w' => e = .returned (.agg #[.int .u64 n1.1, .int .u64 n1.2]) ∧ Kept w w')
    (hN2 : ∀ w, Calls Try.prog 23 #[.agg #[.int .i64 2, .int .i64 0, .int .u64 n1.1, .int .u64 n1.2, .int .u64 0]] w fun e w' => e = .returned (.agg #[.int .u64 n2.1, .int .u64 n2.2]) ∧ Kept w w')
    (hO1 : ∀ A c L cl V cv w, CellsAt w w.heap.size A cellsC → CellsAt w w.heap.size L (cellsL n1) → CellsAt w w.heap.size V (cellsV n1 n2) →
      Calls Try.prog 11 #[.agg #[.slice A 3 c, .int .u64 0, .int .i64 1, .int .i64 0, .int .i64 4], .slice L 2 cl, .slice V 2 cv, .agg #[.int .u64 n1.1, .int .u64 n1.2]] w fun e w' => e = .returned (.int .i64 5) ∧ Kept w w')
    (hO2 : ∀ A c L cl V cv w, CellsAt w w.heap.size A cellsC → CellsAt w w.heap.size L (cellsL n1) → CellsAt w w.heap.size V (cellsV n1 n2) →
      Calls Try.prog 11 #[.agg #[.slice A 3 c, .int .u64 0, .int .i64 1, .int .i64 0, .int .i64 4], .slice L 2 cl, .slice V 2 cv, .agg #[.int .u64 n2.1, .int .u64 n2.2]] w fun e w' => e = .returned (.int .i64 3) ∧ Kept w w')
    (hO3 : ∀ A c L cl V cv w, CellsAt w w.heap.size A cellsC → CellsAt w w.heap.size L (cellsL n1) → CellsAt w w.heap.size V (cellsV n1 n2) →
      Calls Try.prog 13 #[.agg #[.slice A 3 c, .int .u64 0, .int .i64 1, .int .i64 0, .int .i64 4], .slice L 2 cl, .slice V 2 cv] w fun e w' => e = .returned (.int .i64 5) ∧ Kept w w')
    (w : World) : Calls Try.prog 9 #[] w fun e w' => e = .returned (.bool true) ∧ Kept w w' := by
  have HN1 := Lib.hid hN1
  have HN2 := Lib.hid hN2
  have HO1 := Lib.hid hO1
  have HO2 := Lib.hid hO2
  have HO3 := Lib.hid hO3
  clear hN1 hN2 hO1 hO2 hO3
  go_enter Try.func9, Try.ntmps9
  go_wp2_with fail
  have HK0 := Lib.hid ((((Kept.refl w).alloc (.cells #[.int .i64 1, .int .i64 2, .int .i64 3] 3)).alloc (.cells #[.slice (some ⟨w.heap.size, 0, none⟩) 3 3, .int .u64 0, .int .i64 1, .int .i64 0, .int .i64 4] 25)).alloc (.cells #[.int .i64 1, .int .i64 0, .int .u64 0, .int .u64 0, .int .u64 0] 48))
  have HA0 := Lib.hid (((CellsAt.new w #[.int .i64 1, .int .i64 2, .int .i64 3] 3 w.heap.size rfl).kept ((Kept.refl _).alloc (.cells #[.slice (some ⟨w.heap.size, 0, none⟩) 3 3, .int .u64 0, .int .i64 1, .int .i64 0, .int .i64 4] 25))).kept ((Kept.refl _).alloc (.cells #[.int .i64 1, .int .i64 0, .int .u64 0, .int .u64 0, .int .u64 0] 48)))
  have HC0 := Lib.hid ((HasCells.new (w.alloc (.cells #[.int .i64 1, .int .i64 2, .int .i64 3] 3)) #[.slice (some ⟨w.heap.size, 0, none⟩) 3 3, .int .u64 0, .int .i64 1, .int .i64 0, .int .i64 4] 25 (w.heap.size + 1) (by simp)).alloc (.cells #[.int .i64 1, .int .i64 0, .int .u64 0, .int .u64 0, .int .u64 0] 48))
  have HD0 := Lib.hid (HasCells.new ((w.alloc (.cells #[.int .i64 1, .int .i64 2, .int .i64 3] 3)).alloc (.cells #[.slice (some ⟨w.heap.size, 0, none⟩) 3 3, .int .u64 0, .int .i64 1, .int .i64 0, .int .i64 4] 25)) #[.int .i64 1, .int .i64 0, .int .u64 0, .int .u64 0, .int .u64 0] 48 (w.heap.size + 1 + 1) (by simp))
  generalize ((w.alloc (.cells #[.int .i64 1, .int .i64 2, .int .i64 3] 3)).alloc (.cells #[.slice (some ⟨w.heap.size, 0, none⟩) 3 3, .int .u64 0, .int .i64 1, .int .i64 0, .int .i64 4] 25)).alloc (.cells #[.int .i64 1, .int .i64 0, .int .u64 0, .int .u64 0, .int .u64 0] 48) = W0 at *
  generalize w.heap.size + 1 + 1 = z2 at *
  generalize w.heap.size + 1 = z1 at *
  generalize w.heap.size = z0 at *
  refine (HN1.out W0).mono ?_
  rintro e W1 ⟨rfl, k1⟩
  have HK1 := Lib.hid (HK0.out.trans k1)
  have HA1 := Lib.hid (HA0.out.kept k1)
  have HC1 := Lib.hid (HC0.out.kept k1)
  have HD1 := Lib.hid (HD0.out.kept k1)
  obtain ⟨d0, d1, d2, d3, d4⟩ := HD1.out.five
  have hz2 := HD1.out.1
  clear k1 HK0 HA0 HC0 HD0
  go_wp2_with fail
  have HK2 := Lib.hid ((HK1.out.alloc (.cells #[.int .i64 2, .int .i64 0, .int .u64 n1.1, .int .u64 n1.2, .int .u64 0] 48)).alloc (.cells #[.int .i64 1, .int .i64 0, .int .u64 0, .int .u64 0, .int .u64 0, .int .i64 2, .int .i64 0, .int .u64 n1.1, .int .u64 n1.2, .int .u64 0] 48))
  have HKK := Lib.hid (((Kept.refl W1).alloc (.cells #[.int .i64 2, .int .i64 0, .int .u64 n1.1, .int .u64 n1.2, .int .u64 0] 48)).alloc (.cells #[.int .i64 1, .int .i64 0, .int .u64 0, .int .u64 0, .int .u64 0, .int .i64 2, .int .i64 0, .int .u64 n1.1, .int .u64 n1.2, .int .u64 0] 48))
  have HL2 := Lib.hid (CellsAt.new (W1.alloc (.cells #[.int .i64 2, .int .i64 0, .int .u64 n1.1, .int .u64 n1.2, .int .u64 0] 48)) #[.int .i64 1, .int .i64 0, .int .u64 0, .int .u64 0, .int .u64 0, .int .i64 2, .int .i64 0, .int .u64 n1.1, .int .u64 n1.2, .int .u64 0] 48 (W1.heap.size + 1) (by simp))
  have HE2 := Lib.hid ((HasCells.new W1 #[.int .i64 2, .int .i64 0, .int .u64 n1.1, .int .u64 n1.2, .int .u64 0] 48 W1.heap.size rfl).alloc (.cells #[.int .i64 1, .int .i64 0, .int .u64 0, .int .u64 0, .int .u64 0, .int .i64 2, .int .i64 0, .int .u64 n1.1, .int .u64 n1.2, .int .u64 0] 48))
  have HA2 := Lib.hid (HA1.out.kept HKK.out)
  have HC2 := Lib.hid (HC1.out.kept HKK.out)
  have HD2 := Lib.hid (HD1.out.kept HKK.out)
  clear d0 d1 d2 d3 d4 hz2 HK1 HKK HA1 HC1 HD1
  generalize (W1.alloc (.cells #[.int .i64 2, .int .i64 0, .int .u64 n1.1, .int .u64 n1.2, .int .u64 0] 48)).alloc (.cells #[.int .i64 1, .int .i64 0, .int .u64 0, .int .u64 0, .int .u64 0, .int .i64 2, .int .i64 0, .int .u64 n1.1, .int .u64 n1.2, .int .u64 0] 48) = W2 at *
  generalize W1.heap.size + 1 = z4 at *
  generalize W1.heap.size = z3 at *
  obtain ⟨d0, d1, d2, d3, d4⟩ := HD2.out.five
  obtain ⟨e0, e1, e2, e3, e4⟩ := HE2.out.five
  have hz2 := HD2.out.1
  have hz3 := HE2.out.1
  go_region_held3 (fun w' => (w'.cell? ⟨z2, 0, none⟩ = some (.int .i64 1) ∧ w'.cell? ⟨z2, 1, none⟩ = some (.int .i64 0) ∧ w'.cell? ⟨z2, 2, none⟩ = some (.int .u64 0) ∧ w'.cell? ⟨z2, 3, none⟩ = some (.int .u64 0) ∧ w'.cell? ⟨z2, 4, none⟩ = some (.int .u64 0)) ∧ (w'.cell? ⟨z3, 0, none⟩ = some (.int .i64 2) ∧ w'.cell? ⟨z3, 1, none⟩ = some (.int .i64 0) ∧ w'.cell? ⟨z3, 2, none⟩ = some (.int .u64 n1.1) ∧ w'.cell? ⟨z3, 3, none⟩ = some (.int .u64 n1.2) ∧ w'.cell? ⟨z3, 4, none⟩ = some (.int .u64 0)) ∧ Kept W2 w')
    (first | exact ⟨⟨d0, d1, d2, d3, d4⟩, ⟨e0, e1, e2, e3, e4⟩, Kept.refl _⟩ | exact ⟨⟨d0, d1, d2, d3, d4⟩, ⟨e0, e1, e2, e3, e4⟩, (Kept.refl _).drew⟩ | assumption | exact keepT hz2 hz3 (by assumption) (by assumption) | exact keepT hz2 hz3 (by assumption) ((Kept.refl _).alloc _))
    (first
      | (go_at_call 23; ((first | (with_reducible refine (HN1.out _).mono ?_) | (with_reducible refine (HN2.out _).mono ?_)); rintro e w' ⟨rfl, kk⟩)))
  rename_i hh
  have HKV := Lib.hid hh.2.2
  have HV3 := Lib.hid (CellsAt.new w' #[.int .i64 1, .int .i64 2, .int .u64 n1.1, .int .u64 n1.2, .int .i64 2, .int .i64 2, .int .u64 n2.1, .int .u64 n2.2] 40 w'.heap.size rfl)
  have HK3 := Lib.hid (HK2.out.trans hh.2.2)
  have HL3 := Lib.hid (HL2.out.kept hh.2.2)
  have HE3 := Lib.hid (HE2.out.kept hh.2.2)
  have HA3 := Lib.hid (HA2.out.kept hh.2.2)
  have HC3 := Lib.hid (HC2.out.kept hh.2.2)
  have HD3 := Lib.hid (HD2.out.kept hh.2.2)
  clear hh HKV d0 d1 d2 d3 d4 e0 e1 e2 e3 e4 hz2 hz3 HK2 HL2 HE2 HA2 HC2 HD2
  generalize w'.alloc (.cells #[.int .i64 1, .int .i64 2, .int .u64 n1.1, .int .u64 n1.2, .int .i64 2, .int .i64 2, .int .u64 n2.1, .int .u64 n2.2] 40) = W3 at *
  generalize w'.heap.size = z5 at *
  obtain ⟨c0, c1, c2, c3, c4⟩ := HC3.out.five
  obtain ⟨d0, d1, d2, d3, d4⟩ := HD3.out.five
  obtain ⟨e0, e1, e2, e3, e4⟩ := HE3.out.five
  have hz1 := HC3.out.1
  have hz2 := HD3.out.1
  have hz3 := HE3.out.1
  have HP1 := Lib.hid (fun w' (k : Kept W3 w') => HO1.out _ 3 _ 2 _ 2 w' (HA3.out.kept k) (HL3.out.kept k) (HV3.out.kept k))
  have HP2 := Lib.hid (fun w' (k : Kept W3 w') => HO2.out _ 3 _ 2 _ 2 w' (HA3.out.kept k) (HL3.out.kept k) (HV3.out.kept k))
  have HP3 := Lib.hid (fun w' (k : Kept W3 w') => HO3.out _ 3 _ 2 _ 2 w' (HA3.out.kept k) (HL3.out.kept k) (HV3.out.kept k))
  go_wp2_with fail
  go_region_held3 (fun w' => (w'.cell? ⟨z1, 0, none⟩ = some (.slice (some ⟨z0, 0, none⟩) 3 3) ∧ w'.cell? ⟨z1, 1, none⟩ = some (.int .u64 0) ∧ w'.cell? ⟨z1, 2, none⟩ = some (.int .i64 1) ∧ w'.cell? ⟨z1, 3, none⟩ = some (.int .i64 0) ∧ w'.cell? ⟨z1, 4, none⟩ = some (.int .i64 4)) ∧ (w'.cell? ⟨z2, 0, none⟩ = some (.int .i64 1) ∧ w'.cell? ⟨z2, 1, none⟩ = some (.int .i64 0) ∧ w'.cell? ⟨z2, 2, none⟩ = some (.int .u64 0) ∧ w'.cell? ⟨z2, 3, none⟩ = some (.int .u64 0) ∧ w'.cell? ⟨z2, 4, none⟩ = some (.int .u64 0)) ∧ (w'.cell? ⟨z3, 0, none⟩ = some (.int .i64 2) ∧ w'.cell? ⟨z3, 1, none⟩ = some (.int .i64 0) ∧ w'.cell? ⟨z3, 2, none⟩ = some (.int .u64 n1.1) ∧ w'.cell? ⟨z3, 3, none⟩ = some (.int .u64 n1.2) ∧ w'.cell? ⟨z3, 4, none⟩ = some (.int .u64 0)) ∧ Kept W3 w')
    (first | exact ⟨⟨c0, c1, c2, c3, c4⟩, ⟨d0, d1, d2, d3, d4⟩, ⟨e0, e1, e2, e3, e4⟩, Kept.refl _⟩ | exact ⟨⟨c0, c1, c2, c3, c4⟩, ⟨d0, d1, d2, d3, d4⟩, ⟨e0, e1, e2, e3, e4⟩, (Kept.refl _).drew⟩ | assumption | exact keepU hz1 hz2 hz3 (by assumption) (by assumption))
    (first
      | (go_at_call 23; ((first | (with_reducible refine (HN1.out _).mono ?_) | (with_reducible refine (HN2.out _).mono ?_)); rintro e w' ⟨rfl, kk⟩))
      | (go_at_call 11; ((first | (with_reducible refine (HP1.out _ (And.right (And.right (And.right (by assumption))))).mono ?_) | (with_reducible refine (HP2.out _ (And.right (And.right (And.right (by assumption))))).mono ?_)); rintro e w' ⟨rfl, kk⟩))
      | (go_at_call 13; ((with_reducible refine (HP3.out _ (And.right (And.right (And.right (by assumption))))).mono ?_); rintro e w' ⟨rfl, kk⟩)))
  rename_i hh
  have hk := Lib.hid (HK3.out.trans hh.2.2.2)
  clear hh
  go_wp2_with fail
  go_ret
  exact ⟨rfl, hk.out⟩

theorem weighAwake (w : World) : Calls Try.prog 9 #[] w fun e w' => e = .returned (.bool true) ∧ Kept w w' := by
  refine weighAwake_of (nameB bA) (nameB bB) (fun w => name_any bA bA_wf w) (fun w => name_any bB bB_wf w) ?_ ?_ ?_ w
  · intro A c L cl V cv w hA hL hV
    have h := on_any A c kWe L cl lW V cv vW (nameB bA) w (by decide) (by decide) lW_wf vW_wf (nameB_lt bA) hA hL hV
    rw [ex_on1] at h
    exact h
  · intro A c L cl V cv w hA hL hV
    have h := on_any A c kWe L cl lW V cv vW (nameB bB) w (by decide) (by decide) lW_wf vW_wf (nameB_lt bB) hA hL hV
    rw [ex_on2] at h
    exact h
  · intro A c L cl V cv w hA hL hV
    have h := all_any A c kWe L cl lW V cv vW w (by decide) (by decide) lW_wf vW_wf hA hL hV
    rw [ex_all] at h
    exact h

/-! ### few -/
def fewC (k : Cf) (l : List Bk) (v : List Vt) : Bool := decide (k.ws.length ≤ 40 ∧ l.length ≤ 30 ∧ v.length ≤ 30)
theorem fewC_yes {k : Cf} {l : List Bk} {v : List Vt} (h : fewC k l v = true) : k.ws.length ≤ 40 ∧ l.length ≤ 30 ∧ v.length ≤ 30 := of_decide_eq_true h
set_option maxHeartbeats 800000 in
theorem few_any (A : Option Addr) (c : Nat) (k : Cf) (L : Option Addr) (cl : Nat) (l : List Bk) (V : Option Addr) (cv : Nat) (v : List Vt) (w : World) :
    Calls Try.prog 10 #[.agg #[.slice A k.ws.length c, .int .u64 k.seed, .int .i64 k.ep, .int .i64 k.nu, .int .i64 k.de], .slice L l.length cl, .slice V v.length cv] w fun e w' => e = .returned (.bool (fewC k l v)) ∧ Kept w w' := by
  by_cases h1 : k.ws.length ≤ 40
  · by_cases h2 : l.length ≤ 30
    · by_cases h3 : v.length ≤ 30
      · have HF := Lib.hid (show fewC k l v = true from decide_eq_true ⟨h1, h2, h3⟩)
        go_enter Try.func10, Try.ntmps10
        go_wp2_with fail
        go_ret
        exact ⟨by rw [HF.out]; first | rfl | (simp; done) | (simp; omega), (Kept.refl w).alloc _⟩
      · have HF := Lib.hid (show fewC k l v = false from decide_eq_false (by omega))
        go_enter Try.func10, Try.ntmps10
        go_wp2_with fail
        go_ret
        exact ⟨by rw [HF.out]; first | rfl | (simp; done) | (simp; omega), (Kept.refl w).alloc _⟩
    · have HF := Lib.hid (show fewC k l v = false from decide_eq_false (by omega))
      go_enter Try.func10, Try.ntmps10
      go_wp2_with fail
      go_ret
      exact ⟨by rw [HF.out]; first | rfl | (simp; done) | (simp; omega), (Kept.refl w).alloc _⟩
  · have HF := Lib.hid (show fewC k l v = false from decide_eq_false (by omega))
    go_enter Try.func10, Try.ntmps10
    go_wp2_with fail
    go_ret
    exact ⟨by rw [HF.out]; first | rfl | (simp; done) | (simp; omega), (Kept.refl w).alloc _⟩

end Go.Proofs.Ytajdhcanajbgoaa
