/-
  Boxed ids held over a region that draws its order; the contract of package tree's call Under.
-/
import Derived.Test.YtepgbnojbomicaaTreeChain
namespace Go.Proofs.Ytepgbnojbomicaa
open Go.ChangeShapes Go.WideShapes Go.ChangeAt Go.RowKit

theorem keep1 {W w w' : World} {b : Nat} {x0 x1 : Value} (hb : b < W.heap.size) (h : w.cell? ⟨b, 0, none⟩ = some x0 ∧ w.cell? ⟨b, 1, none⟩ = some x1 ∧ Kept W w) (k : Kept w w') :
    w'.cell? ⟨b, 0, none⟩ = some x0 ∧ w'.cell? ⟨b, 1, none⟩ = some x1 ∧ Kept W w' := by
  obtain ⟨h0, h1, hk⟩ := h
  have hb' : b < w.heap.size := Nat.lt_of_lt_of_le hb hk.size_le
  exact ⟨(k.cell (p := ⟨b, 0, none⟩) hb').trans h0, (k.cell (p := ⟨b, 1, none⟩) hb').trans h1, hk.trans k⟩
theorem keep2 {W w w' : World} {b d : Nat} {x0 x1 y0 y1 : Value} (hb : b < W.heap.size) (hd : d < W.heap.size)
    (h : w.cell? ⟨b, 0, none⟩ = some x0 ∧ w.cell? ⟨b, 1, none⟩ = some x1 ∧ w.cell? ⟨d, 0, none⟩ = some y0 ∧ w.cell? ⟨d, 1, none⟩ = some y1 ∧ Kept W w) (k : Kept w w') :
    w'.cell? ⟨b, 0, none⟩ = some x0 ∧ w'.cell? ⟨b, 1, none⟩ = some x1 ∧ w'.cell? ⟨d, 0, none⟩ = some y0 ∧ w'.cell? ⟨d, 1, none⟩ = some y1 ∧ Kept W w' := by
  obtain ⟨h0, h1, g0, g1, hk⟩ := h
  obtain ⟨r0, r1, rk⟩ := keep1 hb ⟨h0, h1, hk⟩ k
  obtain ⟨s0, s1, _⟩ := keep1 hd ⟨g0, g1, hk⟩ k
  exact ⟨r0, r1, s0, s1, rk⟩

set_option maxRecDepth 100000 in
set_option maxHeartbeats 1600000 in
theorem under_any (A : Option Addr) (c : Nat) (l : List Bk) (hl : l.length ≤ 1000000) (hw : WfL l) (low x : Id2) (hx : WfI x) (w : World) (hA : CellsAt w w.heap.size A (blockCells l)) :
    Calls Try.prog 23 #[.slice A l.length c, .agg #[.int .u64 low.1, .int .u64 low.2], .agg #[.int .u64 x.1, .int .u64 x.2]] w fun e w' => e = .returned (.bool (underC l low x)) ∧ Kept w w' := by
  have HA := Lib.hid ((hA.kept ((Kept.refl w).alloc (.cells #[.int .u64 low.1, .int .u64 low.2] 25))).kept ((Kept.refl _).alloc (.cells #[.int .u64 x.1, .int .u64 x.2] 25)))
  have HC := Lib.hid ((HasCells.new w #[.int .u64 low.1, .int .u64 low.2] 25 w.heap.size rfl).alloc (.cells #[.int .u64 x.1, .int .u64 x.2] 25))
  have HD := Lib.hid (HasCells.new (w.alloc (.cells #[.int .u64 low.1, .int .u64 low.2] 25)) #[.int .u64 x.1, .int .u64 x.2] 25 (w.heap.size + 1) (by simp))
  have HK := Lib.hid (((Kept.refl w).alloc (.cells #[.int .u64 low.1, .int .u64 low.2] 25)).alloc (.cells #[.int .u64 x.1, .int .u64 x.2] 25))
  have HL := Lib.hid (chainC_length l x)
  have HU := Lib.hid (show underC l low x = decide (low ∈ chainC l x) from rfl)
  have HCH := Lib.hid (fun w' (h : CellsAt w' w'.heap.size A (blockCells l)) => chain_any A c l hl hw x hx w' h)
  clear hw hA hx
  go_enter Try.func23, Try.ntmps23
  go_wp2_with fail
  generalize (w.alloc (.cells #[.int .u64 low.1, .int .u64 low.2] 25)).alloc (.cells #[.int .u64 x.1, .int .u64 x.2] 25) = W at *
  generalize w.heap.size + 1 = y at *
  generalize w.heap.size = z at *
  obtain ⟨c0, c1⟩ := HC.out.two
  obtain ⟨d0, d1⟩ := HD.out.two
  have hz := HC.out.1
  have hy := HD.out.1
  have hcl : (chainC l x).length ≤ 10000000 := by have := HL.out; omega
  have HC1 := Lib.hid (fun w' (hk : w'.cell? ⟨z, 0, none⟩ = some (.int .u64 low.1) ∧ w'.cell? ⟨z, 1, none⟩ = some (.int .u64 low.2) ∧ w'.cell? ⟨y, 0, none⟩ = some (.int .u64 x.1) ∧ w'.cell? ⟨y, 1, none⟩ = some (.int .u64 x.2) ∧ Kept W w') => HCH.out w' (HA.out.kept hk.2.2.2.2))
  generalize chainC l x = ch at *
  go_region_held3 (fun w' => w'.cell? ⟨z, 0, none⟩ = some (.int .u64 low.1) ∧ w'.cell? ⟨z, 1, none⟩ = some (.int .u64 low.2) ∧ w'.cell? ⟨y, 0, none⟩ = some (.int .u64 x.1) ∧ w'.cell? ⟨y, 1, none⟩ = some (.int .u64 x.2) ∧ Kept W w')
    (first | exact ⟨c0, c1, d0, d1, Kept.refl _⟩ | exact ⟨c0, c1, d0, d1, (Kept.refl _).drew⟩ | assumption | exact keep2 hz hy (by assumption) (by assumption))
    (first
      | (go_at_call 17; ((with_reducible refine (HC1.out _ (by assumption)).mono ?_); rintro e w' ⟨A', c', rfl, hcs, hnew, kk⟩))
      | (go_at_call 34; ((with_reducible refine (contains_any A' c' ch hcl low _ hcs).mono ?_); rintro e w' ⟨rfl, kk⟩)))
  rename_i hh
  have hk := Lib.hid (HK.out.trans hh.2.2.2.2)
  clear hh
  go_wp2_with fail
  go_ret
  exact ⟨by rw [HU.out]; rfl, hk.out⟩

end Go.Proofs.Ytepgbnojbomicaa
