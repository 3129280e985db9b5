/-
  The contracts of package marigoldref03's Block and Get.
-/
import Derived.Test.YtfbjiepnhfgmfaaWireRef
import Derived.Test.YtfbjiepnhfgmfaaRowStep
namespace Go.Proofs.Ytfbjiepnhfgmfaa
open Go.ChangeShapes Go.WideShapes Go.ChangeAt Go.RowKit

theorem step_bytes {ops : Array Oper} {o : Oper} {a : Act} {K : Act → World → Prop} {Q : Exit → Act → World → Prop} {E : Prop} (w : World) (hgd : o.guard = none) (s x : Operand)
    (ho : o.op = .call { callee := .builtin .append, args := #[s, x], argTypes := #[29, 29] })
    (W : World) (l : List Nat) (v : Value) (hs : a.eval s = v) (HB : Bytes W l v w) (B : Nat) (A : Option Addr) (m c : Nat) (news : List Nat) (hx : a.eval x = .slice A m c) (hl : news.length = m)
    (hr : CellsAt w B A (byteCells news)) (hlen : l.length + m ≤ 100000)
    (h : ∀ v' w', Bytes W (l ++ news) v' w' → K (a.put o.dst v') w') : if Region.wanted o (yielded ops a.tmps) = true then Oper.wp Try.prog o a w K Q else E := by
  obtain ⟨i0, hi0, hz0, hz1, hz2⟩ := info_parts Try.infoB
  refine step_app w hgd s x _ ho W.heap.size 5 i0 _ 1 1 Try.underlying29 hi0 hz0 hz1 hz2 rfl (by omega) v l.length (byteCells l) hs HB.1 B A m c (byteCells news) hx (by simp [hl]) hr (byteCells_one _)
    (by unfold maxLen; omega) (by omega) HB.2.size_le ?_
  intro v' w' own g _
  refine h v' w' ⟨?_, HB.2.grown g fun i hi => (HB.1.lt i hi).1⟩
  rw [byteCells_append] at own
  rw [List.length_append, hl]
  exact own

theorem five_keep {W u v : World} {a : Nat} {c0 c1 c2 c3 c4 : Value} (ha : a < W.heap.size)
    (h : u.cell? ⟨a, 0, none⟩ = some c0 ∧ u.cell? ⟨a, 1, none⟩ = some c1 ∧ u.cell? ⟨a, 2, none⟩ = some c2 ∧ u.cell? ⟨a, 3, none⟩ = some c3 ∧ u.cell? ⟨a, 4, none⟩ = some c4 ∧ Kept W u) (k : Kept u v) :
    v.cell? ⟨a, 0, none⟩ = some c0 ∧ v.cell? ⟨a, 1, none⟩ = some c1 ∧ v.cell? ⟨a, 2, none⟩ = some c2 ∧ v.cell? ⟨a, 3, none⟩ = some c3 ∧ v.cell? ⟨a, 4, none⟩ = some c4 ∧ Kept W v := by
  obtain ⟨h0, h1, h2, h3, h4, h5⟩ := h
  have := h5.size_le
  have hl : a < u.heap.size := by omega
  exact ⟨(k.cell (p := ⟨a, 0, none⟩) hl).trans h0, (k.cell (p := ⟨a, 1, none⟩) hl).trans h1, (k.cell (p := ⟨a, 2, none⟩) hl).trans h2, (k.cell (p := ⟨a, 3, none⟩) hl).trans h3, (k.cell (p := ⟨a, 4, none⟩) hl).trans h4, h5.trans k⟩

attribute [local go_sem ↓] Go.wp_at_zero Go.wp_at_succ
set_option maxHeartbeats 1600000 in
theorem refBlock_any (s f : Int) (p : Nat × Nat) (t : Nat) (w : World) (h4 : p.1 < 18446744073709551616) (h5 : p.2 < 18446744073709551616) (h6 : t < 18446744073709551616) :
    Calls Try.prog 11 #[.agg #[.int .i64 s, .int .i64 f, .int .u64 p.1, .int .u64 p.2, .int .u64 t]] w (PutEnd w (blockPut s f p t)) := by
  cases hm : made s f
  · rw [blockPut_no hm]
    have HM := Lib.hid hm
    clear hm
    go_enter Try.func11, Try.ntmps11
    go_wp2_with fail
    refine (refMade_any s f _).mono ?_
    rintro e w' ⟨rfl, rfl⟩
    rw [HM.out]
    go_wp2_with fail
    go_ret2
    exact ⟨_, rfl, Bytes.nil ((Kept.refl w).alloc _)⟩
  · rw [blockPut_yes hm]
    have HM := Lib.hid hm
    obtain ⟨m, n, rfl, rfl, h1, h2, h3⟩ := made_nat hm
    clear hm
    simp only [Int.toNat_natCast]
    go_enter Try.func11, Try.ntmps11
    go_wp2_with fail
    refine (refMade_any m n _).mono ?_
    rintro e w' ⟨rfl, rfl⟩
    rw [HM.out]
    go_wp2_with fail
    have KW : Kept w (w.alloc (.cells #[.int .i64 (m : Nat), .int .i64 (n : Nat), .int .u64 p.1, .int .u64 p.2, .int .u64 t] 26)) := (Kept.refl w).alloc _
    have HB := Lib.hid (HasCells.new w #[.int .i64 (m : Nat), .int .i64 (n : Nat), .int .u64 p.1, .int .u64 p.2, .int .u64 t] 26 w.heap.size rfl)
    generalize (w.alloc (.cells #[.int .i64 (m : Nat), .int .i64 (n : Nat), .int .u64 p.1, .int .u64 p.2, .int .u64 t] 26)) = W at *
    have KWH := Lib.hid KW
    clear KW
    generalize w.heap.size = z at *
    obtain ⟨c0, c1, c2, c3, c4⟩ := HB.out.five
    have hz := HB.out.1
    go_region_held3 (fun w' => w'.cell? ⟨z, 0, none⟩ = some (.int .i64 (m : Nat)) ∧ w'.cell? ⟨z, 1, none⟩ = some (.int .i64 (n : Nat)) ∧ w'.cell? ⟨z, 2, none⟩ = some (.int .u64 p.1) ∧ w'.cell? ⟨z, 3, none⟩ = some (.int .u64 p.2) ∧ w'.cell? ⟨z, 4, none⟩ = some (.int .u64 t) ∧ Kept W w')
      (first | exact ⟨c0, c1, c2, c3, c4, Kept.refl _⟩ | exact ⟨c0, c1, c2, c3, c4, (Kept.refl _).drew⟩ | assumption | exact five_keep hz (by assumption) (by assumption) | exact five_keep hz ⟨c0, c1, c2, c3, c4, Kept.refl _⟩ bK)
      (first
        | (go_at_call 20; refine (refHead_src 1 m n p _ (by omega) (by omega) (by omega) h4 h5).mono ?_; rintro e w' ⟨hA, hc, rfl, hC, hN⟩; have hK := hN.2)
        | (go_at_call 21; refine (refNumber_src t 8 _ (by omega) h6).mono ?_; rintro e w' ⟨nA, nc, rfl, nC, nN⟩; have nK := nN.2)
        | (refine step_bytes _ (by rfl) (.tmp 18) (.tmp 21) (by rfl) _ (headL 1 m n p) (.slice hA 22 hc) (by rfl) (hN.kept nK) _ nA 8 nc (byteL 8 t) (by rfl) (by simp) nC (by simp) ?_; intro v3 w3 b3; have bK := Kept.trans (show Kept W _ by first | exact Kept.refl _ | exact (Kept.refl _).drew) b3.2))
    have H3 := Lib.hid (show Bytes w (blockL m n p t) v3 w3 from Bytes.mono b3 (KWH.out.trans (by first | exact Kept.refl _ | exact (Kept.refl _).drew)))
    clear b3 bK hN nN hK nK hC nC
    go_wp2_with fail
    go_ret2
    exact ⟨_, rfl, H3.out⟩

end Go.Proofs.Ytfbjiepnhfgmfaa
