/-
  A conf's box held over a region that draws its order; epochs of one slot.
-/
import Derived.Test.YtdidmgmfjfnliaaDutyAwake
namespace Go.Proofs.Ytdidmgmfjfnliaa
open Go.ChangeShapes Go.WideShapes Go.ChangeAt Go.RowKit

theorem five_keep {W w w' : World} {b : Nat} {x0 x1 x2 x3 x4 : Value} (hb : b < W.heap.size)
    (h : w.cell? ⟨b, 0, none⟩ = some x0 ∧ w.cell? ⟨b, 1, none⟩ = some x1 ∧ w.cell? ⟨b, 2, none⟩ = some x2 ∧ w.cell? ⟨b, 3, none⟩ = some x3 ∧ w.cell? ⟨b, 4, none⟩ = some x4 ∧ Kept W w) (k : Kept w w') :
    w'.cell? ⟨b, 0, none⟩ = some x0 ∧ w'.cell? ⟨b, 1, none⟩ = some x1 ∧ w'.cell? ⟨b, 2, none⟩ = some x2 ∧ w'.cell? ⟨b, 3, none⟩ = some x3 ∧ w'.cell? ⟨b, 4, none⟩ = some x4 ∧ Kept W w' := by
  obtain ⟨h0, h1, h2, h3, h4, hk⟩ := h
  have hb' : b < w.heap.size := Nat.lt_of_lt_of_le hb hk.size_le
  exact ⟨(k.cell (p := ⟨b, 0, none⟩) hb').trans h0, (k.cell (p := ⟨b, 1, none⟩) hb').trans h1, (k.cell (p := ⟨b, 2, none⟩) hb').trans h2, (k.cell (p := ⟨b, 3, none⟩) hb').trans h3, (k.cell (p := ⟨b, 4, none⟩) hb').trans h4, hk.trans k⟩

theorem ten_keep {W w w' : World} {b d : Nat} {x0 x1 x2 x3 x4 y0 y1 y2 y3 y4 : Value} (hb : b < W.heap.size) (hd : d < W.heap.size)
    (h : w.cell? ⟨b, 0, none⟩ = some x0 ∧ w.cell? ⟨b, 1, none⟩ = some x1 ∧ w.cell? ⟨b, 2, none⟩ = some x2 ∧ w.cell? ⟨b, 3, none⟩ = some x3 ∧ w.cell? ⟨b, 4, none⟩ = some x4 ∧
      w.cell? ⟨d, 0, none⟩ = some y0 ∧ w.cell? ⟨d, 1, none⟩ = some y1 ∧ w.cell? ⟨d, 2, none⟩ = some y2 ∧ w.cell? ⟨d, 3, none⟩ = some y3 ∧ w.cell? ⟨d, 4, none⟩ = some y4 ∧ Kept W w) (k : Kept w w') :
    w'.cell? ⟨b, 0, none⟩ = some x0 ∧ w'.cell? ⟨b, 1, none⟩ = some x1 ∧ w'.cell? ⟨b, 2, none⟩ = some x2 ∧ w'.cell? ⟨b, 3, none⟩ = some x3 ∧ w'.cell? ⟨b, 4, none⟩ = some x4 ∧
      w'.cell? ⟨d, 0, none⟩ = some y0 ∧ w'.cell? ⟨d, 1, none⟩ = some y1 ∧ w'.cell? ⟨d, 2, none⟩ = some y2 ∧ w'.cell? ⟨d, 3, none⟩ = some y3 ∧ w'.cell? ⟨d, 4, none⟩ = some y4 ∧ Kept W w' := by
  obtain ⟨h0, h1, h2, h3, h4, g0, g1, g2, g3, g4, hk⟩ := h
  obtain ⟨r0, r1, r2, r3, r4, rk⟩ := five_keep hb ⟨h0, h1, h2, h3, h4, hk⟩ k
  obtain ⟨s0, s1, s2, s3, s4, _⟩ := five_keep hd ⟨g0, g1, g2, g3, g4, hk⟩ k
  exact ⟨r0, r1, r2, r3, r4, s0, s1, s2, s3, s4, rk⟩

/-! ### Epochs of one slot -/
theorem commTo_all {p : Nat → Bool} (h : ∀ j, p j = true) (n : Nat) : (commTo p n).length = n := by
  induction n with
  | zero => rfl
  | succ n ih => rw [commTo_hit (h n), List.length_append, ih]; rfl
theorem all_mem {k : Cf} {slot : Int} (h1 : k.ep = 1) (j : Nat) : memC k slot j = true := by
  unfold memC
  rw [h1]
  exact mem_one _ _ _ _
theorem all_comm {k : Cf} {slot : Int} (hd : dutyC k slot = true) (h1 : k.ep = 1) : (commC k slot).length = k.ws.length := by
  rw [commC_yes hd]
  exact commTo_all (all_mem h1) _
theorem all_in {k : Cf} {slot : Int} (hd : dutyC k slot = true) (h1 : k.ep = 1) (who : Int) : inC k slot who = validC k who := by
  cases h : validC k who with
  | true => rw [inC_yes hd h]; exact all_mem h1 _
  | false => exact inC_out h

theorem comm_len (k : Cf) (slot : Int) : (commC k slot).length ≤ 1000000 := by
  cases h : dutyC k slot with
  | false => rw [commC_no h]; simp
  | true =>
    rw [commC_yes h]
    have := commTo_length (memC k slot) k.ws.length
    have := (mayC_yes (dutyC_yes h).1).2.1
    omega

end Go.Proofs.Ytdidmgmfjfnliaa
