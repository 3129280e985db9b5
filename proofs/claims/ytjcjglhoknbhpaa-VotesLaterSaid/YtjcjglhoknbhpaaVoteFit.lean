/-
  The closures of package votes that say which slots fit.
-/
import Derived.Test.YtjcjglhoknbhpaaVoteMap
namespace Go.Proofs.Ytjcjglhoknbhpaa
open Go.ChangeShapes Go.WideShapes Go.ChangeAt Go.RowKit

/-- Function g, bound to cb, says which slots fit. -/
def Fits (g : Nat) (cb : Array Value) (q : Int → Bool) (w : World) : Prop := ∀ W, Kept w W → ∀ x, Calls Try.prog g (#[.int .i64 x] ++ cb) W fun e w' => e = .returned (.bool (q x)) ∧ Kept W w'
theorem Fits.kept {g : Nat} {cb : Array Value} {q : Int → Bool} {w w' : World} (h : Fits g cb q w) (k : Kept w w') : Fits g cb q w' := fun W hW => h W (k.trans hW)
theorem isFit_any (z : Nat) (s x : Int) (w : World) (hc : HasCells w z [.int .i64 s]) :
    Calls Try.prog 28 #[.int .i64 x, .pointer (some ⟨z, 0, none⟩)] w fun e w' => e = .returned (.bool (isQ s x)) ∧ Kept w w' := by
  have c0 := hc.at0
  clear hc
  unfold isQ
  go_enter Try.func28, Try.ntmps28
  go_wp2_with fail
  go_ret
  exact ⟨rfl, Kept.refl _⟩
theorem upFit_any (z : Nat) (s x : Int) (w : World) (hc : HasCells w z [.int .i64 s]) :
    Calls Try.prog 27 #[.int .i64 x, .pointer (some ⟨z, 0, none⟩)] w fun e w' => e = .returned (.bool (upQ s x)) ∧ Kept w w' := by
  have c0 := hc.at0
  clear hc
  unfold upQ
  go_enter Try.func27, Try.ntmps27
  go_wp2_with fail
  go_ret
  exact ⟨rfl, Kept.refl _⟩
theorem isFits (z : Nat) (s : Int) (w : World) (hc : HasCells w z [.int .i64 s]) : Fits 28 #[.pointer (some ⟨z, 0, none⟩)] (isQ s) w := fun W hW x => isFit_any z s x W (hc.kept hW)
theorem upFits (z : Nat) (s : Int) (w : World) (hc : HasCells w z [.int .i64 s]) : Fits 27 #[.pointer (some ⟨z, 0, none⟩)] (upQ s) w := fun W hW x => upFit_any z s x W (hc.kept hW)
theorem only_any (s : Int) (w : World) :
    Calls Try.prog 22 #[.int .i64 s] w fun e w' => ∃ z, e = .returned (.func (.func 28) #[] #[.pointer (some ⟨z, 0, none⟩)]) ∧ HasCells w' z [.int .i64 s] ∧ Kept w w' := by
  go_enter Try.func22, Try.ntmps22
  go_wp2_with fail
  go_ret
  exact ⟨w.heap.size, rfl, HasCells.new w #[.int .i64 s] 3 w.heap.size rfl, (Kept.refl w).alloc _⟩

end Go.Proofs.Ytjcjglhoknbhpaa
