/-
  The given package's state of a view that takes: its six cells, its five rows, each apart from the others; what changes where one grows.
-/
import Derived.Test.YtacdiicnfoejoaaViewBox
import Derived.Test.YtacdiicnfoejoaaViewFacts
import Derived.Test.YtacdiicnfoejoaaTreeG
namespace Go.Proofs.Ytacdiicnfoejoaa
set_option maxRecDepth 100000
set_option linter.unusedVariables false
set_option linter.unusedSimpArgs false
set_option linter.unusedSimpArgs false
set_option linter.unusedVariables false
open Go.ChangeShapes Go.WideShapes Go.ChangeAt Go.RowKit

/-- Two rows lie in two blocks. -/
def ApartS (A C : Option Addr) : Prop := ∀ x y, A = some x → C = some y → x.block ≠ y.block
theorem ApartS.symm {A C : Option Addr} (h : ApartS A C) : ApartS C A := fun x y hx hy e => h y x hy hx e.symm
theorem ApartS.own {A C : Option Addr} (h : ApartS A C) (n m c d : Nat) : ∀ b, (Value.slice C n c).ownBlock = some b → some b ≠ (Value.slice A m d).ownBlock := by
  intro b e q
  cases hC : C with
  | none => subst hC; cases e
  | some y =>
    subst hC
    cases hA : A with
    | none => subst hA; cases q
    | some x =>
      subst hA
      injection e with e
      injection q with q
      exact h x y rfl rfl (by rw [← q, ← e])
theorem ApartS.none (C : Option Addr) : ApartS .none C := fun x y hx => by cases hx
/-- A row that has grown lies where it lay, or in a new block: apart from what was there. -/
theorem ApartS.grown {A A' C : Option Addr} {n n' m c c' d : Nat} (h : ApartS A C) {w : World} {base : Nat} {e : TypeId} {size k : Nat} {xs : List Value} (hC : w.ownsRow base e size (.slice C m d) k xs) (hloc : (Value.slice A' n' c').ownBlock = (Value.slice A n c).ownBlock ∨ (Value.slice A' n' c').ownBlock = some w.heap.size) : ApartS A' C := by
  intro x y hx hy q
  subst hx hy
  rcases hloc with e1 | e1
  · cases A with
    | none => cases e1
    | some z =>
      injection e1 with e1
      exact h z y rfl rfl (by rw [← e1]; exact q)
  · injection e1 with e1
    have := (hC.lt y.block rfl).2
    omega
section
variable {W : World} {z : Nat} {b : List Bk} {v : List Vt} {ib : List Bk} {iv : List Vt} {nl : List Id2} {f : Bool} {A : Option Addr} {c : Nat} {B : Option Addr} {d : Nat} {C : Option Addr} {a : Nat} {D : Option Addr} {e : Nat} {N : Option Addr} {g : Nat} {w w' : World}
theorem ids_past_box {l : List Id2} {x : Value} (h : Ids W l x w) {ys : Array Value} {t : TypeId} (hz : AtB w z ys t) (ht : t ≠ 39) (hW : W.heap.size ≤ z) (j : Nat) (u : Value) : Ids W l x (w.setCell ⟨z, j, .none⟩ u) :=
  ⟨own_past_box h.1 hz ht j u, h.2.setCell (p := ⟨z, j, .none⟩) hW u⟩
end

end Go.Proofs.Ytacdiicnfoejoaa
