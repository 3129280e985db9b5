/-
  The contracts of ffg's hasMiddle, isFinal, and their closures.
-/
import Derived.Test.YthaofomhlmajbaaFfgIndex
import Derived.Test.YthaofomhlmajbaaFfgEpoch
import Derived.Test.YthaofomhlmajbaaFfgThrough
import Derived.Test.YthaofomhlmajbaaFfgUnder
namespace Go.Proofs.Ythaofomhlmajbaa
set_option maxRecDepth 100000
set_option linter.unusedVariables false
set_option linter.unusedSimpArgs false
set_option linter.unusedSimpArgs false
set_option linter.unusedVariables false
open Go.ChangeShapes Go.WideShapes Go.ChangeAt Go.RowKit

theorem w64_wrap (a : Int) : W64 (IntKind.i64.wrap a) := by rw [IntKind.wrap_i64]; exact ⟨by omega, by omega⟩
def midQ (g : Id2 → Option (Nat × Nat)) (one t m : Ck) : Bool := underR g one.r m.r && underR g m.r t.r
def midsQ (g : Id2 → Option (Nat × Nat)) (R : List Ck) (one t : Ck) : Bool := (epoF R (IntKind.i64.wrap (one.e + 1))).any (midQ g one t)
def finQ (g : Id2 → Option (Nat × Nat)) (R : List Ck) (one t : Ck) : Bool := if IntKind.i64.wrap (t.e - one.e) = 1 then true else if IntKind.i64.wrap (t.e - one.e) = 2 then midsQ g R one t else false
def isFinQ (g : Id2 → Option (Nat × Nat)) (R : List Ck) (A : List (Ck × Ck)) (one : Ck) : Bool := sameK one firstK || (goesOf A one).any (finQ g R one)
/-- What Final asks about each checkpoint. -/
structure Stand (bo mo : Nat) (g : Id2 → Option (Nat × Nat)) (bg mg Bg : Nat) (A : List (Ck × Ck)) (bj mj Bj : Nat) (R : List Ck) (W : World) : Prop where
  on : ReachM bo mo g W
  goes : Group ckKey ckRow Bg (goesOf A) bg mg W
  just : Group epKey ckRow Bj (epoF R) bj mj W
  wa : ∀ x ∈ A, WfWay x
  wr : ∀ x ∈ R, WfK x
  la : A.length ≤ 10000
  lr : R.length ≤ 20000
theorem Stand.kept {bo mo : Nat} {g : Id2 → Option (Nat × Nat)} {bg mg Bg : Nat} {A : List (Ck × Ck)} {bj mj Bj : Nat} {R : List Ck} {W W' : World} (h : Stand bo mo g bg mg Bg A bj mj Bj R W) (k : Kept W W') : Stand bo mo g bg mg Bg A bj mj Bj R W' :=
  ⟨h.on.kept k, h.goes.kept k, h.just.kept k, h.wa, h.wr, h.la, h.lr⟩
theorem epoF_wf {R : List Ck} (h : ∀ x ∈ R, WfK x) (e : Int) : ∀ x ∈ epoF R e, WfK x := fun x hx => h x (List.mem_filter.1 hx).1
theorem goesOf_wf {A : List (Ck × Ck)} (h : ∀ x ∈ A, WfWay x) (s : Ck) : ∀ x ∈ goesOf A s, WfK x := fun x hx => (h _ (mem_goesOf.1 hx)).2

attribute [local go_sem high] eqKZ

end Go.Proofs.Ythaofomhlmajbaa
