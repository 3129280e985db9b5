/-
  No cell of these rows narrows 'for every input' (looked for: loops, veiled, ifaces, maps, wideKeys, modest, calm, conditions, laid).
  DERIVED. THE GIVEN ROWS OF THIS SEAT. 8 by the template 'for every input the law returns true; each argument reads behind the call as it read before'; 0 by the template 'total and deterministic' (their statements: YtabmdilhfiembaaTotals.lean).
  GIVEN WITH THE SEED: the statements are not yours to turn. If you find one false, say at which input.
  Laid BY PROGRAM, IN A SANDBOX (cutbox-rows.mjs): the forced cells as the released guide's own fill.sh prints them over the translation dfe3f30e94108e0c… (all of the seat's roots in one cut). By AI agents, Wed Nov 11 2026. No macro, syntax, notation, axiom, sorry.
-/
import Derived.Test.YtabmdilhfiembaaChecked
import GoSem.Claim
import GoSem.ClaimJoined
import GoSem.ClaimMapViews
import Derived.JoinedTies
import Derived.KernelRfl
namespace Go.Proofs.Ytabmdilhfiembaa
/- THE CELL 'sum', in the pinned program and in every row, IS THE sha256 OF THE DUMP (.gsa) THAT YtabmdilhfiembaaProg.lean LOADS. Nothing in Lean hashes anything: it is a label: what it is worth is what the hold of that sum in a sandbox is worth. -/
noncomputable def Try.pinned : Pinned := { name := "ytabmdilhfiembaa", sum := "dfe3f30e94108e0c209490f95c786f29354a4c132672b59ac5ff6cea192bc28e", checked := Try.checked }
namespace Rows
def none {H : Type} : Left H := { results := [], args := [] }

/-- 'marigoldlaw09.GhostTells': WHATEVER THE INPUT: true; the input reads as it did. -/
def ghostTellsSpec : ChangeSpec := { name := "ghostTells", fn := fun _ => fun
  | [d1, d2, d3, d4] => { results := [.lit (.bool true)], args := [d1, d2, d3, d4] }
  | _ => none }
def ghostTellsRow : OpenClaim := { program := "ytabmdilhfiembaa", sum := "dfe3f30e94108e0c209490f95c786f29354a4c132672b59ac5ff6cea192bc28e", func := "marigold/marigoldlaw09.GhostTells", spec := "ghostTells", unfollowed := true, recurses := true, plainKeys := false, apart := false }
def GhostTellsSaid : Prop := ghostTellsRow.holds Try.pinned (OpenSpec.ofChange ghostTellsSpec)

/-- ITS FALSE NEIGHBOUR: 'it returns false'. Refute it at one input. -/
def ghostTellsWrong : ChangeSpec := { name := "ghostTells", fn := fun _ => fun
  | [d1, d2, d3, d4] => { results := [.lit (.bool false)], args := [d1, d2, d3, d4] }
  | _ => none }
def GhostTellsWrongFalsely : Prop := ghostTellsRow.holds Try.pinned (OpenSpec.ofChange ghostTellsWrong)

/-- 'marigoldlaw10.ArrayTells': WHATEVER THE INPUT: true; the input reads as it did. -/
def arrayTellsSpec : ChangeSpec := { name := "arrayTells", fn := fun _ => fun
  | [d1, d2, d3, d4] => { results := [.lit (.bool true)], args := [d1, d2, d3, d4] }
  | _ => none }
def arrayTellsRow : OpenClaim := { program := "ytabmdilhfiembaa", sum := "dfe3f30e94108e0c209490f95c786f29354a4c132672b59ac5ff6cea192bc28e", func := "marigold/marigoldlaw10.ArrayTells", spec := "arrayTells", unfollowed := true, recurses := true, plainKeys := false, apart := false }
def ArrayTellsSaid : Prop := arrayTellsRow.holds Try.pinned (OpenSpec.ofChange arrayTellsSpec)

/-- ITS FALSE NEIGHBOUR: 'it returns false'. Refute it at one input. -/
def arrayTellsWrong : ChangeSpec := { name := "arrayTells", fn := fun _ => fun
  | [d1, d2, d3, d4] => { results := [.lit (.bool false)], args := [d1, d2, d3, d4] }
  | _ => none }
def ArrayTellsWrongFalsely : Prop := arrayTellsRow.holds Try.pinned (OpenSpec.ofChange arrayTellsWrong)

/-- 'marigoldlaw10.ArrayFrom': WHATEVER THE INPUT: true; the input reads as it did. -/
def arrayFromSpec : ChangeSpec := { name := "arrayFrom", fn := fun _ => fun
  | [d1, d2, d3] => { results := [.lit (.bool true)], args := [d1, d2, d3] }
  | _ => none }
def arrayFromRow : OpenClaim := { program := "ytabmdilhfiembaa", sum := "dfe3f30e94108e0c209490f95c786f29354a4c132672b59ac5ff6cea192bc28e", func := "marigold/marigoldlaw10.ArrayFrom", spec := "arrayFrom", unfollowed := true, recurses := true, plainKeys := false, apart := false }
def ArrayFromSaid : Prop := arrayFromRow.holds Try.pinned (OpenSpec.ofChange arrayFromSpec)

/-- ITS FALSE NEIGHBOUR: 'it returns false'. Refute it at one input. -/
def arrayFromWrong : ChangeSpec := { name := "arrayFrom", fn := fun _ => fun
  | [d1, d2, d3] => { results := [.lit (.bool false)], args := [d1, d2, d3] }
  | _ => none }
def ArrayFromWrongFalsely : Prop := arrayFromRow.holds Try.pinned (OpenSpec.ofChange arrayFromWrong)

/-- 'marigoldlaw10.ArrayHead': WHATEVER THE INPUT: true; the input reads as it did. -/
def arrayHeadSpec : ChangeSpec := { name := "arrayHead", fn := fun _ => fun
  | [d1, d2, d3, d4] => { results := [.lit (.bool true)], args := [d1, d2, d3, d4] }
  | _ => none }
def arrayHeadRow : OpenClaim := { program := "ytabmdilhfiembaa", sum := "dfe3f30e94108e0c209490f95c786f29354a4c132672b59ac5ff6cea192bc28e", func := "marigold/marigoldlaw10.ArrayHead", spec := "arrayHead", unfollowed := true, recurses := true, plainKeys := false, apart := false }
def ArrayHeadSaid : Prop := arrayHeadRow.holds Try.pinned (OpenSpec.ofChange arrayHeadSpec)

/-- ITS FALSE NEIGHBOUR: 'it returns false'. Refute it at one input. -/
def arrayHeadWrong : ChangeSpec := { name := "arrayHead", fn := fun _ => fun
  | [d1, d2, d3, d4] => { results := [.lit (.bool false)], args := [d1, d2, d3, d4] }
  | _ => none }
def ArrayHeadWrongFalsely : Prop := arrayHeadRow.holds Try.pinned (OpenSpec.ofChange arrayHeadWrong)

/-- 'marigoldlaw10.ArrayBack': WHATEVER THE INPUT: true; the input reads as it did. -/
def arrayBackSpec : ChangeSpec := { name := "arrayBack", fn := fun _ => fun
  | [d1, d2, d3, d4] => { results := [.lit (.bool true)], args := [d1, d2, d3, d4] }
  | _ => none }
def arrayBackRow : OpenClaim := { program := "ytabmdilhfiembaa", sum := "dfe3f30e94108e0c209490f95c786f29354a4c132672b59ac5ff6cea192bc28e", func := "marigold/marigoldlaw10.ArrayBack", spec := "arrayBack", unfollowed := true, recurses := true, plainKeys := false, apart := false }
def ArrayBackSaid : Prop := arrayBackRow.holds Try.pinned (OpenSpec.ofChange arrayBackSpec)

/-- ITS FALSE NEIGHBOUR: 'it returns false'. Refute it at one input. -/
def arrayBackWrong : ChangeSpec := { name := "arrayBack", fn := fun _ => fun
  | [d1, d2, d3, d4] => { results := [.lit (.bool false)], args := [d1, d2, d3, d4] }
  | _ => none }
def ArrayBackWrongFalsely : Prop := arrayBackRow.holds Try.pinned (OpenSpec.ofChange arrayBackWrong)

/-- 'marigoldlaw10.ArrayLeaf': WHATEVER THE INPUT: true; the input reads as it did. -/
def arrayLeafSpec : ChangeSpec := { name := "arrayLeaf", fn := fun _ => fun
  | [d] => { results := [.lit (.bool true)], args := [d] }
  | _ => none }
def arrayLeafRow : OpenClaim := { program := "ytabmdilhfiembaa", sum := "dfe3f30e94108e0c209490f95c786f29354a4c132672b59ac5ff6cea192bc28e", func := "marigold/marigoldlaw10.ArrayLeaf", spec := "arrayLeaf", unfollowed := true, recurses := true, plainKeys := false, apart := false }
def ArrayLeafSaid : Prop := arrayLeafRow.holds Try.pinned (OpenSpec.ofChange arrayLeafSpec)

/-- ITS FALSE NEIGHBOUR: 'it returns false'. Refute it at one input. -/
def arrayLeafWrong : ChangeSpec := { name := "arrayLeaf", fn := fun _ => fun
  | [d] => { results := [.lit (.bool false)], args := [d] }
  | _ => none }
def ArrayLeafWrongFalsely : Prop := arrayLeafRow.holds Try.pinned (OpenSpec.ofChange arrayLeafWrong)

/-- 'marigoldlaw10.ArrayGrows': WHATEVER THE INPUT: true; the input reads as it did. -/
def arrayGrowsSpec : ChangeSpec := { name := "arrayGrows", fn := fun _ => fun
  | [d1, d2, d3] => { results := [.lit (.bool true)], args := [d1, d2, d3] }
  | _ => none }
def arrayGrowsRow : OpenClaim := { program := "ytabmdilhfiembaa", sum := "dfe3f30e94108e0c209490f95c786f29354a4c132672b59ac5ff6cea192bc28e", func := "marigold/marigoldlaw10.ArrayGrows", spec := "arrayGrows", unfollowed := true, recurses := true, plainKeys := false, apart := false }
def ArrayGrowsSaid : Prop := arrayGrowsRow.holds Try.pinned (OpenSpec.ofChange arrayGrowsSpec)

/-- ITS FALSE NEIGHBOUR: 'it returns false'. Refute it at one input. -/
def arrayGrowsWrong : ChangeSpec := { name := "arrayGrows", fn := fun _ => fun
  | [d1, d2, d3] => { results := [.lit (.bool false)], args := [d1, d2, d3] }
  | _ => none }
def ArrayGrowsWrongFalsely : Prop := arrayGrowsRow.holds Try.pinned (OpenSpec.ofChange arrayGrowsWrong)

/-- 'marigoldlaw10.ArrayMoves': WHATEVER THE INPUT: true; the input reads as it did. -/
def arrayMovesSpec : ChangeSpec := { name := "arrayMoves", fn := fun _ => fun
  | [d1, d2, d3] => { results := [.lit (.bool true)], args := [d1, d2, d3] }
  | _ => none }
def arrayMovesRow : OpenClaim := { program := "ytabmdilhfiembaa", sum := "dfe3f30e94108e0c209490f95c786f29354a4c132672b59ac5ff6cea192bc28e", func := "marigold/marigoldlaw10.ArrayMoves", spec := "arrayMoves", unfollowed := true, recurses := true, plainKeys := false, apart := false }
def ArrayMovesSaid : Prop := arrayMovesRow.holds Try.pinned (OpenSpec.ofChange arrayMovesSpec)

/-- ITS FALSE NEIGHBOUR: 'it returns false'. Refute it at one input. -/
def arrayMovesWrong : ChangeSpec := { name := "arrayMoves", fn := fun _ => fun
  | [d1, d2, d3] => { results := [.lit (.bool false)], args := [d1, d2, d3] }
  | _ => none }
def ArrayMovesWrongFalsely : Prop := arrayMovesRow.holds Try.pinned (OpenSpec.ofChange arrayMovesWrong)

/- THE SECOND FORM. 'bulk': how many values and letters a reading holds, each counted each time it is reached (what is shared counts as often as it is met; a slice's spare places count too). A statement '..UptoSaid' is the law's where the arguments, and the package variables that the reading takes, are together of bulk at most 1048576: NARROWER than '..Said'. Prove '..Said' where nothing that the law and all that it calls make is longer than what came in: it says more and counts as full. Else prove '..UptoSaid'. A law counts once. -/
mutual
def uptoBulk {H : Type} : DataW H → Nat
  | .lit (.string bytes) => bytes.length + 1
  | .lit _ => 1
  | .nil => 1
  | .ptr d => uptoBulk d + 1
  | .slice elems spare => uptoBulkAll elems + uptoBulkAll spare + 1
  | .agg parts => uptoBulkAll parts + 1
  | .iface _ d => uptoBulk d + 1
  | .map entries => uptoBulkEntries entries + 1
  | .held _ => 1
def uptoBulkAll {H : Type} : List (DataW H) → Nat
  | [] => 0
  | d :: r => uptoBulk d + uptoBulkAll r
def uptoBulkEntries {H : Type} : List (Lit × DataW H) → Nat
  | [] => 0
  | x :: r => uptoBulkEntry x + uptoBulkEntries r
def uptoBulkEntry {H : Type} : Lit × DataW H → Nat
  | (.string bytes, d) => bytes.length + uptoBulk d + 1
  | (_, d) => uptoBulk d + 1
 end
def uptoSmall : (H : Type) → List (DataW H) → Bool := fun _ ds => decide (uptoBulkAll ds ≤ 1048576)
def OpenSpec.upto (s : _root_.Go.ChangeSpec) : _root_.Go.OpenSpec := { _root_.Go.OpenSpec.ofChange s with cond := some uptoSmall }

/-- 'marigoldlaw09.GhostTells', WHERE WHAT IT READS IS OF BULK AT MOST 1048576: true; the input reads as it did. -/
def ghostTellsUptoRow : OpenClaim := { program := "ytabmdilhfiembaa", sum := "dfe3f30e94108e0c209490f95c786f29354a4c132672b59ac5ff6cea192bc28e", func := "marigold/marigoldlaw09.GhostTells", spec := "ghostTells", unfollowed := true, recurses := true, plainKeys := false, apart := false, narrowed := true }
def GhostTellsUptoSaid : Prop := ghostTellsUptoRow.holds Try.pinned (OpenSpec.upto ghostTellsSpec)

/-- 'marigoldlaw10.ArrayTells', WHERE WHAT IT READS IS OF BULK AT MOST 1048576: true; the input reads as it did. -/
def arrayTellsUptoRow : OpenClaim := { program := "ytabmdilhfiembaa", sum := "dfe3f30e94108e0c209490f95c786f29354a4c132672b59ac5ff6cea192bc28e", func := "marigold/marigoldlaw10.ArrayTells", spec := "arrayTells", unfollowed := true, recurses := true, plainKeys := false, apart := false, narrowed := true }
def ArrayTellsUptoSaid : Prop := arrayTellsUptoRow.holds Try.pinned (OpenSpec.upto arrayTellsSpec)

/-- 'marigoldlaw10.ArrayFrom', WHERE WHAT IT READS IS OF BULK AT MOST 1048576: true; the input reads as it did. -/
def arrayFromUptoRow : OpenClaim := { program := "ytabmdilhfiembaa", sum := "dfe3f30e94108e0c209490f95c786f29354a4c132672b59ac5ff6cea192bc28e", func := "marigold/marigoldlaw10.ArrayFrom", spec := "arrayFrom", unfollowed := true, recurses := true, plainKeys := false, apart := false, narrowed := true }
def ArrayFromUptoSaid : Prop := arrayFromUptoRow.holds Try.pinned (OpenSpec.upto arrayFromSpec)

/-- 'marigoldlaw10.ArrayHead', WHERE WHAT IT READS IS OF BULK AT MOST 1048576: true; the input reads as it did. -/
def arrayHeadUptoRow : OpenClaim := { program := "ytabmdilhfiembaa", sum := "dfe3f30e94108e0c209490f95c786f29354a4c132672b59ac5ff6cea192bc28e", func := "marigold/marigoldlaw10.ArrayHead", spec := "arrayHead", unfollowed := true, recurses := true, plainKeys := false, apart := false, narrowed := true }
def ArrayHeadUptoSaid : Prop := arrayHeadUptoRow.holds Try.pinned (OpenSpec.upto arrayHeadSpec)

/-- 'marigoldlaw10.ArrayBack', WHERE WHAT IT READS IS OF BULK AT MOST 1048576: true; the input reads as it did. -/
def arrayBackUptoRow : OpenClaim := { program := "ytabmdilhfiembaa", sum := "dfe3f30e94108e0c209490f95c786f29354a4c132672b59ac5ff6cea192bc28e", func := "marigold/marigoldlaw10.ArrayBack", spec := "arrayBack", unfollowed := true, recurses := true, plainKeys := false, apart := false, narrowed := true }
def ArrayBackUptoSaid : Prop := arrayBackUptoRow.holds Try.pinned (OpenSpec.upto arrayBackSpec)

/-- 'marigoldlaw10.ArrayLeaf', WHERE WHAT IT READS IS OF BULK AT MOST 1048576: true; the input reads as it did. -/
def arrayLeafUptoRow : OpenClaim := { program := "ytabmdilhfiembaa", sum := "dfe3f30e94108e0c209490f95c786f29354a4c132672b59ac5ff6cea192bc28e", func := "marigold/marigoldlaw10.ArrayLeaf", spec := "arrayLeaf", unfollowed := true, recurses := true, plainKeys := false, apart := false, narrowed := true }
def ArrayLeafUptoSaid : Prop := arrayLeafUptoRow.holds Try.pinned (OpenSpec.upto arrayLeafSpec)

/-- 'marigoldlaw10.ArrayGrows', WHERE WHAT IT READS IS OF BULK AT MOST 1048576: true; the input reads as it did. -/
def arrayGrowsUptoRow : OpenClaim := { program := "ytabmdilhfiembaa", sum := "dfe3f30e94108e0c209490f95c786f29354a4c132672b59ac5ff6cea192bc28e", func := "marigold/marigoldlaw10.ArrayGrows", spec := "arrayGrows", unfollowed := true, recurses := true, plainKeys := false, apart := false, narrowed := true }
def ArrayGrowsUptoSaid : Prop := arrayGrowsUptoRow.holds Try.pinned (OpenSpec.upto arrayGrowsSpec)

/-- 'marigoldlaw10.ArrayMoves', WHERE WHAT IT READS IS OF BULK AT MOST 1048576: true; the input reads as it did. -/
def arrayMovesUptoRow : OpenClaim := { program := "ytabmdilhfiembaa", sum := "dfe3f30e94108e0c209490f95c786f29354a4c132672b59ac5ff6cea192bc28e", func := "marigold/marigoldlaw10.ArrayMoves", spec := "arrayMoves", unfollowed := true, recurses := true, plainKeys := false, apart := false, narrowed := true }
def ArrayMovesUptoSaid : Prop := arrayMovesUptoRow.holds Try.pinned (OpenSpec.upto arrayMovesSpec)

end Rows
end Go.Proofs.Ytabmdilhfiembaa
