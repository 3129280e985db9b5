/-
  No cell of these rows narrows 'for every input' (looked for: loops, veiled, ifaces, maps, wideKeys, modest, calm, conditions, laid).
  DERIVED. THE GIVEN ROWS OF THIS SEAT. 6 by the template 'for every input the law returns true; each argument reads behind the call as it read before'; 0 by the template 'total and deterministic' (their statements: YthaofomhlmajbaaTotals.lean).
  GIVEN WITH THE SEED: the statements are not yours to turn. If you find one false, say at which input.
  Laid BY PROGRAM, IN A SANDBOX (cutbox-rows.mjs): the forced cells as the released guide's own fill.sh prints them over the translation d3ac5ab907842254… (all of the seat's roots in one cut). By AI agents, Wed Nov 11 2026. No macro, syntax, notation, axiom, sorry.
-/
import Derived.Test.YthaofomhlmajbaaChecked
import GoSem.Claim
import GoSem.ClaimJoined
import GoSem.ClaimMapViews
import Derived.JoinedTies
import Derived.KernelRfl
namespace Go.Proofs.Ythaofomhlmajbaa
/- THE CELL 'sum', in the pinned program and in every row, IS THE sha256 OF THE DUMP (.gsa) THAT YthaofomhlmajbaaProg.lean LOADS. Nothing in Lean hashes anything: it is a label: what it is worth is what the hold of that sum in a sandbox is worth. -/
noncomputable def Try.pinned : Pinned := { name := "ythaofomhlmajbaa", sum := "d3ac5ab907842254fcc39eda50263bcbe6f5fc04f4db0ad683b9fceb3e6da427", checked := Try.checked }
namespace Rows
def none {H : Type} : Left H := { results := [], args := [] }

/-- 'marigoldlaw12.SlashTells': WHATEVER THE INPUT: true; the input reads as it did. -/
def slashTellsSpec : ChangeSpec := { name := "slashTells", fn := fun _ => fun
  | [d1, d2, d3] => { results := [.lit (.bool true)], args := [d1, d2, d3] }
  | _ => none }
def slashTellsRow : OpenClaim := { program := "ythaofomhlmajbaa", sum := "d3ac5ab907842254fcc39eda50263bcbe6f5fc04f4db0ad683b9fceb3e6da427", func := "marigold/marigoldlaw12.SlashTells", spec := "slashTells", unfollowed := true, recurses := true, plainKeys := false, apart := false }
def SlashTellsSaid : Prop := slashTellsRow.holds Try.pinned (OpenSpec.ofChange slashTellsSpec)

/-- ITS FALSE NEIGHBOUR: 'it returns false'. Refute it at one input. -/
def slashTellsWrong : ChangeSpec := { name := "slashTells", fn := fun _ => fun
  | [d1, d2, d3] => { results := [.lit (.bool false)], args := [d1, d2, d3] }
  | _ => none }
def SlashTellsWrongFalsely : Prop := slashTellsRow.holds Try.pinned (OpenSpec.ofChange slashTellsWrong)

/-- 'marigoldlaw12.SlashBoth': WHATEVER THE INPUT: true; the input reads as it did. -/
def slashBothSpec : ChangeSpec := { name := "slashBoth", fn := fun _ => fun
  | [d1, d2, d3] => { results := [.lit (.bool true)], args := [d1, d2, d3] }
  | _ => none }
def slashBothRow : OpenClaim := { program := "ythaofomhlmajbaa", sum := "d3ac5ab907842254fcc39eda50263bcbe6f5fc04f4db0ad683b9fceb3e6da427", func := "marigold/marigoldlaw12.SlashBoth", spec := "slashBoth", unfollowed := true, recurses := true, plainKeys := false, apart := false }
def SlashBothSaid : Prop := slashBothRow.holds Try.pinned (OpenSpec.ofChange slashBothSpec)

/-- ITS FALSE NEIGHBOUR: 'it returns false'. Refute it at one input. -/
def slashBothWrong : ChangeSpec := { name := "slashBoth", fn := fun _ => fun
  | [d1, d2, d3] => { results := [.lit (.bool false)], args := [d1, d2, d3] }
  | _ => none }
def SlashBothWrongFalsely : Prop := slashBothRow.holds Try.pinned (OpenSpec.ofChange slashBothWrong)

/-- 'marigoldlaw12.SlashEpochs': WHATEVER THE INPUT: true; the input reads as it did. -/
def slashEpochsSpec : ChangeSpec := { name := "slashEpochs", fn := fun _ => fun
  | [d1, d2, d3] => { results := [.lit (.bool true)], args := [d1, d2, d3] }
  | _ => none }
def slashEpochsRow : OpenClaim := { program := "ythaofomhlmajbaa", sum := "d3ac5ab907842254fcc39eda50263bcbe6f5fc04f4db0ad683b9fceb3e6da427", func := "marigold/marigoldlaw12.SlashEpochs", spec := "slashEpochs", unfollowed := true, recurses := true, plainKeys := false, apart := false }
def SlashEpochsSaid : Prop := slashEpochsRow.holds Try.pinned (OpenSpec.ofChange slashEpochsSpec)

/-- ITS FALSE NEIGHBOUR: 'it returns false'. Refute it at one input. -/
def slashEpochsWrong : ChangeSpec := { name := "slashEpochs", fn := fun _ => fun
  | [d1, d2, d3] => { results := [.lit (.bool false)], args := [d1, d2, d3] }
  | _ => none }
def SlashEpochsWrongFalsely : Prop := slashEpochsRow.holds Try.pinned (OpenSpec.ofChange slashEpochsWrong)

/-- 'marigoldlaw12.SlashRising': WHATEVER THE INPUT: true; the input reads as it did. -/
def slashRisingSpec : ChangeSpec := { name := "slashRising", fn := fun _ => fun
  | [d1, d2, d3] => { results := [.lit (.bool true)], args := [d1, d2, d3] }
  | _ => none }
def slashRisingRow : OpenClaim := { program := "ythaofomhlmajbaa", sum := "d3ac5ab907842254fcc39eda50263bcbe6f5fc04f4db0ad683b9fceb3e6da427", func := "marigold/marigoldlaw12.SlashRising", spec := "slashRising", unfollowed := true, recurses := true, plainKeys := false, apart := false }
def SlashRisingSaid : Prop := slashRisingRow.holds Try.pinned (OpenSpec.ofChange slashRisingSpec)

/-- ITS FALSE NEIGHBOUR: 'it returns false'. Refute it at one input. -/
def slashRisingWrong : ChangeSpec := { name := "slashRising", fn := fun _ => fun
  | [d1, d2, d3] => { results := [.lit (.bool false)], args := [d1, d2, d3] }
  | _ => none }
def SlashRisingWrongFalsely : Prop := slashRisingRow.holds Try.pinned (OpenSpec.ofChange slashRisingWrong)

/-- 'marigoldlaw12.SlashOwn': WHATEVER THE INPUT: true; the input reads as it did. -/
def slashOwnSpec : ChangeSpec := { name := "slashOwn", fn := fun _ => fun
  | [d1, d2] => { results := [.lit (.bool true)], args := [d1, d2] }
  | _ => none }
def slashOwnRow : OpenClaim := { program := "ythaofomhlmajbaa", sum := "d3ac5ab907842254fcc39eda50263bcbe6f5fc04f4db0ad683b9fceb3e6da427", func := "marigold/marigoldlaw12.SlashOwn", spec := "slashOwn", unfollowed := true, recurses := true, plainKeys := false, apart := false }
def SlashOwnSaid : Prop := slashOwnRow.holds Try.pinned (OpenSpec.ofChange slashOwnSpec)

/-- ITS FALSE NEIGHBOUR: 'it returns false'. Refute it at one input. -/
def slashOwnWrong : ChangeSpec := { name := "slashOwn", fn := fun _ => fun
  | [d1, d2] => { results := [.lit (.bool false)], args := [d1, d2] }
  | _ => none }
def SlashOwnWrongFalsely : Prop := slashOwnRow.holds Try.pinned (OpenSpec.ofChange slashOwnWrong)

/-- 'marigoldlaw12.SlashTwo': WHATEVER THE INPUT: true; the input reads as it did. -/
def slashTwoSpec : ChangeSpec := { name := "slashTwo", fn := fun _ => fun
  | [d1, d2, d3, d4, d5, d6] => { results := [.lit (.bool true)], args := [d1, d2, d3, d4, d5, d6] }
  | _ => none }
def slashTwoRow : OpenClaim := { program := "ythaofomhlmajbaa", sum := "d3ac5ab907842254fcc39eda50263bcbe6f5fc04f4db0ad683b9fceb3e6da427", func := "marigold/marigoldlaw12.SlashTwo", spec := "slashTwo", unfollowed := true, recurses := true, plainKeys := false, apart := false }
def SlashTwoSaid : Prop := slashTwoRow.holds Try.pinned (OpenSpec.ofChange slashTwoSpec)

/-- ITS FALSE NEIGHBOUR: 'it returns false'. Refute it at one input. -/
def slashTwoWrong : ChangeSpec := { name := "slashTwo", fn := fun _ => fun
  | [d1, d2, d3, d4, d5, d6] => { results := [.lit (.bool false)], args := [d1, d2, d3, d4, d5, d6] }
  | _ => none }
def SlashTwoWrongFalsely : Prop := slashTwoRow.holds Try.pinned (OpenSpec.ofChange slashTwoWrong)

/- THE SECOND FORM. 'bulk': how many values and letters a reading holds, each counted each time it is reached (what is shared counts as often as it is met; a slice's spare places count too). A statement '..UptoSaid' is the law's where the arguments, and the package variables that the reading takes, are together of bulk at most 1048576: NARROWER than '..Said'. Prove '..Said' where nothing that the law and all that it calls make is longer than what came in: it says more and counts as full. Else prove '..UptoSaid'. A law counts once. -/
mutual
def uptoBulk {H : Type} : DataW H → Nat
  | .lit (.string bytes) => bytes.length + 1
  | .lit _ => 1
  | .nil => 1
  | .ptr d => uptoBulk d + 1
  | .slice elems spare => uptoBulkAll elems + uptoBulkAll spare + 1
  | .agg parts => uptoBulkAll parts + 1
  | .iface _ d => uptoBulk d + 1
  | .map entries => uptoBulkEntries entries + 1
  | .held _ => 1
def uptoBulkAll {H : Type} : List (DataW H) → Nat
  | [] => 0
  | d :: r => uptoBulk d + uptoBulkAll r
def uptoBulkEntries {H : Type} : List (Lit × DataW H) → Nat
  | [] => 0
  | x :: r => uptoBulkEntry x + uptoBulkEntries r
def uptoBulkEntry {H : Type} : Lit × DataW H → Nat
  | (.string bytes, d) => bytes.length + uptoBulk d + 1
  | (_, d) => uptoBulk d + 1
 end
def uptoSmall : (H : Type) → List (DataW H) → Bool := fun _ ds => decide (uptoBulkAll ds ≤ 1048576)
def OpenSpec.upto (s : _root_.Go.ChangeSpec) : _root_.Go.OpenSpec := { _root_.Go.OpenSpec.ofChange s with cond := some uptoSmall }

/-- 'marigoldlaw12.SlashTells', WHERE WHAT IT READS IS OF BULK AT MOST 1048576: true; the input reads as it did. -/
def slashTellsUptoRow : OpenClaim := { program := "ythaofomhlmajbaa", sum := "d3ac5ab907842254fcc39eda50263bcbe6f5fc04f4db0ad683b9fceb3e6da427", func := "marigold/marigoldlaw12.SlashTells", spec := "slashTells", unfollowed := true, recurses := true, plainKeys := false, apart := false, narrowed := true }
def SlashTellsUptoSaid : Prop := slashTellsUptoRow.holds Try.pinned (OpenSpec.upto slashTellsSpec)

/-- 'marigoldlaw12.SlashBoth', WHERE WHAT IT READS IS OF BULK AT MOST 1048576: true; the input reads as it did. -/
def slashBothUptoRow : OpenClaim := { program := "ythaofomhlmajbaa", sum := "d3ac5ab907842254fcc39eda50263bcbe6f5fc04f4db0ad683b9fceb3e6da427", func := "marigold/marigoldlaw12.SlashBoth", spec := "slashBoth", unfollowed := true, recurses := true, plainKeys := false, apart := false, narrowed := true }
def SlashBothUptoSaid : Prop := slashBothUptoRow.holds Try.pinned (OpenSpec.upto slashBothSpec)

/-- 'marigoldlaw12.SlashEpochs', WHERE WHAT IT READS IS OF BULK AT MOST 1048576: true; the input reads as it did. -/
def slashEpochsUptoRow : OpenClaim := { program := "ythaofomhlmajbaa", sum := "d3ac5ab907842254fcc39eda50263bcbe6f5fc04f4db0ad683b9fceb3e6da427", func := "marigold/marigoldlaw12.SlashEpochs", spec := "slashEpochs", unfollowed := true, recurses := true, plainKeys := false, apart := false, narrowed := true }
def SlashEpochsUptoSaid : Prop := slashEpochsUptoRow.holds Try.pinned (OpenSpec.upto slashEpochsSpec)

/-- 'marigoldlaw12.SlashRising', WHERE WHAT IT READS IS OF BULK AT MOST 1048576: true; the input reads as it did. -/
def slashRisingUptoRow : OpenClaim := { program := "ythaofomhlmajbaa", sum := "d3ac5ab907842254fcc39eda50263bcbe6f5fc04f4db0ad683b9fceb3e6da427", func := "marigold/marigoldlaw12.SlashRising", spec := "slashRising", unfollowed := true, recurses := true, plainKeys := false, apart := false, narrowed := true }
def SlashRisingUptoSaid : Prop := slashRisingUptoRow.holds Try.pinned (OpenSpec.upto slashRisingSpec)

/-- 'marigoldlaw12.SlashOwn', WHERE WHAT IT READS IS OF BULK AT MOST 1048576: true; the input reads as it did. -/
def slashOwnUptoRow : OpenClaim := { program := "ythaofomhlmajbaa", sum := "d3ac5ab907842254fcc39eda50263bcbe6f5fc04f4db0ad683b9fceb3e6da427", func := "marigold/marigoldlaw12.SlashOwn", spec := "slashOwn", unfollowed := true, recurses := true, plainKeys := false, apart := false, narrowed := true }
def SlashOwnUptoSaid : Prop := slashOwnUptoRow.holds Try.pinned (OpenSpec.upto slashOwnSpec)

/-- 'marigoldlaw12.SlashTwo', WHERE WHAT IT READS IS OF BULK AT MOST 1048576: true; the input reads as it did. -/
def slashTwoUptoRow : OpenClaim := { program := "ythaofomhlmajbaa", sum := "d3ac5ab907842254fcc39eda50263bcbe6f5fc04f4db0ad683b9fceb3e6da427", func := "marigold/marigoldlaw12.SlashTwo", spec := "slashTwo", unfollowed := true, recurses := true, plainKeys := false, apart := false, narrowed := true }
def SlashTwoUptoSaid : Prop := slashTwoUptoRow.holds Try.pinned (OpenSpec.upto slashTwoSpec)

end Rows
end Go.Proofs.Ythaofomhlmajbaa
