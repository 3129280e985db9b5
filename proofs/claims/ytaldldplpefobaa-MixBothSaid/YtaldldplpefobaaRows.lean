/-
  No cell of these rows narrows 'for every input' (looked for: loops, veiled, ifaces, maps, wideKeys, modest, calm, conditions, laid).
  DERIVED. THE GIVEN ROWS OF THIS SEAT. 6 by the template 'for every input the law returns true; each argument reads behind the call as it read before'; 0 by the template 'total and deterministic' (their statements: YtaldldplpefobaaTotals.lean).
  GIVEN WITH THE SEED: the statements are not yours to turn. If you find one false, say at which input.
  Laid BY PROGRAM, IN A SANDBOX (cutbox-rows.mjs): the forced cells as the released guide's own fill.sh prints them over the translation 107773b398d9812e… (all of the seat's roots in one cut). By AI agents, Wed Nov 11 2026. No macro, syntax, notation, axiom, sorry.
-/
import Derived.Test.YtaldldplpefobaaChecked
import GoSem.Claim
import GoSem.ClaimJoined
import GoSem.ClaimMapViews
import Derived.JoinedTies
import Derived.KernelRfl
namespace Go.Proofs.Ytaldldplpefobaa
/- THE CELL 'sum', in the pinned program and in every row, IS THE sha256 OF THE DUMP (.gsa) THAT YtaldldplpefobaaProg.lean LOADS. Nothing in Lean hashes anything: it is a label: what it is worth is what the hold of that sum in a sandbox is worth. -/
noncomputable def Try.pinned : Pinned := { name := "ytaldldplpefobaa", sum := "107773b398d9812e3a1a454074d0989dea216e876ba7fd7b029d40f929fa76b7", checked := Try.checked }
namespace Rows
def none {H : Type} : Left H := { results := [], args := [] }

/-- 'marigoldlaw02.MixTells': WHATEVER THE INPUT: true; the input reads as it did. -/
def mixTellsSpec : ChangeSpec := { name := "mixTells", fn := fun _ => fun
  | [d1, d2, d3, d4, d5] => { results := [.lit (.bool true)], args := [d1, d2, d3, d4, d5] }
  | _ => none }
def mixTellsRow : OpenClaim := { program := "ytaldldplpefobaa", sum := "107773b398d9812e3a1a454074d0989dea216e876ba7fd7b029d40f929fa76b7", func := "marigold/marigoldlaw02.MixTells", spec := "mixTells", unfollowed := true, recurses := true, apart := false }
def MixTellsSaid : Prop := mixTellsRow.holds Try.pinned (OpenSpec.ofChange mixTellsSpec)

/-- ITS FALSE NEIGHBOUR: 'it returns false'. Refute it at one input. -/
def mixTellsWrong : ChangeSpec := { name := "mixTells", fn := fun _ => fun
  | [d1, d2, d3, d4, d5] => { results := [.lit (.bool false)], args := [d1, d2, d3, d4, d5] }
  | _ => none }
def MixTellsWrongFalsely : Prop := mixTellsRow.holds Try.pinned (OpenSpec.ofChange mixTellsWrong)

/-- 'marigoldlaw02.MixOnly': WHATEVER THE INPUT: true; the input reads as it did. -/
def mixOnlySpec : ChangeSpec := { name := "mixOnly", fn := fun _ => fun
  | [d1, d2, d3] => { results := [.lit (.bool true)], args := [d1, d2, d3] }
  | _ => none }
def mixOnlyRow : OpenClaim := { program := "ytaldldplpefobaa", sum := "107773b398d9812e3a1a454074d0989dea216e876ba7fd7b029d40f929fa76b7", func := "marigold/marigoldlaw02.MixOnly", spec := "mixOnly", unfollowed := true, recurses := true, apart := false }
def MixOnlySaid : Prop := mixOnlyRow.holds Try.pinned (OpenSpec.ofChange mixOnlySpec)

/-- ITS FALSE NEIGHBOUR: 'it returns false'. Refute it at one input. -/
def mixOnlyWrong : ChangeSpec := { name := "mixOnly", fn := fun _ => fun
  | [d1, d2, d3] => { results := [.lit (.bool false)], args := [d1, d2, d3] }
  | _ => none }
def MixOnlyWrongFalsely : Prop := mixOnlyRow.holds Try.pinned (OpenSpec.ofChange mixOnlyWrong)

/-- 'marigoldlaw02.MixOrder': WHATEVER THE INPUT: true; the input reads as it did. -/
def mixOrderSpec : ChangeSpec := { name := "mixOrder", fn := fun _ => fun
  | [d1, d2, d3] => { results := [.lit (.bool true)], args := [d1, d2, d3] }
  | _ => none }
def mixOrderRow : OpenClaim := { program := "ytaldldplpefobaa", sum := "107773b398d9812e3a1a454074d0989dea216e876ba7fd7b029d40f929fa76b7", func := "marigold/marigoldlaw02.MixOrder", spec := "mixOrder", unfollowed := true, recurses := true, apart := false }
def MixOrderSaid : Prop := mixOrderRow.holds Try.pinned (OpenSpec.ofChange mixOrderSpec)

/-- ITS FALSE NEIGHBOUR: 'it returns false'. Refute it at one input. -/
def mixOrderWrong : ChangeSpec := { name := "mixOrder", fn := fun _ => fun
  | [d1, d2, d3] => { results := [.lit (.bool false)], args := [d1, d2, d3] }
  | _ => none }
def MixOrderWrongFalsely : Prop := mixOrderRow.holds Try.pinned (OpenSpec.ofChange mixOrderWrong)

/-- 'marigoldlaw02.MixLast': WHATEVER THE INPUT: true; the input reads as it did. -/
def mixLastSpec : ChangeSpec := { name := "mixLast", fn := fun _ => fun
  | [d1, d2, d3] => { results := [.lit (.bool true)], args := [d1, d2, d3] }
  | _ => none }
def mixLastRow : OpenClaim := { program := "ytaldldplpefobaa", sum := "107773b398d9812e3a1a454074d0989dea216e876ba7fd7b029d40f929fa76b7", func := "marigold/marigoldlaw02.MixLast", spec := "mixLast", unfollowed := true, recurses := true, apart := false }
def MixLastSaid : Prop := mixLastRow.holds Try.pinned (OpenSpec.ofChange mixLastSpec)

/-- ITS FALSE NEIGHBOUR: 'it returns false'. Refute it at one input. -/
def mixLastWrong : ChangeSpec := { name := "mixLast", fn := fun _ => fun
  | [d1, d2, d3] => { results := [.lit (.bool false)], args := [d1, d2, d3] }
  | _ => none }
def MixLastWrongFalsely : Prop := mixLastRow.holds Try.pinned (OpenSpec.ofChange mixLastWrong)

/-- 'marigoldlaw02.MixBoth': WHATEVER THE INPUT: true; the input reads as it did. -/
def mixBothSpec : ChangeSpec := { name := "mixBoth", fn := fun _ => fun
  | [d1, d2, d3] => { results := [.lit (.bool true)], args := [d1, d2, d3] }
  | _ => none }
def mixBothRow : OpenClaim := { program := "ytaldldplpefobaa", sum := "107773b398d9812e3a1a454074d0989dea216e876ba7fd7b029d40f929fa76b7", func := "marigold/marigoldlaw02.MixBoth", spec := "mixBoth", unfollowed := true, recurses := true, apart := false }
def MixBothSaid : Prop := mixBothRow.holds Try.pinned (OpenSpec.ofChange mixBothSpec)

/-- ITS FALSE NEIGHBOUR: 'it returns false'. Refute it at one input. -/
def mixBothWrong : ChangeSpec := { name := "mixBoth", fn := fun _ => fun
  | [d1, d2, d3] => { results := [.lit (.bool false)], args := [d1, d2, d3] }
  | _ => none }
def MixBothWrongFalsely : Prop := mixBothRow.holds Try.pinned (OpenSpec.ofChange mixBothWrong)

/-- 'marigoldlaw02.MixFirst': WHATEVER THE INPUT: true; the input reads as it did. -/
def mixFirstSpec : ChangeSpec := { name := "mixFirst", fn := fun _ => fun
  | [d1, d2] => { results := [.lit (.bool true)], args := [d1, d2] }
  | _ => none }
def mixFirstRow : OpenClaim := { program := "ytaldldplpefobaa", sum := "107773b398d9812e3a1a454074d0989dea216e876ba7fd7b029d40f929fa76b7", func := "marigold/marigoldlaw02.MixFirst", spec := "mixFirst", unfollowed := true, recurses := true, apart := false }
def MixFirstSaid : Prop := mixFirstRow.holds Try.pinned (OpenSpec.ofChange mixFirstSpec)

/-- ITS FALSE NEIGHBOUR: 'it returns false'. Refute it at one input. -/
def mixFirstWrong : ChangeSpec := { name := "mixFirst", fn := fun _ => fun
  | [d1, d2] => { results := [.lit (.bool false)], args := [d1, d2] }
  | _ => none }
def MixFirstWrongFalsely : Prop := mixFirstRow.holds Try.pinned (OpenSpec.ofChange mixFirstWrong)

/- THE SECOND FORM. 'bulk': how many values and letters a reading holds, each counted each time it is reached (what is shared counts as often as it is met; a slice's spare places count too). A statement '..UptoSaid' is the law's where the arguments, and the package variables that the reading takes, are together of bulk at most 1048576: NARROWER than '..Said'. Prove '..Said' where nothing that the law and all that it calls make is longer than what came in: it says more and counts as full. Else prove '..UptoSaid'. A law counts once. -/
mutual
def uptoBulk {H : Type} : DataW H → Nat
  | .lit (.string bytes) => bytes.length + 1
  | .lit _ => 1
  | .nil => 1
  | .ptr d => uptoBulk d + 1
  | .slice elems spare => uptoBulkAll elems + uptoBulkAll spare + 1
  | .agg parts => uptoBulkAll parts + 1
  | .iface _ d => uptoBulk d + 1
  | .map entries => uptoBulkEntries entries + 1
  | .held _ => 1
def uptoBulkAll {H : Type} : List (DataW H) → Nat
  | [] => 0
  | d :: r => uptoBulk d + uptoBulkAll r
def uptoBulkEntries {H : Type} : List (Lit × DataW H) → Nat
  | [] => 0
  | x :: r => uptoBulkEntry x + uptoBulkEntries r
def uptoBulkEntry {H : Type} : Lit × DataW H → Nat
  | (.string bytes, d) => bytes.length + uptoBulk d + 1
  | (_, d) => uptoBulk d + 1
 end
def uptoSmall : (H : Type) → List (DataW H) → Bool := fun _ ds => decide (uptoBulkAll ds ≤ 1048576)
def OpenSpec.upto (s : _root_.Go.ChangeSpec) : _root_.Go.OpenSpec := { _root_.Go.OpenSpec.ofChange s with cond := some uptoSmall }

/-- 'marigoldlaw02.MixTells', WHERE WHAT IT READS IS OF BULK AT MOST 1048576: true; the input reads as it did. -/
def mixTellsUptoRow : OpenClaim := { program := "ytaldldplpefobaa", sum := "107773b398d9812e3a1a454074d0989dea216e876ba7fd7b029d40f929fa76b7", func := "marigold/marigoldlaw02.MixTells", spec := "mixTells", unfollowed := true, recurses := true, apart := false, narrowed := true }
def MixTellsUptoSaid : Prop := mixTellsUptoRow.holds Try.pinned (OpenSpec.upto mixTellsSpec)

/-- 'marigoldlaw02.MixOnly', WHERE WHAT IT READS IS OF BULK AT MOST 1048576: true; the input reads as it did. -/
def mixOnlyUptoRow : OpenClaim := { program := "ytaldldplpefobaa", sum := "107773b398d9812e3a1a454074d0989dea216e876ba7fd7b029d40f929fa76b7", func := "marigold/marigoldlaw02.MixOnly", spec := "mixOnly", unfollowed := true, recurses := true, apart := false, narrowed := true }
def MixOnlyUptoSaid : Prop := mixOnlyUptoRow.holds Try.pinned (OpenSpec.upto mixOnlySpec)

/-- 'marigoldlaw02.MixOrder', WHERE WHAT IT READS IS OF BULK AT MOST 1048576: true; the input reads as it did. -/
def mixOrderUptoRow : OpenClaim := { program := "ytaldldplpefobaa", sum := "107773b398d9812e3a1a454074d0989dea216e876ba7fd7b029d40f929fa76b7", func := "marigold/marigoldlaw02.MixOrder", spec := "mixOrder", unfollowed := true, recurses := true, apart := false, narrowed := true }
def MixOrderUptoSaid : Prop := mixOrderUptoRow.holds Try.pinned (OpenSpec.upto mixOrderSpec)

/-- 'marigoldlaw02.MixLast', WHERE WHAT IT READS IS OF BULK AT MOST 1048576: true; the input reads as it did. -/
def mixLastUptoRow : OpenClaim := { program := "ytaldldplpefobaa", sum := "107773b398d9812e3a1a454074d0989dea216e876ba7fd7b029d40f929fa76b7", func := "marigold/marigoldlaw02.MixLast", spec := "mixLast", unfollowed := true, recurses := true, apart := false, narrowed := true }
def MixLastUptoSaid : Prop := mixLastUptoRow.holds Try.pinned (OpenSpec.upto mixLastSpec)

/-- 'marigoldlaw02.MixBoth', WHERE WHAT IT READS IS OF BULK AT MOST 1048576: true; the input reads as it did. -/
def mixBothUptoRow : OpenClaim := { program := "ytaldldplpefobaa", sum := "107773b398d9812e3a1a454074d0989dea216e876ba7fd7b029d40f929fa76b7", func := "marigold/marigoldlaw02.MixBoth", spec := "mixBoth", unfollowed := true, recurses := true, apart := false, narrowed := true }
def MixBothUptoSaid : Prop := mixBothUptoRow.holds Try.pinned (OpenSpec.upto mixBothSpec)

/-- 'marigoldlaw02.MixFirst', WHERE WHAT IT READS IS OF BULK AT MOST 1048576: true; the input reads as it did. -/
def mixFirstUptoRow : OpenClaim := { program := "ytaldldplpefobaa", sum := "107773b398d9812e3a1a454074d0989dea216e876ba7fd7b029d40f929fa76b7", func := "marigold/marigoldlaw02.MixFirst", spec := "mixFirst", unfollowed := true, recurses := true, apart := false, narrowed := true }
def MixFirstUptoSaid : Prop := mixFirstUptoRow.holds Try.pinned (OpenSpec.upto mixFirstSpec)

end Rows
end Go.Proofs.Ytaldldplpefobaa
