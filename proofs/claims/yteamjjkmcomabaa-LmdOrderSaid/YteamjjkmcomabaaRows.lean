/-
  No cell of these rows narrows 'for every input' (looked for: loops, veiled, ifaces, maps, wideKeys, modest, calm, conditions, laid).
  DERIVED. THE GIVEN ROWS OF THIS SEAT. 7 by the template 'for every input the law returns true; each argument reads behind the call as it read before'; 0 by the template 'total and deterministic' (their statements: YteamjjkmcomabaaTotals.lean).
  GIVEN WITH THE SEED: the statements are not yours to turn. If you find one false, say at which input.
  Laid BY PROGRAM, IN A SANDBOX (cutbox-rows.mjs): the forced cells as the released guide's own fill.sh prints them over the translation a429015bb560b372… (all of the seat's roots in one cut). By AI agents, Wed Nov 11 2026. No macro, syntax, notation, axiom, sorry.
-/
import Derived.Test.YteamjjkmcomabaaChecked
import GoSem.Claim
import GoSem.ClaimJoined
import GoSem.ClaimMapViews
import Derived.JoinedTies
import Derived.KernelRfl
namespace Go.Proofs.Yteamjjkmcomabaa
/- THE CELL 'sum', in the pinned program and in every row, IS THE sha256 OF THE DUMP (.gsa) THAT YteamjjkmcomabaaProg.lean LOADS. Nothing in Lean hashes anything: it is a label: what it is worth is what the hold of that sum in a sandbox is worth. -/
noncomputable def Try.pinned : Pinned := { name := "yteamjjkmcomabaa", sum := "a429015bb560b372be09ceb5b19dc95cf9bbe70c21c69e6923c80b79a0b6a2a1", checked := Try.checked }
namespace Rows
def none {H : Type} : Left H := { results := [], args := [] }

/-- 'marigoldlaw13.LmdTells': WHATEVER THE INPUT: true; the input reads as it did. -/
def lmdTellsSpec : ChangeSpec := { name := "lmdTells", fn := fun _ => fun
  | [d1, d2, d3, d4, d5, d6, d7] => { results := [.lit (.bool true)], args := [d1, d2, d3, d4, d5, d6, d7] }
  | _ => none }
def lmdTellsRow : OpenClaim := { program := "yteamjjkmcomabaa", sum := "a429015bb560b372be09ceb5b19dc95cf9bbe70c21c69e6923c80b79a0b6a2a1", func := "marigold/marigoldlaw13.LmdTells", spec := "lmdTells", unfollowed := true, recurses := true, plainKeys := false, apart := false }
def LmdTellsSaid : Prop := lmdTellsRow.holds Try.pinned (OpenSpec.ofChange lmdTellsSpec)

/-- ITS FALSE NEIGHBOUR: 'it returns false'. Refute it at one input. -/
def lmdTellsWrong : ChangeSpec := { name := "lmdTells", fn := fun _ => fun
  | [d1, d2, d3, d4, d5, d6, d7] => { results := [.lit (.bool false)], args := [d1, d2, d3, d4, d5, d6, d7] }
  | _ => none }
def LmdTellsWrongFalsely : Prop := lmdTellsRow.holds Try.pinned (OpenSpec.ofChange lmdTellsWrong)

/-- 'marigoldlaw13.LmdPlain': WHATEVER THE INPUT: true; the input reads as it did. -/
def lmdPlainSpec : ChangeSpec := { name := "lmdPlain", fn := fun _ => fun
  | [d1, d2, d3, d4, d5, d6] => { results := [.lit (.bool true)], args := [d1, d2, d3, d4, d5, d6] }
  | _ => none }
def lmdPlainRow : OpenClaim := { program := "yteamjjkmcomabaa", sum := "a429015bb560b372be09ceb5b19dc95cf9bbe70c21c69e6923c80b79a0b6a2a1", func := "marigold/marigoldlaw13.LmdPlain", spec := "lmdPlain", unfollowed := true, recurses := true, plainKeys := false, apart := false }
def LmdPlainSaid : Prop := lmdPlainRow.holds Try.pinned (OpenSpec.ofChange lmdPlainSpec)

/-- ITS FALSE NEIGHBOUR: 'it returns false'. Refute it at one input. -/
def lmdPlainWrong : ChangeSpec := { name := "lmdPlain", fn := fun _ => fun
  | [d1, d2, d3, d4, d5, d6] => { results := [.lit (.bool false)], args := [d1, d2, d3, d4, d5, d6] }
  | _ => none }
def LmdPlainWrongFalsely : Prop := lmdPlainRow.holds Try.pinned (OpenSpec.ofChange lmdPlainWrong)

/-- 'marigoldlaw13.LmdHalf': WHATEVER THE INPUT: true; the input reads as it did. -/
def lmdHalfSpec : ChangeSpec := { name := "lmdHalf", fn := fun _ => fun
  | [d1, d2, d3, d4, d5, d6, d7] => { results := [.lit (.bool true)], args := [d1, d2, d3, d4, d5, d6, d7] }
  | _ => none }
def lmdHalfRow : OpenClaim := { program := "yteamjjkmcomabaa", sum := "a429015bb560b372be09ceb5b19dc95cf9bbe70c21c69e6923c80b79a0b6a2a1", func := "marigold/marigoldlaw13.LmdHalf", spec := "lmdHalf", unfollowed := true, recurses := true, plainKeys := false, apart := false }
def LmdHalfSaid : Prop := lmdHalfRow.holds Try.pinned (OpenSpec.ofChange lmdHalfSpec)

/-- ITS FALSE NEIGHBOUR: 'it returns false'. Refute it at one input. -/
def lmdHalfWrong : ChangeSpec := { name := "lmdHalf", fn := fun _ => fun
  | [d1, d2, d3, d4, d5, d6, d7] => { results := [.lit (.bool false)], args := [d1, d2, d3, d4, d5, d6, d7] }
  | _ => none }
def LmdHalfWrongFalsely : Prop := lmdHalfRow.holds Try.pinned (OpenSpec.ofChange lmdHalfWrong)

/-- 'marigoldlaw13.LmdBounds': WHATEVER THE INPUT: true; the input reads as it did. -/
def lmdBoundsSpec : ChangeSpec := { name := "lmdBounds", fn := fun _ => fun
  | [d1, d2, d3, d4, d5, d6, d7, d8] => { results := [.lit (.bool true)], args := [d1, d2, d3, d4, d5, d6, d7, d8] }
  | _ => none }
def lmdBoundsRow : OpenClaim := { program := "yteamjjkmcomabaa", sum := "a429015bb560b372be09ceb5b19dc95cf9bbe70c21c69e6923c80b79a0b6a2a1", func := "marigold/marigoldlaw13.LmdBounds", spec := "lmdBounds", unfollowed := true, recurses := true, plainKeys := false, apart := false }
def LmdBoundsSaid : Prop := lmdBoundsRow.holds Try.pinned (OpenSpec.ofChange lmdBoundsSpec)

/-- ITS FALSE NEIGHBOUR: 'it returns false'. Refute it at one input. -/
def lmdBoundsWrong : ChangeSpec := { name := "lmdBounds", fn := fun _ => fun
  | [d1, d2, d3, d4, d5, d6, d7, d8] => { results := [.lit (.bool false)], args := [d1, d2, d3, d4, d5, d6, d7, d8] }
  | _ => none }
def LmdBoundsWrongFalsely : Prop := lmdBoundsRow.holds Try.pinned (OpenSpec.ofChange lmdBoundsWrong)

/-- 'marigoldlaw13.LmdUp': WHATEVER THE INPUT: true; the input reads as it did. -/
def lmdUpSpec : ChangeSpec := { name := "lmdUp", fn := fun _ => fun
  | [d1, d2, d3, d4, d5, d6, d7] => { results := [.lit (.bool true)], args := [d1, d2, d3, d4, d5, d6, d7] }
  | _ => none }
def lmdUpRow : OpenClaim := { program := "yteamjjkmcomabaa", sum := "a429015bb560b372be09ceb5b19dc95cf9bbe70c21c69e6923c80b79a0b6a2a1", func := "marigold/marigoldlaw13.LmdUp", spec := "lmdUp", unfollowed := true, recurses := true, plainKeys := false, apart := false }
def LmdUpSaid : Prop := lmdUpRow.holds Try.pinned (OpenSpec.ofChange lmdUpSpec)

/-- ITS FALSE NEIGHBOUR: 'it returns false'. Refute it at one input. -/
def lmdUpWrong : ChangeSpec := { name := "lmdUp", fn := fun _ => fun
  | [d1, d2, d3, d4, d5, d6, d7] => { results := [.lit (.bool false)], args := [d1, d2, d3, d4, d5, d6, d7] }
  | _ => none }
def LmdUpWrongFalsely : Prop := lmdUpRow.holds Try.pinned (OpenSpec.ofChange lmdUpWrong)

/-- 'marigoldlaw13.LmdOrder': WHATEVER THE INPUT: true; the input reads as it did. -/
def lmdOrderSpec : ChangeSpec := { name := "lmdOrder", fn := fun _ => fun
  | [d1, d2, d3, d4, d5, d6, d7] => { results := [.lit (.bool true)], args := [d1, d2, d3, d4, d5, d6, d7] }
  | _ => none }
def lmdOrderRow : OpenClaim := { program := "yteamjjkmcomabaa", sum := "a429015bb560b372be09ceb5b19dc95cf9bbe70c21c69e6923c80b79a0b6a2a1", func := "marigold/marigoldlaw13.LmdOrder", spec := "lmdOrder", unfollowed := true, recurses := true, plainKeys := false, apart := false }
def LmdOrderSaid : Prop := lmdOrderRow.holds Try.pinned (OpenSpec.ofChange lmdOrderSpec)

/-- ITS FALSE NEIGHBOUR: 'it returns false'. Refute it at one input. -/
def lmdOrderWrong : ChangeSpec := { name := "lmdOrder", fn := fun _ => fun
  | [d1, d2, d3, d4, d5, d6, d7] => { results := [.lit (.bool false)], args := [d1, d2, d3, d4, d5, d6, d7] }
  | _ => none }
def LmdOrderWrongFalsely : Prop := lmdOrderRow.holds Try.pinned (OpenSpec.ofChange lmdOrderWrong)

/-- 'marigoldlaw13.LmdNone': WHATEVER THE INPUT: true; the input reads as it did. -/
def lmdNoneSpec : ChangeSpec := { name := "lmdNone", fn := fun _ => fun
  | [d1, d2, d3, d4, d5] => { results := [.lit (.bool true)], args := [d1, d2, d3, d4, d5] }
  | _ => none }
def lmdNoneRow : OpenClaim := { program := "yteamjjkmcomabaa", sum := "a429015bb560b372be09ceb5b19dc95cf9bbe70c21c69e6923c80b79a0b6a2a1", func := "marigold/marigoldlaw13.LmdNone", spec := "lmdNone", unfollowed := true, recurses := true, plainKeys := false, apart := false }
def LmdNoneSaid : Prop := lmdNoneRow.holds Try.pinned (OpenSpec.ofChange lmdNoneSpec)

/-- ITS FALSE NEIGHBOUR: 'it returns false'. Refute it at one input. -/
def lmdNoneWrong : ChangeSpec := { name := "lmdNone", fn := fun _ => fun
  | [d1, d2, d3, d4, d5] => { results := [.lit (.bool false)], args := [d1, d2, d3, d4, d5] }
  | _ => none }
def LmdNoneWrongFalsely : Prop := lmdNoneRow.holds Try.pinned (OpenSpec.ofChange lmdNoneWrong)

/- THE SECOND FORM. 'bulk': how many values and letters a reading holds, each counted each time it is reached (what is shared counts as often as it is met; a slice's spare places count too). A statement '..UptoSaid' is the law's where the arguments, and the package variables that the reading takes, are together of bulk at most 1048576: NARROWER than '..Said'. Prove '..Said' where nothing that the law and all that it calls make is longer than what came in: it says more and counts as full. Else prove '..UptoSaid'. A law counts once. -/
mutual
def uptoBulk {H : Type} : DataW H → Nat
  | .lit (.string bytes) => bytes.length + 1
  | .lit _ => 1
  | .nil => 1
  | .ptr d => uptoBulk d + 1
  | .slice elems spare => uptoBulkAll elems + uptoBulkAll spare + 1
  | .agg parts => uptoBulkAll parts + 1
  | .iface _ d => uptoBulk d + 1
  | .map entries => uptoBulkEntries entries + 1
  | .held _ => 1
def uptoBulkAll {H : Type} : List (DataW H) → Nat
  | [] => 0
  | d :: r => uptoBulk d + uptoBulkAll r
def uptoBulkEntries {H : Type} : List (Lit × DataW H) → Nat
  | [] => 0
  | x :: r => uptoBulkEntry x + uptoBulkEntries r
def uptoBulkEntry {H : Type} : Lit × DataW H → Nat
  | (.string bytes, d) => bytes.length + uptoBulk d + 1
  | (_, d) => uptoBulk d + 1
 end
def uptoSmall : (H : Type) → List (DataW H) → Bool := fun _ ds => decide (uptoBulkAll ds ≤ 1048576)
def OpenSpec.upto (s : _root_.Go.ChangeSpec) : _root_.Go.OpenSpec := { _root_.Go.OpenSpec.ofChange s with cond := some uptoSmall }

/-- 'marigoldlaw13.LmdTells', WHERE WHAT IT READS IS OF BULK AT MOST 1048576: true; the input reads as it did. -/
def lmdTellsUptoRow : OpenClaim := { program := "yteamjjkmcomabaa", sum := "a429015bb560b372be09ceb5b19dc95cf9bbe70c21c69e6923c80b79a0b6a2a1", func := "marigold/marigoldlaw13.LmdTells", spec := "lmdTells", unfollowed := true, recurses := true, plainKeys := false, apart := false, narrowed := true }
def LmdTellsUptoSaid : Prop := lmdTellsUptoRow.holds Try.pinned (OpenSpec.upto lmdTellsSpec)

/-- 'marigoldlaw13.LmdPlain', WHERE WHAT IT READS IS OF BULK AT MOST 1048576: true; the input reads as it did. -/
def lmdPlainUptoRow : OpenClaim := { program := "yteamjjkmcomabaa", sum := "a429015bb560b372be09ceb5b19dc95cf9bbe70c21c69e6923c80b79a0b6a2a1", func := "marigold/marigoldlaw13.LmdPlain", spec := "lmdPlain", unfollowed := true, recurses := true, plainKeys := false, apart := false, narrowed := true }
def LmdPlainUptoSaid : Prop := lmdPlainUptoRow.holds Try.pinned (OpenSpec.upto lmdPlainSpec)

/-- 'marigoldlaw13.LmdHalf', WHERE WHAT IT READS IS OF BULK AT MOST 1048576: true; the input reads as it did. -/
def lmdHalfUptoRow : OpenClaim := { program := "yteamjjkmcomabaa", sum := "a429015bb560b372be09ceb5b19dc95cf9bbe70c21c69e6923c80b79a0b6a2a1", func := "marigold/marigoldlaw13.LmdHalf", spec := "lmdHalf", unfollowed := true, recurses := true, plainKeys := false, apart := false, narrowed := true }
def LmdHalfUptoSaid : Prop := lmdHalfUptoRow.holds Try.pinned (OpenSpec.upto lmdHalfSpec)

/-- 'marigoldlaw13.LmdBounds', WHERE WHAT IT READS IS OF BULK AT MOST 1048576: true; the input reads as it did. -/
def lmdBoundsUptoRow : OpenClaim := { program := "yteamjjkmcomabaa", sum := "a429015bb560b372be09ceb5b19dc95cf9bbe70c21c69e6923c80b79a0b6a2a1", func := "marigold/marigoldlaw13.LmdBounds", spec := "lmdBounds", unfollowed := true, recurses := true, plainKeys := false, apart := false, narrowed := true }
def LmdBoundsUptoSaid : Prop := lmdBoundsUptoRow.holds Try.pinned (OpenSpec.upto lmdBoundsSpec)

/-- 'marigoldlaw13.LmdUp', WHERE WHAT IT READS IS OF BULK AT MOST 1048576: true; the input reads as it did. -/
def lmdUpUptoRow : OpenClaim := { program := "yteamjjkmcomabaa", sum := "a429015bb560b372be09ceb5b19dc95cf9bbe70c21c69e6923c80b79a0b6a2a1", func := "marigold/marigoldlaw13.LmdUp", spec := "lmdUp", unfollowed := true, recurses := true, plainKeys := false, apart := false, narrowed := true }
def LmdUpUptoSaid : Prop := lmdUpUptoRow.holds Try.pinned (OpenSpec.upto lmdUpSpec)

/-- 'marigoldlaw13.LmdOrder', WHERE WHAT IT READS IS OF BULK AT MOST 1048576: true; the input reads as it did. -/
def lmdOrderUptoRow : OpenClaim := { program := "yteamjjkmcomabaa", sum := "a429015bb560b372be09ceb5b19dc95cf9bbe70c21c69e6923c80b79a0b6a2a1", func := "marigold/marigoldlaw13.LmdOrder", spec := "lmdOrder", unfollowed := true, recurses := true, plainKeys := false, apart := false, narrowed := true }
def LmdOrderUptoSaid : Prop := lmdOrderUptoRow.holds Try.pinned (OpenSpec.upto lmdOrderSpec)

/-- 'marigoldlaw13.LmdNone', WHERE WHAT IT READS IS OF BULK AT MOST 1048576: true; the input reads as it did. -/
def lmdNoneUptoRow : OpenClaim := { program := "yteamjjkmcomabaa", sum := "a429015bb560b372be09ceb5b19dc95cf9bbe70c21c69e6923c80b79a0b6a2a1", func := "marigold/marigoldlaw13.LmdNone", spec := "lmdNone", unfollowed := true, recurses := true, plainKeys := false, apart := false, narrowed := true }
def LmdNoneUptoSaid : Prop := lmdNoneUptoRow.holds Try.pinned (OpenSpec.upto lmdNoneSpec)

end Rows
end Go.Proofs.Yteamjjkmcomabaa
