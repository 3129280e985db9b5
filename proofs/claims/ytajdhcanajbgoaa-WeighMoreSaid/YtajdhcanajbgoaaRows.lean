/-
  No cell of these rows narrows 'for every input' (looked for: loops, veiled, ifaces, maps, wideKeys, modest, calm, conditions, laid).
  DERIVED. THE GIVEN ROWS OF THIS SEAT. 6 by the template 'for every input the law returns true; each argument reads behind the call as it read before'; 0 by the template 'total and deterministic' (their statements: YtajdhcanajbgoaaTotals.lean).
  GIVEN WITH THE SEED: the statements are not yours to turn. If you find one false, say at which input.
  Laid BY PROGRAM, IN A SANDBOX (cutbox-rows.mjs): the forced cells as the released guide's own fill.sh prints them over the translation 28b820b73aecb244… (all of the seat's roots in one cut). By AI agents, Wed Nov 11 2026. No macro, syntax, notation, axiom, sorry.
-/
import Derived.Test.YtajdhcanajbgoaaChecked
import GoSem.Claim
import GoSem.ClaimJoined
import GoSem.ClaimMapViews
import Derived.JoinedTies
import Derived.KernelRfl
namespace Go.Proofs.Ytajdhcanajbgoaa
/- THE CELL 'sum', in the pinned program and in every row, IS THE sha256 OF THE DUMP (.gsa) THAT YtajdhcanajbgoaaProg.lean LOADS. Nothing in Lean hashes anything: it is a label: what it is worth is what the hold of that sum in a sandbox is worth. -/
noncomputable def Try.pinned : Pinned := { name := "ytajdhcanajbgoaa", sum := "28b820b73aecb244b02264417847ee44c4aca95cf6c1bb471ce97c867406ea08", checked := Try.checked }
namespace Rows
def none {H : Type} : Left H := { results := [], args := [] }

/-- 'marigoldlaw08.WeighTells': WHATEVER THE INPUT: true; the input reads as it did. -/
def weighTellsSpec : ChangeSpec := { name := "weighTells", fn := fun _ => fun
  | [d1, d2, d3, d4] => { results := [.lit (.bool true)], args := [d1, d2, d3, d4] }
  | _ => none }
def weighTellsRow : OpenClaim := { program := "ytajdhcanajbgoaa", sum := "28b820b73aecb244b02264417847ee44c4aca95cf6c1bb471ce97c867406ea08", func := "marigold/marigoldlaw08.WeighTells", spec := "weighTells", unfollowed := true, recurses := true, plainKeys := false, apart := false }
def WeighTellsSaid : Prop := weighTellsRow.holds Try.pinned (OpenSpec.ofChange weighTellsSpec)

/-- ITS FALSE NEIGHBOUR: 'it returns false'. Refute it at one input. -/
def weighTellsWrong : ChangeSpec := { name := "weighTells", fn := fun _ => fun
  | [d1, d2, d3, d4] => { results := [.lit (.bool false)], args := [d1, d2, d3, d4] }
  | _ => none }
def WeighTellsWrongFalsely : Prop := weighTellsRow.holds Try.pinned (OpenSpec.ofChange weighTellsWrong)

/-- 'marigoldlaw08.WeighSplits': WHATEVER THE INPUT: true; the input reads as it did. -/
def weighSplitsSpec : ChangeSpec := { name := "weighSplits", fn := fun _ => fun
  | [d1, d2, d3, d4, d5] => { results := [.lit (.bool true)], args := [d1, d2, d3, d4, d5] }
  | _ => none }
def weighSplitsRow : OpenClaim := { program := "ytajdhcanajbgoaa", sum := "28b820b73aecb244b02264417847ee44c4aca95cf6c1bb471ce97c867406ea08", func := "marigold/marigoldlaw08.WeighSplits", spec := "weighSplits", unfollowed := true, recurses := true, plainKeys := false, apart := false }
def WeighSplitsSaid : Prop := weighSplitsRow.holds Try.pinned (OpenSpec.ofChange weighSplitsSpec)

/-- ITS FALSE NEIGHBOUR: 'it returns false'. Refute it at one input. -/
def weighSplitsWrong : ChangeSpec := { name := "weighSplits", fn := fun _ => fun
  | [d1, d2, d3, d4, d5] => { results := [.lit (.bool false)], args := [d1, d2, d3, d4, d5] }
  | _ => none }
def WeighSplitsWrongFalsely : Prop := weighSplitsRow.holds Try.pinned (OpenSpec.ofChange weighSplitsWrong)

/-- 'marigoldlaw08.WeighBounds': WHATEVER THE INPUT: true; the input reads as it did. -/
def weighBoundsSpec : ChangeSpec := { name := "weighBounds", fn := fun _ => fun
  | [d1, d2, d3, d4, d5, d6] => { results := [.lit (.bool true)], args := [d1, d2, d3, d4, d5, d6] }
  | _ => none }
def weighBoundsRow : OpenClaim := { program := "ytajdhcanajbgoaa", sum := "28b820b73aecb244b02264417847ee44c4aca95cf6c1bb471ce97c867406ea08", func := "marigold/marigoldlaw08.WeighBounds", spec := "weighBounds", unfollowed := true, recurses := true, plainKeys := false, apart := false }
def WeighBoundsSaid : Prop := weighBoundsRow.holds Try.pinned (OpenSpec.ofChange weighBoundsSpec)

/-- ITS FALSE NEIGHBOUR: 'it returns false'. Refute it at one input. -/
def weighBoundsWrong : ChangeSpec := { name := "weighBounds", fn := fun _ => fun
  | [d1, d2, d3, d4, d5, d6] => { results := [.lit (.bool false)], args := [d1, d2, d3, d4, d5, d6] }
  | _ => none }
def WeighBoundsWrongFalsely : Prop := weighBoundsRow.holds Try.pinned (OpenSpec.ofChange weighBoundsWrong)

/-- 'marigoldlaw08.WeighDouble': WHATEVER THE INPUT: true; the input reads as it did. -/
def weighDoubleSpec : ChangeSpec := { name := "weighDouble", fn := fun _ => fun
  | [d1, d2, d3, d4] => { results := [.lit (.bool true)], args := [d1, d2, d3, d4] }
  | _ => none }
def weighDoubleRow : OpenClaim := { program := "ytajdhcanajbgoaa", sum := "28b820b73aecb244b02264417847ee44c4aca95cf6c1bb471ce97c867406ea08", func := "marigold/marigoldlaw08.WeighDouble", spec := "weighDouble", unfollowed := true, recurses := true, plainKeys := false, apart := false }
def WeighDoubleSaid : Prop := weighDoubleRow.holds Try.pinned (OpenSpec.ofChange weighDoubleSpec)

/-- ITS FALSE NEIGHBOUR: 'it returns false'. Refute it at one input. -/
def weighDoubleWrong : ChangeSpec := { name := "weighDouble", fn := fun _ => fun
  | [d1, d2, d3, d4] => { results := [.lit (.bool false)], args := [d1, d2, d3, d4] }
  | _ => none }
def WeighDoubleWrongFalsely : Prop := weighDoubleRow.holds Try.pinned (OpenSpec.ofChange weighDoubleWrong)

/-- 'marigoldlaw08.WeighWho': WHATEVER THE INPUT: true; the input reads as it did. -/
def weighWhoSpec : ChangeSpec := { name := "weighWho", fn := fun _ => fun
  | [d1, d2, d3, d4] => { results := [.lit (.bool true)], args := [d1, d2, d3, d4] }
  | _ => none }
def weighWhoRow : OpenClaim := { program := "ytajdhcanajbgoaa", sum := "28b820b73aecb244b02264417847ee44c4aca95cf6c1bb471ce97c867406ea08", func := "marigold/marigoldlaw08.WeighWho", spec := "weighWho", unfollowed := true, recurses := true, plainKeys := false, apart := false }
def WeighWhoSaid : Prop := weighWhoRow.holds Try.pinned (OpenSpec.ofChange weighWhoSpec)

/-- ITS FALSE NEIGHBOUR: 'it returns false'. Refute it at one input. -/
def weighWhoWrong : ChangeSpec := { name := "weighWho", fn := fun _ => fun
  | [d1, d2, d3, d4] => { results := [.lit (.bool false)], args := [d1, d2, d3, d4] }
  | _ => none }
def WeighWhoWrongFalsely : Prop := weighWhoRow.holds Try.pinned (OpenSpec.ofChange weighWhoWrong)

/-- 'marigoldlaw08.WeighMore': WHATEVER THE INPUT: true; the input reads as it did. -/
def weighMoreSpec : ChangeSpec := { name := "weighMore", fn := fun _ => fun
  | [d1, d2, d3, d4, d5] => { results := [.lit (.bool true)], args := [d1, d2, d3, d4, d5] }
  | _ => none }
def weighMoreRow : OpenClaim := { program := "ytajdhcanajbgoaa", sum := "28b820b73aecb244b02264417847ee44c4aca95cf6c1bb471ce97c867406ea08", func := "marigold/marigoldlaw08.WeighMore", spec := "weighMore", unfollowed := true, recurses := true, plainKeys := false, apart := false }
def WeighMoreSaid : Prop := weighMoreRow.holds Try.pinned (OpenSpec.ofChange weighMoreSpec)

/-- ITS FALSE NEIGHBOUR: 'it returns false'. Refute it at one input. -/
def weighMoreWrong : ChangeSpec := { name := "weighMore", fn := fun _ => fun
  | [d1, d2, d3, d4, d5] => { results := [.lit (.bool false)], args := [d1, d2, d3, d4, d5] }
  | _ => none }
def WeighMoreWrongFalsely : Prop := weighMoreRow.holds Try.pinned (OpenSpec.ofChange weighMoreWrong)

/- THE SECOND FORM. 'bulk': how many values and letters a reading holds, each counted each time it is reached (what is shared counts as often as it is met; a slice's spare places count too). A statement '..UptoSaid' is the law's where the arguments, and the package variables that the reading takes, are together of bulk at most 1048576: NARROWER than '..Said'. Prove '..Said' where nothing that the law and all that it calls make is longer than what came in: it says more and counts as full. Else prove '..UptoSaid'. A law counts once. -/
mutual
def uptoBulk {H : Type} : DataW H → Nat
  | .lit (.string bytes) => bytes.length + 1
  | .lit _ => 1
  | .nil => 1
  | .ptr d => uptoBulk d + 1
  | .slice elems spare => uptoBulkAll elems + uptoBulkAll spare + 1
  | .agg parts => uptoBulkAll parts + 1
  | .iface _ d => uptoBulk d + 1
  | .map entries => uptoBulkEntries entries + 1
  | .held _ => 1
def uptoBulkAll {H : Type} : List (DataW H) → Nat
  | [] => 0
  | d :: r => uptoBulk d + uptoBulkAll r
def uptoBulkEntries {H : Type} : List (Lit × DataW H) → Nat
  | [] => 0
  | x :: r => uptoBulkEntry x + uptoBulkEntries r
def uptoBulkEntry {H : Type} : Lit × DataW H → Nat
  | (.string bytes, d) => bytes.length + uptoBulk d + 1
  | (_, d) => uptoBulk d + 1
 end
def uptoSmall : (H : Type) → List (DataW H) → Bool := fun _ ds => decide (uptoBulkAll ds ≤ 1048576)
def OpenSpec.upto (s : _root_.Go.ChangeSpec) : _root_.Go.OpenSpec := { _root_.Go.OpenSpec.ofChange s with cond := some uptoSmall }

/-- 'marigoldlaw08.WeighTells', WHERE WHAT IT READS IS OF BULK AT MOST 1048576: true; the input reads as it did. -/
def weighTellsUptoRow : OpenClaim := { program := "ytajdhcanajbgoaa", sum := "28b820b73aecb244b02264417847ee44c4aca95cf6c1bb471ce97c867406ea08", func := "marigold/marigoldlaw08.WeighTells", spec := "weighTells", unfollowed := true, recurses := true, plainKeys := false, apart := false, narrowed := true }
def WeighTellsUptoSaid : Prop := weighTellsUptoRow.holds Try.pinned (OpenSpec.upto weighTellsSpec)

/-- 'marigoldlaw08.WeighSplits', WHERE WHAT IT READS IS OF BULK AT MOST 1048576: true; the input reads as it did. -/
def weighSplitsUptoRow : OpenClaim := { program := "ytajdhcanajbgoaa", sum := "28b820b73aecb244b02264417847ee44c4aca95cf6c1bb471ce97c867406ea08", func := "marigold/marigoldlaw08.WeighSplits", spec := "weighSplits", unfollowed := true, recurses := true, plainKeys := false, apart := false, narrowed := true }
def WeighSplitsUptoSaid : Prop := weighSplitsUptoRow.holds Try.pinned (OpenSpec.upto weighSplitsSpec)

/-- 'marigoldlaw08.WeighBounds', WHERE WHAT IT READS IS OF BULK AT MOST 1048576: true; the input reads as it did. -/
def weighBoundsUptoRow : OpenClaim := { program := "ytajdhcanajbgoaa", sum := "28b820b73aecb244b02264417847ee44c4aca95cf6c1bb471ce97c867406ea08", func := "marigold/marigoldlaw08.WeighBounds", spec := "weighBounds", unfollowed := true, recurses := true, plainKeys := false, apart := false, narrowed := true }
def WeighBoundsUptoSaid : Prop := weighBoundsUptoRow.holds Try.pinned (OpenSpec.upto weighBoundsSpec)

/-- 'marigoldlaw08.WeighDouble', WHERE WHAT IT READS IS OF BULK AT MOST 1048576: true; the input reads as it did. -/
def weighDoubleUptoRow : OpenClaim := { program := "ytajdhcanajbgoaa", sum := "28b820b73aecb244b02264417847ee44c4aca95cf6c1bb471ce97c867406ea08", func := "marigold/marigoldlaw08.WeighDouble", spec := "weighDouble", unfollowed := true, recurses := true, plainKeys := false, apart := false, narrowed := true }
def WeighDoubleUptoSaid : Prop := weighDoubleUptoRow.holds Try.pinned (OpenSpec.upto weighDoubleSpec)

/-- 'marigoldlaw08.WeighWho', WHERE WHAT IT READS IS OF BULK AT MOST 1048576: true; the input reads as it did. -/
def weighWhoUptoRow : OpenClaim := { program := "ytajdhcanajbgoaa", sum := "28b820b73aecb244b02264417847ee44c4aca95cf6c1bb471ce97c867406ea08", func := "marigold/marigoldlaw08.WeighWho", spec := "weighWho", unfollowed := true, recurses := true, plainKeys := false, apart := false, narrowed := true }
def WeighWhoUptoSaid : Prop := weighWhoUptoRow.holds Try.pinned (OpenSpec.upto weighWhoSpec)

/-- 'marigoldlaw08.WeighMore', WHERE WHAT IT READS IS OF BULK AT MOST 1048576: true; the input reads as it did. -/
def weighMoreUptoRow : OpenClaim := { program := "ytajdhcanajbgoaa", sum := "28b820b73aecb244b02264417847ee44c4aca95cf6c1bb471ce97c867406ea08", func := "marigold/marigoldlaw08.WeighMore", spec := "weighMore", unfollowed := true, recurses := true, plainKeys := false, apart := false, narrowed := true }
def WeighMoreUptoSaid : Prop := weighMoreUptoRow.holds Try.pinned (OpenSpec.upto weighMoreSpec)

end Rows
end Go.Proofs.Ytajdhcanajbgoaa
