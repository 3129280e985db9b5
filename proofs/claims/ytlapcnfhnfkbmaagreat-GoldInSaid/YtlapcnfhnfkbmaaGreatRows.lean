/-
  No cell of these rows narrows 'for every input' (looked for: loops, veiled, ifaces, maps, wideKeys, modest, calm, conditions, laid).
  DERIVED. THE GIVEN ROWS OF THIS SEAT. 6 by the template 'for every input the law returns true; each argument reads behind the call as it read before'; 0 by the template 'total and deterministic' (their statements: YtlapcnfhnfkbmaaGreatTotals.lean).
  GIVEN WITH THE SEED: the statements are not yours to turn. If you find one false, say at which input.
  Laid BY PROGRAM, IN A SANDBOX (cutbox-rows.mjs): the forced cells as the released guide's own fill.sh prints them over the translation 0990b24fd7c11ca5… (all of the seat's roots in one cut). By AI agents, Wed Nov 11 2026. No macro, syntax, notation, axiom, sorry.
-/
import Derived.Test.YtlapcnfhnfkbmaaGreatChecked
import GoSem.Claim
import GoSem.ClaimJoined
import GoSem.ClaimMapViews
import Derived.JoinedTies
import Derived.KernelRfl
namespace Go.Proofs.YtlapcnfhnfkbmaaGreat
/- THE CELL 'sum', in the pinned program and in every row, IS THE sha256 OF THE DUMP (.gsa) THAT YtlapcnfhnfkbmaaGreatProg.lean LOADS. Nothing in Lean hashes anything: it is a label: what it is worth is what the hold of that sum in a sandbox is worth. -/
noncomputable def Tryz.pinned : Pinned := { name := "ytlapcnfhnfkbmaagreat", sum := "0990b24fd7c11ca57983918012bfce4b17363c99c4c88b6e1cc93c7a3f723df7", checked := Tryz.checked }
namespace Rows
def none {H : Type} : Left H := { results := [], args := [] }

/-- 'marigoldlaw14.GoldTells': WHATEVER THE INPUT: true; the input reads as it did. -/
def goldTellsSpec : ChangeSpec := { name := "goldTells", fn := fun _ => fun
  | [d1, d2, d3] => { results := [.lit (.bool true)], args := [d1, d2, d3] }
  | _ => none }
def goldTellsRow : OpenClaim := { program := "ytlapcnfhnfkbmaagreat", sum := "0990b24fd7c11ca57983918012bfce4b17363c99c4c88b6e1cc93c7a3f723df7", func := "marigold/marigoldlaw14.GoldTells", spec := "goldTells", inPlace := ["sync/atomic.LoadUint32", "(*internal/sync.Mutex).Lock", "internal/race.Disable", "sync/atomic.CompareAndSwapInt32", "internal/race.Enable", "internal/race.Acquire", "(*internal/sync.Mutex).lockSlow", "internal/sync.runtime_canSpin", "internal/sync.runtime_doSpin", "internal/sync.throw", "internal/sync.runtime_nanotime", "internal/sync.runtime_SemacquireMutex", "sync/atomic.AddInt32", "(*internal/sync.Mutex).Unlock", "internal/race.ReleaseMerge", "(*internal/sync.Mutex).unlockSlow", "internal/sync.fatal", "internal/sync.runtime_Semrelease", "sync/atomic.StoreUint32"], unfollowed := true, recurses := true, plainKeys := false, apart := false }
def GoldTellsSaid : Prop := goldTellsRow.holds Tryz.pinned (OpenSpec.ofChange goldTellsSpec)

/-- ITS FALSE NEIGHBOUR: 'it returns false'. Refute it at one input. -/
def goldTellsWrong : ChangeSpec := { name := "goldTells", fn := fun _ => fun
  | [d1, d2, d3] => { results := [.lit (.bool false)], args := [d1, d2, d3] }
  | _ => none }
def GoldTellsWrongFalsely : Prop := goldTellsRow.holds Tryz.pinned (OpenSpec.ofChange goldTellsWrong)

/-- 'marigoldlaw14.GoldSlot': WHATEVER THE INPUT: true; the input reads as it did. -/
def goldSlotSpec : ChangeSpec := { name := "goldSlot", fn := fun _ => fun
  | [d1, d2, d3, d4, d5] => { results := [.lit (.bool true)], args := [d1, d2, d3, d4, d5] }
  | _ => none }
def goldSlotRow : OpenClaim := { program := "ytlapcnfhnfkbmaagreat", sum := "0990b24fd7c11ca57983918012bfce4b17363c99c4c88b6e1cc93c7a3f723df7", func := "marigold/marigoldlaw14.GoldSlot", spec := "goldSlot", inPlace := ["sync/atomic.LoadUint32", "(*internal/sync.Mutex).Lock", "internal/race.Disable", "sync/atomic.CompareAndSwapInt32", "internal/race.Enable", "internal/race.Acquire", "(*internal/sync.Mutex).lockSlow", "internal/sync.runtime_canSpin", "internal/sync.runtime_doSpin", "internal/sync.throw", "internal/sync.runtime_nanotime", "internal/sync.runtime_SemacquireMutex", "sync/atomic.AddInt32", "(*internal/sync.Mutex).Unlock", "internal/race.ReleaseMerge", "(*internal/sync.Mutex).unlockSlow", "internal/sync.fatal", "internal/sync.runtime_Semrelease", "sync/atomic.StoreUint32"], unfollowed := true, recurses := true, plainKeys := false, apart := false }
def GoldSlotSaid : Prop := goldSlotRow.holds Tryz.pinned (OpenSpec.ofChange goldSlotSpec)

/-- ITS FALSE NEIGHBOUR: 'it returns false'. Refute it at one input. -/
def goldSlotWrong : ChangeSpec := { name := "goldSlot", fn := fun _ => fun
  | [d1, d2, d3, d4, d5] => { results := [.lit (.bool false)], args := [d1, d2, d3, d4, d5] }
  | _ => none }
def GoldSlotWrongFalsely : Prop := goldSlotRow.holds Tryz.pinned (OpenSpec.ofChange goldSlotWrong)

/-- 'marigoldlaw14.GoldHalf': WHATEVER THE INPUT: true; the input reads as it did. -/
def goldHalfSpec : ChangeSpec := { name := "goldHalf", fn := fun _ => fun
  | [d1, d2, d3, d4] => { results := [.lit (.bool true)], args := [d1, d2, d3, d4] }
  | _ => none }
def goldHalfRow : OpenClaim := { program := "ytlapcnfhnfkbmaagreat", sum := "0990b24fd7c11ca57983918012bfce4b17363c99c4c88b6e1cc93c7a3f723df7", func := "marigold/marigoldlaw14.GoldHalf", spec := "goldHalf", inPlace := ["sync/atomic.LoadUint32", "(*internal/sync.Mutex).Lock", "internal/race.Disable", "sync/atomic.CompareAndSwapInt32", "internal/race.Enable", "internal/race.Acquire", "(*internal/sync.Mutex).lockSlow", "internal/sync.runtime_canSpin", "internal/sync.runtime_doSpin", "internal/sync.throw", "internal/sync.runtime_nanotime", "internal/sync.runtime_SemacquireMutex", "sync/atomic.AddInt32", "(*internal/sync.Mutex).Unlock", "internal/race.ReleaseMerge", "(*internal/sync.Mutex).unlockSlow", "internal/sync.fatal", "internal/sync.runtime_Semrelease", "sync/atomic.StoreUint32"], unfollowed := true, recurses := true, plainKeys := false, apart := false }
def GoldHalfSaid : Prop := goldHalfRow.holds Tryz.pinned (OpenSpec.ofChange goldHalfSpec)

/-- ITS FALSE NEIGHBOUR: 'it returns false'. Refute it at one input. -/
def goldHalfWrong : ChangeSpec := { name := "goldHalf", fn := fun _ => fun
  | [d1, d2, d3, d4] => { results := [.lit (.bool false)], args := [d1, d2, d3, d4] }
  | _ => none }
def GoldHalfWrongFalsely : Prop := goldHalfRow.holds Tryz.pinned (OpenSpec.ofChange goldHalfWrong)

/-- 'marigoldlaw14.GoldOutvotes': WHATEVER THE INPUT: true; the input reads as it did. -/
def goldOutvotesSpec : ChangeSpec := { name := "goldOutvotes", fn := fun _ => fun
  | [d1, d2, d3, d4, d5] => { results := [.lit (.bool true)], args := [d1, d2, d3, d4, d5] }
  | _ => none }
def goldOutvotesRow : OpenClaim := { program := "ytlapcnfhnfkbmaagreat", sum := "0990b24fd7c11ca57983918012bfce4b17363c99c4c88b6e1cc93c7a3f723df7", func := "marigold/marigoldlaw14.GoldOutvotes", spec := "goldOutvotes", inPlace := ["sync/atomic.LoadUint32", "(*internal/sync.Mutex).Lock", "internal/race.Disable", "sync/atomic.CompareAndSwapInt32", "internal/race.Enable", "internal/race.Acquire", "(*internal/sync.Mutex).lockSlow", "internal/sync.runtime_canSpin", "internal/sync.runtime_doSpin", "internal/sync.throw", "internal/sync.runtime_nanotime", "internal/sync.runtime_SemacquireMutex", "sync/atomic.AddInt32", "(*internal/sync.Mutex).Unlock", "internal/race.ReleaseMerge", "(*internal/sync.Mutex).unlockSlow", "internal/sync.fatal", "internal/sync.runtime_Semrelease", "sync/atomic.StoreUint32"], unfollowed := true, recurses := true, plainKeys := false, apart := false }
def GoldOutvotesSaid : Prop := goldOutvotesRow.holds Tryz.pinned (OpenSpec.ofChange goldOutvotesSpec)

/-- ITS FALSE NEIGHBOUR: 'it returns false'. Refute it at one input. -/
def goldOutvotesWrong : ChangeSpec := { name := "goldOutvotes", fn := fun _ => fun
  | [d1, d2, d3, d4, d5] => { results := [.lit (.bool false)], args := [d1, d2, d3, d4, d5] }
  | _ => none }
def GoldOutvotesWrongFalsely : Prop := goldOutvotesRow.holds Tryz.pinned (OpenSpec.ofChange goldOutvotesWrong)

/-- 'marigoldlaw14.GoldAll': WHATEVER THE INPUT: true; the input reads as it did. -/
def goldAllSpec : ChangeSpec := { name := "goldAll", fn := fun _ => fun
  | [d1, d2, d3] => { results := [.lit (.bool true)], args := [d1, d2, d3] }
  | _ => none }
def goldAllRow : OpenClaim := { program := "ytlapcnfhnfkbmaagreat", sum := "0990b24fd7c11ca57983918012bfce4b17363c99c4c88b6e1cc93c7a3f723df7", func := "marigold/marigoldlaw14.GoldAll", spec := "goldAll", inPlace := ["sync/atomic.LoadUint32", "(*internal/sync.Mutex).Lock", "internal/race.Disable", "sync/atomic.CompareAndSwapInt32", "internal/race.Enable", "internal/race.Acquire", "(*internal/sync.Mutex).lockSlow", "internal/sync.runtime_canSpin", "internal/sync.runtime_doSpin", "internal/sync.throw", "internal/sync.runtime_nanotime", "internal/sync.runtime_SemacquireMutex", "sync/atomic.AddInt32", "(*internal/sync.Mutex).Unlock", "internal/race.ReleaseMerge", "(*internal/sync.Mutex).unlockSlow", "internal/sync.fatal", "internal/sync.runtime_Semrelease", "sync/atomic.StoreUint32"], unfollowed := true, recurses := true, plainKeys := false, apart := false }
def GoldAllSaid : Prop := goldAllRow.holds Tryz.pinned (OpenSpec.ofChange goldAllSpec)

/-- ITS FALSE NEIGHBOUR: 'it returns false'. Refute it at one input. -/
def goldAllWrong : ChangeSpec := { name := "goldAll", fn := fun _ => fun
  | [d1, d2, d3] => { results := [.lit (.bool false)], args := [d1, d2, d3] }
  | _ => none }
def GoldAllWrongFalsely : Prop := goldAllRow.holds Tryz.pinned (OpenSpec.ofChange goldAllWrong)

/-- 'marigoldlaw14.GoldIn': WHATEVER THE INPUT: true; the input reads as it did. -/
def goldInSpec : ChangeSpec := { name := "goldIn", fn := fun _ => fun
  | [d1, d2, d3] => { results := [.lit (.bool true)], args := [d1, d2, d3] }
  | _ => none }
def goldInRow : OpenClaim := { program := "ytlapcnfhnfkbmaagreat", sum := "0990b24fd7c11ca57983918012bfce4b17363c99c4c88b6e1cc93c7a3f723df7", func := "marigold/marigoldlaw14.GoldIn", spec := "goldIn", inPlace := ["sync/atomic.LoadUint32", "(*internal/sync.Mutex).Lock", "internal/race.Disable", "sync/atomic.CompareAndSwapInt32", "internal/race.Enable", "internal/race.Acquire", "(*internal/sync.Mutex).lockSlow", "internal/sync.runtime_canSpin", "internal/sync.runtime_doSpin", "internal/sync.throw", "internal/sync.runtime_nanotime", "internal/sync.runtime_SemacquireMutex", "sync/atomic.AddInt32", "(*internal/sync.Mutex).Unlock", "internal/race.ReleaseMerge", "(*internal/sync.Mutex).unlockSlow", "internal/sync.fatal", "internal/sync.runtime_Semrelease", "sync/atomic.StoreUint32"], unfollowed := true, recurses := true, plainKeys := false, apart := false }
def GoldInSaid : Prop := goldInRow.holds Tryz.pinned (OpenSpec.ofChange goldInSpec)

/-- ITS FALSE NEIGHBOUR: 'it returns false'. Refute it at one input. -/
def goldInWrong : ChangeSpec := { name := "goldIn", fn := fun _ => fun
  | [d1, d2, d3] => { results := [.lit (.bool false)], args := [d1, d2, d3] }
  | _ => none }
def GoldInWrongFalsely : Prop := goldInRow.holds Tryz.pinned (OpenSpec.ofChange goldInWrong)

/- THE SECOND FORM. 'bulk': how many values and letters a reading holds, each counted each time it is reached (what is shared counts as often as it is met; a slice's spare places count too). A statement '..UptoSaid' is the law's where the arguments, and the package variables that the reading takes, are together of bulk at most 1048576: NARROWER than '..Said'. Prove '..Said' where nothing that the law and all that it calls make is longer than what came in: it says more and counts as full. Else prove '..UptoSaid'. A law counts once. -/
mutual
def uptoBulk {H : Type} : DataW H → Nat
  | .lit (.string bytes) => bytes.length + 1
  | .lit _ => 1
  | .nil => 1
  | .ptr d => uptoBulk d + 1
  | .slice elems spare => uptoBulkAll elems + uptoBulkAll spare + 1
  | .agg parts => uptoBulkAll parts + 1
  | .iface _ d => uptoBulk d + 1
  | .map entries => uptoBulkEntries entries + 1
  | .held _ => 1
def uptoBulkAll {H : Type} : List (DataW H) → Nat
  | [] => 0
  | d :: r => uptoBulk d + uptoBulkAll r
def uptoBulkEntries {H : Type} : List (Lit × DataW H) → Nat
  | [] => 0
  | x :: r => uptoBulkEntry x + uptoBulkEntries r
def uptoBulkEntry {H : Type} : Lit × DataW H → Nat
  | (.string bytes, d) => bytes.length + uptoBulk d + 1
  | (_, d) => uptoBulk d + 1
 end
def uptoSmall : (H : Type) → List (DataW H) → Bool := fun _ ds => decide (uptoBulkAll ds ≤ 1048576)
def OpenSpec.upto (s : _root_.Go.ChangeSpec) : _root_.Go.OpenSpec := { _root_.Go.OpenSpec.ofChange s with cond := some uptoSmall }

/-- 'marigoldlaw14.GoldTells', WHERE WHAT IT READS IS OF BULK AT MOST 1048576: true; the input reads as it did. -/
def goldTellsUptoRow : OpenClaim := { program := "ytlapcnfhnfkbmaagreat", sum := "0990b24fd7c11ca57983918012bfce4b17363c99c4c88b6e1cc93c7a3f723df7", func := "marigold/marigoldlaw14.GoldTells", spec := "goldTells", inPlace := ["sync/atomic.LoadUint32", "(*internal/sync.Mutex).Lock", "internal/race.Disable", "sync/atomic.CompareAndSwapInt32", "internal/race.Enable", "internal/race.Acquire", "(*internal/sync.Mutex).lockSlow", "internal/sync.runtime_canSpin", "internal/sync.runtime_doSpin", "internal/sync.throw", "internal/sync.runtime_nanotime", "internal/sync.runtime_SemacquireMutex", "sync/atomic.AddInt32", "(*internal/sync.Mutex).Unlock", "internal/race.ReleaseMerge", "(*internal/sync.Mutex).unlockSlow", "internal/sync.fatal", "internal/sync.runtime_Semrelease", "sync/atomic.StoreUint32"], unfollowed := true, recurses := true, plainKeys := false, apart := false, narrowed := true }
def GoldTellsUptoSaid : Prop := goldTellsUptoRow.holds Tryz.pinned (OpenSpec.upto goldTellsSpec)

/-- 'marigoldlaw14.GoldSlot', WHERE WHAT IT READS IS OF BULK AT MOST 1048576: true; the input reads as it did. -/
def goldSlotUptoRow : OpenClaim := { program := "ytlapcnfhnfkbmaagreat", sum := "0990b24fd7c11ca57983918012bfce4b17363c99c4c88b6e1cc93c7a3f723df7", func := "marigold/marigoldlaw14.GoldSlot", spec := "goldSlot", inPlace := ["sync/atomic.LoadUint32", "(*internal/sync.Mutex).Lock", "internal/race.Disable", "sync/atomic.CompareAndSwapInt32", "internal/race.Enable", "internal/race.Acquire", "(*internal/sync.Mutex).lockSlow", "internal/sync.runtime_canSpin", "internal/sync.runtime_doSpin", "internal/sync.throw", "internal/sync.runtime_nanotime", "internal/sync.runtime_SemacquireMutex", "sync/atomic.AddInt32", "(*internal/sync.Mutex).Unlock", "internal/race.ReleaseMerge", "(*internal/sync.Mutex).unlockSlow", "internal/sync.fatal", "internal/sync.runtime_Semrelease", "sync/atomic.StoreUint32"], unfollowed := true, recurses := true, plainKeys := false, apart := false, narrowed := true }
def GoldSlotUptoSaid : Prop := goldSlotUptoRow.holds Tryz.pinned (OpenSpec.upto goldSlotSpec)

/-- 'marigoldlaw14.GoldHalf', WHERE WHAT IT READS IS OF BULK AT MOST 1048576: true; the input reads as it did. -/
def goldHalfUptoRow : OpenClaim := { program := "ytlapcnfhnfkbmaagreat", sum := "0990b24fd7c11ca57983918012bfce4b17363c99c4c88b6e1cc93c7a3f723df7", func := "marigold/marigoldlaw14.GoldHalf", spec := "goldHalf", inPlace := ["sync/atomic.LoadUint32", "(*internal/sync.Mutex).Lock", "internal/race.Disable", "sync/atomic.CompareAndSwapInt32", "internal/race.Enable", "internal/race.Acquire", "(*internal/sync.Mutex).lockSlow", "internal/sync.runtime_canSpin", "internal/sync.runtime_doSpin", "internal/sync.throw", "internal/sync.runtime_nanotime", "internal/sync.runtime_SemacquireMutex", "sync/atomic.AddInt32", "(*internal/sync.Mutex).Unlock", "internal/race.ReleaseMerge", "(*internal/sync.Mutex).unlockSlow", "internal/sync.fatal", "internal/sync.runtime_Semrelease", "sync/atomic.StoreUint32"], unfollowed := true, recurses := true, plainKeys := false, apart := false, narrowed := true }
def GoldHalfUptoSaid : Prop := goldHalfUptoRow.holds Tryz.pinned (OpenSpec.upto goldHalfSpec)

/-- 'marigoldlaw14.GoldOutvotes', WHERE WHAT IT READS IS OF BULK AT MOST 1048576: true; the input reads as it did. -/
def goldOutvotesUptoRow : OpenClaim := { program := "ytlapcnfhnfkbmaagreat", sum := "0990b24fd7c11ca57983918012bfce4b17363c99c4c88b6e1cc93c7a3f723df7", func := "marigold/marigoldlaw14.GoldOutvotes", spec := "goldOutvotes", inPlace := ["sync/atomic.LoadUint32", "(*internal/sync.Mutex).Lock", "internal/race.Disable", "sync/atomic.CompareAndSwapInt32", "internal/race.Enable", "internal/race.Acquire", "(*internal/sync.Mutex).lockSlow", "internal/sync.runtime_canSpin", "internal/sync.runtime_doSpin", "internal/sync.throw", "internal/sync.runtime_nanotime", "internal/sync.runtime_SemacquireMutex", "sync/atomic.AddInt32", "(*internal/sync.Mutex).Unlock", "internal/race.ReleaseMerge", "(*internal/sync.Mutex).unlockSlow", "internal/sync.fatal", "internal/sync.runtime_Semrelease", "sync/atomic.StoreUint32"], unfollowed := true, recurses := true, plainKeys := false, apart := false, narrowed := true }
def GoldOutvotesUptoSaid : Prop := goldOutvotesUptoRow.holds Tryz.pinned (OpenSpec.upto goldOutvotesSpec)

/-- 'marigoldlaw14.GoldAll', WHERE WHAT IT READS IS OF BULK AT MOST 1048576: true; the input reads as it did. -/
def goldAllUptoRow : OpenClaim := { program := "ytlapcnfhnfkbmaagreat", sum := "0990b24fd7c11ca57983918012bfce4b17363c99c4c88b6e1cc93c7a3f723df7", func := "marigold/marigoldlaw14.GoldAll", spec := "goldAll", inPlace := ["sync/atomic.LoadUint32", "(*internal/sync.Mutex).Lock", "internal/race.Disable", "sync/atomic.CompareAndSwapInt32", "internal/race.Enable", "internal/race.Acquire", "(*internal/sync.Mutex).lockSlow", "internal/sync.runtime_canSpin", "internal/sync.runtime_doSpin", "internal/sync.throw", "internal/sync.runtime_nanotime", "internal/sync.runtime_SemacquireMutex", "sync/atomic.AddInt32", "(*internal/sync.Mutex).Unlock", "internal/race.ReleaseMerge", "(*internal/sync.Mutex).unlockSlow", "internal/sync.fatal", "internal/sync.runtime_Semrelease", "sync/atomic.StoreUint32"], unfollowed := true, recurses := true, plainKeys := false, apart := false, narrowed := true }
def GoldAllUptoSaid : Prop := goldAllUptoRow.holds Tryz.pinned (OpenSpec.upto goldAllSpec)

/-- 'marigoldlaw14.GoldIn', WHERE WHAT IT READS IS OF BULK AT MOST 1048576: true; the input reads as it did. -/
def goldInUptoRow : OpenClaim := { program := "ytlapcnfhnfkbmaagreat", sum := "0990b24fd7c11ca57983918012bfce4b17363c99c4c88b6e1cc93c7a3f723df7", func := "marigold/marigoldlaw14.GoldIn", spec := "goldIn", inPlace := ["sync/atomic.LoadUint32", "(*internal/sync.Mutex).Lock", "internal/race.Disable", "sync/atomic.CompareAndSwapInt32", "internal/race.Enable", "internal/race.Acquire", "(*internal/sync.Mutex).lockSlow", "internal/sync.runtime_canSpin", "internal/sync.runtime_doSpin", "internal/sync.throw", "internal/sync.runtime_nanotime", "internal/sync.runtime_SemacquireMutex", "sync/atomic.AddInt32", "(*internal/sync.Mutex).Unlock", "internal/race.ReleaseMerge", "(*internal/sync.Mutex).unlockSlow", "internal/sync.fatal", "internal/sync.runtime_Semrelease", "sync/atomic.StoreUint32"], unfollowed := true, recurses := true, plainKeys := false, apart := false, narrowed := true }
def GoldInUptoSaid : Prop := goldInUptoRow.holds Tryz.pinned (OpenSpec.upto goldInSpec)

end Rows
end Go.Proofs.YtlapcnfhnfkbmaaGreat
