/-
  No cell of these rows narrows 'for every input' (looked for: loops, veiled, ifaces, maps, wideKeys, modest, calm, conditions, laid).
  DERIVED. THE GIVEN ROWS OF THIS SEAT. 7 by the template 'for every input the law returns true; each argument reads behind the call as it read before'; 0 by the template 'total and deterministic' (their statements: YtdidmgmfjfnliaaTotals.lean).
  GIVEN WITH THE SEED: the statements are not yours to turn. If you find one false, say at which input.
  Laid BY PROGRAM, IN A SANDBOX (cutbox-rows.mjs): the forced cells as the released guide's own fill.sh prints them over the translation fab7735755a7bd58… (all of the seat's roots in one cut). By AI agents, Wed Nov 11 2026. No macro, syntax, notation, axiom, sorry.
-/
import Derived.Test.YtdidmgmfjfnliaaChecked
import GoSem.Claim
import GoSem.ClaimJoined
import GoSem.ClaimMapViews
import Derived.JoinedTies
import Derived.KernelRfl
namespace Go.Proofs.Ytdidmgmfjfnliaa
/- THE CELL 'sum', in the pinned program and in every row, IS THE sha256 OF THE DUMP (.gsa) THAT YtdidmgmfjfnliaaProg.lean LOADS. Nothing in Lean hashes anything: it is a label: what it is worth is what the hold of that sum in a sandbox is worth. -/
noncomputable def Try.pinned : Pinned := { name := "ytdidmgmfjfnliaa", sum := "fab7735755a7bd58b50ce27574aaf92ba5bd27768a33696bfd6b11890d9458db", checked := Try.checked }
namespace Rows
def none {H : Type} : Left H := { results := [], args := [] }

/-- 'marigoldlaw05.DutyTells': WHATEVER THE INPUT: true; the input reads as it did. -/
def dutyTellsSpec : ChangeSpec := { name := "dutyTells", fn := fun _ => fun
  | [d1, d2, d3, d4] => { results := [.lit (.bool true)], args := [d1, d2, d3, d4] }
  | _ => none }
def dutyTellsRow : OpenClaim := { program := "ytdidmgmfjfnliaa", sum := "fab7735755a7bd58b50ce27574aaf92ba5bd27768a33696bfd6b11890d9458db", func := "marigold/marigoldlaw05.DutyTells", spec := "dutyTells", inPlace := ["sync/atomic.LoadUint32", "(*internal/sync.Mutex).Lock", "internal/race.Disable", "sync/atomic.CompareAndSwapInt32", "internal/race.Enable", "internal/race.Acquire", "(*internal/sync.Mutex).lockSlow", "internal/sync.runtime_canSpin", "internal/sync.runtime_doSpin", "internal/sync.throw", "internal/sync.runtime_nanotime", "internal/sync.runtime_SemacquireMutex", "sync/atomic.AddInt32", "(*internal/sync.Mutex).Unlock", "internal/race.ReleaseMerge", "(*internal/sync.Mutex).unlockSlow", "internal/sync.fatal", "internal/sync.runtime_Semrelease", "sync/atomic.StoreUint32"], unfollowed := true, recurses := true, apart := false }
def DutyTellsSaid : Prop := dutyTellsRow.holds Try.pinned (OpenSpec.ofChange dutyTellsSpec)

/-- ITS FALSE NEIGHBOUR: 'it returns false'. Refute it at one input. -/
def dutyTellsWrong : ChangeSpec := { name := "dutyTells", fn := fun _ => fun
  | [d1, d2, d3, d4] => { results := [.lit (.bool false)], args := [d1, d2, d3, d4] }
  | _ => none }
def DutyTellsWrongFalsely : Prop := dutyTellsRow.holds Try.pinned (OpenSpec.ofChange dutyTellsWrong)

/-- 'marigoldlaw05.DutyOnce': WHATEVER THE INPUT: true; the input reads as it did. -/
def dutyOnceSpec : ChangeSpec := { name := "dutyOnce", fn := fun _ => fun
  | [d1, d2] => { results := [.lit (.bool true)], args := [d1, d2] }
  | _ => none }
def dutyOnceRow : OpenClaim := { program := "ytdidmgmfjfnliaa", sum := "fab7735755a7bd58b50ce27574aaf92ba5bd27768a33696bfd6b11890d9458db", func := "marigold/marigoldlaw05.DutyOnce", spec := "dutyOnce", inPlace := ["sync/atomic.LoadUint32", "(*internal/sync.Mutex).Lock", "internal/race.Disable", "sync/atomic.CompareAndSwapInt32", "internal/race.Enable", "internal/race.Acquire", "(*internal/sync.Mutex).lockSlow", "internal/sync.runtime_canSpin", "internal/sync.runtime_doSpin", "internal/sync.throw", "internal/sync.runtime_nanotime", "internal/sync.runtime_SemacquireMutex", "sync/atomic.AddInt32", "(*internal/sync.Mutex).Unlock", "internal/race.ReleaseMerge", "(*internal/sync.Mutex).unlockSlow", "internal/sync.fatal", "internal/sync.runtime_Semrelease", "sync/atomic.StoreUint32"], unfollowed := true, recurses := true, apart := false }
def DutyOnceSaid : Prop := dutyOnceRow.holds Try.pinned (OpenSpec.ofChange dutyOnceSpec)

/-- ITS FALSE NEIGHBOUR: 'it returns false'. Refute it at one input. -/
def dutyOnceWrong : ChangeSpec := { name := "dutyOnce", fn := fun _ => fun
  | [d1, d2] => { results := [.lit (.bool false)], args := [d1, d2] }
  | _ => none }
def DutyOnceWrongFalsely : Prop := dutyOnceRow.holds Try.pinned (OpenSpec.ofChange dutyOnceWrong)

/-- 'marigoldlaw05.DutyWeighs': WHATEVER THE INPUT: true; the input reads as it did. -/
def dutyWeighsSpec : ChangeSpec := { name := "dutyWeighs", fn := fun _ => fun
  | [d1, d2, d3] => { results := [.lit (.bool true)], args := [d1, d2, d3] }
  | _ => none }
def dutyWeighsRow : OpenClaim := { program := "ytdidmgmfjfnliaa", sum := "fab7735755a7bd58b50ce27574aaf92ba5bd27768a33696bfd6b11890d9458db", func := "marigold/marigoldlaw05.DutyWeighs", spec := "dutyWeighs", inPlace := ["sync/atomic.LoadUint32", "(*internal/sync.Mutex).Lock", "internal/race.Disable", "sync/atomic.CompareAndSwapInt32", "internal/race.Enable", "internal/race.Acquire", "(*internal/sync.Mutex).lockSlow", "internal/sync.runtime_canSpin", "internal/sync.runtime_doSpin", "internal/sync.throw", "internal/sync.runtime_nanotime", "internal/sync.runtime_SemacquireMutex", "sync/atomic.AddInt32", "(*internal/sync.Mutex).Unlock", "internal/race.ReleaseMerge", "(*internal/sync.Mutex).unlockSlow", "internal/sync.fatal", "internal/sync.runtime_Semrelease", "sync/atomic.StoreUint32"], unfollowed := true, recurses := true, apart := false }
def DutyWeighsSaid : Prop := dutyWeighsRow.holds Try.pinned (OpenSpec.ofChange dutyWeighsSpec)

/-- ITS FALSE NEIGHBOUR: 'it returns false'. Refute it at one input. -/
def dutyWeighsWrong : ChangeSpec := { name := "dutyWeighs", fn := fun _ => fun
  | [d1, d2, d3] => { results := [.lit (.bool false)], args := [d1, d2, d3] }
  | _ => none }
def DutyWeighsWrongFalsely : Prop := dutyWeighsRow.holds Try.pinned (OpenSpec.ofChange dutyWeighsWrong)

/-- 'marigoldlaw05.DutyProposes': WHATEVER THE INPUT: true; the input reads as it did. -/
def dutyProposesSpec : ChangeSpec := { name := "dutyProposes", fn := fun _ => fun
  | [d1, d2] => { results := [.lit (.bool true)], args := [d1, d2] }
  | _ => none }
def dutyProposesRow : OpenClaim := { program := "ytdidmgmfjfnliaa", sum := "fab7735755a7bd58b50ce27574aaf92ba5bd27768a33696bfd6b11890d9458db", func := "marigold/marigoldlaw05.DutyProposes", spec := "dutyProposes", inPlace := ["sync/atomic.LoadUint32", "(*internal/sync.Mutex).Lock", "internal/race.Disable", "sync/atomic.CompareAndSwapInt32", "internal/race.Enable", "internal/race.Acquire", "(*internal/sync.Mutex).lockSlow", "internal/sync.runtime_canSpin", "internal/sync.runtime_doSpin", "internal/sync.throw", "internal/sync.runtime_nanotime", "internal/sync.runtime_SemacquireMutex", "sync/atomic.AddInt32", "(*internal/sync.Mutex).Unlock", "internal/race.ReleaseMerge", "(*internal/sync.Mutex).unlockSlow", "internal/sync.fatal", "internal/sync.runtime_Semrelease", "sync/atomic.StoreUint32"], unfollowed := true, recurses := true, apart := false }
def DutyProposesSaid : Prop := dutyProposesRow.holds Try.pinned (OpenSpec.ofChange dutyProposesSpec)

/-- ITS FALSE NEIGHBOUR: 'it returns false'. Refute it at one input. -/
def dutyProposesWrong : ChangeSpec := { name := "dutyProposes", fn := fun _ => fun
  | [d1, d2] => { results := [.lit (.bool false)], args := [d1, d2] }
  | _ => none }
def DutyProposesWrongFalsely : Prop := dutyProposesRow.holds Try.pinned (OpenSpec.ofChange dutyProposesWrong)

/-- 'marigoldlaw05.DutyAll': WHATEVER THE INPUT: true; the input reads as it did. -/
def dutyAllSpec : ChangeSpec := { name := "dutyAll", fn := fun _ => fun
  | [d1, d2, d3] => { results := [.lit (.bool true)], args := [d1, d2, d3] }
  | _ => none }
def dutyAllRow : OpenClaim := { program := "ytdidmgmfjfnliaa", sum := "fab7735755a7bd58b50ce27574aaf92ba5bd27768a33696bfd6b11890d9458db", func := "marigold/marigoldlaw05.DutyAll", spec := "dutyAll", inPlace := ["sync/atomic.LoadUint32", "(*internal/sync.Mutex).Lock", "internal/race.Disable", "sync/atomic.CompareAndSwapInt32", "internal/race.Enable", "internal/race.Acquire", "(*internal/sync.Mutex).lockSlow", "internal/sync.runtime_canSpin", "internal/sync.runtime_doSpin", "internal/sync.throw", "internal/sync.runtime_nanotime", "internal/sync.runtime_SemacquireMutex", "sync/atomic.AddInt32", "(*internal/sync.Mutex).Unlock", "internal/race.ReleaseMerge", "(*internal/sync.Mutex).unlockSlow", "internal/sync.fatal", "internal/sync.runtime_Semrelease", "sync/atomic.StoreUint32"], unfollowed := true, recurses := true, apart := false }
def DutyAllSaid : Prop := dutyAllRow.holds Try.pinned (OpenSpec.ofChange dutyAllSpec)

/-- ITS FALSE NEIGHBOUR: 'it returns false'. Refute it at one input. -/
def dutyAllWrong : ChangeSpec := { name := "dutyAll", fn := fun _ => fun
  | [d1, d2, d3] => { results := [.lit (.bool false)], args := [d1, d2, d3] }
  | _ => none }
def DutyAllWrongFalsely : Prop := dutyAllRow.holds Try.pinned (OpenSpec.ofChange dutyAllWrong)

/-- 'marigoldlaw05.DutyParts': WHATEVER THE INPUT: true; the input reads as it did. -/
def dutyPartsSpec : ChangeSpec := { name := "dutyParts", fn := fun _ => fun
  | [d1, d2, d3] => { results := [.lit (.bool true)], args := [d1, d2, d3] }
  | _ => none }
def dutyPartsRow : OpenClaim := { program := "ytdidmgmfjfnliaa", sum := "fab7735755a7bd58b50ce27574aaf92ba5bd27768a33696bfd6b11890d9458db", func := "marigold/marigoldlaw05.DutyParts", spec := "dutyParts", inPlace := ["sync/atomic.LoadUint32", "(*internal/sync.Mutex).Lock", "internal/race.Disable", "sync/atomic.CompareAndSwapInt32", "internal/race.Enable", "internal/race.Acquire", "(*internal/sync.Mutex).lockSlow", "internal/sync.runtime_canSpin", "internal/sync.runtime_doSpin", "internal/sync.throw", "internal/sync.runtime_nanotime", "internal/sync.runtime_SemacquireMutex", "sync/atomic.AddInt32", "(*internal/sync.Mutex).Unlock", "internal/race.ReleaseMerge", "(*internal/sync.Mutex).unlockSlow", "internal/sync.fatal", "internal/sync.runtime_Semrelease", "sync/atomic.StoreUint32"], unfollowed := true, recurses := true, apart := false }
def DutyPartsSaid : Prop := dutyPartsRow.holds Try.pinned (OpenSpec.ofChange dutyPartsSpec)

/-- ITS FALSE NEIGHBOUR: 'it returns false'. Refute it at one input. -/
def dutyPartsWrong : ChangeSpec := { name := "dutyParts", fn := fun _ => fun
  | [d1, d2, d3] => { results := [.lit (.bool false)], args := [d1, d2, d3] }
  | _ => none }
def DutyPartsWrongFalsely : Prop := dutyPartsRow.holds Try.pinned (OpenSpec.ofChange dutyPartsWrong)

/-- 'marigoldlaw05.DutySeeds': WHATEVER THE INPUT: true; the input reads as it did. -/
def dutySeedsSpec : ChangeSpec := { name := "dutySeeds", fn := fun _ => fun
  | [d1, d2, d3] => { results := [.lit (.bool true)], args := [d1, d2, d3] }
  | _ => none }
def dutySeedsRow : OpenClaim := { program := "ytdidmgmfjfnliaa", sum := "fab7735755a7bd58b50ce27574aaf92ba5bd27768a33696bfd6b11890d9458db", func := "marigold/marigoldlaw05.DutySeeds", spec := "dutySeeds", inPlace := ["sync/atomic.LoadUint32", "(*internal/sync.Mutex).Lock", "internal/race.Disable", "sync/atomic.CompareAndSwapInt32", "internal/race.Enable", "internal/race.Acquire", "(*internal/sync.Mutex).lockSlow", "internal/sync.runtime_canSpin", "internal/sync.runtime_doSpin", "internal/sync.throw", "internal/sync.runtime_nanotime", "internal/sync.runtime_SemacquireMutex", "sync/atomic.AddInt32", "(*internal/sync.Mutex).Unlock", "internal/race.ReleaseMerge", "(*internal/sync.Mutex).unlockSlow", "internal/sync.fatal", "internal/sync.runtime_Semrelease", "sync/atomic.StoreUint32"], unfollowed := true, recurses := true, apart := false }
def DutySeedsSaid : Prop := dutySeedsRow.holds Try.pinned (OpenSpec.ofChange dutySeedsSpec)

/-- ITS FALSE NEIGHBOUR: 'it returns false'. Refute it at one input. -/
def dutySeedsWrong : ChangeSpec := { name := "dutySeeds", fn := fun _ => fun
  | [d1, d2, d3] => { results := [.lit (.bool false)], args := [d1, d2, d3] }
  | _ => none }
def DutySeedsWrongFalsely : Prop := dutySeedsRow.holds Try.pinned (OpenSpec.ofChange dutySeedsWrong)

/- THE SECOND FORM. 'bulk': how many values and letters a reading holds, each counted each time it is reached (what is shared counts as often as it is met; a slice's spare places count too). A statement '..UptoSaid' is the law's where the arguments, and the package variables that the reading takes, are together of bulk at most 1048576: NARROWER than '..Said'. Prove '..Said' where nothing that the law and all that it calls make is longer than what came in: it says more and counts as full. Else prove '..UptoSaid'. A law counts once. -/
mutual
def uptoBulk {H : Type} : DataW H → Nat
  | .lit (.string bytes) => bytes.length + 1
  | .lit _ => 1
  | .nil => 1
  | .ptr d => uptoBulk d + 1
  | .slice elems spare => uptoBulkAll elems + uptoBulkAll spare + 1
  | .agg parts => uptoBulkAll parts + 1
  | .iface _ d => uptoBulk d + 1
  | .map entries => uptoBulkEntries entries + 1
  | .held _ => 1
def uptoBulkAll {H : Type} : List (DataW H) → Nat
  | [] => 0
  | d :: r => uptoBulk d + uptoBulkAll r
def uptoBulkEntries {H : Type} : List (Lit × DataW H) → Nat
  | [] => 0
  | x :: r => uptoBulkEntry x + uptoBulkEntries r
def uptoBulkEntry {H : Type} : Lit × DataW H → Nat
  | (.string bytes, d) => bytes.length + uptoBulk d + 1
  | (_, d) => uptoBulk d + 1
 end
def uptoSmall : (H : Type) → List (DataW H) → Bool := fun _ ds => decide (uptoBulkAll ds ≤ 1048576)
def OpenSpec.upto (s : _root_.Go.ChangeSpec) : _root_.Go.OpenSpec := { _root_.Go.OpenSpec.ofChange s with cond := some uptoSmall }

/-- 'marigoldlaw05.DutyTells', WHERE WHAT IT READS IS OF BULK AT MOST 1048576: true; the input reads as it did. -/
def dutyTellsUptoRow : OpenClaim := { program := "ytdidmgmfjfnliaa", sum := "fab7735755a7bd58b50ce27574aaf92ba5bd27768a33696bfd6b11890d9458db", func := "marigold/marigoldlaw05.DutyTells", spec := "dutyTells", inPlace := ["sync/atomic.LoadUint32", "(*internal/sync.Mutex).Lock", "internal/race.Disable", "sync/atomic.CompareAndSwapInt32", "internal/race.Enable", "internal/race.Acquire", "(*internal/sync.Mutex).lockSlow", "internal/sync.runtime_canSpin", "internal/sync.runtime_doSpin", "internal/sync.throw", "internal/sync.runtime_nanotime", "internal/sync.runtime_SemacquireMutex", "sync/atomic.AddInt32", "(*internal/sync.Mutex).Unlock", "internal/race.ReleaseMerge", "(*internal/sync.Mutex).unlockSlow", "internal/sync.fatal", "internal/sync.runtime_Semrelease", "sync/atomic.StoreUint32"], unfollowed := true, recurses := true, apart := false, narrowed := true }
def DutyTellsUptoSaid : Prop := dutyTellsUptoRow.holds Try.pinned (OpenSpec.upto dutyTellsSpec)

/-- 'marigoldlaw05.DutyOnce', WHERE WHAT IT READS IS OF BULK AT MOST 1048576: true; the input reads as it did. -/
def dutyOnceUptoRow : OpenClaim := { program := "ytdidmgmfjfnliaa", sum := "fab7735755a7bd58b50ce27574aaf92ba5bd27768a33696bfd6b11890d9458db", func := "marigold/marigoldlaw05.DutyOnce", spec := "dutyOnce", inPlace := ["sync/atomic.LoadUint32", "(*internal/sync.Mutex).Lock", "internal/race.Disable", "sync/atomic.CompareAndSwapInt32", "internal/race.Enable", "internal/race.Acquire", "(*internal/sync.Mutex).lockSlow", "internal/sync.runtime_canSpin", "internal/sync.runtime_doSpin", "internal/sync.throw", "internal/sync.runtime_nanotime", "internal/sync.runtime_SemacquireMutex", "sync/atomic.AddInt32", "(*internal/sync.Mutex).Unlock", "internal/race.ReleaseMerge", "(*internal/sync.Mutex).unlockSlow", "internal/sync.fatal", "internal/sync.runtime_Semrelease", "sync/atomic.StoreUint32"], unfollowed := true, recurses := true, apart := false, narrowed := true }
def DutyOnceUptoSaid : Prop := dutyOnceUptoRow.holds Try.pinned (OpenSpec.upto dutyOnceSpec)

/-- 'marigoldlaw05.DutyWeighs', WHERE WHAT IT READS IS OF BULK AT MOST 1048576: true; the input reads as it did. -/
def dutyWeighsUptoRow : OpenClaim := { program := "ytdidmgmfjfnliaa", sum := "fab7735755a7bd58b50ce27574aaf92ba5bd27768a33696bfd6b11890d9458db", func := "marigold/marigoldlaw05.DutyWeighs", spec := "dutyWeighs", inPlace := ["sync/atomic.LoadUint32", "(*internal/sync.Mutex).Lock", "internal/race.Disable", "sync/atomic.CompareAndSwapInt32", "internal/race.Enable", "internal/race.Acquire", "(*internal/sync.Mutex).lockSlow", "internal/sync.runtime_canSpin", "internal/sync.runtime_doSpin", "internal/sync.throw", "internal/sync.runtime_nanotime", "internal/sync.runtime_SemacquireMutex", "sync/atomic.AddInt32", "(*internal/sync.Mutex).Unlock", "internal/race.ReleaseMerge", "(*internal/sync.Mutex).unlockSlow", "internal/sync.fatal", "internal/sync.runtime_Semrelease", "sync/atomic.StoreUint32"], unfollowed := true, recurses := true, apart := false, narrowed := true }
def DutyWeighsUptoSaid : Prop := dutyWeighsUptoRow.holds Try.pinned (OpenSpec.upto dutyWeighsSpec)

/-- 'marigoldlaw05.DutyProposes', WHERE WHAT IT READS IS OF BULK AT MOST 1048576: true; the input reads as it did. -/
def dutyProposesUptoRow : OpenClaim := { program := "ytdidmgmfjfnliaa", sum := "fab7735755a7bd58b50ce27574aaf92ba5bd27768a33696bfd6b11890d9458db", func := "marigold/marigoldlaw05.DutyProposes", spec := "dutyProposes", inPlace := ["sync/atomic.LoadUint32", "(*internal/sync.Mutex).Lock", "internal/race.Disable", "sync/atomic.CompareAndSwapInt32", "internal/race.Enable", "internal/race.Acquire", "(*internal/sync.Mutex).lockSlow", "internal/sync.runtime_canSpin", "internal/sync.runtime_doSpin", "internal/sync.throw", "internal/sync.runtime_nanotime", "internal/sync.runtime_SemacquireMutex", "sync/atomic.AddInt32", "(*internal/sync.Mutex).Unlock", "internal/race.ReleaseMerge", "(*internal/sync.Mutex).unlockSlow", "internal/sync.fatal", "internal/sync.runtime_Semrelease", "sync/atomic.StoreUint32"], unfollowed := true, recurses := true, apart := false, narrowed := true }
def DutyProposesUptoSaid : Prop := dutyProposesUptoRow.holds Try.pinned (OpenSpec.upto dutyProposesSpec)

/-- 'marigoldlaw05.DutyAll', WHERE WHAT IT READS IS OF BULK AT MOST 1048576: true; the input reads as it did. -/
def dutyAllUptoRow : OpenClaim := { program := "ytdidmgmfjfnliaa", sum := "fab7735755a7bd58b50ce27574aaf92ba5bd27768a33696bfd6b11890d9458db", func := "marigold/marigoldlaw05.DutyAll", spec := "dutyAll", inPlace := ["sync/atomic.LoadUint32", "(*internal/sync.Mutex).Lock", "internal/race.Disable", "sync/atomic.CompareAndSwapInt32", "internal/race.Enable", "internal/race.Acquire", "(*internal/sync.Mutex).lockSlow", "internal/sync.runtime_canSpin", "internal/sync.runtime_doSpin", "internal/sync.throw", "internal/sync.runtime_nanotime", "internal/sync.runtime_SemacquireMutex", "sync/atomic.AddInt32", "(*internal/sync.Mutex).Unlock", "internal/race.ReleaseMerge", "(*internal/sync.Mutex).unlockSlow", "internal/sync.fatal", "internal/sync.runtime_Semrelease", "sync/atomic.StoreUint32"], unfollowed := true, recurses := true, apart := false, narrowed := true }
def DutyAllUptoSaid : Prop := dutyAllUptoRow.holds Try.pinned (OpenSpec.upto dutyAllSpec)

/-- 'marigoldlaw05.DutyParts', WHERE WHAT IT READS IS OF BULK AT MOST 1048576: true; the input reads as it did. -/
def dutyPartsUptoRow : OpenClaim := { program := "ytdidmgmfjfnliaa", sum := "fab7735755a7bd58b50ce27574aaf92ba5bd27768a33696bfd6b11890d9458db", func := "marigold/marigoldlaw05.DutyParts", spec := "dutyParts", inPlace := ["sync/atomic.LoadUint32", "(*internal/sync.Mutex).Lock", "internal/race.Disable", "sync/atomic.CompareAndSwapInt32", "internal/race.Enable", "internal/race.Acquire", "(*internal/sync.Mutex).lockSlow", "internal/sync.runtime_canSpin", "internal/sync.runtime_doSpin", "internal/sync.throw", "internal/sync.runtime_nanotime", "internal/sync.runtime_SemacquireMutex", "sync/atomic.AddInt32", "(*internal/sync.Mutex).Unlock", "internal/race.ReleaseMerge", "(*internal/sync.Mutex).unlockSlow", "internal/sync.fatal", "internal/sync.runtime_Semrelease", "sync/atomic.StoreUint32"], unfollowed := true, recurses := true, apart := false, narrowed := true }
def DutyPartsUptoSaid : Prop := dutyPartsUptoRow.holds Try.pinned (OpenSpec.upto dutyPartsSpec)

/-- 'marigoldlaw05.DutySeeds', WHERE WHAT IT READS IS OF BULK AT MOST 1048576: true; the input reads as it did. -/
def dutySeedsUptoRow : OpenClaim := { program := "ytdidmgmfjfnliaa", sum := "fab7735755a7bd58b50ce27574aaf92ba5bd27768a33696bfd6b11890d9458db", func := "marigold/marigoldlaw05.DutySeeds", spec := "dutySeeds", inPlace := ["sync/atomic.LoadUint32", "(*internal/sync.Mutex).Lock", "internal/race.Disable", "sync/atomic.CompareAndSwapInt32", "internal/race.Enable", "internal/race.Acquire", "(*internal/sync.Mutex).lockSlow", "internal/sync.runtime_canSpin", "internal/sync.runtime_doSpin", "internal/sync.throw", "internal/sync.runtime_nanotime", "internal/sync.runtime_SemacquireMutex", "sync/atomic.AddInt32", "(*internal/sync.Mutex).Unlock", "internal/race.ReleaseMerge", "(*internal/sync.Mutex).unlockSlow", "internal/sync.fatal", "internal/sync.runtime_Semrelease", "sync/atomic.StoreUint32"], unfollowed := true, recurses := true, apart := false, narrowed := true }
def DutySeedsUptoSaid : Prop := dutySeedsUptoRow.holds Try.pinned (OpenSpec.upto dutySeedsSpec)

end Rows
end Go.Proofs.Ytdidmgmfjfnliaa
