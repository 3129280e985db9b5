/-
  No cell of these rows narrows 'for every input' (looked for: loops, veiled, ifaces, maps, wideKeys, modest, calm, conditions, laid).
  DERIVED. THE GIVEN ROWS OF THIS SEAT. 7 by the template 'for every input the law returns true; each argument reads behind the call as it read before'; 0 by the template 'total and deterministic' (their statements: YtpojiijgahcidaaGreatTotals.lean).
  GIVEN WITH THE SEED: the statements are not yours to turn. If you find one false, say at which input.
  Laid BY PROGRAM, IN A SANDBOX (cutbox-rows.mjs): the forced cells as the released guide's own fill.sh prints them over the translation be386dd065cf6b57… (all of the seat's roots in one cut). By AI agents, Wed Nov 11 2026. No macro, syntax, notation, axiom, sorry.
-/
import Derived.Test.YtpojiijgahcidaaGreatChecked
import GoSem.Claim
import GoSem.ClaimJoined
import GoSem.ClaimMapViews
import Derived.JoinedTies
import Derived.KernelRfl
namespace Go.Proofs.YtpojiijgahcidaaGreat
/- THE CELL 'sum', in the pinned program and in every row, IS THE sha256 OF THE DUMP (.gsa) THAT YtpojiijgahcidaaGreatProg.lean LOADS. Nothing in Lean hashes anything: it is a label: what it is worth is what the hold of that sum in a sandbox is worth. -/
noncomputable def Tryz.pinned : Pinned := { name := "ytpojiijgahcidaagreat", sum := "be386dd065cf6b570d270ac9c24b408400b7ad687c32c57a38e096faa9022a67", checked := Tryz.checked }
namespace Rows
def none {H : Type} : Left H := { results := [], args := [] }

/-- 'marigoldlaw15.QuickTells': WHATEVER THE INPUT: true; the input reads as it did. -/
def quickTellsSpec : ChangeSpec := { name := "quickTells", fn := fun _ => fun
  | [d1, d2, d3, d4] => { results := [.lit (.bool true)], args := [d1, d2, d3, d4] }
  | _ => none }
def quickTellsRow : OpenClaim := { program := "ytpojiijgahcidaagreat", sum := "be386dd065cf6b570d270ac9c24b408400b7ad687c32c57a38e096faa9022a67", func := "marigold/marigoldlaw15.QuickTells", spec := "quickTells", inPlace := ["sync/atomic.LoadUint32", "(*internal/sync.Mutex).Lock", "internal/race.Disable", "sync/atomic.CompareAndSwapInt32", "internal/race.Enable", "internal/race.Acquire", "(*internal/sync.Mutex).lockSlow", "internal/sync.runtime_canSpin", "internal/sync.runtime_doSpin", "internal/sync.throw", "internal/sync.runtime_nanotime", "internal/sync.runtime_SemacquireMutex", "sync/atomic.AddInt32", "(*internal/sync.Mutex).Unlock", "internal/race.ReleaseMerge", "(*internal/sync.Mutex).unlockSlow", "internal/sync.fatal", "internal/sync.runtime_Semrelease", "sync/atomic.StoreUint32"], unfollowed := true, recurses := true, plainKeys := false, apart := false }
def QuickTellsSaid : Prop := quickTellsRow.holds Tryz.pinned (OpenSpec.ofChange quickTellsSpec)

/-- ITS FALSE NEIGHBOUR: 'it returns false'. Refute it at one input. -/
def quickTellsWrong : ChangeSpec := { name := "quickTells", fn := fun _ => fun
  | [d1, d2, d3, d4] => { results := [.lit (.bool false)], args := [d1, d2, d3, d4] }
  | _ => none }
def QuickTellsWrongFalsely : Prop := quickTellsRow.holds Tryz.pinned (OpenSpec.ofChange quickTellsWrong)

/-- 'marigoldlaw15.QuickChain': WHATEVER THE INPUT: true; the input reads as it did. -/
def quickChainSpec : ChangeSpec := { name := "quickChain", fn := fun _ => fun
  | [d1, d2, d3, d4, d5] => { results := [.lit (.bool true)], args := [d1, d2, d3, d4, d5] }
  | _ => none }
def quickChainRow : OpenClaim := { program := "ytpojiijgahcidaagreat", sum := "be386dd065cf6b570d270ac9c24b408400b7ad687c32c57a38e096faa9022a67", func := "marigold/marigoldlaw15.QuickChain", spec := "quickChain", inPlace := ["sync/atomic.LoadUint32", "(*internal/sync.Mutex).Lock", "internal/race.Disable", "sync/atomic.CompareAndSwapInt32", "internal/race.Enable", "internal/race.Acquire", "(*internal/sync.Mutex).lockSlow", "internal/sync.runtime_canSpin", "internal/sync.runtime_doSpin", "internal/sync.throw", "internal/sync.runtime_nanotime", "internal/sync.runtime_SemacquireMutex", "sync/atomic.AddInt32", "(*internal/sync.Mutex).Unlock", "internal/race.ReleaseMerge", "(*internal/sync.Mutex).unlockSlow", "internal/sync.fatal", "internal/sync.runtime_Semrelease", "sync/atomic.StoreUint32"], unfollowed := true, recurses := true, plainKeys := false, apart := false }
def QuickChainSaid : Prop := quickChainRow.holds Tryz.pinned (OpenSpec.ofChange quickChainSpec)

/-- ITS FALSE NEIGHBOUR: 'it returns false'. Refute it at one input. -/
def quickChainWrong : ChangeSpec := { name := "quickChain", fn := fun _ => fun
  | [d1, d2, d3, d4, d5] => { results := [.lit (.bool false)], args := [d1, d2, d3, d4, d5] }
  | _ => none }
def QuickChainWrongFalsely : Prop := quickChainRow.holds Tryz.pinned (OpenSpec.ofChange quickChainWrong)

/-- 'marigoldlaw15.QuickGood': WHATEVER THE INPUT: true; the input reads as it did. -/
def quickGoodSpec : ChangeSpec := { name := "quickGood", fn := fun _ => fun
  | [d1, d2, d3, d4, d5] => { results := [.lit (.bool true)], args := [d1, d2, d3, d4, d5] }
  | _ => none }
def quickGoodRow : OpenClaim := { program := "ytpojiijgahcidaagreat", sum := "be386dd065cf6b570d270ac9c24b408400b7ad687c32c57a38e096faa9022a67", func := "marigold/marigoldlaw15.QuickGood", spec := "quickGood", inPlace := ["sync/atomic.LoadUint32", "(*internal/sync.Mutex).Lock", "internal/race.Disable", "sync/atomic.CompareAndSwapInt32", "internal/race.Enable", "internal/race.Acquire", "(*internal/sync.Mutex).lockSlow", "internal/sync.runtime_canSpin", "internal/sync.runtime_doSpin", "internal/sync.throw", "internal/sync.runtime_nanotime", "internal/sync.runtime_SemacquireMutex", "sync/atomic.AddInt32", "(*internal/sync.Mutex).Unlock", "internal/race.ReleaseMerge", "(*internal/sync.Mutex).unlockSlow", "internal/sync.fatal", "internal/sync.runtime_Semrelease", "sync/atomic.StoreUint32"], unfollowed := true, recurses := true, plainKeys := false, apart := false }
def QuickGoodSaid : Prop := quickGoodRow.holds Tryz.pinned (OpenSpec.ofChange quickGoodSpec)

/-- ITS FALSE NEIGHBOUR: 'it returns false'. Refute it at one input. -/
def quickGoodWrong : ChangeSpec := { name := "quickGood", fn := fun _ => fun
  | [d1, d2, d3, d4, d5] => { results := [.lit (.bool false)], args := [d1, d2, d3, d4, d5] }
  | _ => none }
def QuickGoodWrongFalsely : Prop := quickGoodRow.holds Tryz.pinned (OpenSpec.ofChange quickGoodWrong)

/-- 'marigoldlaw15.QuickTop': WHATEVER THE INPUT: true; the input reads as it did. -/
def quickTopSpec : ChangeSpec := { name := "quickTop", fn := fun _ => fun
  | [d1, d2, d3, d4] => { results := [.lit (.bool true)], args := [d1, d2, d3, d4] }
  | _ => none }
def quickTopRow : OpenClaim := { program := "ytpojiijgahcidaagreat", sum := "be386dd065cf6b570d270ac9c24b408400b7ad687c32c57a38e096faa9022a67", func := "marigold/marigoldlaw15.QuickTop", spec := "quickTop", inPlace := ["sync/atomic.LoadUint32", "(*internal/sync.Mutex).Lock", "internal/race.Disable", "sync/atomic.CompareAndSwapInt32", "internal/race.Enable", "internal/race.Acquire", "(*internal/sync.Mutex).lockSlow", "internal/sync.runtime_canSpin", "internal/sync.runtime_doSpin", "internal/sync.throw", "internal/sync.runtime_nanotime", "internal/sync.runtime_SemacquireMutex", "sync/atomic.AddInt32", "(*internal/sync.Mutex).Unlock", "internal/race.ReleaseMerge", "(*internal/sync.Mutex).unlockSlow", "internal/sync.fatal", "internal/sync.runtime_Semrelease", "sync/atomic.StoreUint32"], unfollowed := true, recurses := true, plainKeys := false, apart := false }
def QuickTopSaid : Prop := quickTopRow.holds Tryz.pinned (OpenSpec.ofChange quickTopSpec)

/-- ITS FALSE NEIGHBOUR: 'it returns false'. Refute it at one input. -/
def quickTopWrong : ChangeSpec := { name := "quickTop", fn := fun _ => fun
  | [d1, d2, d3, d4] => { results := [.lit (.bool false)], args := [d1, d2, d3, d4] }
  | _ => none }
def QuickTopWrongFalsely : Prop := quickTopRow.holds Tryz.pinned (OpenSpec.ofChange quickTopWrong)

/-- 'marigoldlaw15.QuickBeta': WHATEVER THE INPUT: true; the input reads as it did. -/
def quickBetaSpec : ChangeSpec := { name := "quickBeta", fn := fun _ => fun
  | [d1, d2, d3, d4, d5] => { results := [.lit (.bool true)], args := [d1, d2, d3, d4, d5] }
  | _ => none }
def quickBetaRow : OpenClaim := { program := "ytpojiijgahcidaagreat", sum := "be386dd065cf6b570d270ac9c24b408400b7ad687c32c57a38e096faa9022a67", func := "marigold/marigoldlaw15.QuickBeta", spec := "quickBeta", inPlace := ["sync/atomic.LoadUint32", "(*internal/sync.Mutex).Lock", "internal/race.Disable", "sync/atomic.CompareAndSwapInt32", "internal/race.Enable", "internal/race.Acquire", "(*internal/sync.Mutex).lockSlow", "internal/sync.runtime_canSpin", "internal/sync.runtime_doSpin", "internal/sync.throw", "internal/sync.runtime_nanotime", "internal/sync.runtime_SemacquireMutex", "sync/atomic.AddInt32", "(*internal/sync.Mutex).Unlock", "internal/race.ReleaseMerge", "(*internal/sync.Mutex).unlockSlow", "internal/sync.fatal", "internal/sync.runtime_Semrelease", "sync/atomic.StoreUint32"], unfollowed := true, recurses := true, plainKeys := false, apart := false }
def QuickBetaSaid : Prop := quickBetaRow.holds Tryz.pinned (OpenSpec.ofChange quickBetaSpec)

/-- ITS FALSE NEIGHBOUR: 'it returns false'. Refute it at one input. -/
def quickBetaWrong : ChangeSpec := { name := "quickBeta", fn := fun _ => fun
  | [d1, d2, d3, d4, d5] => { results := [.lit (.bool false)], args := [d1, d2, d3, d4, d5] }
  | _ => none }
def QuickBetaWrongFalsely : Prop := quickBetaRow.holds Tryz.pinned (OpenSpec.ofChange quickBetaWrong)

/-- 'marigoldlaw15.QuickAll': WHATEVER THE INPUT: true; the input reads as it did. -/
def quickAllSpec : ChangeSpec := { name := "quickAll", fn := fun _ => fun
  | [d1, d2, d3, d4] => { results := [.lit (.bool true)], args := [d1, d2, d3, d4] }
  | _ => none }
def quickAllRow : OpenClaim := { program := "ytpojiijgahcidaagreat", sum := "be386dd065cf6b570d270ac9c24b408400b7ad687c32c57a38e096faa9022a67", func := "marigold/marigoldlaw15.QuickAll", spec := "quickAll", inPlace := ["sync/atomic.LoadUint32", "(*internal/sync.Mutex).Lock", "internal/race.Disable", "sync/atomic.CompareAndSwapInt32", "internal/race.Enable", "internal/race.Acquire", "(*internal/sync.Mutex).lockSlow", "internal/sync.runtime_canSpin", "internal/sync.runtime_doSpin", "internal/sync.throw", "internal/sync.runtime_nanotime", "internal/sync.runtime_SemacquireMutex", "sync/atomic.AddInt32", "(*internal/sync.Mutex).Unlock", "internal/race.ReleaseMerge", "(*internal/sync.Mutex).unlockSlow", "internal/sync.fatal", "internal/sync.runtime_Semrelease", "sync/atomic.StoreUint32"], unfollowed := true, recurses := true, plainKeys := false, apart := false }
def QuickAllSaid : Prop := quickAllRow.holds Tryz.pinned (OpenSpec.ofChange quickAllSpec)

/-- ITS FALSE NEIGHBOUR: 'it returns false'. Refute it at one input. -/
def quickAllWrong : ChangeSpec := { name := "quickAll", fn := fun _ => fun
  | [d1, d2, d3, d4] => { results := [.lit (.bool false)], args := [d1, d2, d3, d4] }
  | _ => none }
def QuickAllWrongFalsely : Prop := quickAllRow.holds Tryz.pinned (OpenSpec.ofChange quickAllWrong)

/-- 'marigoldlaw15.QuickNone': WHATEVER THE INPUT: true; the input reads as it did. -/
def quickNoneSpec : ChangeSpec := { name := "quickNone", fn := fun _ => fun
  | [d1, d2, d3, d4] => { results := [.lit (.bool true)], args := [d1, d2, d3, d4] }
  | _ => none }
def quickNoneRow : OpenClaim := { program := "ytpojiijgahcidaagreat", sum := "be386dd065cf6b570d270ac9c24b408400b7ad687c32c57a38e096faa9022a67", func := "marigold/marigoldlaw15.QuickNone", spec := "quickNone", inPlace := ["sync/atomic.LoadUint32", "(*internal/sync.Mutex).Lock", "internal/race.Disable", "sync/atomic.CompareAndSwapInt32", "internal/race.Enable", "internal/race.Acquire", "(*internal/sync.Mutex).lockSlow", "internal/sync.runtime_canSpin", "internal/sync.runtime_doSpin", "internal/sync.throw", "internal/sync.runtime_nanotime", "internal/sync.runtime_SemacquireMutex", "sync/atomic.AddInt32", "(*internal/sync.Mutex).Unlock", "internal/race.ReleaseMerge", "(*internal/sync.Mutex).unlockSlow", "internal/sync.fatal", "internal/sync.runtime_Semrelease", "sync/atomic.StoreUint32"], unfollowed := true, recurses := true, plainKeys := false, apart := false }
def QuickNoneSaid : Prop := quickNoneRow.holds Tryz.pinned (OpenSpec.ofChange quickNoneSpec)

/-- ITS FALSE NEIGHBOUR: 'it returns false'. Refute it at one input. -/
def quickNoneWrong : ChangeSpec := { name := "quickNone", fn := fun _ => fun
  | [d1, d2, d3, d4] => { results := [.lit (.bool false)], args := [d1, d2, d3, d4] }
  | _ => none }
def QuickNoneWrongFalsely : Prop := quickNoneRow.holds Tryz.pinned (OpenSpec.ofChange quickNoneWrong)

/- THE SECOND FORM. 'bulk': how many values and letters a reading holds, each counted each time it is reached (what is shared counts as often as it is met; a slice's spare places count too). A statement '..UptoSaid' is the law's where the arguments, and the package variables that the reading takes, are together of bulk at most 1048576: NARROWER than '..Said'. Prove '..Said' where nothing that the law and all that it calls make is longer than what came in: it says more and counts as full. Else prove '..UptoSaid'. A law counts once. -/
mutual
def uptoBulk {H : Type} : DataW H → Nat
  | .lit (.string bytes) => bytes.length + 1
  | .lit _ => 1
  | .nil => 1
  | .ptr d => uptoBulk d + 1
  | .slice elems spare => uptoBulkAll elems + uptoBulkAll spare + 1
  | .agg parts => uptoBulkAll parts + 1
  | .iface _ d => uptoBulk d + 1
  | .map entries => uptoBulkEntries entries + 1
  | .held _ => 1
def uptoBulkAll {H : Type} : List (DataW H) → Nat
  | [] => 0
  | d :: r => uptoBulk d + uptoBulkAll r
def uptoBulkEntries {H : Type} : List (Lit × DataW H) → Nat
  | [] => 0
  | x :: r => uptoBulkEntry x + uptoBulkEntries r
def uptoBulkEntry {H : Type} : Lit × DataW H → Nat
  | (.string bytes, d) => bytes.length + uptoBulk d + 1
  | (_, d) => uptoBulk d + 1
 end
def uptoSmall : (H : Type) → List (DataW H) → Bool := fun _ ds => decide (uptoBulkAll ds ≤ 1048576)
def OpenSpec.upto (s : _root_.Go.ChangeSpec) : _root_.Go.OpenSpec := { _root_.Go.OpenSpec.ofChange s with cond := some uptoSmall }

/-- 'marigoldlaw15.QuickTells', WHERE WHAT IT READS IS OF BULK AT MOST 1048576: true; the input reads as it did. -/
def quickTellsUptoRow : OpenClaim := { program := "ytpojiijgahcidaagreat", sum := "be386dd065cf6b570d270ac9c24b408400b7ad687c32c57a38e096faa9022a67", func := "marigold/marigoldlaw15.QuickTells", spec := "quickTells", inPlace := ["sync/atomic.LoadUint32", "(*internal/sync.Mutex).Lock", "internal/race.Disable", "sync/atomic.CompareAndSwapInt32", "internal/race.Enable", "internal/race.Acquire", "(*internal/sync.Mutex).lockSlow", "internal/sync.runtime_canSpin", "internal/sync.runtime_doSpin", "internal/sync.throw", "internal/sync.runtime_nanotime", "internal/sync.runtime_SemacquireMutex", "sync/atomic.AddInt32", "(*internal/sync.Mutex).Unlock", "internal/race.ReleaseMerge", "(*internal/sync.Mutex).unlockSlow", "internal/sync.fatal", "internal/sync.runtime_Semrelease", "sync/atomic.StoreUint32"], unfollowed := true, recurses := true, plainKeys := false, apart := false, narrowed := true }
def QuickTellsUptoSaid : Prop := quickTellsUptoRow.holds Tryz.pinned (OpenSpec.upto quickTellsSpec)

/-- 'marigoldlaw15.QuickChain', WHERE WHAT IT READS IS OF BULK AT MOST 1048576: true; the input reads as it did. -/
def quickChainUptoRow : OpenClaim := { program := "ytpojiijgahcidaagreat", sum := "be386dd065cf6b570d270ac9c24b408400b7ad687c32c57a38e096faa9022a67", func := "marigold/marigoldlaw15.QuickChain", spec := "quickChain", inPlace := ["sync/atomic.LoadUint32", "(*internal/sync.Mutex).Lock", "internal/race.Disable", "sync/atomic.CompareAndSwapInt32", "internal/race.Enable", "internal/race.Acquire", "(*internal/sync.Mutex).lockSlow", "internal/sync.runtime_canSpin", "internal/sync.runtime_doSpin", "internal/sync.throw", "internal/sync.runtime_nanotime", "internal/sync.runtime_SemacquireMutex", "sync/atomic.AddInt32", "(*internal/sync.Mutex).Unlock", "internal/race.ReleaseMerge", "(*internal/sync.Mutex).unlockSlow", "internal/sync.fatal", "internal/sync.runtime_Semrelease", "sync/atomic.StoreUint32"], unfollowed := true, recurses := true, plainKeys := false, apart := false, narrowed := true }
def QuickChainUptoSaid : Prop := quickChainUptoRow.holds Tryz.pinned (OpenSpec.upto quickChainSpec)

/-- 'marigoldlaw15.QuickGood', WHERE WHAT IT READS IS OF BULK AT MOST 1048576: true; the input reads as it did. -/
def quickGoodUptoRow : OpenClaim := { program := "ytpojiijgahcidaagreat", sum := "be386dd065cf6b570d270ac9c24b408400b7ad687c32c57a38e096faa9022a67", func := "marigold/marigoldlaw15.QuickGood", spec := "quickGood", inPlace := ["sync/atomic.LoadUint32", "(*internal/sync.Mutex).Lock", "internal/race.Disable", "sync/atomic.CompareAndSwapInt32", "internal/race.Enable", "internal/race.Acquire", "(*internal/sync.Mutex).lockSlow", "internal/sync.runtime_canSpin", "internal/sync.runtime_doSpin", "internal/sync.throw", "internal/sync.runtime_nanotime", "internal/sync.runtime_SemacquireMutex", "sync/atomic.AddInt32", "(*internal/sync.Mutex).Unlock", "internal/race.ReleaseMerge", "(*internal/sync.Mutex).unlockSlow", "internal/sync.fatal", "internal/sync.runtime_Semrelease", "sync/atomic.StoreUint32"], unfollowed := true, recurses := true, plainKeys := false, apart := false, narrowed := true }
def QuickGoodUptoSaid : Prop := quickGoodUptoRow.holds Tryz.pinned (OpenSpec.upto quickGoodSpec)

/-- 'marigoldlaw15.QuickTop', WHERE WHAT IT READS IS OF BULK AT MOST 1048576: true; the input reads as it did. -/
def quickTopUptoRow : OpenClaim := { program := "ytpojiijgahcidaagreat", sum := "be386dd065cf6b570d270ac9c24b408400b7ad687c32c57a38e096faa9022a67", func := "marigold/marigoldlaw15.QuickTop", spec := "quickTop", inPlace := ["sync/atomic.LoadUint32", "(*internal/sync.Mutex).Lock", "internal/race.Disable", "sync/atomic.CompareAndSwapInt32", "internal/race.Enable", "internal/race.Acquire", "(*internal/sync.Mutex).lockSlow", "internal/sync.runtime_canSpin", "internal/sync.runtime_doSpin", "internal/sync.throw", "internal/sync.runtime_nanotime", "internal/sync.runtime_SemacquireMutex", "sync/atomic.AddInt32", "(*internal/sync.Mutex).Unlock", "internal/race.ReleaseMerge", "(*internal/sync.Mutex).unlockSlow", "internal/sync.fatal", "internal/sync.runtime_Semrelease", "sync/atomic.StoreUint32"], unfollowed := true, recurses := true, plainKeys := false, apart := false, narrowed := true }
def QuickTopUptoSaid : Prop := quickTopUptoRow.holds Tryz.pinned (OpenSpec.upto quickTopSpec)

/-- 'marigoldlaw15.QuickBeta', WHERE WHAT IT READS IS OF BULK AT MOST 1048576: true; the input reads as it did. -/
def quickBetaUptoRow : OpenClaim := { program := "ytpojiijgahcidaagreat", sum := "be386dd065cf6b570d270ac9c24b408400b7ad687c32c57a38e096faa9022a67", func := "marigold/marigoldlaw15.QuickBeta", spec := "quickBeta", inPlace := ["sync/atomic.LoadUint32", "(*internal/sync.Mutex).Lock", "internal/race.Disable", "sync/atomic.CompareAndSwapInt32", "internal/race.Enable", "internal/race.Acquire", "(*internal/sync.Mutex).lockSlow", "internal/sync.runtime_canSpin", "internal/sync.runtime_doSpin", "internal/sync.throw", "internal/sync.runtime_nanotime", "internal/sync.runtime_SemacquireMutex", "sync/atomic.AddInt32", "(*internal/sync.Mutex).Unlock", "internal/race.ReleaseMerge", "(*internal/sync.Mutex).unlockSlow", "internal/sync.fatal", "internal/sync.runtime_Semrelease", "sync/atomic.StoreUint32"], unfollowed := true, recurses := true, plainKeys := false, apart := false, narrowed := true }
def QuickBetaUptoSaid : Prop := quickBetaUptoRow.holds Tryz.pinned (OpenSpec.upto quickBetaSpec)

/-- 'marigoldlaw15.QuickAll', WHERE WHAT IT READS IS OF BULK AT MOST 1048576: true; the input reads as it did. -/
def quickAllUptoRow : OpenClaim := { program := "ytpojiijgahcidaagreat", sum := "be386dd065cf6b570d270ac9c24b408400b7ad687c32c57a38e096faa9022a67", func := "marigold/marigoldlaw15.QuickAll", spec := "quickAll", inPlace := ["sync/atomic.LoadUint32", "(*internal/sync.Mutex).Lock", "internal/race.Disable", "sync/atomic.CompareAndSwapInt32", "internal/race.Enable", "internal/race.Acquire", "(*internal/sync.Mutex).lockSlow", "internal/sync.runtime_canSpin", "internal/sync.runtime_doSpin", "internal/sync.throw", "internal/sync.runtime_nanotime", "internal/sync.runtime_SemacquireMutex", "sync/atomic.AddInt32", "(*internal/sync.Mutex).Unlock", "internal/race.ReleaseMerge", "(*internal/sync.Mutex).unlockSlow", "internal/sync.fatal", "internal/sync.runtime_Semrelease", "sync/atomic.StoreUint32"], unfollowed := true, recurses := true, plainKeys := false, apart := false, narrowed := true }
def QuickAllUptoSaid : Prop := quickAllUptoRow.holds Tryz.pinned (OpenSpec.upto quickAllSpec)

/-- 'marigoldlaw15.QuickNone', WHERE WHAT IT READS IS OF BULK AT MOST 1048576: true; the input reads as it did. -/
def quickNoneUptoRow : OpenClaim := { program := "ytpojiijgahcidaagreat", sum := "be386dd065cf6b570d270ac9c24b408400b7ad687c32c57a38e096faa9022a67", func := "marigold/marigoldlaw15.QuickNone", spec := "quickNone", inPlace := ["sync/atomic.LoadUint32", "(*internal/sync.Mutex).Lock", "internal/race.Disable", "sync/atomic.CompareAndSwapInt32", "internal/race.Enable", "internal/race.Acquire", "(*internal/sync.Mutex).lockSlow", "internal/sync.runtime_canSpin", "internal/sync.runtime_doSpin", "internal/sync.throw", "internal/sync.runtime_nanotime", "internal/sync.runtime_SemacquireMutex", "sync/atomic.AddInt32", "(*internal/sync.Mutex).Unlock", "internal/race.ReleaseMerge", "(*internal/sync.Mutex).unlockSlow", "internal/sync.fatal", "internal/sync.runtime_Semrelease", "sync/atomic.StoreUint32"], unfollowed := true, recurses := true, plainKeys := false, apart := false, narrowed := true }
def QuickNoneUptoSaid : Prop := quickNoneUptoRow.holds Tryz.pinned (OpenSpec.upto quickNoneSpec)

end Rows
end Go.Proofs.YtpojiijgahcidaaGreat
