/-
  The contracts of package view's calls.
-/
import Derived.Test.YtacdiicnfoejoaaViewCome
import Derived.Test.YtacdiicnfoejoaaViewOnlyP
import Derived.Test.YtacdiicnfoejoaaViewJoinP
import Derived.Test.YtacdiicnfoejoaaViewLoadP
import Derived.Test.YtacdiicnfoejoaaViewTakeP
namespace Go.Proofs.Ytacdiicnfoejoaa
set_option maxRecDepth 100000
set_option linter.unusedVariables false
set_option linter.unusedSimpArgs false
set_option linter.unusedSimpArgs false
set_option linter.unusedVariables false
open Go.ChangeShapes Go.WideShapes Go.ChangeAt Go.RowKit

theorem wf64_join {l m : List Bk} (h1 : Wf64L l) (h2 : Wf64L m) : Wf64L (joinL l m) := fun b hb => (mem_joinL.1 hb).elim (h1 b) (h2 b)
theorem viewMay_any (kA : Option Addr) (kc : Nat) (k : Cf) (lA : Option Addr) (lc : Nat) (l : List Bk) (vA : Option Addr) (vc : Nat) (v : List Vt) (w : World) (hk : k.ws.length ≤ 1000) (hsd : k.seed < 18446744073709551616) (hl : l.length ≤ 10000) (hv : v.length ≤ 10000) (hlc : l.length ≤ lc) (hvc : v.length ≤ vc) (hwl : WfL l) (hwv : WfVs v) (hA : CellsAt w w.heap.size kA (intCells k.ws)) (hL : CellsAt w w.heap.size lA (blockCells l)) (hV : CellsAt w w.heap.size vA (votesCells v)) :
    Calls Try.prog 12 #[.agg #[.slice kA k.ws.length kc, .int .u64 k.seed, .int .i64 k.ep, .int .i64 k.nu, .int .i64 k.de], .agg #[.slice lA l.length lc, .slice vA v.length vc]] w fun e w' => e = .returned (.bool (mayW k ⟨l, v⟩)) ∧ Kept w w' :=
  viewMayN_any kA kc k lA lc l vA vc v w hk hsd hl hv hwl hwv hA hL hV
theorem viewOnly_any (kA : Option Addr) (kc : Nat) (k : Cf) (lA : Option Addr) (lc : Nat) (l : List Bk) (vA : Option Addr) (vc : Nat) (v : List Vt) (w : World) (hk : k.ws.length ≤ 1000) (hsd : k.seed < 18446744073709551616) (hl : l.length ≤ 10000) (hv : v.length ≤ 10000) (hlc : l.length ≤ lc) (hvc : v.length ≤ vc) (hwl : WfL l) (hwv : WfVs v) (hA : CellsAt w w.heap.size kA (intCells k.ws)) (hL : CellsAt w w.heap.size lA (blockCells l)) (hV : CellsAt w w.heap.size vA (votesCells v)) :
    Calls Try.prog 18 #[.agg #[.slice kA k.ws.length kc, .int .u64 k.seed, .int .i64 k.ep, .int .i64 k.nu, .int .i64 k.de], .agg #[.slice lA l.length lc, .slice vA v.length vc]] w (ViewGot (onlyW k ⟨l, v⟩) w) :=
  (viewOnlyN_any kA kc k lA lc l vA vc v w hk hsd hl hv hwl hwv hA hL hV).mono fun _ _ h => ViewNew.got h
theorem viewJoin_any (lA : Option Addr) (lc : Nat) (l : List Bk) (vA : Option Addr) (vc : Nat) (v : List Vt) (mA : Option Addr) (mc : Nat) (m : List Bk) (uA : Option Addr) (uc : Nat) (u : List Vt) (w : World) (hl : l.length ≤ 10000) (hv : v.length ≤ 10000) (hm : m.length ≤ 10000) (hu : u.length ≤ 10000) (hlc : l.length ≤ lc) (hvc : v.length ≤ vc) (hmc : m.length ≤ mc) (huc : u.length ≤ uc) (hwl : WfL l) (hwv : WfVs v) (hwm : WfL m) (hwu : WfVs u) (hl6 : Wf64L l) (hm6 : Wf64L m)
    (hL : CellsAt w w.heap.size lA (blockCells l)) (hV : CellsAt w w.heap.size vA (votesCells v)) (hM : CellsAt w w.heap.size mA (blockCells m)) (hU : CellsAt w w.heap.size uA (votesCells u)) :
    Calls Try.prog 15 #[.agg #[.slice lA l.length lc, .slice vA v.length vc], .agg #[.slice mA m.length mc, .slice uA u.length uc]] w (ViewGot (joinW ⟨l, v⟩ ⟨m, u⟩) w) :=
  (viewJoinN_any lA lc l vA vc v mA mc m uA uc u w hl hv hm hu hwl hl6 hwv hwm hm6 hwu hL hV hM hU).mono fun _ _ h => ViewNew.got h
theorem viewTake_any (kA : Option Addr) (kc : Nat) (k : Cf) (lA : Option Addr) (lc : Nat) (l : List Bk) (vA : Option Addr) (vc : Nat) (v : List Vt) (mA : Option Addr) (mc : Nat) (m : List Bk) (uA : Option Addr) (uc : Nat) (u : List Vt) (slot : Int) (w : World) (hk : k.ws.length ≤ 1000) (hsd : k.seed < 18446744073709551616) (hl : l.length ≤ 10000) (hv : v.length ≤ 10000) (hm : m.length ≤ 10000) (hu : u.length ≤ 10000) (hlc : l.length ≤ lc) (hvc : v.length ≤ vc) (hmc : m.length ≤ mc) (huc : u.length ≤ uc) (hwl : WfL l) (hwv : WfVs v) (hwm : WfL m) (hwu : WfVs u)
    (hA : CellsAt w w.heap.size kA (intCells k.ws)) (hL : CellsAt w w.heap.size lA (blockCells l)) (hV : CellsAt w w.heap.size vA (votesCells v)) (hM : CellsAt w w.heap.size mA (blockCells m)) (hU : CellsAt w w.heap.size uA (votesCells u)) :
    Calls Try.prog 13 #[.agg #[.slice kA k.ws.length kc, .int .u64 k.seed, .int .i64 k.ep, .int .i64 k.nu, .int .i64 k.de], .agg #[.slice lA l.length lc, .slice vA v.length vc], .agg #[.slice mA m.length mc, .slice uA u.length uc], .int .i64 slot] w (TakeGot (takeC k ⟨l, v⟩ ⟨m, u⟩ slot) w) :=
  (viewTakeN_any kA kc k lA lc l vA vc v mA mc m uA uc u slot w hk hsd hl hv hwl hwv hm hu hwm hwu hA hL hV hM hU).mono fun _ _ h => TakeNew.got h

end Go.Proofs.Ytacdiicnfoejoaa
