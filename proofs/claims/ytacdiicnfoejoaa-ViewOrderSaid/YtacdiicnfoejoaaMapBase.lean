/-
  Kinds of maps: keys that are numbers and ids; what they hold: numbers, nothing. What a key reads as, cell by cell.
-/
import Derived.DeepKeys4
import Derived.Test.YtacdiicnfoejoaaOwnMap
import Derived.Test.YtacdiicnfoejoaaTreeG
namespace Go.Proofs.Ytacdiicnfoejoaa
set_option maxRecDepth 100000
set_option linter.unusedVariables false
set_option linter.unusedSimpArgs false
set_option linter.unusedSimpArgs false
set_option linter.unusedVariables false
open Go.ChangeShapes Go.WideShapes Go.ChangeAt Go.RowKit

abbrev W64 (a : Int) : Prop := -9223372036854775808 ≤ a ∧ a ≤ 9223372036854775807
theorem w64_wf {a : Int} (h : W64 a) : (Lit.int .i64 a).wf = true := Go.WalkArith.wf_i64 h
theorem w64_of {a : Int} (h : (Lit.int .i64 a).wf = true) : W64 a := bounds_i64 h
theorem u64_of {a : Int} (h : (Lit.int .u64 a).wf = true) : 0 ≤ a ∧ a < 18446744073709551616 := by
  have k := bounds_u64 h
  exact ⟨by omega, by omega⟩
theorem Try.laidOutF : laidOutB Try.prog = true := by kernel_rfl
theorem Try.typesBig : ∃ m, Try.prog.types.size + 1 = m + 4 := ⟨Try.prog.types.size - 3, by have : 3 ≤ Try.prog.types.size := of_decide_eq_true (by kernel_rfl); omega⟩
theorem Try.cellsOfI : Try.prog.cellsOf 3 = 1 := by kernel_rfl
theorem Try.cellsOfU : Try.prog.cellsOf 23 = 1 := by kernel_rfl
theorem Try.cellsOfID : Try.prog.cellsOf 39 = 2 := by kernel_rfl
theorem litsI (d : Nat) {a : Int} (h : W64 a) : Try.prog.keyLits (d + 1) 3 [.int .i64 a] = some [.int .i64 a] := by
  unfold Program.keyLits
  simp [Try.underlying3, w64_wf h]
theorem litsU (d : Nat) {a : Int} (h : (Lit.int .u64 a).wf = true) : Try.prog.keyLits (d + 1) 23 [.int .u64 a] = some [.int .u64 a] := by
  unfold Program.keyLits
  simp [Try.underlying23, h]
theorem litsId (d : Nat) {a b : Int} (ha : (Lit.int .u64 a).wf = true) (hb : (Lit.int .u64 b).wf = true) : Try.prog.keyLits (d + 2) 39 [.int .u64 a, .int .u64 b] = some [.int .u64 a, .int .u64 b] := by
  unfold Program.keyLits
  simp only [Try.underlying39]
  rw [if_pos (by rw [Try.cellsOfID]; rfl), show List.range 2 = [0, 1] from rfl, List.mapM_cons, List.mapM_cons, List.mapM_nil]
  simp [Try.cellsOfU, litsU d ha, litsU d hb]
theorem invI {d : Nat} {c : Value} {L : List Lit} (h : Try.prog.keyLits (d + 1) 3 [c] = some L) : ∃ a, c = .int .i64 a ∧ W64 a ∧ L = [.int .i64 a] := by
  unfold Program.keyLits at h
  rw [Try.underlying3] at h
  cases c <;> simp at h
  obtain ⟨⟨rfl, hw⟩, rfl⟩ := h
  exact ⟨_, rfl, w64_of hw, rfl⟩
theorem invU {d : Nat} {c : Value} {L : List Lit} (h : Try.prog.keyLits (d + 1) 23 [c] = some L) : ∃ a : Nat, c = .int .u64 a ∧ a < 18446744073709551616 ∧ L = [.int .u64 a] := by
  unfold Program.keyLits at h
  rw [Try.underlying23] at h
  cases c <;> simp at h
  obtain ⟨⟨rfl, hw⟩, rfl⟩ := h
  rename_i n
  have h2 := u64_of hw
  obtain ⟨a, rfl⟩ := Int.eq_ofNat_of_zero_le h2.1
  exact ⟨a, rfl, by omega, rfl⟩
theorem invId {d : Nat} {cs : List Value} {L : List Lit} (h : Try.prog.keyLits (d + 2) 39 cs = some L) : ∃ x : Id2, cs = [.int .u64 x.1, .int .u64 x.2] ∧ WfI x ∧ L = [.int .u64 x.1, .int .u64 x.2] := by
  unfold Program.keyLits at h
  simp only [Try.underlying39] at h
  split at h
  · rename_i hc
    rw [Try.cellsOfID] at hc
    match cs, hc with
    | [c0, c1], _ =>
      rw [show List.range 2 = [0, 1] from rfl] at h
      simp only [Option.map_eq_some_iff] at h
      obtain ⟨ls, h2, rfl⟩ := h
      simp only [List.mapM_cons, List.mapM_nil, bind, Option.bind_eq_some_iff, pure, Option.some.injEq, Try.cellsOfU] at h2
      obtain ⟨l0, h0, _, ⟨l1, h1, _, rfl, rfl⟩, rfl⟩ := h2
      obtain ⟨a, rfl, wa, rfl⟩ := invU (c := c0) h0
      obtain ⟨b, rfl, wb, rfl⟩ := invU (c := c1) h1
      exact ⟨(a, b), rfl, ⟨wa, wb⟩, rfl⟩
  · cases h
theorem lits_same {a b : List Lit} (h : Lit.string (keyBytes a) = Lit.string (keyBytes b)) : keyBytes a = keyBytes b := by injection h
def epKey : KeyKind Int where
  k := 3
  key := fun x => .int .i64 x
  lit := fun x => .int .i64 x
  wf := W64
  keyed := Maps.int_keyed Try.underlying3
  kof := fun {x} h => Maps.keyOf_int_mk Try.underlying3 (w64_wf h)
  inj := fun {x y} _ _ e => by injection e
def idKey : KeyKind Id2 where
  k := 39
  key := fun x => .agg #[.int .u64 x.1, .int .u64 x.2]
  lit := keyI
  wf := WfI
  keyed := Try.keyedID
  kof := key_of
  inj := keyI_inj
def intR : Value → Option (DataW Unit × List MemPlace)
  | .int .i64 a => some (.lit (.int .i64 a), [])
  | _ => none
def intV : ValKind Int where
  e := 3
  R := intR
  enc := fun n => .int .i64 n
  dat := fun n => .lit (.int .i64 n)
  ok := fun _ => True
  zero := 0
  reads := fun _ => rfl
  inv := fun {v y ps} _ h => by
    unfold intR at h
    split at h
    · simp at h; rw [h.1]
    · cases h
  zok := trivial
  zrun := fun u => Try.zeroValue3 u
def unitV : ValKind Unit where
  e := 89
  R := unitElem
  enc := fun _ => .agg #[]
  dat := fun _ => .agg []
  ok := fun _ => True
  zero := ()
  reads := fun _ => unitElem_mk
  inv := fun {v y ps} _ h => (unitElem_inv h).1
  zok := trivial
  zrun := fun u => Try.zeroValue89 u

end Go.Proofs.Ytacdiicnfoejoaa
