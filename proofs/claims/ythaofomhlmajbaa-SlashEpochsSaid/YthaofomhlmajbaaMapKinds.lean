/-
  The kinds of maps that package ffg makes: what its keys are, and what they hold.
-/
import Derived.DeepKeys4
import Derived.Test.YthaofomhlmajbaaGroupF
import Derived.Test.YthaofomhlmajbaaCkRow
import Derived.Test.YthaofomhlmajbaaFfgOpen
import Derived.Test.YthaofomhlmajbaaTreeG
import Derived.Test.YthaofomhlmajbaaGround
namespace Go.Proofs.Ythaofomhlmajbaa
set_option maxRecDepth 100000
set_option linter.unusedVariables false
set_option linter.unusedSimpArgs false
set_option linter.unusedSimpArgs false
set_option linter.unusedVariables false
open Go.ChangeShapes Go.WideShapes Go.ChangeAt Go.RowKit

abbrev W64 (a : Int) : Prop := -9223372036854775808 ≤ a ∧ a ≤ 9223372036854775807
theorem w64_wf {a : Int} (h : W64 a) : (Lit.int .i64 a).wf = true := Go.WalkArith.wf_i64 h
theorem w64_of {a : Int} (h : (Lit.int .i64 a).wf = true) : W64 a := bounds_i64 h
theorem u64_of {a : Int} (h : (Lit.int .u64 a).wf = true) : 0 ≤ a ∧ a < 18446744073709551616 := by
  have k := bounds_u64 h
  exact ⟨by omega, by omega⟩

/-! ### Keys -/
theorem Try.laidOutF : laidOutB Try.prog = true := by kernel_rfl
theorem Try.typesBig : ∃ m, Try.prog.types.size + 1 = m + 4 := ⟨Try.prog.types.size - 3, by have : 3 ≤ Try.prog.types.size := of_decide_eq_true (by kernel_rfl); omega⟩
theorem Try.cellsOfI : Try.prog.cellsOf 3 = 1 := by kernel_rfl
theorem Try.cellsOfU : Try.prog.cellsOf 22 = 1 := by kernel_rfl
theorem Try.cellsOfID : Try.prog.cellsOf 24 = 2 := by kernel_rfl
theorem Try.cellsOfCk : Try.prog.cellsOf 26 = 3 := by kernel_rfl
theorem Try.cellsOfWay : Try.prog.cellsOf 89 = 6 := by kernel_rfl
theorem litsI (d : Nat) {a : Int} (h : W64 a) : Try.prog.keyLits (d + 1) 3 [.int .i64 a] = some [.int .i64 a] := by
  unfold Program.keyLits
  simp [Try.underlying3, w64_wf h]
theorem litsU (d : Nat) {a : Int} (h : (Lit.int .u64 a).wf = true) : Try.prog.keyLits (d + 1) 22 [.int .u64 a] = some [.int .u64 a] := by
  unfold Program.keyLits
  simp [Try.underlying22, h]
theorem litsId (d : Nat) {a b : Int} (ha : (Lit.int .u64 a).wf = true) (hb : (Lit.int .u64 b).wf = true) : Try.prog.keyLits (d + 2) 24 [.int .u64 a, .int .u64 b] = some [.int .u64 a, .int .u64 b] := by
  unfold Program.keyLits
  simp only [Try.underlying24]
  rw [if_pos (by rw [Try.cellsOfID]; rfl), show List.range 2 = [0, 1] from rfl, List.mapM_cons, List.mapM_cons, List.mapM_nil]
  simp [Try.cellsOfU, litsU d ha, litsU d hb]
theorem litsCk (d : Nat) {e a b : Int} (he : W64 e) (ha : (Lit.int .u64 a).wf = true) (hb : (Lit.int .u64 b).wf = true) : Try.prog.keyLits (d + 3) 26 [.int .i64 e, .int .u64 a, .int .u64 b] = some [.int .i64 e, .int .u64 a, .int .u64 b] := by
  unfold Program.keyLits
  simp only [Try.underlying26]
  rw [if_pos ⟨by rw [Try.cellsOfCk]; rfl, by kernel_rfl⟩]
  simp [Try.cellsOfI, Try.cellsOfID, litsI (d + 1) he, litsId d ha hb]
theorem litsWay (d : Nat) {e a b e' a' b' : Int} (he : W64 e) (ha : (Lit.int .u64 a).wf = true) (hb : (Lit.int .u64 b).wf = true) (he' : W64 e') (ha' : (Lit.int .u64 a').wf = true) (hb' : (Lit.int .u64 b').wf = true) :
    Try.prog.keyLits (d + 4) 89 [.int .i64 e, .int .u64 a, .int .u64 b, .int .i64 e', .int .u64 a', .int .u64 b'] = some [.int .i64 e, .int .u64 a, .int .u64 b, .int .i64 e', .int .u64 a', .int .u64 b'] := by
  unfold Program.keyLits
  simp only [Try.underlying89]
  rw [if_pos ⟨by rw [Try.cellsOfWay]; rfl, by kernel_rfl⟩]
  simp [Try.cellsOfCk, litsCk d he ha hb, litsCk d he' ha' hb']
/-! .. and back -/
theorem invI {d : Nat} {c : Value} {L : List Lit} (h : Try.prog.keyLits (d + 1) 3 [c] = some L) : ∃ a, c = .int .i64 a ∧ W64 a ∧ L = [.int .i64 a] := by
  unfold Program.keyLits at h
  rw [Try.underlying3] at h
  cases c <;> simp at h
  obtain ⟨⟨rfl, hw⟩, rfl⟩ := h
  exact ⟨_, rfl, w64_of hw, rfl⟩
theorem invU {d : Nat} {c : Value} {L : List Lit} (h : Try.prog.keyLits (d + 1) 22 [c] = some L) : ∃ a : Nat, c = .int .u64 a ∧ a < 18446744073709551616 ∧ L = [.int .u64 a] := by
  unfold Program.keyLits at h
  rw [Try.underlying22] at h
  cases c <;> simp at h
  obtain ⟨⟨rfl, hw⟩, rfl⟩ := h
  rename_i n
  have h2 := u64_of hw
  obtain ⟨a, rfl⟩ := Int.eq_ofNat_of_zero_le h2.1
  exact ⟨a, rfl, by omega, rfl⟩
theorem invId {d : Nat} {cs : List Value} {L : List Lit} (h : Try.prog.keyLits (d + 2) 24 cs = some L) : ∃ x : Id2, cs = [.int .u64 x.1, .int .u64 x.2] ∧ WfI x ∧ L = [.int .u64 x.1, .int .u64 x.2] := by
  unfold Program.keyLits at h
  simp only [Try.underlying24] at h
  split at h
  · rename_i hc
    rw [Try.cellsOfID] at hc
    match cs, hc with
    | [c0, c1], _ =>
      rw [show List.range 2 = [0, 1] from rfl] at h
      simp only [Option.map_eq_some_iff] at h
      obtain ⟨ls, h2, rfl⟩ := h
      simp only [List.mapM_cons, List.mapM_nil, bind, Option.bind_eq_some_iff, pure, Option.some.injEq, Try.cellsOfU] at h2
      obtain ⟨l0, h0, _, ⟨l1, h1, _, rfl, rfl⟩, rfl⟩ := h2
      obtain ⟨a, rfl, wa, rfl⟩ := invU (c := c0) h0
      obtain ⟨b, rfl, wb, rfl⟩ := invU (c := c1) h1
      exact ⟨(a, b), rfl, ⟨wa, wb⟩, rfl⟩
  · cases h
theorem invCk {d : Nat} {cs : List Value} {L : List Lit} (h : Try.prog.keyLits (d + 3) 26 cs = some L) : ∃ x : Ck, cs = [.int .i64 x.e, .int .u64 x.r.1, .int .u64 x.r.2] ∧ WfK x ∧ L = [.int .i64 x.e, .int .u64 x.r.1, .int .u64 x.r.2] := by
  unfold Program.keyLits at h
  simp only [Try.underlying26] at h
  split at h
  · rename_i hc
    rw [Try.cellsOfCk] at hc
    match cs, hc.1 with
    | [c0, c1, c2], _ =>
      simp only [Option.map_eq_some_iff] at h
      obtain ⟨ls, h2, rfl⟩ := h
      simp only [List.mapM_cons, List.mapM_nil, bind, Option.bind_eq_some_iff, pure, Option.some.injEq, Try.cellsOfI, Try.cellsOfID] at h2
      obtain ⟨l0, h0, _, ⟨l1, h1, _, rfl, rfl⟩, rfl⟩ := h2
      obtain ⟨a, e0, wa, rfl⟩ := invI (c := c0) h0
      obtain ⟨x, e1, wx, rfl⟩ := invId (cs := [c1, c2]) h1
      simp at e1
      obtain ⟨rfl, rfl⟩ := e1
      subst e0
      exact ⟨⟨a, x⟩, rfl, ⟨wa, wx⟩, rfl⟩
  · cases h
theorem invWay {d : Nat} {cs : List Value} {L : List Lit} (h : Try.prog.keyLits (d + 4) 89 cs = some L) : ∃ x y : Ck, cs = [.int .i64 x.e, .int .u64 x.r.1, .int .u64 x.r.2] ++ [.int .i64 y.e, .int .u64 y.r.1, .int .u64 y.r.2] ∧ WfK x ∧ WfK y ∧ L = [.int .i64 x.e, .int .u64 x.r.1, .int .u64 x.r.2, .int .i64 y.e, .int .u64 y.r.1, .int .u64 y.r.2] := by
  unfold Program.keyLits at h
  simp only [Try.underlying89] at h
  split at h
  · rename_i hc
    rw [Try.cellsOfWay] at hc
    match cs, hc.1 with
    | [c0, c1, c2, c3, c4, c5], _ =>
      simp only [Option.map_eq_some_iff] at h
      obtain ⟨ls, h2, rfl⟩ := h
      simp only [List.mapM_cons, List.mapM_nil, bind, Option.bind_eq_some_iff, pure, Option.some.injEq, Try.cellsOfCk] at h2
      obtain ⟨l0, h0, _, ⟨l1, h1, _, rfl, rfl⟩, rfl⟩ := h2
      obtain ⟨x, e0, wx, rfl⟩ := invCk (cs := [c0, c1, c2]) h0
      obtain ⟨y, e1, wy, rfl⟩ := invCk (cs := [c3, c4, c5]) h1
      simp at e0 e1
      obtain ⟨rfl, rfl, rfl⟩ := e0
      obtain ⟨rfl, rfl, rfl⟩ := e1
      exact ⟨x, y, rfl, wx, wy, rfl⟩
  · cases h
theorem lits_same {a b : List Lit} (h : Lit.string (keyBytes a) = Lit.string (keyBytes b)) : keyBytes a = keyBytes b := by injection h
def litCk (x : Ck) : Lit := .string (keyBytes [.int .i64 x.e, .int .u64 x.r.1, .int .u64 x.r.2])
theorem Try.rowCk : (26 : TypeId) < Try.prog.types.size := of_decide_eq_true (by kernel_rfl)
theorem Try.wideCk : (match Try.prog.underlying 26 with | some (.array _ _) | some (.struct _) => true | _ => false) = true := by rw [Try.underlying26]
theorem Try.keyTypeCk : Try.prog.keyType 26 = true := by kernel_rfl
theorem Try.lawCk : WideMaps.KeyLaw Try.prog 26 := deep_law_laid Try.laidOutF (m := 4) (by omega) Try.rowCk (by kernel_rfl) Try.wideCk
theorem keyOf_ck {x : Ck} (h : WfK x) : keyOf Try.prog 26 (.agg #[.int .i64 x.e, .int .u64 x.r.1, .int .u64 x.r.2]) = some (litCk x) := by
  obtain ⟨m, hm⟩ := Try.typesBig
  unfold keyOf
  simp only [Try.underlying26]
  rw [if_pos (by simp [Try.keyTypeCk, Value.formed, Try.underlying26, Try.cellsOfCk]), hm]
  simp only [Value.cells]
  rw [litsCk (m + 1) h.1 (wf_u64 h.2.1) (wf_u64 h.2.2)]
  rfl
theorem ck_inv {v : Value} {kl : Lit} (h : keyOf Try.prog 26 v = some kl) : ∃ x : Ck, v = .agg #[.int .i64 x.e, .int .u64 x.r.1, .int .u64 x.r.2] ∧ kl = litCk x ∧ WfK x := by
  obtain ⟨xs, L, rfl, h1, rfl⟩ := keyOf_top Try.wideCk h
  obtain ⟨m, hm⟩ := Try.typesBig
  rw [hm] at h1
  obtain ⟨x, hx, wx, rfl⟩ := invCk (d := m + 1) h1
  obtain ⟨l⟩ := xs
  simp only at hx
  subst hx
  exact ⟨x, rfl, rfl, wx⟩
def ckKey : KeyKind Ck where
  k := 26
  key := fun x => .agg #[.int .i64 x.e, .int .u64 x.r.1, .int .u64 x.r.2]
  lit := litCk
  wf := WfK
  keyed := Maps.Keyed.of_law Try.lawCk
  kof := keyOf_ck
  inj := fun {x y} hx hy e => by
    have k := (Maps.Keyed.of_law Try.lawCk).inj (keyOf_ck hx) (by rw [e]; exact keyOf_ck hy)
    simp at k
    exact Ck.same k.1 (Prod.ext (by omega) (by omega))
def litWay (x : Ck × Ck) : Lit := .string (keyBytes [.int .i64 x.1.e, .int .u64 x.1.r.1, .int .u64 x.1.r.2, .int .i64 x.2.e, .int .u64 x.2.r.1, .int .u64 x.2.r.2])
def WfWay (x : Ck × Ck) : Prop := WfK x.1 ∧ WfK x.2
theorem Try.rowWay : (89 : TypeId) < Try.prog.types.size := of_decide_eq_true (by kernel_rfl)
theorem Try.wideWay : (match Try.prog.underlying 89 with | some (.array _ _) | some (.struct _) => true | _ => false) = true := by rw [Try.underlying89]
theorem Try.keyTypeWay : Try.prog.keyType 89 = true := by kernel_rfl
theorem Try.lawWay : WideMaps.KeyLaw Try.prog 89 := deep_law_laid Try.laidOutF (m := 5) (by omega) Try.rowWay (by kernel_rfl) Try.wideWay
theorem keyOf_way {x : Ck × Ck} (h : WfWay x) : keyOf Try.prog 89 (.agg #[.int .i64 x.1.e, .int .u64 x.1.r.1, .int .u64 x.1.r.2, .int .i64 x.2.e, .int .u64 x.2.r.1, .int .u64 x.2.r.2]) = some (litWay x) := by
  obtain ⟨m, hm⟩ := Try.typesBig
  unfold keyOf
  simp only [Try.underlying89]
  rw [if_pos (by simp [Try.keyTypeWay, Value.formed, Try.underlying89, Try.cellsOfWay]), hm]
  simp only [Value.cells]
  rw [litsWay m h.1.1 (wf_u64 h.1.2.1) (wf_u64 h.1.2.2) h.2.1 (wf_u64 h.2.2.1) (wf_u64 h.2.2.2)]
  rfl
theorem way_inv {v : Value} {kl : Lit} (h : keyOf Try.prog 89 v = some kl) : ∃ x : Ck × Ck, v = .agg #[.int .i64 x.1.e, .int .u64 x.1.r.1, .int .u64 x.1.r.2, .int .i64 x.2.e, .int .u64 x.2.r.1, .int .u64 x.2.r.2] ∧ kl = litWay x ∧ WfWay x := by
  obtain ⟨xs, L, rfl, h1, rfl⟩ := keyOf_top Try.wideWay h
  obtain ⟨m, hm⟩ := Try.typesBig
  rw [hm] at h1
  obtain ⟨x, y, hx, wx, wy, rfl⟩ := invWay (d := m) h1
  obtain ⟨l⟩ := xs
  simp only at hx
  subst hx
  exact ⟨(x, y), rfl, rfl, wx, wy⟩
def wayKey : KeyKind (Ck × Ck) where
  k := 89
  key := fun x => .agg #[.int .i64 x.1.e, .int .u64 x.1.r.1, .int .u64 x.1.r.2, .int .i64 x.2.e, .int .u64 x.2.r.1, .int .u64 x.2.r.2]
  lit := litWay
  wf := WfWay
  keyed := Maps.Keyed.of_law Try.lawWay
  kof := keyOf_way
  inj := fun {x y} hx hy e => by
    have k := (Maps.Keyed.of_law Try.lawWay).inj (keyOf_way hx) (by rw [e]; exact keyOf_way hy)
    simp at k
    exact Prod.ext (Ck.same k.1 (Prod.ext (by omega) (by omega))) (Ck.same k.2.2.2.1 (Prod.ext (by omega) (by omega)))
def epKey : KeyKind Int where
  k := 3
  key := fun x => .int .i64 x
  lit := fun x => .int .i64 x
  wf := W64
  keyed := Maps.int_keyed Try.underlying3
  kof := fun {x} h => Maps.keyOf_int_mk Try.underlying3 (w64_wf h)
  inj := fun {x y} _ _ e => by injection e
def idKey : KeyKind Id2 where
  k := 24
  key := fun x => .agg #[.int .u64 x.1, .int .u64 x.2]
  lit := keyI
  wf := WfI
  keyed := Try.keyedID
  kof := key_of
  inj := keyI_inj

/-! ### Values -/
def intR : Value → Option (DataW Unit × List MemPlace)
  | .int .i64 a => some (.lit (.int .i64 a), [])
  | _ => none
def intV : ValKind Int where
  e := 3
  R := intR
  enc := fun n => .int .i64 n
  dat := fun n => .lit (.int .i64 n)
  ok := fun _ => True
  zero := 0
  reads := fun _ => rfl
  inv := fun {v y ps} _ h => by
    unfold intR at h
    split at h
    · simp at h; rw [h.1]
    · cases h
  zok := trivial
  zrun := fun u => Try.zeroValue3 u
def reachR : Value → Option (DataW Unit × List MemPlace)
  | .agg ⟨[.int .i64 a, .int .i64 b]⟩ => some (.agg [.lit (.int .i64 a), .lit (.int .i64 b)], [])
  | _ => none
def reachV : ValKind (Nat × Nat) where
  e := 95
  R := reachR
  enc := fun n => .agg #[.int .i64 (n.1 : Int), .int .i64 (n.2 : Int)]
  dat := fun n => .agg [.lit (.int .i64 (n.1 : Int)), .lit (.int .i64 (n.2 : Int))]
  ok := fun _ => True
  zero := (0, 0)
  reads := fun _ => rfl
  inv := fun {v y ps} _ h => by
    unfold reachR at h
    split at h
    · simp at h; rw [h.1.1, h.1.2]
    · cases h
  zok := trivial
  zrun := fun u => Try.zeroValue95 u
def unitV : ValKind Unit where
  e := 60
  R := unitElem
  enc := fun _ => .agg #[]
  dat := fun _ => .agg []
  ok := fun _ => True
  zero := ()
  reads := fun _ => unitElem_mk
  inv := fun {v y ps} _ h => (unitElem_inv h).1
  zok := trivial
  zrun := fun u => Try.zeroValue60 u

/-! ### Rows -/
def ckRow : RowKind Ck where
  sl := 42
  e := 26
  s := 3
  by' := 24
  z := .agg #[.int .i64 0, .int .u64 0, .int .u64 0]
  cells := cksCells
  under := Try.underlying42
  szero := fun u => Try.zeroValue42 u
  info := Try.infoCk
  zsize := rfl
  len := cksCells_length
  app := cksCells_append
  one := cksCells_one
  pos := by omega
  small := by omega
def intRow : RowKind Int where
  sl := 32
  e := 3
  s := 1
  by' := 8
  z := .int .i64 0
  cells := intCells
  under := Try.underlying32
  szero := fun u => Try.zeroValue32 u
  info := Try.infoI
  zsize := rfl
  len := fun l => by simp [intCells]
  app := fun l m => by simp [intCells]
  one := fun l u hu => by
    simp [intCells] at hu
    obtain ⟨a, _, rfl⟩ := hu
    rfl
  pos := by omega
  small := by omega

end Go.Proofs.Ythaofomhlmajbaa
