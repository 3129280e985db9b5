/-
  Maps whose keys are blocks and votes: what they read as, asked, and stored into; a map that a region asks while it draws its order.
-/
import Derived.Test.YtacdiicnfoejoaaMapBase
import Derived.Test.YtacdiicnfoejoaaVoteG
namespace Go.Proofs.Ytacdiicnfoejoaa
set_option maxRecDepth 100000
set_option linter.unusedVariables false
set_option linter.unusedSimpArgs false
set_option linter.unusedSimpArgs false
set_option linter.unusedVariables false
open Go.ChangeShapes Go.WideShapes Go.ChangeAt Go.RowKit

/-- Blocks whose numbers are numbers: slot, and who made it. -/
def Wf64B (b : Bk) : Prop := W64 b.s ∧ W64 b.f
def Wf64L (l : List Bk) : Prop := ∀ b ∈ l, Wf64B b
theorem Wf64L.sub {l m : List Bk} (h : Wf64L l) (hs : ∀ b ∈ m, b ∈ l) : Wf64L m := fun b hb => h b (hs b hb)
theorem Try.cellsOfVt : Try.prog.cellsOf 45 = 4 := by kernel_rfl
theorem Try.cellsOfBk : Try.prog.cellsOf 42 = 5 := by kernel_rfl
theorem litsVt (d : Nat) {f s a b : Int} (hf : W64 f) (hs : W64 s) (ha : (Lit.int .u64 a).wf = true) (hb : (Lit.int .u64 b).wf = true) : Try.prog.keyLits (d + 3) 45 [.int .i64 f, .int .i64 s, .int .u64 a, .int .u64 b] = some [.int .i64 f, .int .i64 s, .int .u64 a, .int .u64 b] := by
  unfold Program.keyLits
  simp only [Try.underlying45]
  rw [if_pos ⟨by rw [Try.cellsOfVt]; rfl, by kernel_rfl⟩]
  simp [Try.cellsOfI, Try.cellsOfID, litsI (d + 1) hf, litsI (d + 1) hs, litsId d ha hb]
theorem litsBk (d : Nat) {s f a b t : Int} (hs : W64 s) (hf : W64 f) (ha : (Lit.int .u64 a).wf = true) (hb : (Lit.int .u64 b).wf = true) (ht : (Lit.int .u64 t).wf = true) : Try.prog.keyLits (d + 3) 42 [.int .i64 s, .int .i64 f, .int .u64 a, .int .u64 b, .int .u64 t] = some [.int .i64 s, .int .i64 f, .int .u64 a, .int .u64 b, .int .u64 t] := by
  unfold Program.keyLits
  simp only [Try.underlying42]
  rw [if_pos ⟨by rw [Try.cellsOfBk]; rfl, by kernel_rfl⟩]
  simp [Try.cellsOfI, Try.cellsOfID, Try.cellsOfU, litsI (d + 1) hf, litsI (d + 1) hs, litsId d ha hb, litsU (d + 1) ht]
def litVt (x : Vt) : Lit := .string (keyBytes [.int .i64 x.f, .int .i64 x.s, .int .u64 x.p.1, .int .u64 x.p.2])
def litBk (x : Bk) : Lit := .string (keyBytes [.int .i64 x.s, .int .i64 x.f, .int .u64 x.p.1, .int .u64 x.p.2, .int .u64 x.t])
theorem Try.rowVt : (45 : TypeId) < Try.prog.types.size := of_decide_eq_true (by kernel_rfl)
theorem Try.wideVt : (match Try.prog.underlying 45 with | some (.array _ _) | some (.struct _) => true | _ => false) = true := by rw [Try.underlying45]
theorem Try.keyTypeVt : Try.prog.keyType 45 = true := by kernel_rfl
theorem Try.lawVt : WideMaps.KeyLaw Try.prog 45 := deep_law_laid Try.laidOutF (m := 4) (by omega) Try.rowVt (by kernel_rfl) Try.wideVt
theorem keyOf_vt {x : Vt} (h : WfV x) : keyOf Try.prog 45 (.agg #[.int .i64 x.f, .int .i64 x.s, .int .u64 x.p.1, .int .u64 x.p.2]) = some (litVt x) := by
  obtain ⟨m, hm⟩ := Try.typesBig
  unfold keyOf
  simp only [Try.underlying45]
  rw [if_pos (by simp [Try.keyTypeVt, Value.formed, Try.underlying45, Try.cellsOfVt]), hm]
  simp only [Value.cells]
  rw [litsVt (m + 1) h.1 h.2.1 (wf_u64 h.2.2.1) (wf_u64 h.2.2.2)]
  rfl
theorem Try.rowBk : (42 : TypeId) < Try.prog.types.size := of_decide_eq_true (by kernel_rfl)
theorem Try.wideBk : (match Try.prog.underlying 42 with | some (.array _ _) | some (.struct _) => true | _ => false) = true := by rw [Try.underlying42]
theorem Try.keyTypeBk : Try.prog.keyType 42 = true := by kernel_rfl
theorem Try.lawBk : WideMaps.KeyLaw Try.prog 42 := deep_law_laid Try.laidOutF (m := 4) (by omega) Try.rowBk (by kernel_rfl) Try.wideBk
theorem keyOf_bk {x : Bk} (h : WfB x ∧ Wf64B x) : keyOf Try.prog 42 (.agg #[.int .i64 x.s, .int .i64 x.f, .int .u64 x.p.1, .int .u64 x.p.2, .int .u64 x.t]) = some (litBk x) := by
  obtain ⟨m, hm⟩ := Try.typesBig
  unfold keyOf
  simp only [Try.underlying42]
  rw [if_pos (by simp [Try.keyTypeBk, Value.formed, Try.underlying42, Try.cellsOfBk]), hm]
  simp only [Value.cells]
  rw [litsBk (m + 1) h.2.1 h.2.2 (wf_u64 h.1.1.1) (wf_u64 h.1.1.2) (wf_u64 h.1.2)]
  rfl
def vtKey : KeyKind Vt where
  k := 45
  key := fun x => .agg #[.int .i64 x.f, .int .i64 x.s, .int .u64 x.p.1, .int .u64 x.p.2]
  lit := litVt
  wf := WfV
  keyed := Maps.Keyed.of_law Try.lawVt
  kof := keyOf_vt
  inj := fun {x y} hx hy e => by
    have k := (Maps.Keyed.of_law Try.lawVt).inj (keyOf_vt hx) (by rw [e]; exact keyOf_vt hy)
    simp at k
    obtain ⟨f, s, p⟩ := x
    obtain ⟨f', s', p'⟩ := y
    simp only at k
    obtain ⟨rfl, rfl, h1, h2⟩ := k
    rw [show p = p' from Prod.ext (by omega) (by omega)]
def bkKey : KeyKind Bk where
  k := 42
  key := fun x => .agg #[.int .i64 x.s, .int .i64 x.f, .int .u64 x.p.1, .int .u64 x.p.2, .int .u64 x.t]
  lit := litBk
  wf := fun x => WfB x ∧ Wf64B x
  keyed := Maps.Keyed.of_law Try.lawBk
  kof := keyOf_bk
  inj := fun {x y} hx hy e => by
    have k := (Maps.Keyed.of_law Try.lawBk).inj (keyOf_bk hx) (by rw [e]; exact keyOf_bk hy)
    simp at k
    obtain ⟨s, f, p, t⟩ := x
    obtain ⟨s', f', p', t'⟩ := y
    simp only at k
    obtain ⟨rfl, rfl, h1, h2, h3⟩ := k
    rw [show p = p' from Prod.ext (by omega) (by omega), show t = t' by omega]

end Go.Proofs.Ytacdiicnfoejoaa
