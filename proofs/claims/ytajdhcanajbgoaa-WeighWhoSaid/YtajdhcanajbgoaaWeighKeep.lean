/-
  Boxes held over regions that draw their order: a conf's and an id's.
-/
import Derived.Test.YtajdhcanajbgoaaWeighAwake
namespace Go.Proofs.Ytajdhcanajbgoaa
set_option maxRecDepth 100000
open Go.ChangeShapes Go.WideShapes Go.ChangeAt Go.RowKit

theorem keepCI {W w w' : World} {a b : Nat} {x0 x1 x2 x3 x4 y0 y1 : Value} (ha : a < W.heap.size) (hb : b < W.heap.size)
    (h : (w.cell? ⟨a, 0, none⟩ = some x0 ∧ w.cell? ⟨a, 1, none⟩ = some x1 ∧ w.cell? ⟨a, 2, none⟩ = some x2 ∧ w.cell? ⟨a, 3, none⟩ = some x3 ∧ w.cell? ⟨a, 4, none⟩ = some x4) ∧ (w.cell? ⟨b, 0, none⟩ = some y0 ∧ w.cell? ⟨b, 1, none⟩ = some y1) ∧ Kept W w) (k : Kept w w') :
    (w'.cell? ⟨a, 0, none⟩ = some x0 ∧ w'.cell? ⟨a, 1, none⟩ = some x1 ∧ w'.cell? ⟨a, 2, none⟩ = some x2 ∧ w'.cell? ⟨a, 3, none⟩ = some x3 ∧ w'.cell? ⟨a, 4, none⟩ = some x4) ∧ (w'.cell? ⟨b, 0, none⟩ = some y0 ∧ w'.cell? ⟨b, 1, none⟩ = some y1) ∧ Kept W w' := by
  obtain ⟨⟨h0, h1, h2, h3, h4⟩, ⟨g0, g1⟩, hk⟩ := h
  have ha' : a < w.heap.size := Nat.lt_of_lt_of_le ha hk.size_le
  have hb' : b < w.heap.size := Nat.lt_of_lt_of_le hb hk.size_le
  exact ⟨⟨(k.cell (p := ⟨a, 0, none⟩) ha').trans h0, (k.cell (p := ⟨a, 1, none⟩) ha').trans h1, (k.cell (p := ⟨a, 2, none⟩) ha').trans h2, (k.cell (p := ⟨a, 3, none⟩) ha').trans h3, (k.cell (p := ⟨a, 4, none⟩) ha').trans h4⟩,
    ⟨(k.cell (p := ⟨b, 0, none⟩) hb').trans g0, (k.cell (p := ⟨b, 1, none⟩) hb').trans g1⟩, hk.trans k⟩

/-- On of lists whose lengths are written otherwise. -/
theorem on_len (A : Option Addr) (c : Nat) (k : Cf) (L : Option Addr) (cl : Nat) (l : List Bk) (nl : Nat) (V : Option Addr) (cv : Nat) (v : List Vt) (nv : Nat) (x : Id2) (w : World) (hnl : nl = l.length) (hnv : nv = v.length)
    (hl : l.length ≤ 1000000) (hv : v.length ≤ 100000) (hwl : WfL l) (hwv : WfVs v) (hx : WfI x) (hA : CellsAt w w.heap.size A (intCells k.ws)) (hL : CellsAt w w.heap.size L (blockCells l)) (hV : CellsAt w w.heap.size V (votesCells v)) :
    Calls Try.prog 11 #[.agg #[.slice A k.ws.length c, .int .u64 k.seed, .int .i64 k.ep, .int .i64 k.nu, .int .i64 k.de], .slice L nl cl, .slice V nv cv, .agg #[.int .u64 x.1, .int .u64 x.2]] w fun e w' => e = .returned (.int .i64 (onC k l v x)) ∧ Kept w w' := by
  subst hnl hnv
  exact on_any A c k L cl l V cv v x w hl hv hwl hwv hx hA hL hV

/-- Under where its answer is known. -/
theorem under_is (A : Option Addr) (c : Nat) (l : List Bk) (hl : l.length ≤ 1000000) (hw : WfL l) (low x : Id2) (hx : WfI x) (w : World) (hA : CellsAt w w.heap.size A (blockCells l)) {b : Bool} (hb : underC l low x = b) :
    Calls Try.prog 21 #[.slice A l.length c, .agg #[.int .u64 low.1, .int .u64 low.2], .agg #[.int .u64 x.1, .int .u64 x.2]] w fun e w' => e = .returned (.bool b) ∧ Kept w w' := by
  subst hb
  exact under_any A c l hl hw low x hx w hA

theorem on_same {f : FuncId} {args : Array Value} {w : World} {p q : Int} (h : p = q) (c : Calls Try.prog f args w fun e w' => e = .returned (.int .i64 p) ∧ Kept w w') :
    Calls Try.prog f args w fun e w' => e = .returned (.int .i64 q) ∧ Kept w w' := by
  subst h
  exact c
theorem bool_is {f : FuncId} {args : Array Value} {w : World} {p q : Bool} (h : p = q) (c : Calls Try.prog f args w fun e w' => e = .returned (.bool p) ∧ Kept w w') :
    Calls Try.prog f args w fun e w' => e = .returned (.bool q) ∧ Kept w w' := by
  subst h
  exact c

end Go.Proofs.Ytajdhcanajbgoaa
