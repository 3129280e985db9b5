/-
  The contracts of package tree's calls stands, slotOf and standsRight.
-/
import Derived.Test.YtepgbnojbomicaaTreeMap
namespace Go.Proofs.Ytepgbnojbomicaa
open Go.ChangeShapes Go.WideShapes Go.ChangeAt Go.RowKit

/-! ### Asking the map -/
section
variable (w : World) {ops : Array Oper} {rest : List Oper} {o : Oper} {a : Act} {Q : Exit → Act → World → Prop}
theorem wpList_place_hit (hg : o.guard = none) (m x : Operand) (hop : o.op = Op.lookup 44 m x true) (ns : List Id2) (b n : Nat) (D : DataW Unit) (hm : a.eval m = .map (some b)) (hM : MapOf ns b n D w) (i : Id2) (hx : a.eval x = .agg #[.int .u64 i.1, .int .u64 i.2]) (hi : WfI i)
    (k : Nat) (q : posN ns i = some k) (hK : wpList Try.prog ops Q rest (a.put o.dst (.tuple #[.int .i64 (k : Int), .bool true])) w) : wpList Try.prog ops Q (o :: rest) a w := by
  refine wpList_lookup_own_ok_int w hg m x 44 hop 25 3 .i64 Try.keyedID Try.underlying44 Try.underlying3 (Try.zeroValue3 _) b n D hm hM.1 _ _ hx (key_of hi) ?_
  intro c hat _
  have h := hM.hit hi q
  rw [h.2] at hat
  cases hat
  rw [h.1]
  exact hK
theorem wpList_place_miss (hg : o.guard = none) (m x : Operand) (hop : o.op = Op.lookup 44 m x true) (ns : List Id2) (b n : Nat) (D : DataW Unit) (hm : a.eval m = .map (some b)) (hM : MapOf ns b n D w) (i : Id2) (hx : a.eval x = .agg #[.int .u64 i.1, .int .u64 i.2]) (hi : WfI i)
    (q : posN ns i = none) (hK : wpList Try.prog ops Q rest (a.put o.dst (.tuple #[.int .i64 0, .bool false])) w) : wpList Try.prog ops Q (o :: rest) a w := by
  refine wpList_lookup_own_ok_int w hg m x 44 hop 25 3 .i64 Try.keyedID Try.underlying44 Try.underlying3 (Try.zeroValue3 _) b n D hm hM.1 _ _ hx (key_of hi) ?_
  intro c hat _
  have h := hM.miss hi q
  rw [Maps.atKey_of_not_has h] at hat
  cases hat
  rw [h]
  exact hK
end

def standsN (ns : List Id2) (x : Id2) : Bool := (posN ns x).isSome || decide (x = zid)
theorem standsN_hit {ns : List Id2} {x : Id2} {i : Nat} (q : posN ns x = some i) : standsN ns x = true := by unfold standsN; rw [q]; rfl
theorem standsN_miss {ns : List Id2} {x : Id2} (q : posN ns x = none) : standsN ns x = isZ x := by unfold standsN isZ; rw [q]; rfl

set_option maxHeartbeats 800000 in
theorem stands_any (ns : List Id2) (b m : Nat) (D : DataW Unit) (x : Id2) (hx : WfI x) (w : World) (hM : MapOf ns b m D w) :
    Calls Try.prog 30 #[.map (some b), .agg #[.int .u64 x.1, .int .u64 x.2]] w fun e w' => e = .returned (.bool (standsN ns x)) ∧ Kept w w' := by
  have HM := Lib.hid (hM.kept ((Kept.refl w).alloc (.cells #[.int .u64 x.1, .int .u64 x.2] 25)))
  have HX := Lib.hid hx
  clear hM hx
  cases q : posN ns x with
  | some i =>
    have HS := Lib.hid (standsN_hit q)
    have HQ := Lib.hid q
    clear q
    go_enter Try.func30, Try.ntmps30
    go_wp2_with (at_lookup; refine wpList_place_hit _ rfl _ _ rfl ns b m D rfl HM.out x rfl HX.out i HQ.out ?_)
    go_ret
    exact ⟨by rw [HS.out]; rfl, (Kept.refl _).alloc _⟩
  | none =>
    have HS := Lib.hid (standsN_miss q)
    have HQ := Lib.hid q
    clear q
    go_enter Try.func30, Try.ntmps30
    go_wp2_with (at_lookup; refine wpList_place_miss _ rfl _ _ rfl ns b m D rfl HM.out x rfl HX.out HQ.out ?_)
    refine (isBeg_any x _).mono ?_
    rintro e W1 ⟨rfl, k1⟩
    have K1 := Lib.hid (((Kept.refl w).alloc _).trans k1)
    clear k1
    go_wp2_with fail
    go_ret
    exact ⟨by rw [HS.out]; rfl, K1.out⟩

/-! ### slotOf -/
def slotV (o : Option Int) : Value := .tuple #[.int .i64 (o.getD 0), .bool o.isSome]
theorem slotB_hit {l : List Bk} {x : Id2} {i : Nat} (q : posB l x = some i) : slotB l x = some (l[i]'(posB_lt q)).s := by
  unfold slotB; rw [q]; simp [posB_lt q]
theorem slotB_miss {l : List Bk} {x : Id2} (q : posB l x = none) : slotB l x = if x = zid then some 0 else none := by unfold slotB; rw [q]
theorem slotV_miss {l : List Bk} {x : Id2} (q : posB l x = none) : slotV (slotB l x) = .tuple #[.int .i64 0, .bool (isZ x)] := by
  rw [slotB_miss q]; unfold slotV isZ
  by_cases e : x = zid <;> simp [e]

set_option maxHeartbeats 800000 in
theorem slotOf_any (A : Option Addr) (c : Nat) (l : List Bk) (k : Nat) (hk : k ≤ l.length) (hl : l.length ≤ 1000000) (b m : Nat) (D : DataW Unit) (x : Id2) (hx : WfI x) (w : World) (hA : CellsAt w w.heap.size A (blockCells l)) (hM : MapOf (namesB (l.take k)) b m D w) :
    Calls Try.prog 29 #[.slice A l.length c, .map (some b), .agg #[.int .u64 x.1, .int .u64 x.2]] w fun e w' => e = .returned (slotV (slotB (l.take k) x)) ∧ Kept w w' := by
  have HM := Lib.hid (hM.kept ((Kept.refl w).alloc (.cells #[.int .u64 x.1, .int .u64 x.2] 25)))
  have HA := Lib.hid (hA.kept ((Kept.refl w).alloc (.cells #[.int .u64 x.1, .int .u64 x.2] 25)))
  have HX := Lib.hid hx
  clear hM hx hA
  cases q : posB (l.take k) x with
  | some i =>
    have hi := posB_lt q
    have hil : i < l.length := by rw [List.length_take] at hi; omega
    have HS := Lib.hid (show slotB (l.take k) x = some l[i].s by rw [slotB_hit q, List.getElem_take])
    have HQ := Lib.hid q
    obtain ⟨z, o, rfl, hb, c0, cr⟩ := block_at HA.out hil
    clear q hi cr
    go_enter Try.func29, Try.ntmps29
    go_wp2_with (at_lookup; refine wpList_place_hit _ rfl _ _ rfl _ b m D rfl HM.out x rfl HX.out i HQ.out ?_)
    go_ret2
    exact ⟨by rw [HS.out]; rfl, (Kept.refl _).alloc _⟩
  | none =>
    have HS := Lib.hid (slotV_miss q)
    have HQ := Lib.hid q
    clear q
    go_enter Try.func29, Try.ntmps29
    go_wp2_with (at_lookup; refine wpList_place_miss _ rfl _ _ rfl _ b m D rfl HM.out x rfl HX.out HQ.out ?_)
    refine (isBeg_any x _).mono ?_
    rintro e W1 ⟨rfl, k1⟩
    have K1 := Lib.hid (((Kept.refl w).alloc _).trans k1)
    clear k1
    go_wp2_with fail
    go_ret2
    exact ⟨by rw [HS.out]; rfl, K1.out⟩

/-! ### standsRight -/
theorem rightB_some {l : List Bk} {b : Bk} {s : Int} (q : slotB l b.p = some s) : rightB l b = decide (s < b.s) := by unfold rightB; rw [q]
theorem rightB_none {l : List Bk} {b : Bk} (q : slotB l b.p = none) : rightB l b = false := by unfold rightB; rw [q]
set_option maxHeartbeats 800000 in
theorem right_any (A : Option Addr) (c : Nat) (l : List Bk) (k : Nat) (hk : k ≤ l.length) (hl : l.length ≤ 1000000) (b m : Nat) (D : DataW Unit) (x : Bk) (hx : WfB x) (w : World) (hA : CellsAt w w.heap.size A (blockCells l)) (hM : MapOf (namesB (l.take k)) b m D w) :
    Calls Try.prog 35 #[.slice A l.length c, .map (some b), .agg #[.int .i64 x.s, .int .i64 x.f, .int .u64 x.p.1, .int .u64 x.p.2, .int .u64 x.t]] w fun e w' => e = .returned (.bool (rightB (l.take k) x)) ∧ Kept w w' := by
  have HM := Lib.hid (hM.kept ((Kept.refl w).alloc (.cells #[.int .i64 x.s, .int .i64 x.f, .int .u64 x.p.1, .int .u64 x.p.2, .int .u64 x.t] 36)))
  have HA := Lib.hid (hA.kept ((Kept.refl w).alloc (.cells #[.int .i64 x.s, .int .i64 x.f, .int .u64 x.p.1, .int .u64 x.p.2, .int .u64 x.t] 36)))
  have HC := Lib.hid (HasCells.new w #[.int .i64 x.s, .int .i64 x.f, .int .u64 x.p.1, .int .u64 x.p.2, .int .u64 x.t] 36 w.heap.size rfl)
  have HX := Lib.hid hx
  clear hM hx hA
  go_enter Try.func35, Try.ntmps35
  go_wp2_with fail
  refine (slotOf_any A c l k hk hl b m D x.p HX.out.1 _ HA.out HM.out).mono ?_
  rintro e W1 ⟨rfl, k1⟩
  obtain ⟨c0, c1, c2, c3, c4⟩ := (HC.out.kept k1).five
  have K1 := Lib.hid (((Kept.refl w).alloc _).trans k1)
  clear k1
  cases q : slotB (l.take k) x.p with
  | none =>
    have HR := Lib.hid (rightB_none q)
    simp only [slotV, Option.getD_none, Option.isSome_none]
    clear q
    go_wp2_with fail
    go_ret
    exact ⟨by rw [HR.out]; rfl, K1.out⟩
  | some s =>
    have HR := Lib.hid (rightB_some q)
    simp only [slotV, Option.getD_some, Option.isSome_some]
    clear q
    go_wp2_with fail
    go_ret
    exact ⟨by rw [HR.out]; rfl, K1.out⟩

end Go.Proofs.Ytepgbnojbomicaa
