/-
  Worlds in which nothing that was there has changed, and the last step of every law: the arguments read as before.
  Cells that lie one behind another, and append onto a row of the call's own, whatever slice is appended.
  Cells at plain addresses, types' descriptions, and the first k of a list.
  Cells that lie in a block of their own, from its beginning on.
  Cells held over a drawn region.
  Arguments that are numbers, opened: a word, a number.
  A list of numbers of one's own, onto which is appended.
  append onto a row of the call's own, at a step of a region that draws its order.
  Ids held against one another.
  Cells of numbers and ids, read.
  Votes held against one another.
  Arguments of the types of package api, opened: a number, an id, a block.
  Cells held over a step that leaves all that lay in W as it was.
  Cells held over a drawn region.
-/
import Derived.WalkKit
import Derived.ProofKit
import Derived.OpenShut
import Derived.ReadAgain
import Derived.ChangeReads
import Derived.Deep.Draws
import Derived.Lib.Hide
import Derived.Test.YtacdiicnfoejoaaRows
import Derived.Maps.AppendAt
import Derived.Deep.AppendLies
import Derived.RegionTactic
import Derived.OwnWalk
import Derived.WalkArith
namespace Go.Proofs.Ytacdiicnfoejoaa
set_option maxRecDepth 100000
set_option linter.unusedVariables false
set_option linter.unusedSimpArgs false
section
open Go.ChangeShapes Go.WideShapes Go.ChangeAt Go.RowKit

/-! ### Worlds -/
/-- All that lay in w lies in w' as it was. -/
def Kept (w w' : World) : Prop := Below w.heap.size w w'
theorem Kept.refl (w : World) : Kept w w := Below.refl _ _
theorem Kept.trans {a b c : World} (h : Kept a b) (k : Kept b c) : Kept a c := Below.trans h (Below.mono k (Below.size h))
/-- .. where the second step keeps what lay in the first world alone. -/
theorem Kept.trans' {a b c : World} (h : Kept a b) (k : Below a.heap.size b c) : Kept a c := Below.trans h k
theorem Kept.drew {a w : World} (h : Kept a w) : Kept a w.drew := Below.drew h
theorem Kept.drewN {a w : World} (h : Kept a w) (n : Nat) : Kept a (w.drewN n) := ⟨h.os, h.tape, h.output, h.size, h.block⟩
theorem Kept.alloc {a w : World} (h : Kept a w) (o : Obj) : Kept a (w.alloc o) := Below.alloc h (Below.size h) o
theorem Kept.setCell {a w : World} (h : Kept a w) {p : Addr} (hp : a.heap.size ≤ p.block) (u : Value) : Kept a (w.setCell p u) := Below.setCell h hp u
theorem Kept.grown {a w w' : World} (h : Kept a w) {row : Option Nat} (hg : w.grownBy w' row) (hr : ∀ k, row = some k → a.heap.size ≤ k) : Kept a w' := Below.grown h hg (Below.size h) hr
theorem Kept.size_le {a w : World} (h : Kept a w) : a.heap.size ≤ w.heap.size := Below.size h
theorem Kept.cell {a w : World} (h : Kept a w) {p : Addr} (hp : p.block < a.heap.size) : w.cell? p = a.cell? p := Below.cell h hp
theorem Kept.frozen {a w : World} (h : Kept a w) {p : Addr} (hp : p.block < a.heap.size) : w.frozen? p = a.frozen? p := Below.frozen h hp
theorem Kept.heap {a w : World} (h : Kept a w) {i : Nat} (hi : i < a.heap.size) : w.heap[i]? = a.heap[i]? := Below.block h i hi

/-! ### The end of a law -/
theorem own : ownKnob Try.prog.godebug = none := by kernel_rfl
theorem kids : Kids Try.prog (· < Try.prog.types.size) := kids_rows (by kernel_rfl) (by kernel_rfl)
theorem full : ∀ t e, t < Try.prog.types.size → Try.prog.underlying t = some (.slice e) → 0 < Try.prog.cellsOf e := slices_full_of Try.prog (by kernel_rfl)

section
variable {H : Type} {enc : TypeId × Value → H}

theorem trodAll_carry {P : Program} {w w' : World} {base : Nat} {sp : Nat → Bool} {held : Bool} : ∀ {ts : List TypeId} {vs : List Value} {ds : List (DataW H)} {ps : List MemPlace},
    DataW.TrodAll enc P w base sp held ts vs ds ps → (∀ p ∈ ps, w.sameAt w' p) → DataW.TrodAll enc P w' base sp held ts vs ds ps
  | [], [], [], _, h, _ => h
  | _ :: _, _ :: _, _ :: _, _, ⟨p, q, ⟨n, hn⟩, h2, e⟩, hs =>
    ⟨p, q, ⟨n, DataW.trod_carry n _ _ _ hn (fun x hx => hs x (by rw [e]; exact List.mem_append_left _ hx))⟩, trodAll_carry h2 (fun x hx => hs x (by rw [e]; exact List.mem_append_right _ hx)), e⟩

set_option maxRecDepth 100000 in
theorem law_post {f : Func} {s : ChangeSpec} {apart fresh handsOn again : Bool} {W W' : World} {args : Array Value} {ds gs : List (DataW H)} {before : List MemPlace}
    (hv : s.vars = []) (hT : f.params.toList.all (fun t => decide (t < Try.prog.types.size)) = true) (hr : f.resultTypes = #[4])
    (hW : DataW.Whole enc Try.prog f.params.toList s.vars apart W args.toList ds gs before)
    (hfn : s.fn H (ds ++ gs) = { results := [.lit (.bool true)], args := ds }) (hb : Kept W W') :
    s.post enc Try.prog f apart fresh handsOn again W args (.bool true) W' := by
  have hlt : ∀ p ∈ before, p.block < W.heap.size := fun p hp => hW.lt p hp
  have hT' : ∀ t ∈ f.params.toList, t < Try.prog.types.size := fun t ht => by simpa using List.all_eq_true.1 hT t ht
  have hW0 := hW
  obtain ⟨p, q, hA, hV, e, hz, hn⟩ := hW0
  rw [hv] at hV
  obtain ⟨rfl, rfl⟩ := trodVars_none hV
  rw [List.append_nil] at e
  subst e
  have hargs : ∀ sp : Nat → Bool, (∀ x ∈ before, sp x.block = true) → DataW.TrodAll enc Try.prog W' 0 sp true f.params.toList args.toList ds before := fun sp hs =>
    trodAll_carry (hA.respare kids full hT' hs) (fun x hx => Below.same hb (hlt x hx))
  have hres : ∀ (b : Nat) (sp : Nat → Bool) (hd : Bool), DataW.TrodAll enc Try.prog W' b sp hd f.resultTypes.toList ((Value.bool true).resultList f.resultTypes.size) [.lit (.bool true)] [] := fun b sp hd => by
    rw [hr]
    exact trodAll_mk1 (shut_bool Try.underlying4 _)
  have hold : ∀ x ∈ before, (fun b => decide (b < W.heap.size)) x.block = true := fun x hx => by simpa using hlt x hx
  refine ⟨ds, [], before, [], before, [], hW, ?_, ?_, ?_, World.keptBut_mono (fun x hx => ⟨hx, ?_⟩) (Below.frame hb (· ∈ before)), fun _ => ?_⟩
  · rw [hfn]; exact hres _ _ _
  · rw [hfn]; exact hargs _ hold
  · rw [hfn, hv]; rfl
  · exact Or.inr (by simpa using hx)
  · refine ⟨ok_one hr rfl (okWide_bool_mk Try.underlying4 _), [.lit (.bool true)] ++ ds, [], [] ++ before, ⟨[] ++ before, [], trodAll_append (hargs _ (fun _ _ => rfl)) (hres _ _ _), ?_, by simp, ?_, ?_⟩, ?_⟩
    · rw [hv]; rfl
    · intro b off hp
      have hin : MemPlace.cell b off ∈ before := by simpa using hp
      rw [hb.frozen (hlt _ hin)]
      exact hz b off hin
    · intro ha
      simpa using hn ha
    · intro x hx _
      simpa using hx
end
end

section
open Go.ChangeShapes Go.WideShapes Go.ChangeAt Go.RowKit

theorem block_add (a : Addr) (n : Nat) : (a.add n).block = a.block := by unfold Addr.add; split <;> rfl

/-- The cells of xs lie one behind another from A on, below block B. -/
def CellsAt (w : World) (B : Nat) (A : Option Addr) (xs : List Value) : Prop := ∀ j u, xs[j]? = some u → ∃ ad : Addr, A = some ad ∧ ad.block < B ∧ w.cell? (ad.add j) = some u

section
variable {w w' : World} {B B' : Nat} {A : Option Addr} {xs : List Value}
theorem CellsAt.nil : CellsAt w B A [] := fun j u h => by simp at h
theorem CellsAt.keep (h : CellsAt w B A xs) (hk : ∀ p : Addr, p.block < B → w'.cell? p = w.cell? p) : CellsAt w' B A xs := fun j u hu => by
  obtain ⟨ad, e, hb, hc⟩ := h j u hu
  exact ⟨ad, e, hb, (hk _ (by rw [block_add]; exact hb)).trans hc⟩
theorem CellsAt.mono (h : CellsAt w B A xs) (hB : B ≤ B') : CellsAt w B' A xs := fun j u hu => by
  obtain ⟨ad, e, hb, hc⟩ := h j u hu
  exact ⟨ad, e, by omega, hc⟩
theorem CellsAt.kept (h : CellsAt w w.heap.size A xs) (k : Kept w w') : CellsAt w' w'.heap.size A xs := (h.keep fun _ hp => k.cell hp).mono k.size_le
theorem CellsAt.one (w : World) (u : Value) (t : TypeId) (b : Nat) (hb : b = w.heap.size) : CellsAt (w.alloc (.cells #[u] t)) (w.alloc (.cells #[u] t)).heap.size (some ⟨b, 0, none⟩) [u] := fun j y hy => by
  subst hb
  rcases j with _ | j
  · simp at hy; subst hy
    exact ⟨_, rfl, by simp, by simp [go_sem, Addr.add]⟩
  · simp at hy
theorem CellsAt.some_of (h : CellsAt w B A xs) (hn : 0 < xs.length) : ∃ ad : Addr, A = some ad ∧ ad.block < B ∧ ∀ j u, xs[j]? = some u → w.cell? (ad.add j) = some u := by
  obtain ⟨ad, e, hb, _⟩ := h 0 xs[0] (List.getElem?_eq_getElem hn)
  refine ⟨ad, e, hb, fun j u hu => ?_⟩
  obtain ⟨ad', e', _, hc⟩ := h j u hu
  rw [e] at e'
  injection e' with e'
  rw [e']; exact hc
theorem CellsAt.of_own {base : Nat} {e : TypeId} {size n c : Nat} (h : w.ownsRow base e size (.slice A n c) n xs) : CellsAt w w.heap.size A xs := by
  intro j u hu
  rcases h.2 with ⟨hv, rfl⟩ | ⟨g, cap, cur, hv, _, hh, _⟩
  · have := h.1
    simp at this
    subst this
    simp at hu
  · injection hv with hA _ _
    subst hA
    have hlt : g < w.heap.size := (h.lt g rfl).2
    exact ⟨_, rfl, hlt, h.cells (g := g) rfl j u hu⟩
end

/-! ### append -/
section
variable {P : Program} (w : World)

theorem run_app_nil (t ty e : TypeId) (i : TypeInfo) (ht : P.underlying t = some (.slice e)) (hi : P.info? e = some i) {base size : Nat}
    (v : Value) (n : Nat) (xs : List Value) (hown : w.ownsRow base e size v n xs) (c : Nat) : (Builtin.append_ #[t, t] ty #[v, .slice none 0 c]).run P w = .ok v w := by
  rcases hown.2 with ⟨rfl, rfl⟩ | ⟨g, cap, cur, rfl, _, _, hnc, _⟩
  · simp [Builtin.append_, run_underlying ht, sizeOf, typeInfo, hi, Builtin.lenOf, Builtin.firstCells]
  · simp [Builtin.append_, run_underlying ht, sizeOf, typeInfo, hi, Builtin.lenOf, Builtin.firstCells, hnc, storeCells]

theorem run_app (base : Nat) (t ty e : TypeId) (i : TypeInfo) (z : Value) (size bytes : Nat) (ht : P.underlying t = some (.slice e)) (hi : P.info? e = some i) (hz : i.zero = some z)
    (hsize : i.size = size) (hby : i.bytes = bytes) (hzs : z.cells.size = size) (hsz : 0 < size)
    (v : Value) (n : Nat) (xs : List Value) (hown : w.ownsRow base e size v n xs)
    (B : Nat) (A : Option Addr) (m c : Nat) (news : List Value) (hl : news.length = m * size) (hr : CellsAt w B A news) (h1 : ∀ u ∈ news, u.oneCell' = true)
    (h63 : n + m ≤ maxLen) (hbytes : (n + m) * bytes ≤ 140737488355328) (hbase : base ≤ w.heap.size) :
    ∃ v' w', (Builtin.append_ #[t, t] ty #[v, .slice A m c]).run P w = .ok v' w' ∧ w'.ownsRow base e size v' (n + m) (xs ++ news) ∧ w.grownBy w' v.ownBlock ∧ (v'.ownBlock = v.ownBlock ∨ v'.ownBlock = some w.heap.size) := by
  rcases A with _ | ad
  · have hm : m = 0 := by
      rcases Nat.eq_zero_or_pos m with h0 | h0
      · exact h0
      · obtain ⟨ad, e, _⟩ := hr.some_of (by rw [hl]; exact Nat.mul_pos h0 hsz)
        cases e
    subst hm
    have hn : news = [] := List.eq_nil_of_length_eq_zero (by simpa using hl)
    subst hn
    exact ⟨v, w, run_app_nil w t ty e i ht hi v n xs hown c, by simpa using hown, World.grownBy.refl w _, .inl rfl⟩
  · have hc : ∀ j u, news[j]? = some u → w.cell? (ad.add j) = some u := fun j u hu => by
      obtain ⟨ad', e', _, hc⟩ := hr j u hu
      injection e' with e'
      rw [e']; exact hc
    obtain ⟨v', w', hrun, h2, h3, _, h5⟩ := run_append_own_at (P := P) w base t ty e i z size bytes ht hi hz hsize hby hzs hsz v n xs hown ad m c news hl hc h1 h63 hbytes hbase
    exact ⟨v', w', hrun, h2, h3, h5⟩

theorem wpList_app {ops : Array Oper} {rest : List Oper} {o : Oper} {a : Act} {Q : Exit → Act → World → Prop} (hgd : o.guard = none) (s x : Operand) (t : TypeId)
    (ho : o.op = .call { callee := .builtin .append, args := #[s, x], argTypes := #[t, t] })
    (base : Nat) (e : TypeId) (i : TypeInfo) (z : Value) (size bytes : Nat) (ht : P.underlying t = some (.slice e)) (hi : P.info? e = some i) (hz : i.zero = some z)
    (hsize : i.size = size) (hby : i.bytes = bytes) (hzs : z.cells.size = size) (hsz : 0 < size)
    (v : Value) (n : Nat) (xs : List Value) (hs : a.eval s = v) (hown : w.ownsRow base e size v n xs)
    (B : Nat) (A : Option Addr) (m c : Nat) (news : List Value) (hx : a.eval x = .slice A m c) (hl : news.length = m * size) (hr : CellsAt w B A news) (h1 : ∀ u ∈ news, u.oneCell' = true)
    (h63 : n + m ≤ maxLen) (hbytes : (n + m) * bytes ≤ 140737488355328) (hbase : base ≤ w.heap.size)
    (h : ∀ v' w', w'.ownsRow base e size v' (n + m) (xs ++ news) → w.grownBy w' v.ownBlock → (v'.ownBlock = v.ownBlock ∨ v'.ownBlock = some w.heap.size) → wpList P ops Q rest (a.put o.dst v') w') : wpList P ops Q (o :: rest) a w := by
  refine wpList_plain hgd fun K hK => ?_
  obtain ⟨v', w', hrun, h2, h3, h4⟩ := run_app (P := P) w base t o.type e i z size bytes ht hi hz hsize hby hzs hsz v n xs hown B A m c news hl hr h1 h63 hbytes hbase
  unfold Oper.wp execOp
  simp only [ho, resolve, invoke, builtin, Sem.run_bind, Sem.run_pure, Result.andThen_ok, List.map_toArray, List.map_cons, List.map_nil, hs, hx, hrun]
  exact hK _ _ (h v' w' h2 h3 h4)
end
end

section
open Go.ChangeShapes Go.WideShapes Go.ChangeAt Go.RowKit

theorem add_none (z o j : Nat) : (⟨z, o, none⟩ : Addr).add j = ⟨z, o + j, none⟩ := by
  unfold Addr.add
  split
  · rename_i h; subst h; rfl
  · rfl
/-- An address that reads is a plain one. -/
theorem plain_of {w : World} {ad : Addr} {u : Value} (h : w.cell? (ad.add 0) = some u) : ∃ B o, ad = ⟨B, o, none⟩ := by
  obtain ⟨B, o, s⟩ := ad
  cases s with
  | none => exact ⟨B, o, rfl⟩
  | some s =>
    have e : (⟨B, o, some s⟩ : Addr).add 0 = ⟨B, o, some s⟩ := rfl
    rw [e] at h
    unfold World.cell? at h
    split at h <;> simp at h
theorem CellsAt.plain {w : World} {B : Nat} {A : Option Addr} {xs : List Value} (h : CellsAt w B A xs) (hn : 0 < xs.length) : ∃ z o, A = some ⟨z, o, none⟩ ∧ z < B ∧ ∀ j u, xs[j]? = some u → w.cell? ⟨z, o + j, none⟩ = some u := by
  obtain ⟨ad, e, hb, hc⟩ := h.some_of hn
  obtain ⟨z, o, rfl⟩ := plain_of (hc 0 _ (List.getElem?_eq_getElem hn))
  exact ⟨z, o, e, hb, fun j u hu => by rw [← add_none]; exact hc j u hu⟩
theorem Try.someTypes : ∃ m, Try.prog.types.size = m + 1 := ⟨Try.prog.types.size - 1, (Nat.succ_pred (Nat.pos_iff_ne_zero.1 (of_decide_eq_true (by kernel_rfl)))).symm⟩
theorem wf_u64 {a : Nat} (h : a < 18446744073709551616) : (Lit.int .u64 (a : Int)).wf = true := Go.WalkArith.wf_u64 ⟨by omega, by omega⟩
theorem info_of {P : Program} {t : TypeId} {z : Value} {s b : Nat} (h : (P.info? t).map (fun i => (i.zero, i.size, i.bytes)) = some (some z, s, b)) : ∃ i, P.info? t = some i ∧ i.zero = some z ∧ i.size = s ∧ i.bytes = b := by
  cases hq : P.info? t with
  | none => simp [hq] at h
  | some i => simp [hq] at h; exact ⟨i, rfl, h.1, h.2.1, h.2.2⟩
theorem map_add0 (s : Nat) (A : Option Addr) : A.map (fun x => x.add (0 * s)) = A := by
  cases A with
  | none => rfl
  | some a => simp [Addr.add]
theorem run_upto (t e : TypeId) (i : TypeInfo) (ht : Try.prog.underlying t = some (.slice e)) (hi : Try.prog.info? e = some i) (A : Option Addr) (n c k : Nat) (hk : k ≤ c) (w : World) :
    (Instr.slice t (.slice A n c) none (some (.int .i64 (k : Int))) none).run Try.prog w = .ok (.slice A k c) w := by
  have hb : ∀ code, (Instr.sliceBound (.int .i64 (k : Int)) c code).run Try.prog w = .ok k w := fun code => by
    rw [run_sliceBound _ _ _ _ _ (by omega) (by omega)]; simp
  have hz : A.map (fun x => x.add 0) = A := by have := map_add0 0 A; simpa using this
  simp [Instr.slice, run_underlying ht, Instr.sliceBounds, hb, sizeOf, typeInfo, hi, Result.andThen, hz]
theorem cells_prefix {w : World} {B : Nat} {A : Option Addr} {xs ys : List Value} (h : CellsAt w B A (xs ++ ys)) : CellsAt w B A xs := fun j u hu => h j u (by rw [List.getElem?_append_left (List.getElem?_eq_some_iff.1 hu).1]; exact hu)
/-- What lies from place k on. -/
theorem run_from (t e : TypeId) (i : TypeInfo) (ht : Try.prog.underlying t = some (.slice e)) (hi : Try.prog.info? e = some i) (A : Option Addr) (n c k : Nat) (hk : k ≤ n) (w : World) :
    (Instr.slice t (.slice A n c) (some (.int .i64 (k : Int))) none none).run Try.prog w = .ok (.slice (if c = k then A else A.map (fun x => x.add (k * i.size))) (n - k) (c - k)) w := by
  have hb : ∀ code, (Instr.sliceBound (.int .i64 (k : Int)) n code).run Try.prog w = .ok k w := fun code => by
    rw [run_sliceBound _ _ _ _ _ (by omega) (by omega)]; simp
  simp [Instr.slice, run_underlying ht, Instr.sliceBounds, hb, sizeOf, typeInfo, hi, Result.andThen]
theorem cells_from {w : World} {B : Nat} {A : Option Addr} {xs ys : List Value} (h : CellsAt w B A (xs ++ ys)) : CellsAt w B (A.map (fun x => x.add xs.length)) ys := fun j u hu => by
  have hj := (List.getElem?_eq_some_iff.1 hu).1
  obtain ⟨z, o, rfl, hz, hc⟩ := h.plain (by rw [List.length_append]; omega)
  refine ⟨_, rfl, by rw [block_add]; exact hz, ?_⟩
  show w.cell? (((⟨z, o, none⟩ : Addr).add xs.length).add j) = some u
  rw [add_none, add_none, Nat.add_assoc]
  exact hc _ _ (by rw [List.getElem?_append_right (by omega), Nat.add_sub_cancel_left]; exact hu)
end

section
open Go.ChangeShapes Go.WideShapes Go.ChangeAt Go.RowKit

/-- Block b begins by the cells xs. -/
def HasCells (w : World) (b : Nat) (xs : List Value) : Prop := b < w.heap.size ∧ ∀ j u, xs[j]? = some u → w.cell? ⟨b, j, none⟩ = some u
theorem HasCells.kept {w w' : World} {b : Nat} {xs : List Value} (h : HasCells w b xs) (k : Kept w w') : HasCells w' b xs :=
  ⟨Nat.lt_of_lt_of_le h.1 k.size_le, fun j u hu => (k.cell (p := ⟨b, j, none⟩) h.1).trans (h.2 j u hu)⟩
theorem HasCells.alloc {w : World} {b : Nat} {xs : List Value} (h : HasCells w b xs) (o : Obj) : HasCells (w.alloc o) b xs := h.kept ((Kept.refl _).alloc _)
theorem HasCells.new (w : World) (xs : Array Value) (t : TypeId) (b : Nat) (hb : b = w.heap.size) : HasCells (w.alloc (.cells xs t)) b xs.toList := by
  subst hb
  refine ⟨by simp, fun j u hu => ?_⟩
  rw [World.cell?_alloc_new]
  simpa using hu
theorem HasCells.at0 {w : World} {b : Nat} {c : Value} {xs : List Value} (h : HasCells w b (c :: xs)) : w.cell? ⟨b, 0, none⟩ = some c := h.2 0 c rfl
theorem HasCells.at1 {w : World} {b : Nat} {c0 c : Value} {xs : List Value} (h : HasCells w b (c0 :: c :: xs)) : w.cell? ⟨b, 1, none⟩ = some c := h.2 1 c rfl
theorem HasCells.at2 {w : World} {b : Nat} {c0 c1 c : Value} {xs : List Value} (h : HasCells w b (c0 :: c1 :: c :: xs)) : w.cell? ⟨b, 2, none⟩ = some c := h.2 2 c rfl
theorem HasCells.at3 {w : World} {b : Nat} {c0 c1 c2 c : Value} {xs : List Value} (h : HasCells w b (c0 :: c1 :: c2 :: c :: xs)) : w.cell? ⟨b, 3, none⟩ = some c := h.2 3 c rfl
theorem HasCells.at4 {w : World} {b : Nat} {c0 c1 c2 c3 c : Value} {xs : List Value} (h : HasCells w b (c0 :: c1 :: c2 :: c3 :: c :: xs)) : w.cell? ⟨b, 4, none⟩ = some c := h.2 4 c rfl
theorem HasCells.two {w : World} {b : Nat} {c0 c1 : Value} (h : HasCells w b [c0, c1]) : w.cell? ⟨b, 0, none⟩ = some c0 ∧ w.cell? ⟨b, 1, none⟩ = some c1 := ⟨h.at0, h.at1⟩
theorem HasCells.three {w : World} {b : Nat} {c0 c1 c2 : Value} (h : HasCells w b [c0, c1, c2]) : w.cell? ⟨b, 0, none⟩ = some c0 ∧ w.cell? ⟨b, 1, none⟩ = some c1 ∧ w.cell? ⟨b, 2, none⟩ = some c2 := ⟨h.at0, h.at1, h.at2⟩
theorem HasCells.four {w : World} {b : Nat} {c0 c1 c2 c3 : Value} (h : HasCells w b [c0, c1, c2, c3]) :
    w.cell? ⟨b, 0, none⟩ = some c0 ∧ w.cell? ⟨b, 1, none⟩ = some c1 ∧ w.cell? ⟨b, 2, none⟩ = some c2 ∧ w.cell? ⟨b, 3, none⟩ = some c3 := ⟨h.at0, h.at1, h.at2, h.at3⟩
theorem HasCells.five {w : World} {b : Nat} {c0 c1 c2 c3 c4 : Value} (h : HasCells w b [c0, c1, c2, c3, c4]) :
    w.cell? ⟨b, 0, none⟩ = some c0 ∧ w.cell? ⟨b, 1, none⟩ = some c1 ∧ w.cell? ⟨b, 2, none⟩ = some c2 ∧ w.cell? ⟨b, 3, none⟩ = some c3 ∧ w.cell? ⟨b, 4, none⟩ = some c4 := ⟨h.at0, h.at1, h.at2, h.at3, h.at4⟩
end

section
open Go.ChangeShapes Go.WideShapes Go.ChangeAt Go.RowKit

theorem keepP1 {W w w' : World} {a0 : Addr} {x0 : Value} (h0 : a0.block < W.heap.size) (h : w.cell? a0 = some x0 ∧ Kept W w) (k : Kept w w') : w'.cell? a0 = some x0 ∧ Kept W w' := by
  obtain ⟨g0, hk⟩ := h
  have := hk.size_le
  exact ⟨(k.cell (by omega)).trans g0, hk.trans k⟩
theorem keepP2 {W w w' : World} {a0 a1 : Addr} {x0 x1 : Value} (h0 : a0.block < W.heap.size) (h1 : a1.block < W.heap.size) (h : w.cell? a0 = some x0 ∧ w.cell? a1 = some x1 ∧ Kept W w) (k : Kept w w') : w'.cell? a0 = some x0 ∧ w'.cell? a1 = some x1 ∧ Kept W w' := by
  obtain ⟨g0, g1, hk⟩ := h
  have := hk.size_le
  exact ⟨(k.cell (by omega)).trans g0, (k.cell (by omega)).trans g1, hk.trans k⟩
theorem keepP3 {W w w' : World} {a0 a1 a2 : Addr} {x0 x1 x2 : Value} (h0 : a0.block < W.heap.size) (h1 : a1.block < W.heap.size) (h2 : a2.block < W.heap.size) (h : w.cell? a0 = some x0 ∧ w.cell? a1 = some x1 ∧ w.cell? a2 = some x2 ∧ Kept W w) (k : Kept w w') : w'.cell? a0 = some x0 ∧ w'.cell? a1 = some x1 ∧ w'.cell? a2 = some x2 ∧ Kept W w' := by
  obtain ⟨g0, g1, g2, hk⟩ := h
  have := hk.size_le
  exact ⟨(k.cell (by omega)).trans g0, (k.cell (by omega)).trans g1, (k.cell (by omega)).trans g2, hk.trans k⟩
theorem keepP4 {W w w' : World} {a0 a1 a2 a3 : Addr} {x0 x1 x2 x3 : Value} (h0 : a0.block < W.heap.size) (h1 : a1.block < W.heap.size) (h2 : a2.block < W.heap.size) (h3 : a3.block < W.heap.size) (h : w.cell? a0 = some x0 ∧ w.cell? a1 = some x1 ∧ w.cell? a2 = some x2 ∧ w.cell? a3 = some x3 ∧ Kept W w) (k : Kept w w') : w'.cell? a0 = some x0 ∧ w'.cell? a1 = some x1 ∧ w'.cell? a2 = some x2 ∧ w'.cell? a3 = some x3 ∧ Kept W w' := by
  obtain ⟨g0, g1, g2, g3, hk⟩ := h
  have := hk.size_le
  exact ⟨(k.cell (by omega)).trans g0, (k.cell (by omega)).trans g1, (k.cell (by omega)).trans g2, (k.cell (by omega)).trans g3, hk.trans k⟩
theorem keepP5 {W w w' : World} {a0 a1 a2 a3 a4 : Addr} {x0 x1 x2 x3 x4 : Value} (h0 : a0.block < W.heap.size) (h1 : a1.block < W.heap.size) (h2 : a2.block < W.heap.size) (h3 : a3.block < W.heap.size) (h4 : a4.block < W.heap.size) (h : w.cell? a0 = some x0 ∧ w.cell? a1 = some x1 ∧ w.cell? a2 = some x2 ∧ w.cell? a3 = some x3 ∧ w.cell? a4 = some x4 ∧ Kept W w) (k : Kept w w') : w'.cell? a0 = some x0 ∧ w'.cell? a1 = some x1 ∧ w'.cell? a2 = some x2 ∧ w'.cell? a3 = some x3 ∧ w'.cell? a4 = some x4 ∧ Kept W w' := by
  obtain ⟨g0, g1, g2, g3, g4, hk⟩ := h
  have := hk.size_le
  exact ⟨(k.cell (by omega)).trans g0, (k.cell (by omega)).trans g1, (k.cell (by omega)).trans g2, (k.cell (by omega)).trans g3, (k.cell (by omega)).trans g4, hk.trans k⟩
theorem keepP6 {W w w' : World} {a0 a1 a2 a3 a4 a5 : Addr} {x0 x1 x2 x3 x4 x5 : Value} (h0 : a0.block < W.heap.size) (h1 : a1.block < W.heap.size) (h2 : a2.block < W.heap.size) (h3 : a3.block < W.heap.size) (h4 : a4.block < W.heap.size) (h5 : a5.block < W.heap.size) (h : w.cell? a0 = some x0 ∧ w.cell? a1 = some x1 ∧ w.cell? a2 = some x2 ∧ w.cell? a3 = some x3 ∧ w.cell? a4 = some x4 ∧ w.cell? a5 = some x5 ∧ Kept W w) (k : Kept w w') : w'.cell? a0 = some x0 ∧ w'.cell? a1 = some x1 ∧ w'.cell? a2 = some x2 ∧ w'.cell? a3 = some x3 ∧ w'.cell? a4 = some x4 ∧ w'.cell? a5 = some x5 ∧ Kept W w' := by
  obtain ⟨g0, g1, g2, g3, g4, g5, hk⟩ := h
  have := hk.size_le
  exact ⟨(k.cell (by omega)).trans g0, (k.cell (by omega)).trans g1, (k.cell (by omega)).trans g2, (k.cell (by omega)).trans g3, (k.cell (by omega)).trans g4, (k.cell (by omega)).trans g5, hk.trans k⟩
theorem keepP7 {W w w' : World} {a0 a1 a2 a3 a4 a5 a6 : Addr} {x0 x1 x2 x3 x4 x5 x6 : Value} (h0 : a0.block < W.heap.size) (h1 : a1.block < W.heap.size) (h2 : a2.block < W.heap.size) (h3 : a3.block < W.heap.size) (h4 : a4.block < W.heap.size) (h5 : a5.block < W.heap.size) (h6 : a6.block < W.heap.size) (h : w.cell? a0 = some x0 ∧ w.cell? a1 = some x1 ∧ w.cell? a2 = some x2 ∧ w.cell? a3 = some x3 ∧ w.cell? a4 = some x4 ∧ w.cell? a5 = some x5 ∧ w.cell? a6 = some x6 ∧ Kept W w) (k : Kept w w') : w'.cell? a0 = some x0 ∧ w'.cell? a1 = some x1 ∧ w'.cell? a2 = some x2 ∧ w'.cell? a3 = some x3 ∧ w'.cell? a4 = some x4 ∧ w'.cell? a5 = some x5 ∧ w'.cell? a6 = some x6 ∧ Kept W w' := by
  obtain ⟨g0, g1, g2, g3, g4, g5, g6, hk⟩ := h
  have := hk.size_le
  exact ⟨(k.cell (by omega)).trans g0, (k.cell (by omega)).trans g1, (k.cell (by omega)).trans g2, (k.cell (by omega)).trans g3, (k.cell (by omega)).trans g4, (k.cell (by omega)).trans g5, (k.cell (by omega)).trans g6, hk.trans k⟩
theorem keepP8 {W w w' : World} {a0 a1 a2 a3 a4 a5 a6 a7 : Addr} {x0 x1 x2 x3 x4 x5 x6 x7 : Value} (h0 : a0.block < W.heap.size) (h1 : a1.block < W.heap.size) (h2 : a2.block < W.heap.size) (h3 : a3.block < W.heap.size) (h4 : a4.block < W.heap.size) (h5 : a5.block < W.heap.size) (h6 : a6.block < W.heap.size) (h7 : a7.block < W.heap.size) (h : w.cell? a0 = some x0 ∧ w.cell? a1 = some x1 ∧ w.cell? a2 = some x2 ∧ w.cell? a3 = some x3 ∧ w.cell? a4 = some x4 ∧ w.cell? a5 = some x5 ∧ w.cell? a6 = some x6 ∧ w.cell? a7 = some x7 ∧ Kept W w) (k : Kept w w') : w'.cell? a0 = some x0 ∧ w'.cell? a1 = some x1 ∧ w'.cell? a2 = some x2 ∧ w'.cell? a3 = some x3 ∧ w'.cell? a4 = some x4 ∧ w'.cell? a5 = some x5 ∧ w'.cell? a6 = some x6 ∧ w'.cell? a7 = some x7 ∧ Kept W w' := by
  obtain ⟨g0, g1, g2, g3, g4, g5, g6, g7, hk⟩ := h
  have := hk.size_le
  exact ⟨(k.cell (by omega)).trans g0, (k.cell (by omega)).trans g1, (k.cell (by omega)).trans g2, (k.cell (by omega)).trans g3, (k.cell (by omega)).trans g4, (k.cell (by omega)).trans g5, (k.cell (by omega)).trans g6, (k.cell (by omega)).trans g7, hk.trans k⟩
theorem keepP9 {W w w' : World} {a0 a1 a2 a3 a4 a5 a6 a7 a8 : Addr} {x0 x1 x2 x3 x4 x5 x6 x7 x8 : Value} (h0 : a0.block < W.heap.size) (h1 : a1.block < W.heap.size) (h2 : a2.block < W.heap.size) (h3 : a3.block < W.heap.size) (h4 : a4.block < W.heap.size) (h5 : a5.block < W.heap.size) (h6 : a6.block < W.heap.size) (h7 : a7.block < W.heap.size) (h8 : a8.block < W.heap.size) (h : w.cell? a0 = some x0 ∧ w.cell? a1 = some x1 ∧ w.cell? a2 = some x2 ∧ w.cell? a3 = some x3 ∧ w.cell? a4 = some x4 ∧ w.cell? a5 = some x5 ∧ w.cell? a6 = some x6 ∧ w.cell? a7 = some x7 ∧ w.cell? a8 = some x8 ∧ Kept W w) (k : Kept w w') : w'.cell? a0 = some x0 ∧ w'.cell? a1 = some x1 ∧ w'.cell? a2 = some x2 ∧ w'.cell? a3 = some x3 ∧ w'.cell? a4 = some x4 ∧ w'.cell? a5 = some x5 ∧ w'.cell? a6 = some x6 ∧ w'.cell? a7 = some x7 ∧ w'.cell? a8 = some x8 ∧ Kept W w' := by
  obtain ⟨g0, g1, g2, g3, g4, g5, g6, g7, g8, hk⟩ := h
  have := hk.size_le
  exact ⟨(k.cell (by omega)).trans g0, (k.cell (by omega)).trans g1, (k.cell (by omega)).trans g2, (k.cell (by omega)).trans g3, (k.cell (by omega)).trans g4, (k.cell (by omega)).trans g5, (k.cell (by omega)).trans g6, (k.cell (by omega)).trans g7, (k.cell (by omega)).trans g8, hk.trans k⟩
theorem keepP10 {W w w' : World} {a0 a1 a2 a3 a4 a5 a6 a7 a8 a9 : Addr} {x0 x1 x2 x3 x4 x5 x6 x7 x8 x9 : Value} (h0 : a0.block < W.heap.size) (h1 : a1.block < W.heap.size) (h2 : a2.block < W.heap.size) (h3 : a3.block < W.heap.size) (h4 : a4.block < W.heap.size) (h5 : a5.block < W.heap.size) (h6 : a6.block < W.heap.size) (h7 : a7.block < W.heap.size) (h8 : a8.block < W.heap.size) (h9 : a9.block < W.heap.size) (h : w.cell? a0 = some x0 ∧ w.cell? a1 = some x1 ∧ w.cell? a2 = some x2 ∧ w.cell? a3 = some x3 ∧ w.cell? a4 = some x4 ∧ w.cell? a5 = some x5 ∧ w.cell? a6 = some x6 ∧ w.cell? a7 = some x7 ∧ w.cell? a8 = some x8 ∧ w.cell? a9 = some x9 ∧ Kept W w) (k : Kept w w') : w'.cell? a0 = some x0 ∧ w'.cell? a1 = some x1 ∧ w'.cell? a2 = some x2 ∧ w'.cell? a3 = some x3 ∧ w'.cell? a4 = some x4 ∧ w'.cell? a5 = some x5 ∧ w'.cell? a6 = some x6 ∧ w'.cell? a7 = some x7 ∧ w'.cell? a8 = some x8 ∧ w'.cell? a9 = some x9 ∧ Kept W w' := by
  obtain ⟨g0, g1, g2, g3, g4, g5, g6, g7, g8, g9, hk⟩ := h
  have := hk.size_le
  exact ⟨(k.cell (by omega)).trans g0, (k.cell (by omega)).trans g1, (k.cell (by omega)).trans g2, (k.cell (by omega)).trans g3, (k.cell (by omega)).trans g4, (k.cell (by omega)).trans g5, (k.cell (by omega)).trans g6, (k.cell (by omega)).trans g7, (k.cell (by omega)).trans g8, (k.cell (by omega)).trans g9, hk.trans k⟩
theorem keepP11 {W w w' : World} {a0 a1 a2 a3 a4 a5 a6 a7 a8 a9 a10 : Addr} {x0 x1 x2 x3 x4 x5 x6 x7 x8 x9 x10 : Value} (h0 : a0.block < W.heap.size) (h1 : a1.block < W.heap.size) (h2 : a2.block < W.heap.size) (h3 : a3.block < W.heap.size) (h4 : a4.block < W.heap.size) (h5 : a5.block < W.heap.size) (h6 : a6.block < W.heap.size) (h7 : a7.block < W.heap.size) (h8 : a8.block < W.heap.size) (h9 : a9.block < W.heap.size) (h10 : a10.block < W.heap.size) (h : w.cell? a0 = some x0 ∧ w.cell? a1 = some x1 ∧ w.cell? a2 = some x2 ∧ w.cell? a3 = some x3 ∧ w.cell? a4 = some x4 ∧ w.cell? a5 = some x5 ∧ w.cell? a6 = some x6 ∧ w.cell? a7 = some x7 ∧ w.cell? a8 = some x8 ∧ w.cell? a9 = some x9 ∧ w.cell? a10 = some x10 ∧ Kept W w) (k : Kept w w') : w'.cell? a0 = some x0 ∧ w'.cell? a1 = some x1 ∧ w'.cell? a2 = some x2 ∧ w'.cell? a3 = some x3 ∧ w'.cell? a4 = some x4 ∧ w'.cell? a5 = some x5 ∧ w'.cell? a6 = some x6 ∧ w'.cell? a7 = some x7 ∧ w'.cell? a8 = some x8 ∧ w'.cell? a9 = some x9 ∧ w'.cell? a10 = some x10 ∧ Kept W w' := by
  obtain ⟨g0, g1, g2, g3, g4, g5, g6, g7, g8, g9, g10, hk⟩ := h
  have := hk.size_le
  exact ⟨(k.cell (by omega)).trans g0, (k.cell (by omega)).trans g1, (k.cell (by omega)).trans g2, (k.cell (by omega)).trans g3, (k.cell (by omega)).trans g4, (k.cell (by omega)).trans g5, (k.cell (by omega)).trans g6, (k.cell (by omega)).trans g7, (k.cell (by omega)).trans g8, (k.cell (by omega)).trans g9, (k.cell (by omega)).trans g10, hk.trans k⟩
theorem keepP12 {W w w' : World} {a0 a1 a2 a3 a4 a5 a6 a7 a8 a9 a10 a11 : Addr} {x0 x1 x2 x3 x4 x5 x6 x7 x8 x9 x10 x11 : Value} (h0 : a0.block < W.heap.size) (h1 : a1.block < W.heap.size) (h2 : a2.block < W.heap.size) (h3 : a3.block < W.heap.size) (h4 : a4.block < W.heap.size) (h5 : a5.block < W.heap.size) (h6 : a6.block < W.heap.size) (h7 : a7.block < W.heap.size) (h8 : a8.block < W.heap.size) (h9 : a9.block < W.heap.size) (h10 : a10.block < W.heap.size) (h11 : a11.block < W.heap.size) (h : w.cell? a0 = some x0 ∧ w.cell? a1 = some x1 ∧ w.cell? a2 = some x2 ∧ w.cell? a3 = some x3 ∧ w.cell? a4 = some x4 ∧ w.cell? a5 = some x5 ∧ w.cell? a6 = some x6 ∧ w.cell? a7 = some x7 ∧ w.cell? a8 = some x8 ∧ w.cell? a9 = some x9 ∧ w.cell? a10 = some x10 ∧ w.cell? a11 = some x11 ∧ Kept W w) (k : Kept w w') : w'.cell? a0 = some x0 ∧ w'.cell? a1 = some x1 ∧ w'.cell? a2 = some x2 ∧ w'.cell? a3 = some x3 ∧ w'.cell? a4 = some x4 ∧ w'.cell? a5 = some x5 ∧ w'.cell? a6 = some x6 ∧ w'.cell? a7 = some x7 ∧ w'.cell? a8 = some x8 ∧ w'.cell? a9 = some x9 ∧ w'.cell? a10 = some x10 ∧ w'.cell? a11 = some x11 ∧ Kept W w' := by
  obtain ⟨g0, g1, g2, g3, g4, g5, g6, g7, g8, g9, g10, g11, hk⟩ := h
  have := hk.size_le
  exact ⟨(k.cell (by omega)).trans g0, (k.cell (by omega)).trans g1, (k.cell (by omega)).trans g2, (k.cell (by omega)).trans g3, (k.cell (by omega)).trans g4, (k.cell (by omega)).trans g5, (k.cell (by omega)).trans g6, (k.cell (by omega)).trans g7, (k.cell (by omega)).trans g8, (k.cell (by omega)).trans g9, (k.cell (by omega)).trans g10, (k.cell (by omega)).trans g11, hk.trans k⟩
theorem keepP13 {W w w' : World} {a0 a1 a2 a3 a4 a5 a6 a7 a8 a9 a10 a11 a12 : Addr} {x0 x1 x2 x3 x4 x5 x6 x7 x8 x9 x10 x11 x12 : Value} (h0 : a0.block < W.heap.size) (h1 : a1.block < W.heap.size) (h2 : a2.block < W.heap.size) (h3 : a3.block < W.heap.size) (h4 : a4.block < W.heap.size) (h5 : a5.block < W.heap.size) (h6 : a6.block < W.heap.size) (h7 : a7.block < W.heap.size) (h8 : a8.block < W.heap.size) (h9 : a9.block < W.heap.size) (h10 : a10.block < W.heap.size) (h11 : a11.block < W.heap.size) (h12 : a12.block < W.heap.size) (h : w.cell? a0 = some x0 ∧ w.cell? a1 = some x1 ∧ w.cell? a2 = some x2 ∧ w.cell? a3 = some x3 ∧ w.cell? a4 = some x4 ∧ w.cell? a5 = some x5 ∧ w.cell? a6 = some x6 ∧ w.cell? a7 = some x7 ∧ w.cell? a8 = some x8 ∧ w.cell? a9 = some x9 ∧ w.cell? a10 = some x10 ∧ w.cell? a11 = some x11 ∧ w.cell? a12 = some x12 ∧ Kept W w) (k : Kept w w') : w'.cell? a0 = some x0 ∧ w'.cell? a1 = some x1 ∧ w'.cell? a2 = some x2 ∧ w'.cell? a3 = some x3 ∧ w'.cell? a4 = some x4 ∧ w'.cell? a5 = some x5 ∧ w'.cell? a6 = some x6 ∧ w'.cell? a7 = some x7 ∧ w'.cell? a8 = some x8 ∧ w'.cell? a9 = some x9 ∧ w'.cell? a10 = some x10 ∧ w'.cell? a11 = some x11 ∧ w'.cell? a12 = some x12 ∧ Kept W w' := by
  obtain ⟨g0, g1, g2, g3, g4, g5, g6, g7, g8, g9, g10, g11, g12, hk⟩ := h
  have := hk.size_le
  exact ⟨(k.cell (by omega)).trans g0, (k.cell (by omega)).trans g1, (k.cell (by omega)).trans g2, (k.cell (by omega)).trans g3, (k.cell (by omega)).trans g4, (k.cell (by omega)).trans g5, (k.cell (by omega)).trans g6, (k.cell (by omega)).trans g7, (k.cell (by omega)).trans g8, (k.cell (by omega)).trans g9, (k.cell (by omega)).trans g10, (k.cell (by omega)).trans g11, (k.cell (by omega)).trans g12, hk.trans k⟩
theorem keepP14 {W w w' : World} {a0 a1 a2 a3 a4 a5 a6 a7 a8 a9 a10 a11 a12 a13 : Addr} {x0 x1 x2 x3 x4 x5 x6 x7 x8 x9 x10 x11 x12 x13 : Value} (h0 : a0.block < W.heap.size) (h1 : a1.block < W.heap.size) (h2 : a2.block < W.heap.size) (h3 : a3.block < W.heap.size) (h4 : a4.block < W.heap.size) (h5 : a5.block < W.heap.size) (h6 : a6.block < W.heap.size) (h7 : a7.block < W.heap.size) (h8 : a8.block < W.heap.size) (h9 : a9.block < W.heap.size) (h10 : a10.block < W.heap.size) (h11 : a11.block < W.heap.size) (h12 : a12.block < W.heap.size) (h13 : a13.block < W.heap.size) (h : w.cell? a0 = some x0 ∧ w.cell? a1 = some x1 ∧ w.cell? a2 = some x2 ∧ w.cell? a3 = some x3 ∧ w.cell? a4 = some x4 ∧ w.cell? a5 = some x5 ∧ w.cell? a6 = some x6 ∧ w.cell? a7 = some x7 ∧ w.cell? a8 = some x8 ∧ w.cell? a9 = some x9 ∧ w.cell? a10 = some x10 ∧ w.cell? a11 = some x11 ∧ w.cell? a12 = some x12 ∧ w.cell? a13 = some x13 ∧ Kept W w) (k : Kept w w') : w'.cell? a0 = some x0 ∧ w'.cell? a1 = some x1 ∧ w'.cell? a2 = some x2 ∧ w'.cell? a3 = some x3 ∧ w'.cell? a4 = some x4 ∧ w'.cell? a5 = some x5 ∧ w'.cell? a6 = some x6 ∧ w'.cell? a7 = some x7 ∧ w'.cell? a8 = some x8 ∧ w'.cell? a9 = some x9 ∧ w'.cell? a10 = some x10 ∧ w'.cell? a11 = some x11 ∧ w'.cell? a12 = some x12 ∧ w'.cell? a13 = some x13 ∧ Kept W w' := by
  obtain ⟨g0, g1, g2, g3, g4, g5, g6, g7, g8, g9, g10, g11, g12, g13, hk⟩ := h
  have := hk.size_le
  exact ⟨(k.cell (by omega)).trans g0, (k.cell (by omega)).trans g1, (k.cell (by omega)).trans g2, (k.cell (by omega)).trans g3, (k.cell (by omega)).trans g4, (k.cell (by omega)).trans g5, (k.cell (by omega)).trans g6, (k.cell (by omega)).trans g7, (k.cell (by omega)).trans g8, (k.cell (by omega)).trans g9, (k.cell (by omega)).trans g10, (k.cell (by omega)).trans g11, (k.cell (by omega)).trans g12, (k.cell (by omega)).trans g13, hk.trans k⟩
theorem keepP15 {W w w' : World} {a0 a1 a2 a3 a4 a5 a6 a7 a8 a9 a10 a11 a12 a13 a14 : Addr} {x0 x1 x2 x3 x4 x5 x6 x7 x8 x9 x10 x11 x12 x13 x14 : Value} (h0 : a0.block < W.heap.size) (h1 : a1.block < W.heap.size) (h2 : a2.block < W.heap.size) (h3 : a3.block < W.heap.size) (h4 : a4.block < W.heap.size) (h5 : a5.block < W.heap.size) (h6 : a6.block < W.heap.size) (h7 : a7.block < W.heap.size) (h8 : a8.block < W.heap.size) (h9 : a9.block < W.heap.size) (h10 : a10.block < W.heap.size) (h11 : a11.block < W.heap.size) (h12 : a12.block < W.heap.size) (h13 : a13.block < W.heap.size) (h14 : a14.block < W.heap.size) (h : w.cell? a0 = some x0 ∧ w.cell? a1 = some x1 ∧ w.cell? a2 = some x2 ∧ w.cell? a3 = some x3 ∧ w.cell? a4 = some x4 ∧ w.cell? a5 = some x5 ∧ w.cell? a6 = some x6 ∧ w.cell? a7 = some x7 ∧ w.cell? a8 = some x8 ∧ w.cell? a9 = some x9 ∧ w.cell? a10 = some x10 ∧ w.cell? a11 = some x11 ∧ w.cell? a12 = some x12 ∧ w.cell? a13 = some x13 ∧ w.cell? a14 = some x14 ∧ Kept W w) (k : Kept w w') : w'.cell? a0 = some x0 ∧ w'.cell? a1 = some x1 ∧ w'.cell? a2 = some x2 ∧ w'.cell? a3 = some x3 ∧ w'.cell? a4 = some x4 ∧ w'.cell? a5 = some x5 ∧ w'.cell? a6 = some x6 ∧ w'.cell? a7 = some x7 ∧ w'.cell? a8 = some x8 ∧ w'.cell? a9 = some x9 ∧ w'.cell? a10 = some x10 ∧ w'.cell? a11 = some x11 ∧ w'.cell? a12 = some x12 ∧ w'.cell? a13 = some x13 ∧ w'.cell? a14 = some x14 ∧ Kept W w' := by
  obtain ⟨g0, g1, g2, g3, g4, g5, g6, g7, g8, g9, g10, g11, g12, g13, g14, hk⟩ := h
  have := hk.size_le
  exact ⟨(k.cell (by omega)).trans g0, (k.cell (by omega)).trans g1, (k.cell (by omega)).trans g2, (k.cell (by omega)).trans g3, (k.cell (by omega)).trans g4, (k.cell (by omega)).trans g5, (k.cell (by omega)).trans g6, (k.cell (by omega)).trans g7, (k.cell (by omega)).trans g8, (k.cell (by omega)).trans g9, (k.cell (by omega)).trans g10, (k.cell (by omega)).trans g11, (k.cell (by omega)).trans g12, (k.cell (by omega)).trans g13, (k.cell (by omega)).trans g14, hk.trans k⟩
theorem keepP16 {W w w' : World} {a0 a1 a2 a3 a4 a5 a6 a7 a8 a9 a10 a11 a12 a13 a14 a15 : Addr} {x0 x1 x2 x3 x4 x5 x6 x7 x8 x9 x10 x11 x12 x13 x14 x15 : Value} (h0 : a0.block < W.heap.size) (h1 : a1.block < W.heap.size) (h2 : a2.block < W.heap.size) (h3 : a3.block < W.heap.size) (h4 : a4.block < W.heap.size) (h5 : a5.block < W.heap.size) (h6 : a6.block < W.heap.size) (h7 : a7.block < W.heap.size) (h8 : a8.block < W.heap.size) (h9 : a9.block < W.heap.size) (h10 : a10.block < W.heap.size) (h11 : a11.block < W.heap.size) (h12 : a12.block < W.heap.size) (h13 : a13.block < W.heap.size) (h14 : a14.block < W.heap.size) (h15 : a15.block < W.heap.size) (h : w.cell? a0 = some x0 ∧ w.cell? a1 = some x1 ∧ w.cell? a2 = some x2 ∧ w.cell? a3 = some x3 ∧ w.cell? a4 = some x4 ∧ w.cell? a5 = some x5 ∧ w.cell? a6 = some x6 ∧ w.cell? a7 = some x7 ∧ w.cell? a8 = some x8 ∧ w.cell? a9 = some x9 ∧ w.cell? a10 = some x10 ∧ w.cell? a11 = some x11 ∧ w.cell? a12 = some x12 ∧ w.cell? a13 = some x13 ∧ w.cell? a14 = some x14 ∧ w.cell? a15 = some x15 ∧ Kept W w) (k : Kept w w') : w'.cell? a0 = some x0 ∧ w'.cell? a1 = some x1 ∧ w'.cell? a2 = some x2 ∧ w'.cell? a3 = some x3 ∧ w'.cell? a4 = some x4 ∧ w'.cell? a5 = some x5 ∧ w'.cell? a6 = some x6 ∧ w'.cell? a7 = some x7 ∧ w'.cell? a8 = some x8 ∧ w'.cell? a9 = some x9 ∧ w'.cell? a10 = some x10 ∧ w'.cell? a11 = some x11 ∧ w'.cell? a12 = some x12 ∧ w'.cell? a13 = some x13 ∧ w'.cell? a14 = some x14 ∧ w'.cell? a15 = some x15 ∧ Kept W w' := by
  obtain ⟨g0, g1, g2, g3, g4, g5, g6, g7, g8, g9, g10, g11, g12, g13, g14, g15, hk⟩ := h
  have := hk.size_le
  exact ⟨(k.cell (by omega)).trans g0, (k.cell (by omega)).trans g1, (k.cell (by omega)).trans g2, (k.cell (by omega)).trans g3, (k.cell (by omega)).trans g4, (k.cell (by omega)).trans g5, (k.cell (by omega)).trans g6, (k.cell (by omega)).trans g7, (k.cell (by omega)).trans g8, (k.cell (by omega)).trans g9, (k.cell (by omega)).trans g10, (k.cell (by omega)).trans g11, (k.cell (by omega)).trans g12, (k.cell (by omega)).trans g13, (k.cell (by omega)).trans g14, (k.cell (by omega)).trans g15, hk.trans k⟩
theorem keepP17 {W w w' : World} {a0 a1 a2 a3 a4 a5 a6 a7 a8 a9 a10 a11 a12 a13 a14 a15 a16 : Addr} {x0 x1 x2 x3 x4 x5 x6 x7 x8 x9 x10 x11 x12 x13 x14 x15 x16 : Value} (h0 : a0.block < W.heap.size) (h1 : a1.block < W.heap.size) (h2 : a2.block < W.heap.size) (h3 : a3.block < W.heap.size) (h4 : a4.block < W.heap.size) (h5 : a5.block < W.heap.size) (h6 : a6.block < W.heap.size) (h7 : a7.block < W.heap.size) (h8 : a8.block < W.heap.size) (h9 : a9.block < W.heap.size) (h10 : a10.block < W.heap.size) (h11 : a11.block < W.heap.size) (h12 : a12.block < W.heap.size) (h13 : a13.block < W.heap.size) (h14 : a14.block < W.heap.size) (h15 : a15.block < W.heap.size) (h16 : a16.block < W.heap.size) (h : w.cell? a0 = some x0 ∧ w.cell? a1 = some x1 ∧ w.cell? a2 = some x2 ∧ w.cell? a3 = some x3 ∧ w.cell? a4 = some x4 ∧ w.cell? a5 = some x5 ∧ w.cell? a6 = some x6 ∧ w.cell? a7 = some x7 ∧ w.cell? a8 = some x8 ∧ w.cell? a9 = some x9 ∧ w.cell? a10 = some x10 ∧ w.cell? a11 = some x11 ∧ w.cell? a12 = some x12 ∧ w.cell? a13 = some x13 ∧ w.cell? a14 = some x14 ∧ w.cell? a15 = some x15 ∧ w.cell? a16 = some x16 ∧ Kept W w) (k : Kept w w') : w'.cell? a0 = some x0 ∧ w'.cell? a1 = some x1 ∧ w'.cell? a2 = some x2 ∧ w'.cell? a3 = some x3 ∧ w'.cell? a4 = some x4 ∧ w'.cell? a5 = some x5 ∧ w'.cell? a6 = some x6 ∧ w'.cell? a7 = some x7 ∧ w'.cell? a8 = some x8 ∧ w'.cell? a9 = some x9 ∧ w'.cell? a10 = some x10 ∧ w'.cell? a11 = some x11 ∧ w'.cell? a12 = some x12 ∧ w'.cell? a13 = some x13 ∧ w'.cell? a14 = some x14 ∧ w'.cell? a15 = some x15 ∧ w'.cell? a16 = some x16 ∧ Kept W w' := by
  obtain ⟨g0, g1, g2, g3, g4, g5, g6, g7, g8, g9, g10, g11, g12, g13, g14, g15, g16, hk⟩ := h
  have := hk.size_le
  exact ⟨(k.cell (by omega)).trans g0, (k.cell (by omega)).trans g1, (k.cell (by omega)).trans g2, (k.cell (by omega)).trans g3, (k.cell (by omega)).trans g4, (k.cell (by omega)).trans g5, (k.cell (by omega)).trans g6, (k.cell (by omega)).trans g7, (k.cell (by omega)).trans g8, (k.cell (by omega)).trans g9, (k.cell (by omega)).trans g10, (k.cell (by omega)).trans g11, (k.cell (by omega)).trans g12, (k.cell (by omega)).trans g13, (k.cell (by omega)).trans g14, (k.cell (by omega)).trans g15, (k.cell (by omega)).trans g16, hk.trans k⟩
theorem keepP18 {W w w' : World} {a0 a1 a2 a3 a4 a5 a6 a7 a8 a9 a10 a11 a12 a13 a14 a15 a16 a17 : Addr} {x0 x1 x2 x3 x4 x5 x6 x7 x8 x9 x10 x11 x12 x13 x14 x15 x16 x17 : Value} (h0 : a0.block < W.heap.size) (h1 : a1.block < W.heap.size) (h2 : a2.block < W.heap.size) (h3 : a3.block < W.heap.size) (h4 : a4.block < W.heap.size) (h5 : a5.block < W.heap.size) (h6 : a6.block < W.heap.size) (h7 : a7.block < W.heap.size) (h8 : a8.block < W.heap.size) (h9 : a9.block < W.heap.size) (h10 : a10.block < W.heap.size) (h11 : a11.block < W.heap.size) (h12 : a12.block < W.heap.size) (h13 : a13.block < W.heap.size) (h14 : a14.block < W.heap.size) (h15 : a15.block < W.heap.size) (h16 : a16.block < W.heap.size) (h17 : a17.block < W.heap.size) (h : w.cell? a0 = some x0 ∧ w.cell? a1 = some x1 ∧ w.cell? a2 = some x2 ∧ w.cell? a3 = some x3 ∧ w.cell? a4 = some x4 ∧ w.cell? a5 = some x5 ∧ w.cell? a6 = some x6 ∧ w.cell? a7 = some x7 ∧ w.cell? a8 = some x8 ∧ w.cell? a9 = some x9 ∧ w.cell? a10 = some x10 ∧ w.cell? a11 = some x11 ∧ w.cell? a12 = some x12 ∧ w.cell? a13 = some x13 ∧ w.cell? a14 = some x14 ∧ w.cell? a15 = some x15 ∧ w.cell? a16 = some x16 ∧ w.cell? a17 = some x17 ∧ Kept W w) (k : Kept w w') : w'.cell? a0 = some x0 ∧ w'.cell? a1 = some x1 ∧ w'.cell? a2 = some x2 ∧ w'.cell? a3 = some x3 ∧ w'.cell? a4 = some x4 ∧ w'.cell? a5 = some x5 ∧ w'.cell? a6 = some x6 ∧ w'.cell? a7 = some x7 ∧ w'.cell? a8 = some x8 ∧ w'.cell? a9 = some x9 ∧ w'.cell? a10 = some x10 ∧ w'.cell? a11 = some x11 ∧ w'.cell? a12 = some x12 ∧ w'.cell? a13 = some x13 ∧ w'.cell? a14 = some x14 ∧ w'.cell? a15 = some x15 ∧ w'.cell? a16 = some x16 ∧ w'.cell? a17 = some x17 ∧ Kept W w' := by
  obtain ⟨g0, g1, g2, g3, g4, g5, g6, g7, g8, g9, g10, g11, g12, g13, g14, g15, g16, g17, hk⟩ := h
  have := hk.size_le
  exact ⟨(k.cell (by omega)).trans g0, (k.cell (by omega)).trans g1, (k.cell (by omega)).trans g2, (k.cell (by omega)).trans g3, (k.cell (by omega)).trans g4, (k.cell (by omega)).trans g5, (k.cell (by omega)).trans g6, (k.cell (by omega)).trans g7, (k.cell (by omega)).trans g8, (k.cell (by omega)).trans g9, (k.cell (by omega)).trans g10, (k.cell (by omega)).trans g11, (k.cell (by omega)).trans g12, (k.cell (by omega)).trans g13, (k.cell (by omega)).trans g14, (k.cell (by omega)).trans g15, (k.cell (by omega)).trans g16, (k.cell (by omega)).trans g17, hk.trans k⟩
end

section
open Go.ChangeShapes Go.WideShapes Go.ChangeAt Go.RowKit

section
variable {H : Type} {enc : TypeId × Value → H} {W : World} {base : Nat} {sp : Nat → Bool} {held : Bool} {r : Reach} {b0 : Nat} {v : Value} {d : DataW H} {ps : List MemPlace}

theorem nat_of_u64 {a : Int} (h : (Lit.int .u64 a).wf = true) : ∃ x : Nat, a = x ∧ x < 18446744073709551616 := by
  have b := bounds_u64 h
  obtain ⟨x, rfl⟩ := Int.eq_ofNat_of_zero_le b.1
  exact ⟨x, rfl, by omega⟩

theorem open_u64 (hval : Value.okWide Try.prog W r b0 23 v) (hd : DataW.Trod enc Try.prog W base sp held 23 v d ps) : ∃ x : Nat, v = .int .u64 x ∧ x < 18446744073709551616 := by
  obtain ⟨a, rfl, _, _, w0⟩ := open_int Try.underlying23 hval hd
  obtain ⟨x, rfl, hx⟩ := nat_of_u64 w0
  exact ⟨x, rfl, hx⟩

theorem open_num (hval : Value.okWide Try.prog W r b0 3 v) (hd : DataW.Trod enc Try.prog W base sp held 3 v d ps) : ∃ a : Int, v = .int .i64 a ∧ -9223372036854775808 ≤ a ∧ a ≤ 9223372036854775807 := by
  obtain ⟨a, rfl, _, _, w0⟩ := open_int Try.underlying3 hval hd
  have := bounds_i64 w0
  exact ⟨a, rfl, this.1, this.2⟩
end
end

section
open Go.ChangeShapes Go.WideShapes Go.ChangeAt Go.RowKit

theorem info_three {P : Program} {t : TypeId} {z : Value} {s b : Nat} (h : (P.info? t).map (fun i => (i.zero, i.size, i.bytes)) = some (some z, s, b)) : ∃ i, P.info? t = some i ∧ i.zero = some z ∧ i.size = s ∧ i.bytes = b := by
  cases hq : P.info? t with
  | none => simp [hq] at h
  | some i => simp [hq] at h; exact ⟨i, rfl, h.1, h.2.1, h.2.2⟩
theorem Try.infoI : (Try.prog.info? 3).map (fun i => (i.zero, i.size, i.bytes)) = some (some (.int .i64 0), 1, 8) := by kernel_rfl
def intCells (l : List Int) : List Value := l.map fun x => .int .i64 x
@[simp] theorem intCells_length (l : List Int) : (intCells l).length = l.length := by simp [intCells]
theorem intCells_append (l m : List Int) : intCells l ++ intCells m = intCells (l ++ m) := by simp [intCells]
theorem intCells_one (l : List Int) : ∀ u ∈ intCells l, u.oneCell' = true := fun u hu => by
  simp only [intCells, List.mem_map] at hu
  obtain ⟨x, _, rfl⟩ := hu
  rfl
/-- v holds the numbers of l, in a row of its own; all that lay in W lies as it was. -/
def Ints (W : World) (l : List Int) (v : Value) (w : World) : Prop := w.ownsRow W.heap.size 3 1 v l.length (intCells l) ∧ Kept W w
theorem Ints.nil (W : World) : Ints W [] (.slice none 0 0) W := ⟨World.ownsRow_nil _ _ _ _, Kept.refl _⟩
theorem Ints.alloc {W w : World} {l : List Int} {v : Value} (h : Ints W l v w) (o : Obj) : Ints W l v (w.alloc o) := ⟨h.1.alloc o, h.2.alloc o⟩
theorem Ints.kept {W w w' : World} {l : List Int} {v : Value} (h : Ints W l v w) (k : Kept w w') : Ints W l v w' := by
  refine ⟨⟨h.1.1, ?_⟩, h.2.trans k⟩
  rcases h.1.2 with h2 | ⟨g, cap, cur, hv, hg, hh, r⟩
  · exact Or.inl h2
  · exact Or.inr ⟨g, cap, cur, hv, hg, by rw [k.heap (h.1.lt g (by rw [hv]; rfl)).2]; exact hh, r⟩
/-- append of one number. -/
theorem wpList_ints {ops : Array Oper} {rest : List Oper} {o : Oper} {a : Act} {Q : Exit → Act → World → Prop} (w : World) (hgd : o.guard = none) (s x : Operand)
    (ho : o.op = .call { callee := .builtin .append, args := #[s, x], argTypes := #[22, 22] })
    (W : World) (l : List Int) (v : Value) (hs : a.eval s = v) (HB : Ints W l v w) (B : Nat) (A : Option Addr) (m c : Nat) (news : List Int) (hx : a.eval x = .slice A m c) (hl : news.length = m)
    (hr : CellsAt w B A (intCells news)) (hlen : l.length + m ≤ 1000000)
    (h : ∀ v' w', Ints W (l ++ news) v' w' → wpList Try.prog ops Q rest (a.put o.dst v') w') : wpList Try.prog ops Q (o :: rest) a w := by
  obtain ⟨i0, hi0, hz0, hz1, hz2⟩ := info_three Try.infoI
  refine wpList_app w hgd s x _ ho W.heap.size 3 i0 _ 1 8 Try.underlying22 hi0 hz0 hz1 hz2 rfl (by omega) v l.length (intCells l) hs HB.1 B A m c (intCells news) hx (by simp [hl]) hr (intCells_one _)
    (by unfold maxLen; omega) (by omega) HB.2.size_le ?_
  intro v' w' own g _
  refine h v' w' ⟨?_, HB.2.grown g fun i hi => (HB.1.lt i hi).1⟩
  rw [intCells_append] at own
  rw [List.length_append, hl]
  exact own
/-- Such a list that is not empty, cell by cell. -/
theorem Ints.open {W w : World} {l : List Int} {v : Value} (h : Ints W l v w) (hn : 0 < l.length) : ∃ g c, v = .slice (some ⟨g, 0, none⟩) l.length c ∧ g < w.heap.size ∧ ∀ j (hj : j < l.length), w.cell? ⟨g, j, none⟩ = some (.int .i64 l[j]) := by
  rcases h.1.2 with ⟨_, h0⟩ | ⟨g, cap, cur, hv, hg, hh, r⟩
  · omega
  · subst hv
    refine ⟨g, cap, rfl, (h.1.lt g rfl).2, fun j hj => ?_⟩
    rw [h.1.cellAt j (by omega)]
    simp [intCells, List.getElem?_map, List.getElem?_eq_getElem hj]
theorem Ints.shut {W w : World} {v : Value} (h : Ints W [] v w) : v = .slice none 0 0 ∨ ∃ g c, v = .slice (some ⟨g, 0, none⟩) 0 c := by
  rcases h.1.2 with ⟨h0, _⟩ | ⟨g, cap, cur, hv, _⟩
  · exact Or.inl h0
  · exact Or.inr ⟨g, cap, hv⟩
end

section
open Go.ChangeShapes Go.WideShapes Go.ChangeAt Go.RowKit

section
variable {P : Program} (w : World)
theorem wp_app {o : Oper} {a : Act} {K : Act → World → Prop} {Q : Exit → Act → World → Prop} (s x : Operand) (t : TypeId)
    (ho : o.op = .call { callee := .builtin .append, args := #[s, x], argTypes := #[t, t] })
    (base : Nat) (e : TypeId) (i : TypeInfo) (z : Value) (size bytes : Nat) (ht : P.underlying t = some (.slice e)) (hi : P.info? e = some i) (hz : i.zero = some z)
    (hsize : i.size = size) (hby : i.bytes = bytes) (hzs : z.cells.size = size) (hsz : 0 < size)
    (v : Value) (n : Nat) (xs : List Value) (hs : a.eval s = v) (hown : w.ownsRow base e size v n xs)
    (B : Nat) (A : Option Addr) (m c : Nat) (news : List Value) (hx : a.eval x = .slice A m c) (hl : news.length = m * size) (hr : CellsAt w B A news) (h1 : ∀ u ∈ news, u.oneCell' = true)
    (h63 : n + m ≤ maxLen) (hbytes : (n + m) * bytes ≤ 140737488355328) (hbase : base ≤ w.heap.size)
    (h : ∀ v' w', w'.ownsRow base e size v' (n + m) (xs ++ news) → w.grownBy w' v.ownBlock → (v'.ownBlock = v.ownBlock ∨ v'.ownBlock = some w.heap.size) → K (a.put o.dst v') w') : o.wp P a w K Q := by
  obtain ⟨v', w', hrun, h2, h3, h4⟩ := run_app (P := P) w base t o.type e i z size bytes ht hi hz hsize hby hzs hsz v n xs hown B A m c news hl hr h1 h63 hbytes hbase
  unfold Oper.wp execOp
  simp only [ho, resolve, invoke, builtin, Sem.run_bind, Sem.run_pure, Result.andThen_ok, List.map_toArray, List.map_cons, List.map_nil, hs, hx, hrun]
  exact h v' w' h2 h3 h4
theorem step_app {ops : Array Oper} {o : Oper} {a : Act} {K : Act → World → Prop} {Q : Exit → Act → World → Prop} {E : Prop} (hgd : o.guard = none) (s x : Operand) (t : TypeId)
    (ho : o.op = .call { callee := .builtin .append, args := #[s, x], argTypes := #[t, t] })
    (base : Nat) (e : TypeId) (i : TypeInfo) (z : Value) (size bytes : Nat) (ht : P.underlying t = some (.slice e)) (hi : P.info? e = some i) (hz : i.zero = some z)
    (hsize : i.size = size) (hby : i.bytes = bytes) (hzs : z.cells.size = size) (hsz : 0 < size)
    (v : Value) (n : Nat) (xs : List Value) (hs : a.eval s = v) (hown : w.ownsRow base e size v n xs)
    (B : Nat) (A : Option Addr) (m c : Nat) (news : List Value) (hx : a.eval x = .slice A m c) (hl : news.length = m * size) (hr : CellsAt w B A news) (h1 : ∀ u ∈ news, u.oneCell' = true)
    (h63 : n + m ≤ maxLen) (hbytes : (n + m) * bytes ≤ 140737488355328) (hbase : base ≤ w.heap.size)
    (h : ∀ v' w', w'.ownsRow base e size v' (n + m) (xs ++ news) → w.grownBy w' v.ownBlock → (v'.ownBlock = v.ownBlock ∨ v'.ownBlock = some w.heap.size) → K (a.put o.dst v') w') :
    if Region.wanted o (yielded ops a.tmps) = true then Oper.wp P o a w K Q else E := by
  have hw : Region.wanted o (yielded ops a.tmps) = true := by simp [Region.wanted, hgd]
  rw [if_pos hw]
  exact wp_app w s x t ho base e i z size bytes ht hi hz hsize hby hzs hsz v n xs hs hown B A m c news hx hl hr h1 h63 hbytes hbase h
end
end

section
open Go.ChangeShapes Go.WideShapes Go.ChangeAt Go.RowKit

theorem Try.cU1 : Try.prog.cellsOf 23 = 1 := by kernel_rfl
theorem eqId (d : Nat) (a b a' b' : Int) (w : World) :
    Sem.run Try.prog (Op.equalIn (d + 1 + 1) 39 (.agg #[.int .u64 a, .int .u64 b]) (.agg #[.int .u64 a', .int .u64 b'])) w = .ok ((a == a') && (b == b')) w := by
  obtain ⟨i, hi⟩ := info_of_underlying Try.underlying23
  rw [run_equalIn_array w (d + 1) _ _ Try.underlying39 hi, Try.cU1]
  have e2 : List.range 2 = [0, 1] := rfl
  rw [e2]
  simp only [Op.eqItems, Sem.run_bind]
  go_simp
  by_cases h : a = a' <;> by_cases k : b = b' <;> simp [h, k]
theorem eqId10 (a b a' b' : Int) (w : World) :
    Sem.run Try.prog (Op.equalIn 10000 39 (.agg #[.int .u64 a, .int .u64 b]) (.agg #[.int .u64 a', .int .u64 b'])) w = .ok ((a == a') && (b == b')) w := eqId 9998 a b a' b' w
theorem eqId9 (a b a' b' : Int) (w : World) :
    Sem.run Try.prog (Op.equalIn 9999 39 (.agg #[.int .u64 a, .int .u64 b]) (.agg #[.int .u64 a', .int .u64 b'])) w = .ok ((a == a') && (b == b')) w := eqId 9997 a b a' b' w
end

section
open Go.ChangeShapes Go.WideShapes Go.ChangeAt Go.RowKit

section
variable {H : Type} {enc : TypeId × Value → H} {W : World} {base : Nat} {sp : Nat → Bool} {held : Bool} {r : Reach} {b0 : Nat} {v : Value} {d : DataW H} {ps : List MemPlace}

theorem nat_of_u64' {a : Int} (h : (Lit.int .u64 a).wf = true) : ∃ x : Nat, a = x ∧ x < 18446744073709551616 := by
  have b := bounds_u64 h
  obtain ⟨x, rfl⟩ := Int.eq_ofNat_of_zero_le b.1
  exact ⟨x, rfl, by omega⟩
theorem Try.cID : Try.prog.cellsOf 39 = 2 := by kernel_rfl
theorem Try.cU : Try.prog.cellsOf 23 = 1 := by kernel_rfl
theorem Try.cI : Try.prog.cellsOf 3 = 1 := by kernel_rfl
theorem read_int {fuel : Nat} {c : Value} {x : DataW H × List MemPlace} (h : DataW.trod enc Try.prog W base sp held fuel 3 [c] = some x) : ∃ a : Int, c = .int .i64 a ∧ -9223372036854775808 ≤ a ∧ a ≤ 9223372036854775807 := by
  obtain ⟨a, ea, _, wa⟩ := DataW.trod_int Try.underlying3 h
  simp at ea
  have := bounds_i64 wa
  exact ⟨a, ea, this.1, this.2⟩
theorem read_u64 {fuel : Nat} {c : Value} {x : DataW H × List MemPlace} (h : DataW.trod enc Try.prog W base sp held fuel 23 [c] = some x) : ∃ a : Nat, c = .int .u64 a ∧ a < 18446744073709551616 := by
  obtain ⟨a, ea, _, wa⟩ := DataW.trod_int Try.underlying23 h
  simp at ea
  obtain ⟨x, rfl, hx⟩ := nat_of_u64' wa
  exact ⟨x, ea, hx⟩
theorem read_id {fuel : Nat} {c0 c1 : Value} {x : DataW H × List MemPlace} (h : DataW.trod enc Try.prog W base sp held fuel 39 [c0, c1] = some x) :
    ∃ p : Nat × Nat, c0 = .int .u64 p.1 ∧ c1 = .int .u64 p.2 ∧ p.1 < 18446744073709551616 ∧ p.2 < 18446744073709551616 := by
  obtain ⟨xs, m, _, _, _, hn, hi⟩ := DataW.trod_array Try.underlying39 h
  have h0 := hi 0 (by omega)
  have h1 := hi 1 (by omega)
  rw [List.getElem?_eq_getElem (by omega), Try.cU] at h0 h1
  obtain ⟨a, ea, ha⟩ := read_u64 (c := c0) h0
  obtain ⟨b, eb, hb⟩ := read_u64 (c := c1) h1
  exact ⟨(a, b), ea, eb, ha, hb⟩
theorem agg_of {cs : Array Value} {l : List Value} (h : (Value.agg cs).cells.toList = l) : Value.agg cs = .agg l.toArray := by
  simp only [Value.cells] at h
  rw [← h, Array.toArray_toList]
end
end

section
open Go.ChangeShapes Go.WideShapes Go.ChangeAt Go.RowKit

theorem eqVote (a b c d a' b' c' d' : Int) (w : World) :
    Sem.run Try.prog (Op.equalIn 10000 45 (.agg #[.int .i64 a, .int .i64 b, .int .u64 c, .int .u64 d]) (.agg #[.int .i64 a', .int .i64 b', .int .u64 c', .int .u64 d'])) w =
      .ok ((a == a') && ((b == b') && ((c == c') && (d == d')))) w := by
  rw [show (10000 : Nat) = 9997 + 1 + 1 + 1 from rfl]
  go_simp
  rw [show (9999 : Nat) = 9997 + 1 + 1 from rfl, eqId]
  by_cases h1 : a = a' <;> by_cases h2 : b = b' <;> by_cases h3 : c = c' <;> by_cases h4 : d = d' <;> simp [h1, h2, h3, h4]
end

section
open Go.ChangeShapes Go.WideShapes Go.ChangeAt Go.RowKit

section
variable {H : Type} {enc : TypeId × Value → H} {W : World} {base : Nat} {sp : Nat → Bool} {held : Bool} {r : Reach} {b0 : Nat} {v : Value} {d : DataW H} {ps : List MemPlace}

theorem Try.cBlock : Try.prog.cellsOf 42 = 5 := by kernel_rfl
/-- A block as read: slot, who, parent, salt. -/
theorem open_block (hval : Value.okWide Try.prog W r b0 42 v) (hd : DataW.Trod enc Try.prog W base sp held 42 v d ps) :
    ∃ (s f : Int) (p : Nat × Nat) (t : Nat), v = .agg #[.int .i64 s, .int .i64 f, .int .u64 p.1, .int .u64 p.2, .int .u64 t] ∧ p.1 < 18446744073709551616 ∧ p.2 < 18446744073709551616 ∧ t < 18446744073709551616 := by
  simp only [Value.okWide, Try.underlying42] at hval
  obtain ⟨cs, rfl, _, _⟩ := hval
  obtain ⟨fuel, hf⟩ := hd
  generalize hcs : (Value.agg cs).cells.toList = l at hf
  obtain ⟨xs, m, _, _, hl, hn, hi⟩ := DataW.trod_struct Try.underlying42 hf
  rw [Try.cBlock] at hl
  match l, hl with
  | [c0, c1, c2, c3, c4], _ =>
    have hn' : xs.length = 4 := hn
    have h0 : DataW.trod enc Try.prog W base sp held m 3 (([c0, c1, c2, c3, c4].drop 0).take (Try.prog.cellsOf 3)) = xs[0]? := hi 0 _ rfl
    have h1 : DataW.trod enc Try.prog W base sp held m 3 (([c0, c1, c2, c3, c4].drop 1).take (Try.prog.cellsOf 3)) = xs[1]? := hi 1 _ rfl
    have h2 : DataW.trod enc Try.prog W base sp held m 39 (([c0, c1, c2, c3, c4].drop 2).take (Try.prog.cellsOf 39)) = xs[2]? := hi 2 _ rfl
    have h3 : DataW.trod enc Try.prog W base sp held m 23 (([c0, c1, c2, c3, c4].drop 4).take (Try.prog.cellsOf 23)) = xs[3]? := hi 3 _ rfl
    rw [List.getElem?_eq_getElem (by omega)] at h0 h1 h2 h3
    rw [Try.cI] at h0 h1
    rw [Try.cID] at h2
    rw [Try.cU] at h3
    obtain ⟨a, rfl, _⟩ := read_int (c := c0) h0
    obtain ⟨b, rfl, _⟩ := read_int (c := c1) h1
    obtain ⟨p, rfl, rfl, hp, hq⟩ := read_id (c0 := c2) (c1 := c3) h2
    obtain ⟨t, rfl, ht⟩ := read_u64 (c := c4) h3
    exact ⟨a, b, p, t, agg_of hcs, hp, hq, ht⟩
end
end

section
set_option linter.unusedSimpArgs false
set_option linter.unusedVariables false
open Go.ChangeShapes Go.WideShapes Go.ChangeAt Go.RowKit

theorem keepS1 {W w w' : World} {a0 : Addr} {x0 : Value} (h0 : a0.block < W.heap.size) (h : w.cell? a0 = some x0 ∧ Kept W w) (k : Below W.heap.size w w') : w'.cell? a0 = some x0 ∧ Kept W w' := by
  obtain ⟨g0, hk⟩ := h
  exact ⟨(Below.cell k h0).trans g0, hk.trans' k⟩
theorem keepS2 {W w w' : World} {a0 a1 : Addr} {x0 x1 : Value} (h0 : a0.block < W.heap.size) (h1 : a1.block < W.heap.size) (h : w.cell? a0 = some x0 ∧ w.cell? a1 = some x1 ∧ Kept W w) (k : Below W.heap.size w w') : w'.cell? a0 = some x0 ∧ w'.cell? a1 = some x1 ∧ Kept W w' := by
  obtain ⟨g0, g1, hk⟩ := h
  exact ⟨(Below.cell k h0).trans g0, (Below.cell k h1).trans g1, hk.trans' k⟩
theorem keepS3 {W w w' : World} {a0 a1 a2 : Addr} {x0 x1 x2 : Value} (h0 : a0.block < W.heap.size) (h1 : a1.block < W.heap.size) (h2 : a2.block < W.heap.size) (h : w.cell? a0 = some x0 ∧ w.cell? a1 = some x1 ∧ w.cell? a2 = some x2 ∧ Kept W w) (k : Below W.heap.size w w') : w'.cell? a0 = some x0 ∧ w'.cell? a1 = some x1 ∧ w'.cell? a2 = some x2 ∧ Kept W w' := by
  obtain ⟨g0, g1, g2, hk⟩ := h
  exact ⟨(Below.cell k h0).trans g0, (Below.cell k h1).trans g1, (Below.cell k h2).trans g2, hk.trans' k⟩
theorem keepS4 {W w w' : World} {a0 a1 a2 a3 : Addr} {x0 x1 x2 x3 : Value} (h0 : a0.block < W.heap.size) (h1 : a1.block < W.heap.size) (h2 : a2.block < W.heap.size) (h3 : a3.block < W.heap.size) (h : w.cell? a0 = some x0 ∧ w.cell? a1 = some x1 ∧ w.cell? a2 = some x2 ∧ w.cell? a3 = some x3 ∧ Kept W w) (k : Below W.heap.size w w') : w'.cell? a0 = some x0 ∧ w'.cell? a1 = some x1 ∧ w'.cell? a2 = some x2 ∧ w'.cell? a3 = some x3 ∧ Kept W w' := by
  obtain ⟨g0, g1, g2, g3, hk⟩ := h
  exact ⟨(Below.cell k h0).trans g0, (Below.cell k h1).trans g1, (Below.cell k h2).trans g2, (Below.cell k h3).trans g3, hk.trans' k⟩
theorem keepS5 {W w w' : World} {a0 a1 a2 a3 a4 : Addr} {x0 x1 x2 x3 x4 : Value} (h0 : a0.block < W.heap.size) (h1 : a1.block < W.heap.size) (h2 : a2.block < W.heap.size) (h3 : a3.block < W.heap.size) (h4 : a4.block < W.heap.size) (h : w.cell? a0 = some x0 ∧ w.cell? a1 = some x1 ∧ w.cell? a2 = some x2 ∧ w.cell? a3 = some x3 ∧ w.cell? a4 = some x4 ∧ Kept W w) (k : Below W.heap.size w w') : w'.cell? a0 = some x0 ∧ w'.cell? a1 = some x1 ∧ w'.cell? a2 = some x2 ∧ w'.cell? a3 = some x3 ∧ w'.cell? a4 = some x4 ∧ Kept W w' := by
  obtain ⟨g0, g1, g2, g3, g4, hk⟩ := h
  exact ⟨(Below.cell k h0).trans g0, (Below.cell k h1).trans g1, (Below.cell k h2).trans g2, (Below.cell k h3).trans g3, (Below.cell k h4).trans g4, hk.trans' k⟩
theorem keepS6 {W w w' : World} {a0 a1 a2 a3 a4 a5 : Addr} {x0 x1 x2 x3 x4 x5 : Value} (h0 : a0.block < W.heap.size) (h1 : a1.block < W.heap.size) (h2 : a2.block < W.heap.size) (h3 : a3.block < W.heap.size) (h4 : a4.block < W.heap.size) (h5 : a5.block < W.heap.size) (h : w.cell? a0 = some x0 ∧ w.cell? a1 = some x1 ∧ w.cell? a2 = some x2 ∧ w.cell? a3 = some x3 ∧ w.cell? a4 = some x4 ∧ w.cell? a5 = some x5 ∧ Kept W w) (k : Below W.heap.size w w') : w'.cell? a0 = some x0 ∧ w'.cell? a1 = some x1 ∧ w'.cell? a2 = some x2 ∧ w'.cell? a3 = some x3 ∧ w'.cell? a4 = some x4 ∧ w'.cell? a5 = some x5 ∧ Kept W w' := by
  obtain ⟨g0, g1, g2, g3, g4, g5, hk⟩ := h
  exact ⟨(Below.cell k h0).trans g0, (Below.cell k h1).trans g1, (Below.cell k h2).trans g2, (Below.cell k h3).trans g3, (Below.cell k h4).trans g4, (Below.cell k h5).trans g5, hk.trans' k⟩
theorem keepS7 {W w w' : World} {a0 a1 a2 a3 a4 a5 a6 : Addr} {x0 x1 x2 x3 x4 x5 x6 : Value} (h0 : a0.block < W.heap.size) (h1 : a1.block < W.heap.size) (h2 : a2.block < W.heap.size) (h3 : a3.block < W.heap.size) (h4 : a4.block < W.heap.size) (h5 : a5.block < W.heap.size) (h6 : a6.block < W.heap.size) (h : w.cell? a0 = some x0 ∧ w.cell? a1 = some x1 ∧ w.cell? a2 = some x2 ∧ w.cell? a3 = some x3 ∧ w.cell? a4 = some x4 ∧ w.cell? a5 = some x5 ∧ w.cell? a6 = some x6 ∧ Kept W w) (k : Below W.heap.size w w') : w'.cell? a0 = some x0 ∧ w'.cell? a1 = some x1 ∧ w'.cell? a2 = some x2 ∧ w'.cell? a3 = some x3 ∧ w'.cell? a4 = some x4 ∧ w'.cell? a5 = some x5 ∧ w'.cell? a6 = some x6 ∧ Kept W w' := by
  obtain ⟨g0, g1, g2, g3, g4, g5, g6, hk⟩ := h
  exact ⟨(Below.cell k h0).trans g0, (Below.cell k h1).trans g1, (Below.cell k h2).trans g2, (Below.cell k h3).trans g3, (Below.cell k h4).trans g4, (Below.cell k h5).trans g5, (Below.cell k h6).trans g6, hk.trans' k⟩
theorem keepS8 {W w w' : World} {a0 a1 a2 a3 a4 a5 a6 a7 : Addr} {x0 x1 x2 x3 x4 x5 x6 x7 : Value} (h0 : a0.block < W.heap.size) (h1 : a1.block < W.heap.size) (h2 : a2.block < W.heap.size) (h3 : a3.block < W.heap.size) (h4 : a4.block < W.heap.size) (h5 : a5.block < W.heap.size) (h6 : a6.block < W.heap.size) (h7 : a7.block < W.heap.size) (h : w.cell? a0 = some x0 ∧ w.cell? a1 = some x1 ∧ w.cell? a2 = some x2 ∧ w.cell? a3 = some x3 ∧ w.cell? a4 = some x4 ∧ w.cell? a5 = some x5 ∧ w.cell? a6 = some x6 ∧ w.cell? a7 = some x7 ∧ Kept W w) (k : Below W.heap.size w w') : w'.cell? a0 = some x0 ∧ w'.cell? a1 = some x1 ∧ w'.cell? a2 = some x2 ∧ w'.cell? a3 = some x3 ∧ w'.cell? a4 = some x4 ∧ w'.cell? a5 = some x5 ∧ w'.cell? a6 = some x6 ∧ w'.cell? a7 = some x7 ∧ Kept W w' := by
  obtain ⟨g0, g1, g2, g3, g4, g5, g6, g7, hk⟩ := h
  exact ⟨(Below.cell k h0).trans g0, (Below.cell k h1).trans g1, (Below.cell k h2).trans g2, (Below.cell k h3).trans g3, (Below.cell k h4).trans g4, (Below.cell k h5).trans g5, (Below.cell k h6).trans g6, (Below.cell k h7).trans g7, hk.trans' k⟩
theorem keepS9 {W w w' : World} {a0 a1 a2 a3 a4 a5 a6 a7 a8 : Addr} {x0 x1 x2 x3 x4 x5 x6 x7 x8 : Value} (h0 : a0.block < W.heap.size) (h1 : a1.block < W.heap.size) (h2 : a2.block < W.heap.size) (h3 : a3.block < W.heap.size) (h4 : a4.block < W.heap.size) (h5 : a5.block < W.heap.size) (h6 : a6.block < W.heap.size) (h7 : a7.block < W.heap.size) (h8 : a8.block < W.heap.size) (h : w.cell? a0 = some x0 ∧ w.cell? a1 = some x1 ∧ w.cell? a2 = some x2 ∧ w.cell? a3 = some x3 ∧ w.cell? a4 = some x4 ∧ w.cell? a5 = some x5 ∧ w.cell? a6 = some x6 ∧ w.cell? a7 = some x7 ∧ w.cell? a8 = some x8 ∧ Kept W w) (k : Below W.heap.size w w') : w'.cell? a0 = some x0 ∧ w'.cell? a1 = some x1 ∧ w'.cell? a2 = some x2 ∧ w'.cell? a3 = some x3 ∧ w'.cell? a4 = some x4 ∧ w'.cell? a5 = some x5 ∧ w'.cell? a6 = some x6 ∧ w'.cell? a7 = some x7 ∧ w'.cell? a8 = some x8 ∧ Kept W w' := by
  obtain ⟨g0, g1, g2, g3, g4, g5, g6, g7, g8, hk⟩ := h
  exact ⟨(Below.cell k h0).trans g0, (Below.cell k h1).trans g1, (Below.cell k h2).trans g2, (Below.cell k h3).trans g3, (Below.cell k h4).trans g4, (Below.cell k h5).trans g5, (Below.cell k h6).trans g6, (Below.cell k h7).trans g7, (Below.cell k h8).trans g8, hk.trans' k⟩
theorem keepS10 {W w w' : World} {a0 a1 a2 a3 a4 a5 a6 a7 a8 a9 : Addr} {x0 x1 x2 x3 x4 x5 x6 x7 x8 x9 : Value} (h0 : a0.block < W.heap.size) (h1 : a1.block < W.heap.size) (h2 : a2.block < W.heap.size) (h3 : a3.block < W.heap.size) (h4 : a4.block < W.heap.size) (h5 : a5.block < W.heap.size) (h6 : a6.block < W.heap.size) (h7 : a7.block < W.heap.size) (h8 : a8.block < W.heap.size) (h9 : a9.block < W.heap.size) (h : w.cell? a0 = some x0 ∧ w.cell? a1 = some x1 ∧ w.cell? a2 = some x2 ∧ w.cell? a3 = some x3 ∧ w.cell? a4 = some x4 ∧ w.cell? a5 = some x5 ∧ w.cell? a6 = some x6 ∧ w.cell? a7 = some x7 ∧ w.cell? a8 = some x8 ∧ w.cell? a9 = some x9 ∧ Kept W w) (k : Below W.heap.size w w') : w'.cell? a0 = some x0 ∧ w'.cell? a1 = some x1 ∧ w'.cell? a2 = some x2 ∧ w'.cell? a3 = some x3 ∧ w'.cell? a4 = some x4 ∧ w'.cell? a5 = some x5 ∧ w'.cell? a6 = some x6 ∧ w'.cell? a7 = some x7 ∧ w'.cell? a8 = some x8 ∧ w'.cell? a9 = some x9 ∧ Kept W w' := by
  obtain ⟨g0, g1, g2, g3, g4, g5, g6, g7, g8, g9, hk⟩ := h
  exact ⟨(Below.cell k h0).trans g0, (Below.cell k h1).trans g1, (Below.cell k h2).trans g2, (Below.cell k h3).trans g3, (Below.cell k h4).trans g4, (Below.cell k h5).trans g5, (Below.cell k h6).trans g6, (Below.cell k h7).trans g7, (Below.cell k h8).trans g8, (Below.cell k h9).trans g9, hk.trans' k⟩
theorem keepS11 {W w w' : World} {a0 a1 a2 a3 a4 a5 a6 a7 a8 a9 a10 : Addr} {x0 x1 x2 x3 x4 x5 x6 x7 x8 x9 x10 : Value} (h0 : a0.block < W.heap.size) (h1 : a1.block < W.heap.size) (h2 : a2.block < W.heap.size) (h3 : a3.block < W.heap.size) (h4 : a4.block < W.heap.size) (h5 : a5.block < W.heap.size) (h6 : a6.block < W.heap.size) (h7 : a7.block < W.heap.size) (h8 : a8.block < W.heap.size) (h9 : a9.block < W.heap.size) (h10 : a10.block < W.heap.size) (h : w.cell? a0 = some x0 ∧ w.cell? a1 = some x1 ∧ w.cell? a2 = some x2 ∧ w.cell? a3 = some x3 ∧ w.cell? a4 = some x4 ∧ w.cell? a5 = some x5 ∧ w.cell? a6 = some x6 ∧ w.cell? a7 = some x7 ∧ w.cell? a8 = some x8 ∧ w.cell? a9 = some x9 ∧ w.cell? a10 = some x10 ∧ Kept W w) (k : Below W.heap.size w w') : w'.cell? a0 = some x0 ∧ w'.cell? a1 = some x1 ∧ w'.cell? a2 = some x2 ∧ w'.cell? a3 = some x3 ∧ w'.cell? a4 = some x4 ∧ w'.cell? a5 = some x5 ∧ w'.cell? a6 = some x6 ∧ w'.cell? a7 = some x7 ∧ w'.cell? a8 = some x8 ∧ w'.cell? a9 = some x9 ∧ w'.cell? a10 = some x10 ∧ Kept W w' := by
  obtain ⟨g0, g1, g2, g3, g4, g5, g6, g7, g8, g9, g10, hk⟩ := h
  exact ⟨(Below.cell k h0).trans g0, (Below.cell k h1).trans g1, (Below.cell k h2).trans g2, (Below.cell k h3).trans g3, (Below.cell k h4).trans g4, (Below.cell k h5).trans g5, (Below.cell k h6).trans g6, (Below.cell k h7).trans g7, (Below.cell k h8).trans g8, (Below.cell k h9).trans g9, (Below.cell k h10).trans g10, hk.trans' k⟩
theorem keepS12 {W w w' : World} {a0 a1 a2 a3 a4 a5 a6 a7 a8 a9 a10 a11 : Addr} {x0 x1 x2 x3 x4 x5 x6 x7 x8 x9 x10 x11 : Value} (h0 : a0.block < W.heap.size) (h1 : a1.block < W.heap.size) (h2 : a2.block < W.heap.size) (h3 : a3.block < W.heap.size) (h4 : a4.block < W.heap.size) (h5 : a5.block < W.heap.size) (h6 : a6.block < W.heap.size) (h7 : a7.block < W.heap.size) (h8 : a8.block < W.heap.size) (h9 : a9.block < W.heap.size) (h10 : a10.block < W.heap.size) (h11 : a11.block < W.heap.size) (h : w.cell? a0 = some x0 ∧ w.cell? a1 = some x1 ∧ w.cell? a2 = some x2 ∧ w.cell? a3 = some x3 ∧ w.cell? a4 = some x4 ∧ w.cell? a5 = some x5 ∧ w.cell? a6 = some x6 ∧ w.cell? a7 = some x7 ∧ w.cell? a8 = some x8 ∧ w.cell? a9 = some x9 ∧ w.cell? a10 = some x10 ∧ w.cell? a11 = some x11 ∧ Kept W w) (k : Below W.heap.size w w') : w'.cell? a0 = some x0 ∧ w'.cell? a1 = some x1 ∧ w'.cell? a2 = some x2 ∧ w'.cell? a3 = some x3 ∧ w'.cell? a4 = some x4 ∧ w'.cell? a5 = some x5 ∧ w'.cell? a6 = some x6 ∧ w'.cell? a7 = some x7 ∧ w'.cell? a8 = some x8 ∧ w'.cell? a9 = some x9 ∧ w'.cell? a10 = some x10 ∧ w'.cell? a11 = some x11 ∧ Kept W w' := by
  obtain ⟨g0, g1, g2, g3, g4, g5, g6, g7, g8, g9, g10, g11, hk⟩ := h
  exact ⟨(Below.cell k h0).trans g0, (Below.cell k h1).trans g1, (Below.cell k h2).trans g2, (Below.cell k h3).trans g3, (Below.cell k h4).trans g4, (Below.cell k h5).trans g5, (Below.cell k h6).trans g6, (Below.cell k h7).trans g7, (Below.cell k h8).trans g8, (Below.cell k h9).trans g9, (Below.cell k h10).trans g10, (Below.cell k h11).trans g11, hk.trans' k⟩
theorem below_set3 {B : Nat} {w : World} {b : Nat} (h : B ≤ b) (i j k : Nat) (u v x : Value) : Below B w (((w.setCell ⟨b, i, none⟩ u).setCell ⟨b, j, none⟩ v).setCell ⟨b, k, none⟩ x) :=
  Below.setCell (Below.setCell (Below.setCell (Below.refl _ _) (show B ≤ (⟨b, i, none⟩ : Addr).block from h) u) (show B ≤ (⟨b, j, none⟩ : Addr).block from h) v) (show B ≤ (⟨b, k, none⟩ : Addr).block from h) x
theorem below_set2 {B : Nat} {w : World} {b : Nat} (h : B ≤ b) (i j : Nat) (u v : Value) : Below B w ((w.setCell ⟨b, i, none⟩ u).setCell ⟨b, j, none⟩ v) :=
  Below.setCell (Below.setCell (Below.refl _ _) (show B ≤ (⟨b, i, none⟩ : Addr).block from h) u) (show B ≤ (⟨b, j, none⟩ : Addr).block from h) v
theorem below_set1 {B : Nat} {w : World} {b : Nat} (h : B ≤ b) (i : Nat) (u : Value) : Below B w (w.setCell ⟨b, i, none⟩ u) :=
  Below.setCell (Below.refl _ _) (show B ≤ (⟨b, i, none⟩ : Addr).block from h) u
end

section
open Go.ChangeShapes Go.WideShapes Go.ChangeAt Go.RowKit

theorem keepP19 {W w w' : World} {a0 a1 a2 a3 a4 a5 a6 a7 a8 a9 a10 a11 a12 a13 a14 a15 a16 a17 a18 : Addr} {x0 x1 x2 x3 x4 x5 x6 x7 x8 x9 x10 x11 x12 x13 x14 x15 x16 x17 x18 : Value} (h0 : a0.block < W.heap.size) (h1 : a1.block < W.heap.size) (h2 : a2.block < W.heap.size) (h3 : a3.block < W.heap.size) (h4 : a4.block < W.heap.size) (h5 : a5.block < W.heap.size) (h6 : a6.block < W.heap.size) (h7 : a7.block < W.heap.size) (h8 : a8.block < W.heap.size) (h9 : a9.block < W.heap.size) (h10 : a10.block < W.heap.size) (h11 : a11.block < W.heap.size) (h12 : a12.block < W.heap.size) (h13 : a13.block < W.heap.size) (h14 : a14.block < W.heap.size) (h15 : a15.block < W.heap.size) (h16 : a16.block < W.heap.size) (h17 : a17.block < W.heap.size) (h18 : a18.block < W.heap.size) (h : w.cell? a0 = some x0 ∧ w.cell? a1 = some x1 ∧ w.cell? a2 = some x2 ∧ w.cell? a3 = some x3 ∧ w.cell? a4 = some x4 ∧ w.cell? a5 = some x5 ∧ w.cell? a6 = some x6 ∧ w.cell? a7 = some x7 ∧ w.cell? a8 = some x8 ∧ w.cell? a9 = some x9 ∧ w.cell? a10 = some x10 ∧ w.cell? a11 = some x11 ∧ w.cell? a12 = some x12 ∧ w.cell? a13 = some x13 ∧ w.cell? a14 = some x14 ∧ w.cell? a15 = some x15 ∧ w.cell? a16 = some x16 ∧ w.cell? a17 = some x17 ∧ w.cell? a18 = some x18 ∧ Kept W w) (k : Kept w w') : w'.cell? a0 = some x0 ∧ w'.cell? a1 = some x1 ∧ w'.cell? a2 = some x2 ∧ w'.cell? a3 = some x3 ∧ w'.cell? a4 = some x4 ∧ w'.cell? a5 = some x5 ∧ w'.cell? a6 = some x6 ∧ w'.cell? a7 = some x7 ∧ w'.cell? a8 = some x8 ∧ w'.cell? a9 = some x9 ∧ w'.cell? a10 = some x10 ∧ w'.cell? a11 = some x11 ∧ w'.cell? a12 = some x12 ∧ w'.cell? a13 = some x13 ∧ w'.cell? a14 = some x14 ∧ w'.cell? a15 = some x15 ∧ w'.cell? a16 = some x16 ∧ w'.cell? a17 = some x17 ∧ w'.cell? a18 = some x18 ∧ Kept W w' := by
  obtain ⟨g0, g1, g2, g3, g4, g5, g6, g7, g8, g9, g10, g11, g12, g13, g14, g15, g16, g17, g18, hk⟩ := h
  have := hk.size_le
  exact ⟨(k.cell (by omega)).trans g0, (k.cell (by omega)).trans g1, (k.cell (by omega)).trans g2, (k.cell (by omega)).trans g3, (k.cell (by omega)).trans g4, (k.cell (by omega)).trans g5, (k.cell (by omega)).trans g6, (k.cell (by omega)).trans g7, (k.cell (by omega)).trans g8, (k.cell (by omega)).trans g9, (k.cell (by omega)).trans g10, (k.cell (by omega)).trans g11, (k.cell (by omega)).trans g12, (k.cell (by omega)).trans g13, (k.cell (by omega)).trans g14, (k.cell (by omega)).trans g15, (k.cell (by omega)).trans g16, (k.cell (by omega)).trans g17, (k.cell (by omega)).trans g18, hk.trans k⟩
theorem keepP20 {W w w' : World} {a0 a1 a2 a3 a4 a5 a6 a7 a8 a9 a10 a11 a12 a13 a14 a15 a16 a17 a18 a19 : Addr} {x0 x1 x2 x3 x4 x5 x6 x7 x8 x9 x10 x11 x12 x13 x14 x15 x16 x17 x18 x19 : Value} (h0 : a0.block < W.heap.size) (h1 : a1.block < W.heap.size) (h2 : a2.block < W.heap.size) (h3 : a3.block < W.heap.size) (h4 : a4.block < W.heap.size) (h5 : a5.block < W.heap.size) (h6 : a6.block < W.heap.size) (h7 : a7.block < W.heap.size) (h8 : a8.block < W.heap.size) (h9 : a9.block < W.heap.size) (h10 : a10.block < W.heap.size) (h11 : a11.block < W.heap.size) (h12 : a12.block < W.heap.size) (h13 : a13.block < W.heap.size) (h14 : a14.block < W.heap.size) (h15 : a15.block < W.heap.size) (h16 : a16.block < W.heap.size) (h17 : a17.block < W.heap.size) (h18 : a18.block < W.heap.size) (h19 : a19.block < W.heap.size) (h : w.cell? a0 = some x0 ∧ w.cell? a1 = some x1 ∧ w.cell? a2 = some x2 ∧ w.cell? a3 = some x3 ∧ w.cell? a4 = some x4 ∧ w.cell? a5 = some x5 ∧ w.cell? a6 = some x6 ∧ w.cell? a7 = some x7 ∧ w.cell? a8 = some x8 ∧ w.cell? a9 = some x9 ∧ w.cell? a10 = some x10 ∧ w.cell? a11 = some x11 ∧ w.cell? a12 = some x12 ∧ w.cell? a13 = some x13 ∧ w.cell? a14 = some x14 ∧ w.cell? a15 = some x15 ∧ w.cell? a16 = some x16 ∧ w.cell? a17 = some x17 ∧ w.cell? a18 = some x18 ∧ w.cell? a19 = some x19 ∧ Kept W w) (k : Kept w w') : w'.cell? a0 = some x0 ∧ w'.cell? a1 = some x1 ∧ w'.cell? a2 = some x2 ∧ w'.cell? a3 = some x3 ∧ w'.cell? a4 = some x4 ∧ w'.cell? a5 = some x5 ∧ w'.cell? a6 = some x6 ∧ w'.cell? a7 = some x7 ∧ w'.cell? a8 = some x8 ∧ w'.cell? a9 = some x9 ∧ w'.cell? a10 = some x10 ∧ w'.cell? a11 = some x11 ∧ w'.cell? a12 = some x12 ∧ w'.cell? a13 = some x13 ∧ w'.cell? a14 = some x14 ∧ w'.cell? a15 = some x15 ∧ w'.cell? a16 = some x16 ∧ w'.cell? a17 = some x17 ∧ w'.cell? a18 = some x18 ∧ w'.cell? a19 = some x19 ∧ Kept W w' := by
  obtain ⟨g0, g1, g2, g3, g4, g5, g6, g7, g8, g9, g10, g11, g12, g13, g14, g15, g16, g17, g18, g19, hk⟩ := h
  have := hk.size_le
  exact ⟨(k.cell (by omega)).trans g0, (k.cell (by omega)).trans g1, (k.cell (by omega)).trans g2, (k.cell (by omega)).trans g3, (k.cell (by omega)).trans g4, (k.cell (by omega)).trans g5, (k.cell (by omega)).trans g6, (k.cell (by omega)).trans g7, (k.cell (by omega)).trans g8, (k.cell (by omega)).trans g9, (k.cell (by omega)).trans g10, (k.cell (by omega)).trans g11, (k.cell (by omega)).trans g12, (k.cell (by omega)).trans g13, (k.cell (by omega)).trans g14, (k.cell (by omega)).trans g15, (k.cell (by omega)).trans g16, (k.cell (by omega)).trans g17, (k.cell (by omega)).trans g18, (k.cell (by omega)).trans g19, hk.trans k⟩
theorem keepP21 {W w w' : World} {a0 a1 a2 a3 a4 a5 a6 a7 a8 a9 a10 a11 a12 a13 a14 a15 a16 a17 a18 a19 a20 : Addr} {x0 x1 x2 x3 x4 x5 x6 x7 x8 x9 x10 x11 x12 x13 x14 x15 x16 x17 x18 x19 x20 : Value} (h0 : a0.block < W.heap.size) (h1 : a1.block < W.heap.size) (h2 : a2.block < W.heap.size) (h3 : a3.block < W.heap.size) (h4 : a4.block < W.heap.size) (h5 : a5.block < W.heap.size) (h6 : a6.block < W.heap.size) (h7 : a7.block < W.heap.size) (h8 : a8.block < W.heap.size) (h9 : a9.block < W.heap.size) (h10 : a10.block < W.heap.size) (h11 : a11.block < W.heap.size) (h12 : a12.block < W.heap.size) (h13 : a13.block < W.heap.size) (h14 : a14.block < W.heap.size) (h15 : a15.block < W.heap.size) (h16 : a16.block < W.heap.size) (h17 : a17.block < W.heap.size) (h18 : a18.block < W.heap.size) (h19 : a19.block < W.heap.size) (h20 : a20.block < W.heap.size) (h : w.cell? a0 = some x0 ∧ w.cell? a1 = some x1 ∧ w.cell? a2 = some x2 ∧ w.cell? a3 = some x3 ∧ w.cell? a4 = some x4 ∧ w.cell? a5 = some x5 ∧ w.cell? a6 = some x6 ∧ w.cell? a7 = some x7 ∧ w.cell? a8 = some x8 ∧ w.cell? a9 = some x9 ∧ w.cell? a10 = some x10 ∧ w.cell? a11 = some x11 ∧ w.cell? a12 = some x12 ∧ w.cell? a13 = some x13 ∧ w.cell? a14 = some x14 ∧ w.cell? a15 = some x15 ∧ w.cell? a16 = some x16 ∧ w.cell? a17 = some x17 ∧ w.cell? a18 = some x18 ∧ w.cell? a19 = some x19 ∧ w.cell? a20 = some x20 ∧ Kept W w) (k : Kept w w') : w'.cell? a0 = some x0 ∧ w'.cell? a1 = some x1 ∧ w'.cell? a2 = some x2 ∧ w'.cell? a3 = some x3 ∧ w'.cell? a4 = some x4 ∧ w'.cell? a5 = some x5 ∧ w'.cell? a6 = some x6 ∧ w'.cell? a7 = some x7 ∧ w'.cell? a8 = some x8 ∧ w'.cell? a9 = some x9 ∧ w'.cell? a10 = some x10 ∧ w'.cell? a11 = some x11 ∧ w'.cell? a12 = some x12 ∧ w'.cell? a13 = some x13 ∧ w'.cell? a14 = some x14 ∧ w'.cell? a15 = some x15 ∧ w'.cell? a16 = some x16 ∧ w'.cell? a17 = some x17 ∧ w'.cell? a18 = some x18 ∧ w'.cell? a19 = some x19 ∧ w'.cell? a20 = some x20 ∧ Kept W w' := by
  obtain ⟨g0, g1, g2, g3, g4, g5, g6, g7, g8, g9, g10, g11, g12, g13, g14, g15, g16, g17, g18, g19, g20, hk⟩ := h
  have := hk.size_le
  exact ⟨(k.cell (by omega)).trans g0, (k.cell (by omega)).trans g1, (k.cell (by omega)).trans g2, (k.cell (by omega)).trans g3, (k.cell (by omega)).trans g4, (k.cell (by omega)).trans g5, (k.cell (by omega)).trans g6, (k.cell (by omega)).trans g7, (k.cell (by omega)).trans g8, (k.cell (by omega)).trans g9, (k.cell (by omega)).trans g10, (k.cell (by omega)).trans g11, (k.cell (by omega)).trans g12, (k.cell (by omega)).trans g13, (k.cell (by omega)).trans g14, (k.cell (by omega)).trans g15, (k.cell (by omega)).trans g16, (k.cell (by omega)).trans g17, (k.cell (by omega)).trans g18, (k.cell (by omega)).trans g19, (k.cell (by omega)).trans g20, hk.trans k⟩
theorem keepP22 {W w w' : World} {a0 a1 a2 a3 a4 a5 a6 a7 a8 a9 a10 a11 a12 a13 a14 a15 a16 a17 a18 a19 a20 a21 : Addr} {x0 x1 x2 x3 x4 x5 x6 x7 x8 x9 x10 x11 x12 x13 x14 x15 x16 x17 x18 x19 x20 x21 : Value} (h0 : a0.block < W.heap.size) (h1 : a1.block < W.heap.size) (h2 : a2.block < W.heap.size) (h3 : a3.block < W.heap.size) (h4 : a4.block < W.heap.size) (h5 : a5.block < W.heap.size) (h6 : a6.block < W.heap.size) (h7 : a7.block < W.heap.size) (h8 : a8.block < W.heap.size) (h9 : a9.block < W.heap.size) (h10 : a10.block < W.heap.size) (h11 : a11.block < W.heap.size) (h12 : a12.block < W.heap.size) (h13 : a13.block < W.heap.size) (h14 : a14.block < W.heap.size) (h15 : a15.block < W.heap.size) (h16 : a16.block < W.heap.size) (h17 : a17.block < W.heap.size) (h18 : a18.block < W.heap.size) (h19 : a19.block < W.heap.size) (h20 : a20.block < W.heap.size) (h21 : a21.block < W.heap.size) (h : w.cell? a0 = some x0 ∧ w.cell? a1 = some x1 ∧ w.cell? a2 = some x2 ∧ w.cell? a3 = some x3 ∧ w.cell? a4 = some x4 ∧ w.cell? a5 = some x5 ∧ w.cell? a6 = some x6 ∧ w.cell? a7 = some x7 ∧ w.cell? a8 = some x8 ∧ w.cell? a9 = some x9 ∧ w.cell? a10 = some x10 ∧ w.cell? a11 = some x11 ∧ w.cell? a12 = some x12 ∧ w.cell? a13 = some x13 ∧ w.cell? a14 = some x14 ∧ w.cell? a15 = some x15 ∧ w.cell? a16 = some x16 ∧ w.cell? a17 = some x17 ∧ w.cell? a18 = some x18 ∧ w.cell? a19 = some x19 ∧ w.cell? a20 = some x20 ∧ w.cell? a21 = some x21 ∧ Kept W w) (k : Kept w w') : w'.cell? a0 = some x0 ∧ w'.cell? a1 = some x1 ∧ w'.cell? a2 = some x2 ∧ w'.cell? a3 = some x3 ∧ w'.cell? a4 = some x4 ∧ w'.cell? a5 = some x5 ∧ w'.cell? a6 = some x6 ∧ w'.cell? a7 = some x7 ∧ w'.cell? a8 = some x8 ∧ w'.cell? a9 = some x9 ∧ w'.cell? a10 = some x10 ∧ w'.cell? a11 = some x11 ∧ w'.cell? a12 = some x12 ∧ w'.cell? a13 = some x13 ∧ w'.cell? a14 = some x14 ∧ w'.cell? a15 = some x15 ∧ w'.cell? a16 = some x16 ∧ w'.cell? a17 = some x17 ∧ w'.cell? a18 = some x18 ∧ w'.cell? a19 = some x19 ∧ w'.cell? a20 = some x20 ∧ w'.cell? a21 = some x21 ∧ Kept W w' := by
  obtain ⟨g0, g1, g2, g3, g4, g5, g6, g7, g8, g9, g10, g11, g12, g13, g14, g15, g16, g17, g18, g19, g20, g21, hk⟩ := h
  have := hk.size_le
  exact ⟨(k.cell (by omega)).trans g0, (k.cell (by omega)).trans g1, (k.cell (by omega)).trans g2, (k.cell (by omega)).trans g3, (k.cell (by omega)).trans g4, (k.cell (by omega)).trans g5, (k.cell (by omega)).trans g6, (k.cell (by omega)).trans g7, (k.cell (by omega)).trans g8, (k.cell (by omega)).trans g9, (k.cell (by omega)).trans g10, (k.cell (by omega)).trans g11, (k.cell (by omega)).trans g12, (k.cell (by omega)).trans g13, (k.cell (by omega)).trans g14, (k.cell (by omega)).trans g15, (k.cell (by omega)).trans g16, (k.cell (by omega)).trans g17, (k.cell (by omega)).trans g18, (k.cell (by omega)).trans g19, (k.cell (by omega)).trans g20, (k.cell (by omega)).trans g21, hk.trans k⟩
theorem keepP23 {W w w' : World} {a0 a1 a2 a3 a4 a5 a6 a7 a8 a9 a10 a11 a12 a13 a14 a15 a16 a17 a18 a19 a20 a21 a22 : Addr} {x0 x1 x2 x3 x4 x5 x6 x7 x8 x9 x10 x11 x12 x13 x14 x15 x16 x17 x18 x19 x20 x21 x22 : Value} (h0 : a0.block < W.heap.size) (h1 : a1.block < W.heap.size) (h2 : a2.block < W.heap.size) (h3 : a3.block < W.heap.size) (h4 : a4.block < W.heap.size) (h5 : a5.block < W.heap.size) (h6 : a6.block < W.heap.size) (h7 : a7.block < W.heap.size) (h8 : a8.block < W.heap.size) (h9 : a9.block < W.heap.size) (h10 : a10.block < W.heap.size) (h11 : a11.block < W.heap.size) (h12 : a12.block < W.heap.size) (h13 : a13.block < W.heap.size) (h14 : a14.block < W.heap.size) (h15 : a15.block < W.heap.size) (h16 : a16.block < W.heap.size) (h17 : a17.block < W.heap.size) (h18 : a18.block < W.heap.size) (h19 : a19.block < W.heap.size) (h20 : a20.block < W.heap.size) (h21 : a21.block < W.heap.size) (h22 : a22.block < W.heap.size) (h : w.cell? a0 = some x0 ∧ w.cell? a1 = some x1 ∧ w.cell? a2 = some x2 ∧ w.cell? a3 = some x3 ∧ w.cell? a4 = some x4 ∧ w.cell? a5 = some x5 ∧ w.cell? a6 = some x6 ∧ w.cell? a7 = some x7 ∧ w.cell? a8 = some x8 ∧ w.cell? a9 = some x9 ∧ w.cell? a10 = some x10 ∧ w.cell? a11 = some x11 ∧ w.cell? a12 = some x12 ∧ w.cell? a13 = some x13 ∧ w.cell? a14 = some x14 ∧ w.cell? a15 = some x15 ∧ w.cell? a16 = some x16 ∧ w.cell? a17 = some x17 ∧ w.cell? a18 = some x18 ∧ w.cell? a19 = some x19 ∧ w.cell? a20 = some x20 ∧ w.cell? a21 = some x21 ∧ w.cell? a22 = some x22 ∧ Kept W w) (k : Kept w w') : w'.cell? a0 = some x0 ∧ w'.cell? a1 = some x1 ∧ w'.cell? a2 = some x2 ∧ w'.cell? a3 = some x3 ∧ w'.cell? a4 = some x4 ∧ w'.cell? a5 = some x5 ∧ w'.cell? a6 = some x6 ∧ w'.cell? a7 = some x7 ∧ w'.cell? a8 = some x8 ∧ w'.cell? a9 = some x9 ∧ w'.cell? a10 = some x10 ∧ w'.cell? a11 = some x11 ∧ w'.cell? a12 = some x12 ∧ w'.cell? a13 = some x13 ∧ w'.cell? a14 = some x14 ∧ w'.cell? a15 = some x15 ∧ w'.cell? a16 = some x16 ∧ w'.cell? a17 = some x17 ∧ w'.cell? a18 = some x18 ∧ w'.cell? a19 = some x19 ∧ w'.cell? a20 = some x20 ∧ w'.cell? a21 = some x21 ∧ w'.cell? a22 = some x22 ∧ Kept W w' := by
  obtain ⟨g0, g1, g2, g3, g4, g5, g6, g7, g8, g9, g10, g11, g12, g13, g14, g15, g16, g17, g18, g19, g20, g21, g22, hk⟩ := h
  have := hk.size_le
  exact ⟨(k.cell (by omega)).trans g0, (k.cell (by omega)).trans g1, (k.cell (by omega)).trans g2, (k.cell (by omega)).trans g3, (k.cell (by omega)).trans g4, (k.cell (by omega)).trans g5, (k.cell (by omega)).trans g6, (k.cell (by omega)).trans g7, (k.cell (by omega)).trans g8, (k.cell (by omega)).trans g9, (k.cell (by omega)).trans g10, (k.cell (by omega)).trans g11, (k.cell (by omega)).trans g12, (k.cell (by omega)).trans g13, (k.cell (by omega)).trans g14, (k.cell (by omega)).trans g15, (k.cell (by omega)).trans g16, (k.cell (by omega)).trans g17, (k.cell (by omega)).trans g18, (k.cell (by omega)).trans g19, (k.cell (by omega)).trans g20, (k.cell (by omega)).trans g21, (k.cell (by omega)).trans g22, hk.trans k⟩
theorem keepP24 {W w w' : World} {a0 a1 a2 a3 a4 a5 a6 a7 a8 a9 a10 a11 a12 a13 a14 a15 a16 a17 a18 a19 a20 a21 a22 a23 : Addr} {x0 x1 x2 x3 x4 x5 x6 x7 x8 x9 x10 x11 x12 x13 x14 x15 x16 x17 x18 x19 x20 x21 x22 x23 : Value} (h0 : a0.block < W.heap.size) (h1 : a1.block < W.heap.size) (h2 : a2.block < W.heap.size) (h3 : a3.block < W.heap.size) (h4 : a4.block < W.heap.size) (h5 : a5.block < W.heap.size) (h6 : a6.block < W.heap.size) (h7 : a7.block < W.heap.size) (h8 : a8.block < W.heap.size) (h9 : a9.block < W.heap.size) (h10 : a10.block < W.heap.size) (h11 : a11.block < W.heap.size) (h12 : a12.block < W.heap.size) (h13 : a13.block < W.heap.size) (h14 : a14.block < W.heap.size) (h15 : a15.block < W.heap.size) (h16 : a16.block < W.heap.size) (h17 : a17.block < W.heap.size) (h18 : a18.block < W.heap.size) (h19 : a19.block < W.heap.size) (h20 : a20.block < W.heap.size) (h21 : a21.block < W.heap.size) (h22 : a22.block < W.heap.size) (h23 : a23.block < W.heap.size) (h : w.cell? a0 = some x0 ∧ w.cell? a1 = some x1 ∧ w.cell? a2 = some x2 ∧ w.cell? a3 = some x3 ∧ w.cell? a4 = some x4 ∧ w.cell? a5 = some x5 ∧ w.cell? a6 = some x6 ∧ w.cell? a7 = some x7 ∧ w.cell? a8 = some x8 ∧ w.cell? a9 = some x9 ∧ w.cell? a10 = some x10 ∧ w.cell? a11 = some x11 ∧ w.cell? a12 = some x12 ∧ w.cell? a13 = some x13 ∧ w.cell? a14 = some x14 ∧ w.cell? a15 = some x15 ∧ w.cell? a16 = some x16 ∧ w.cell? a17 = some x17 ∧ w.cell? a18 = some x18 ∧ w.cell? a19 = some x19 ∧ w.cell? a20 = some x20 ∧ w.cell? a21 = some x21 ∧ w.cell? a22 = some x22 ∧ w.cell? a23 = some x23 ∧ Kept W w) (k : Kept w w') : w'.cell? a0 = some x0 ∧ w'.cell? a1 = some x1 ∧ w'.cell? a2 = some x2 ∧ w'.cell? a3 = some x3 ∧ w'.cell? a4 = some x4 ∧ w'.cell? a5 = some x5 ∧ w'.cell? a6 = some x6 ∧ w'.cell? a7 = some x7 ∧ w'.cell? a8 = some x8 ∧ w'.cell? a9 = some x9 ∧ w'.cell? a10 = some x10 ∧ w'.cell? a11 = some x11 ∧ w'.cell? a12 = some x12 ∧ w'.cell? a13 = some x13 ∧ w'.cell? a14 = some x14 ∧ w'.cell? a15 = some x15 ∧ w'.cell? a16 = some x16 ∧ w'.cell? a17 = some x17 ∧ w'.cell? a18 = some x18 ∧ w'.cell? a19 = some x19 ∧ w'.cell? a20 = some x20 ∧ w'.cell? a21 = some x21 ∧ w'.cell? a22 = some x22 ∧ w'.cell? a23 = some x23 ∧ Kept W w' := by
  obtain ⟨g0, g1, g2, g3, g4, g5, g6, g7, g8, g9, g10, g11, g12, g13, g14, g15, g16, g17, g18, g19, g20, g21, g22, g23, hk⟩ := h
  have := hk.size_le
  exact ⟨(k.cell (by omega)).trans g0, (k.cell (by omega)).trans g1, (k.cell (by omega)).trans g2, (k.cell (by omega)).trans g3, (k.cell (by omega)).trans g4, (k.cell (by omega)).trans g5, (k.cell (by omega)).trans g6, (k.cell (by omega)).trans g7, (k.cell (by omega)).trans g8, (k.cell (by omega)).trans g9, (k.cell (by omega)).trans g10, (k.cell (by omega)).trans g11, (k.cell (by omega)).trans g12, (k.cell (by omega)).trans g13, (k.cell (by omega)).trans g14, (k.cell (by omega)).trans g15, (k.cell (by omega)).trans g16, (k.cell (by omega)).trans g17, (k.cell (by omega)).trans g18, (k.cell (by omega)).trans g19, (k.cell (by omega)).trans g20, (k.cell (by omega)).trans g21, (k.cell (by omega)).trans g22, (k.cell (by omega)).trans g23, hk.trans k⟩
theorem keepP25 {W w w' : World} {a0 a1 a2 a3 a4 a5 a6 a7 a8 a9 a10 a11 a12 a13 a14 a15 a16 a17 a18 a19 a20 a21 a22 a23 a24 : Addr} {x0 x1 x2 x3 x4 x5 x6 x7 x8 x9 x10 x11 x12 x13 x14 x15 x16 x17 x18 x19 x20 x21 x22 x23 x24 : Value} (h0 : a0.block < W.heap.size) (h1 : a1.block < W.heap.size) (h2 : a2.block < W.heap.size) (h3 : a3.block < W.heap.size) (h4 : a4.block < W.heap.size) (h5 : a5.block < W.heap.size) (h6 : a6.block < W.heap.size) (h7 : a7.block < W.heap.size) (h8 : a8.block < W.heap.size) (h9 : a9.block < W.heap.size) (h10 : a10.block < W.heap.size) (h11 : a11.block < W.heap.size) (h12 : a12.block < W.heap.size) (h13 : a13.block < W.heap.size) (h14 : a14.block < W.heap.size) (h15 : a15.block < W.heap.size) (h16 : a16.block < W.heap.size) (h17 : a17.block < W.heap.size) (h18 : a18.block < W.heap.size) (h19 : a19.block < W.heap.size) (h20 : a20.block < W.heap.size) (h21 : a21.block < W.heap.size) (h22 : a22.block < W.heap.size) (h23 : a23.block < W.heap.size) (h24 : a24.block < W.heap.size) (h : w.cell? a0 = some x0 ∧ w.cell? a1 = some x1 ∧ w.cell? a2 = some x2 ∧ w.cell? a3 = some x3 ∧ w.cell? a4 = some x4 ∧ w.cell? a5 = some x5 ∧ w.cell? a6 = some x6 ∧ w.cell? a7 = some x7 ∧ w.cell? a8 = some x8 ∧ w.cell? a9 = some x9 ∧ w.cell? a10 = some x10 ∧ w.cell? a11 = some x11 ∧ w.cell? a12 = some x12 ∧ w.cell? a13 = some x13 ∧ w.cell? a14 = some x14 ∧ w.cell? a15 = some x15 ∧ w.cell? a16 = some x16 ∧ w.cell? a17 = some x17 ∧ w.cell? a18 = some x18 ∧ w.cell? a19 = some x19 ∧ w.cell? a20 = some x20 ∧ w.cell? a21 = some x21 ∧ w.cell? a22 = some x22 ∧ w.cell? a23 = some x23 ∧ w.cell? a24 = some x24 ∧ Kept W w) (k : Kept w w') : w'.cell? a0 = some x0 ∧ w'.cell? a1 = some x1 ∧ w'.cell? a2 = some x2 ∧ w'.cell? a3 = some x3 ∧ w'.cell? a4 = some x4 ∧ w'.cell? a5 = some x5 ∧ w'.cell? a6 = some x6 ∧ w'.cell? a7 = some x7 ∧ w'.cell? a8 = some x8 ∧ w'.cell? a9 = some x9 ∧ w'.cell? a10 = some x10 ∧ w'.cell? a11 = some x11 ∧ w'.cell? a12 = some x12 ∧ w'.cell? a13 = some x13 ∧ w'.cell? a14 = some x14 ∧ w'.cell? a15 = some x15 ∧ w'.cell? a16 = some x16 ∧ w'.cell? a17 = some x17 ∧ w'.cell? a18 = some x18 ∧ w'.cell? a19 = some x19 ∧ w'.cell? a20 = some x20 ∧ w'.cell? a21 = some x21 ∧ w'.cell? a22 = some x22 ∧ w'.cell? a23 = some x23 ∧ w'.cell? a24 = some x24 ∧ Kept W w' := by
  obtain ⟨g0, g1, g2, g3, g4, g5, g6, g7, g8, g9, g10, g11, g12, g13, g14, g15, g16, g17, g18, g19, g20, g21, g22, g23, g24, hk⟩ := h
  have := hk.size_le
  exact ⟨(k.cell (by omega)).trans g0, (k.cell (by omega)).trans g1, (k.cell (by omega)).trans g2, (k.cell (by omega)).trans g3, (k.cell (by omega)).trans g4, (k.cell (by omega)).trans g5, (k.cell (by omega)).trans g6, (k.cell (by omega)).trans g7, (k.cell (by omega)).trans g8, (k.cell (by omega)).trans g9, (k.cell (by omega)).trans g10, (k.cell (by omega)).trans g11, (k.cell (by omega)).trans g12, (k.cell (by omega)).trans g13, (k.cell (by omega)).trans g14, (k.cell (by omega)).trans g15, (k.cell (by omega)).trans g16, (k.cell (by omega)).trans g17, (k.cell (by omega)).trans g18, (k.cell (by omega)).trans g19, (k.cell (by omega)).trans g20, (k.cell (by omega)).trans g21, (k.cell (by omega)).trans g22, (k.cell (by omega)).trans g23, (k.cell (by omega)).trans g24, hk.trans k⟩
theorem keepP26 {W w w' : World} {a0 a1 a2 a3 a4 a5 a6 a7 a8 a9 a10 a11 a12 a13 a14 a15 a16 a17 a18 a19 a20 a21 a22 a23 a24 a25 : Addr} {x0 x1 x2 x3 x4 x5 x6 x7 x8 x9 x10 x11 x12 x13 x14 x15 x16 x17 x18 x19 x20 x21 x22 x23 x24 x25 : Value} (h0 : a0.block < W.heap.size) (h1 : a1.block < W.heap.size) (h2 : a2.block < W.heap.size) (h3 : a3.block < W.heap.size) (h4 : a4.block < W.heap.size) (h5 : a5.block < W.heap.size) (h6 : a6.block < W.heap.size) (h7 : a7.block < W.heap.size) (h8 : a8.block < W.heap.size) (h9 : a9.block < W.heap.size) (h10 : a10.block < W.heap.size) (h11 : a11.block < W.heap.size) (h12 : a12.block < W.heap.size) (h13 : a13.block < W.heap.size) (h14 : a14.block < W.heap.size) (h15 : a15.block < W.heap.size) (h16 : a16.block < W.heap.size) (h17 : a17.block < W.heap.size) (h18 : a18.block < W.heap.size) (h19 : a19.block < W.heap.size) (h20 : a20.block < W.heap.size) (h21 : a21.block < W.heap.size) (h22 : a22.block < W.heap.size) (h23 : a23.block < W.heap.size) (h24 : a24.block < W.heap.size) (h25 : a25.block < W.heap.size) (h : w.cell? a0 = some x0 ∧ w.cell? a1 = some x1 ∧ w.cell? a2 = some x2 ∧ w.cell? a3 = some x3 ∧ w.cell? a4 = some x4 ∧ w.cell? a5 = some x5 ∧ w.cell? a6 = some x6 ∧ w.cell? a7 = some x7 ∧ w.cell? a8 = some x8 ∧ w.cell? a9 = some x9 ∧ w.cell? a10 = some x10 ∧ w.cell? a11 = some x11 ∧ w.cell? a12 = some x12 ∧ w.cell? a13 = some x13 ∧ w.cell? a14 = some x14 ∧ w.cell? a15 = some x15 ∧ w.cell? a16 = some x16 ∧ w.cell? a17 = some x17 ∧ w.cell? a18 = some x18 ∧ w.cell? a19 = some x19 ∧ w.cell? a20 = some x20 ∧ w.cell? a21 = some x21 ∧ w.cell? a22 = some x22 ∧ w.cell? a23 = some x23 ∧ w.cell? a24 = some x24 ∧ w.cell? a25 = some x25 ∧ Kept W w) (k : Kept w w') : w'.cell? a0 = some x0 ∧ w'.cell? a1 = some x1 ∧ w'.cell? a2 = some x2 ∧ w'.cell? a3 = some x3 ∧ w'.cell? a4 = some x4 ∧ w'.cell? a5 = some x5 ∧ w'.cell? a6 = some x6 ∧ w'.cell? a7 = some x7 ∧ w'.cell? a8 = some x8 ∧ w'.cell? a9 = some x9 ∧ w'.cell? a10 = some x10 ∧ w'.cell? a11 = some x11 ∧ w'.cell? a12 = some x12 ∧ w'.cell? a13 = some x13 ∧ w'.cell? a14 = some x14 ∧ w'.cell? a15 = some x15 ∧ w'.cell? a16 = some x16 ∧ w'.cell? a17 = some x17 ∧ w'.cell? a18 = some x18 ∧ w'.cell? a19 = some x19 ∧ w'.cell? a20 = some x20 ∧ w'.cell? a21 = some x21 ∧ w'.cell? a22 = some x22 ∧ w'.cell? a23 = some x23 ∧ w'.cell? a24 = some x24 ∧ w'.cell? a25 = some x25 ∧ Kept W w' := by
  obtain ⟨g0, g1, g2, g3, g4, g5, g6, g7, g8, g9, g10, g11, g12, g13, g14, g15, g16, g17, g18, g19, g20, g21, g22, g23, g24, g25, hk⟩ := h
  have := hk.size_le
  exact ⟨(k.cell (by omega)).trans g0, (k.cell (by omega)).trans g1, (k.cell (by omega)).trans g2, (k.cell (by omega)).trans g3, (k.cell (by omega)).trans g4, (k.cell (by omega)).trans g5, (k.cell (by omega)).trans g6, (k.cell (by omega)).trans g7, (k.cell (by omega)).trans g8, (k.cell (by omega)).trans g9, (k.cell (by omega)).trans g10, (k.cell (by omega)).trans g11, (k.cell (by omega)).trans g12, (k.cell (by omega)).trans g13, (k.cell (by omega)).trans g14, (k.cell (by omega)).trans g15, (k.cell (by omega)).trans g16, (k.cell (by omega)).trans g17, (k.cell (by omega)).trans g18, (k.cell (by omega)).trans g19, (k.cell (by omega)).trans g20, (k.cell (by omega)).trans g21, (k.cell (by omega)).trans g22, (k.cell (by omega)).trans g23, (k.cell (by omega)).trans g24, (k.cell (by omega)).trans g25, hk.trans k⟩
end

end Go.Proofs.Ytacdiicnfoejoaa
