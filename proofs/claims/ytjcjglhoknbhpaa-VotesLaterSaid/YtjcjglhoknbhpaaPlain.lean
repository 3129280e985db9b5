/-
  Cells at plain addresses, types' descriptions, and the first k of a list.
-/
import Derived.Test.YtjcjglhoknbhpaaRow
import Derived.WalkArith
namespace Go.Proofs.Ytjcjglhoknbhpaa
open Go.ChangeShapes Go.WideShapes Go.ChangeAt Go.RowKit

theorem add_none (z o j : Nat) : (⟨z, o, none⟩ : Addr).add j = ⟨z, o + j, none⟩ := by
  unfold Addr.add
  split
  · rename_i h; subst h; rfl
  · rfl
/-- An address that reads is a plain one. -/
theorem plain_of {w : World} {ad : Addr} {u : Value} (h : w.cell? (ad.add 0) = some u) : ∃ B o, ad = ⟨B, o, none⟩ := by
  obtain ⟨B, o, s⟩ := ad
  cases s with
  | none => exact ⟨B, o, rfl⟩
  | some s =>
    have e : (⟨B, o, some s⟩ : Addr).add 0 = ⟨B, o, some s⟩ := rfl
    rw [e] at h
    unfold World.cell? at h
    split at h <;> simp at h
theorem CellsAt.plain {w : World} {B : Nat} {A : Option Addr} {xs : List Value} (h : CellsAt w B A xs) (hn : 0 < xs.length) : ∃ z o, A = some ⟨z, o, none⟩ ∧ z < B ∧ ∀ j u, xs[j]? = some u → w.cell? ⟨z, o + j, none⟩ = some u := by
  obtain ⟨ad, e, hb, hc⟩ := h.some_of hn
  obtain ⟨z, o, rfl⟩ := plain_of (hc 0 _ (List.getElem?_eq_getElem hn))
  exact ⟨z, o, e, hb, fun j u hu => by rw [← add_none]; exact hc j u hu⟩
theorem Try.someTypes : ∃ m, Try.prog.types.size = m + 1 := ⟨Try.prog.types.size - 1, (Nat.succ_pred (Nat.pos_iff_ne_zero.1 (of_decide_eq_true (by kernel_rfl)))).symm⟩
theorem wf_u64 {a : Nat} (h : a < 18446744073709551616) : (Lit.int .u64 (a : Int)).wf = true := Go.WalkArith.wf_u64 ⟨by omega, by omega⟩
theorem info_of {P : Program} {t : TypeId} {z : Value} {s b : Nat} (h : (P.info? t).map (fun i => (i.zero, i.size, i.bytes)) = some (some z, s, b)) : ∃ i, P.info? t = some i ∧ i.zero = some z ∧ i.size = s ∧ i.bytes = b := by
  cases hq : P.info? t with
  | none => simp [hq] at h
  | some i => simp [hq] at h; exact ⟨i, rfl, h.1, h.2.1, h.2.2⟩
theorem map_add0 (s : Nat) (A : Option Addr) : A.map (fun x => x.add (0 * s)) = A := by
  cases A with
  | none => rfl
  | some a => simp [Addr.add]
theorem run_upto (t e : TypeId) (i : TypeInfo) (ht : Try.prog.underlying t = some (.slice e)) (hi : Try.prog.info? e = some i) (A : Option Addr) (n c k : Nat) (hk : k ≤ c) (w : World) :
    (Instr.slice t (.slice A n c) none (some (.int .i64 (k : Int))) none).run Try.prog w = .ok (.slice A k c) w := by
  have hb : ∀ code, (Instr.sliceBound (.int .i64 (k : Int)) c code).run Try.prog w = .ok k w := fun code => by
    rw [run_sliceBound _ _ _ _ _ (by omega) (by omega)]; simp
  have hz : A.map (fun x => x.add 0) = A := by have := map_add0 0 A; simpa using this
  simp [Instr.slice, run_underlying ht, Instr.sliceBounds, hb, sizeOf, typeInfo, hi, Result.andThen, hz]
theorem cells_prefix {w : World} {B : Nat} {A : Option Addr} {xs ys : List Value} (h : CellsAt w B A (xs ++ ys)) : CellsAt w B A xs := fun j u hu => h j u (by rw [List.getElem?_append_left (List.getElem?_eq_some_iff.1 hu).1]; exact hu)
/-- What lies from place k on. -/
theorem run_from (t e : TypeId) (i : TypeInfo) (ht : Try.prog.underlying t = some (.slice e)) (hi : Try.prog.info? e = some i) (A : Option Addr) (n c k : Nat) (hk : k ≤ n) (w : World) :
    (Instr.slice t (.slice A n c) (some (.int .i64 (k : Int))) none none).run Try.prog w = .ok (.slice (if c = k then A else A.map (fun x => x.add (k * i.size))) (n - k) (c - k)) w := by
  have hb : ∀ code, (Instr.sliceBound (.int .i64 (k : Int)) n code).run Try.prog w = .ok k w := fun code => by
    rw [run_sliceBound _ _ _ _ _ (by omega) (by omega)]; simp
  simp [Instr.slice, run_underlying ht, Instr.sliceBounds, hb, sizeOf, typeInfo, hi, Result.andThen]
theorem cells_from {w : World} {B : Nat} {A : Option Addr} {xs ys : List Value} (h : CellsAt w B A (xs ++ ys)) : CellsAt w B (A.map (fun x => x.add xs.length)) ys := fun j u hu => by
  have hj := (List.getElem?_eq_some_iff.1 hu).1
  obtain ⟨z, o, rfl, hz, hc⟩ := h.plain (by rw [List.length_append]; omega)
  refine ⟨_, rfl, by rw [block_add]; exact hz, ?_⟩
  show w.cell? (((⟨z, o, none⟩ : Addr).add xs.length).add j) = some u
  rw [add_none, add_none, Nat.add_assoc]
  exact hc _ _ (by rw [List.getElem?_append_right (by omega), Nat.add_sub_cancel_left]; exact hu)

end Go.Proofs.Ytjcjglhoknbhpaa
