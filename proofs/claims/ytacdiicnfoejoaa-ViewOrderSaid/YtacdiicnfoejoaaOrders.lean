/-
  A region that draws its order: an invariant over what has come up, each operation shown once, whatever came up ahead.
-/
import Derived.Deep.RegionHeld3
import Derived.Test.YtacdiicnfoejoaaGround
namespace Go.Proofs.Ytacdiicnfoejoaa
set_option maxRecDepth 100000
set_option linter.unusedVariables false
set_option linter.unusedSimpArgs false
open Go.ChangeShapes Go.WideShapes Go.ChangeAt Go.RowKit

/-- i has come up, too. -/
def up (L : Nat → Bool) (i : Nat) : Nat → Bool := fun j => if j = i then true else L j
/-- What a slot holds: v, if i has come up. -/
def lz (L : Nat → Bool) (i : Nat) (v : Value) : Value := if L i = true then v else undef
theorem lz_yes {L : Nat → Bool} {i : Nat} (h : L i = true) (v : Value) : lz L i v = v := by unfold lz; rw [if_pos h]
theorem lz_no {L : Nat → Bool} {i : Nat} (h : L i = false) (v : Value) : lz L i v = undef := by unfold lz; rw [h]; rfl
theorem lz_up (L : Nat → Bool) (i : Nat) (v : Value) : lz (up L i) i v = v := by simp [lz, up]
theorem lz_far (L : Nat → Bool) {i j : Nat} (h : j ≠ i) (v : Value) : lz (up L i) j v = lz L j v := by simp [lz, up, h]
theorem up_same (L : Nat → Bool) (i : Nat) : up L i i = true := by simp [up]
theorem up_far (L : Nat → Bool) {i j : Nat} (h : j ≠ i) : up L i j = L j := by simp [up, h]
section
variable {P : Program} {ops : Array Oper} {Q : Exit → Act → World → Prop}
/-- One operation's step. -/
def StepI (P : Program) (ops : Array Oper) (Q : Exit → Act → World → Prop) (I : (Nat → Bool) → Act → World → Prop) (i : Nat) (o : Oper) : Prop :=
  ∀ (L : Nat → Bool) (a : Act) (w : World), L i = false → (∀ (j : Nat) (oj : Oper), ops[j]? = some oj → L j = true → ∀ e ∈ oj.after, Region.binds .any e = true → L e.on = true) → (∀ e ∈ o.after, Region.binds .any e = true → L e.on = true) → I L a w → ∀ K : Act → World → Prop, Shut (∀ a' w', I (up L i) a' w' → K a' w') →
    if Region.wanted o (yielded ops a.tmps) = true then Oper.wp P o a w K Q else K (a.put o.dst undef) w
def StepsI (P : Program) (ops : Array Oper) (Q : Exit → Act → World → Prop) (I : (Nat → Bool) → Act → World → Prop) : Nat → List Oper → Prop
  | _, [] => True
  | n, o :: l => StepI P ops Q I n o ∧ StepsI P ops Q I (n + 1) l
theorem StepsI.get {I : (Nat → Bool) → Act → World → Prop} : ∀ {n : Nat} {l : List Oper}, StepsI P ops Q I n l → ∀ {i : Nat} {o : Oper}, l[i]? = some o → StepI P ops Q I (n + i) o
  | _, [], _, _, _, h => by simp at h
  | n, o :: l, h, 0, _, e => by
    injection e with e
    subst e
    exact h.1
  | n, o :: l, h, i + 1, x, e => by
    have := h.2.get (i := i) (o := x) (by simpa using e)
    rwa [show n + (i + 1) = n + 1 + i by omega]
/-- How many have not come up. -/
def restI (listed : Array Bool) : Nat → Nat
  | 0 => 0
  | n + 1 => restI listed n + if listed.getD n false = true then 0 else 1
theorem rest_set {listed : Array Bool} {i : Nat} (hi : i < listed.size) (h : listed.getD i false = false) : ∀ n, restI (listed.setIfInBounds i true) n + (if i < n then 1 else 0) = restI listed n
  | 0 => by simp [restI]
  | n + 1 => by
    have ih := rest_set hi h n
    unfold restI
    by_cases e : n = i
    · subst e
      have h1 : (listed.setIfInBounds n true).getD n false = true := by simp [hi]
      rw [h1, h, if_pos rfl]
      rw [if_neg (Nat.lt_irrefl n)] at ih
      simp
      omega
    · have h1 : (listed.setIfInBounds i true).getD n false = listed.getD n false := by
        simp [Array.getElem?_setIfInBounds, Ne.symm e]
      rw [h1]
      by_cases q : i < n
      · rw [if_pos q] at ih
        rw [if_pos (show i < n + 1 by omega)]
        omega
      · rw [if_neg q] at ih
        rw [if_neg (show ¬ i < n + 1 by omega)]
        omega
theorem rest_zero {listed : Array Bool} : ∀ {n : Nat}, restI listed n = 0 → ∀ i, i < n → listed.getD i false = true
  | 0, _, i, h => by omega
  | n + 1, h, i, hi => by
    unfold restI at h
    by_cases e : i = n
    · subst e
      cases q : listed.getD i false with
      | true => rfl
      | false => rw [q] at h; simp at h
    · exact rest_zero (n := n) (by omega) i (by omega)
theorem getD_default {listed : Array Bool} {i : Nat} (h : i < listed.size) (b c : Bool) : listed.getD i b = listed.getD i c := by simp [Array.getD, h]
/-- In a text whose operations wait for earlier ones alone, some may come up as long as one has not. -/
def forth (ops : Array Oper) : Bool := (List.range ops.size).all fun i => ((ops[i]?).map fun o => o.after.all fun e => !Region.binds .any e || decide (e.on < i)).getD true
theorem ready_nil {listed : Array Bool} (hz : listed.size = ops.size) (hf : forth ops = true) (hr : Region.ready .any ops listed = []) : ∀ i, i < ops.size → listed.getD i false = true := by
  intro i
  induction i using Nat.strongRecOn with
  | ind i ih =>
    intro hi
    cases q : listed.getD i false with
    | true => rfl
    | false =>
      have hm : i ∈ Region.ready .any ops listed := by
        refine mem_ready.2 ⟨by rw [getD_default (by omega) true false]; exact q, ops[i], Array.getElem?_eq_getElem hi, fun e he hb => ?_⟩
        have hlt : e.on < i := by
          unfold forth at hf
          rw [List.all_eq_true] at hf
          have := hf i (List.mem_range.2 hi)
          rw [Array.getElem?_eq_getElem hi] at this
          simp only [Option.map_some, Option.getD_some, Array.all_eq_true_iff_forall_mem] at this
          have := this e he
          rw [hb] at this
          simpa using this
        exact ih e.on hlt (by omega)
      rw [hr] at hm
      cases hm
theorem wpAny_inv {I : (Nat → Bool) → Act → World → Prop} (hf : forth ops = true) (hs : StepsI P ops Q I 0 ops.toList) (he : ∀ L a w, (∀ i, i < ops.size → L i = true) → I L a w → Q .normal a w) :
    ∀ (fuel : Nat) (listed : Array Bool) (a : Act) (w : World), listed.size = ops.size → (∀ (j : Nat) (oj : Oper), ops[j]? = some oj → listed.getD j false = true → ∀ e ∈ oj.after, Region.binds .any e = true → listed.getD e.on false = true) → restI listed ops.size ≤ fuel → I (fun j => listed.getD j false) a w → wpAny P .any ops Q fuel listed a w
  | 0, listed, a, w, hz, _, hc, hI => by
    have hall := rest_zero (n := ops.size) (by omega : restI listed ops.size = 0)
    refine ⟨List.eq_nil_iff_forall_not_mem.2 fun i hi => ?_, he _ a w hall hI⟩
    obtain ⟨h1, o, ho, _⟩ := mem_ready.1 hi
    have hlt : i < ops.size := (Array.getElem?_eq_some_iff.1 ho).1
    rw [getD_default (by omega) true false, hall i hlt] at h1
    cases h1
  | fuel + 1, listed, a, w, hz, hcl, hc, hI => by
    refine ⟨fun hr => he _ a w (ready_nil hz hf hr) hI, fun i hi => ?_⟩
    obtain ⟨h1, o, ho, hd⟩ := mem_ready.1 hi
    have hlt : i < ops.size := (Array.getElem?_eq_some_iff.1 ho).1
    have hli : listed.getD i false = false := by rw [← getD_default (by omega) true false]; exact h1
    have hst := hs.get (i := i) (o := o) (by rw [Array.getElem?_toList]; exact ho)
    rw [Nat.zero_add] at hst
    refine wpOp_step ho fun K hK => hst _ a w hli hcl hd hI K fun a' w' h => hK a' w' ?_
    refine wpAny_inv hf hs he fuel _ a' w' (by simp [hz]) (fun j oj hj hl e he2 hb => ?_) ?_ ?_
    · have hset : ∀ m, (listed.setIfInBounds i true).getD m false = if m = i then true else listed.getD m false := fun m => by
        by_cases q : m = i
        · subst q; simp [show m < listed.size by omega]
        · rw [if_neg q]; simp [Array.getElem?_setIfInBounds, Ne.symm q]
      rw [hset] at hl ⊢
      by_cases q : e.on = i
      · rw [if_pos q]
      · rw [if_neg q]
        by_cases q2 : j = i
        · subst q2
          rw [ho] at hj
          injection hj with hj
          subst hj
          exact hd e he2 hb
        · rw [if_neg q2] at hl
          exact hcl j oj hj hl e he2 hb
    · have := rest_set (by omega : i < listed.size) hli ops.size
      rw [if_pos hlt] at this
      omega
    · have e : (fun j => (listed.setIfInBounds i true).getD j false) = up (fun j => listed.getD j false) i := by
        funext j
        unfold up
        by_cases q : j = i
        · subst q
          rw [if_pos rfl]
          simp [show j < listed.size by omega]
        · rw [if_neg q]
          simp [Array.getElem?_setIfInBounds, Ne.symm q]
      rw [e]
      exact h
theorem wp_region_inv {I : (Nat → Bool) → Act → World → Prop} {id : Nat} {a : Act} {w : World} (hm : P.follows .mixedOrders = true) (hf : forth ops = true) (h0 : I (fun _ => false) a w.drew)
    (hs : StepsI P ops Q I 0 ops.toList) (he : ∀ L a w, (∀ i, i < ops.size → L i = true) → I L a w → Q .normal a w) : (Code.region id ops true).wp P Q a w := by
  refine wp_region_any hm (wpAny_inv hf hs he _ _ a w.drew (by simp) (fun j oj _ hl => ?_) ?_ ?_)
  · exfalso
    simp [Array.getD] at hl
  · suffices H : ∀ n, restI (Array.replicate ops.size false) n ≤ n from H _
    intro n
    induction n with
    | zero => exact Nat.le_refl _
    | succ n ih => unfold restI; split <;> omega
  · have e : (fun j => (Array.replicate ops.size false).getD j false) = fun _ => false := by
      funext j
      simp [Array.getD]
    rw [e]
    exact h0
end

end Go.Proofs.Ytacdiicnfoejoaa
