/-
  A region that draws its order and ends in a store into a cell that it loads: a condition on the world is held until a given operation has come up, and not behind it.
-/
import Derived.Deep.RegionHeld3
import Derived.StillTail
import Derived.Test.YtacdiicnfoejoaaGround
namespace Go.Proofs.Ytacdiicnfoejoaa
set_option maxRecDepth 100000
set_option linter.unusedVariables false
set_option linter.unusedSimpArgs false
open Go.ChangeShapes Go.WideShapes Go.ChangeAt Go.RowKit

section
variable {P : Program} {ops : Array Oper} {Q : Exit → Act → World → Prop} {md : Region.Mode} {S : World → Prop} {t : Nat}

/-- S holds as long as number t has not come up. -/
def LiveU (t : Nat) (S : World → Prop) (listed : Array Bool) (w : World) : Prop := listed.getD t true = false → S w
def wpAnyU (P : Program) (md : Region.Mode) (ops : Array Oper) (Q : Exit → Act → World → Prop) (t : Nat) (S : World → Prop) : Nat → Array Bool → Act → World → Prop
  | 0, listed, a, w => Region.ready md ops listed = [] ∧ Q .normal a w
  | fuel + 1, listed, a, w =>
    (Region.ready md ops listed = [] → Q .normal a w) ∧
    ∀ i ∈ Region.ready md ops listed, wpOp P ops Q i (fun a' w' => LiveU t S (listed.setIfInBounds i true) w' ∧ wpAnyU P md ops Q t S fuel (listed.setIfInBounds i true) a' w') a w
theorem wpAny_of_until : ∀ (fuel : Nat) (listed : Array Bool) (a : Act) (w : World), wpAnyU P md ops Q t S fuel listed a w → wpAny P md ops Q fuel listed a w
  | 0, _, _, _, h => h
  | fuel + 1, _, _, _, h => ⟨h.1, fun i hi => wpOp_mono (fun a' w' h' => wpAny_of_until fuel _ a' w' h'.2) (h.2 i hi)⟩

/-- What has come up waited for what has come up. -/
def ClosedU (md : Region.Mode) (ops : Array Oper) (listed : Array Bool) : Prop :=
  listed.size = ops.size ∧ ∀ (j : Nat) (oj : Oper), ops[j]? = some oj → listed.getD j false = true → ∀ e ∈ oj.after, Region.binds md e = true → listed.getD e.on false = true
theorem ClosedU.set {i : Nat} {listed : Array Bool} (h : ClosedU md ops listed) (hi : i ∈ Region.ready md ops listed) : ClosedU md ops (listed.setIfInBounds i true) := by
  obtain ⟨_, oi, hoi, hall⟩ := mem_ready.1 hi
  refine ⟨by simp [h.1], fun j oj hj hl e he hb => ?_⟩
  by_cases hij : i = j
  · subst hij
    have : oj = oi := Option.some.inj (hj.symm.trans hoi)
    subst this
    exact getD_set_true (hall e he hb)
  · rw [getD_set_ne false hij] at hl
    exact getD_set_true (h.2 j oj hj hl e he hb)
def closedU (md : Region.Mode) (ops : Array Oper) (listed : Array Bool) : Bool :=
  decide (listed.size = ops.size) && (List.range ops.size).all fun j => match ops[j]? with
    | some oj => !(listed.getD j false) || oj.after.all fun e => !(Region.binds md e) || listed.getD e.on false
    | none => true
theorem closedU_spec {listed : Array Bool} (h : closedU md ops listed = true) : ClosedU md ops listed := by
  unfold closedU at h
  rw [Bool.and_eq_true, decide_eq_true_iff, List.all_eq_true] at h
  refine ⟨h.1, fun j oj hj hl e he hb => ?_⟩
  have hlt : j < ops.size := (Array.getElem?_eq_some_iff.1 hj).1
  have h1 := h.2 j (List.mem_range.2 hlt)
  rw [hj] at h1
  simp only at h1
  rw [hl, Bool.not_true, Bool.false_or, Array.all_eq_true_iff_forall_mem] at h1
  have h2 := h1 e he
  rw [hb, Bool.not_true, Bool.false_or] at h2
  exact h2
/-- j waits for i, over others. -/
def waitsU (md : Region.Mode) (ops : Array Oper) (i : Nat) : Nat → Nat → Bool
  | 0, _ => false
  | n + 1, j => match ops[j]? with
    | some oj => oj.after.any fun e => Region.binds md e && (e.on == i || waitsU md ops i n e.on)
    | none => false
theorem waitsU_spec {i : Nat} {listed : Array Bool} (hc : ClosedU md ops listed) (hi : listed.getD i false = false) : ∀ (n j : Nat), waitsU md ops i n j = true → listed.getD j false = false
  | 0, j, h => by cases h
  | n + 1, j, h => by
    unfold waitsU at h
    split at h
    · rename_i oj hj
      obtain ⟨e, he, hb⟩ := Array.any_eq_true'.1 h
      rw [Bool.and_eq_true, Bool.or_eq_true] at hb
      cases hl : listed.getD j false with
      | false => rfl
      | true =>
        have h2 := hc.2 j oj hj hl e he hb.1
        rcases hb.2 with h3 | h3
        · have : e.on = i := by simpa using h3
          rw [this, hi] at h2
          cases h2
        · rw [waitsU_spec hc hi n e.on h3] at h2
          cases h2
    · cases h

theorem wpAnyU_first {i n : Nat} {oi : Oper} {v : Value} (hi : ops[i]? = some oi) (hsel : ∀ (j : Nat) (o : Oper) cs b, ops[j]? = some o → o.op ≠ .select cs b)
    (hQ : ∀ c a w, Q (.panic c) (a.put oi.dst v) w → Q (.panic c) a w) (ht : t < ops.size) (hw : waitsU md ops i n t = true) :
    ∀ (fuel : Nat) (listed : Array Bool) (a : Act) (w : World), ClosedU md ops listed →
      (∀ j oj, ops[j]? = some oj → j ≠ i → listed.getD j true = false → (∀ e ∈ oj.after, Region.binds md e = true → e.on ≠ i) → oi.apart ops oj = true) →
      i ∈ Region.ready md ops listed → YieldsIf P ops S oi v a → LiveU t S listed w →
      wpAnyU P md ops Q t S fuel (listed.setIfInBounds i true) (a.put oi.dst v) w → wpAnyU P md ops Q t S (fuel + 1) listed a w := by
  intro fuel
  have hlive : ∀ {listed : Array Bool}, ClosedU md ops listed → i ∈ Region.ready md ops listed → listed.getD t true = false := fun {listed} hc hr => by
    have h0 := (mem_ready.1 hr).1
    have h1 := waitsU_spec hc (getD_both h0) n t hw
    exact getD_in (by rw [hc.1]; exact ht) h1
  induction fuel with
  | zero =>
    intro listed a w hc _ hr hy hS H
    refine ⟨fun h => (by rw [h] at hr; cases hr), fun j hj => ?_⟩
    by_cases hji : j = i
    · subst hji; exact hy.wpOp hi (hS (hlive hc hr)) ⟨fun _ => hS (hlive hc hr), H⟩
    · have := ready_mono hj hji
      rw [H.1] at this
      cases this
  | succ fuel ih =>
    intro listed a w hc hfree hr hy hS H
    refine ⟨fun h => (by rw [h] at hr; cases hr), fun j hj => ?_⟩
    by_cases hji : j = i
    · subst hji; exact hy.wpOp hi (hS (hlive hc hr)) ⟨fun _ => hS (hlive hc hr), H⟩
    · have h1 := H.2 j (ready_mono hj hji)
      obtain ⟨hjun, oj, hoj, hall⟩ := mem_ready.1 hj
      have hnot : ∀ e ∈ oj.after, Region.binds md e = true → e.on ≠ i := fun e he hb heq => by
        have h1 := hall e he hb
        have h0 := (mem_ready.1 hr).1
        rw [heq] at h1
        rcases Nat.lt_or_ge i listed.size with h' | h'
        · simp [h'] at h0 h1; rw [h0] at h1; cases h1
        · simp [Array.getElem?_eq_none h'] at h1
      have h2 := wpOp_putIf hoj (hfree j oj hoj hji hjun hnot) (fun cs b => hsel i oi cs b hi) (fun cs b => hsel j oj cs b hoj) hQ hy h1
      have hfree' : ∀ k ok, ops[k]? = some ok → k ≠ i → (listed.setIfInBounds j true).getD k true = false →
          (∀ e ∈ ok.after, Region.binds md e = true → e.on ≠ i) → oi.apart ops ok = true := fun k ok hk hki hun hno => by
        refine hfree k ok hk hki ?_ hno
        by_cases hjk : j = k
        · subst hjk; exact hjun
        · rw [getD_set_ne true hjk] at hun; exact hun
      have hti : i ≠ t := fun e => by
        have h0 := (mem_ready.1 hr).1
        have hr2 := hr
        rw [e] at hr2
        obtain ⟨_, ot, hot, hat⟩ := mem_ready.1 hr2
        obtain ⟨k, rfl⟩ : ∃ k, n = k + 1 := by
          cases n with
          | zero => cases hw
          | succ k => exact ⟨k, rfl⟩
        unfold waitsU at hw
        rw [hot] at hw
        obtain ⟨e', he', hb⟩ := Array.any_eq_true'.1 hw
        rw [Bool.and_eq_true, Bool.or_eq_true] at hb
        have h2 := hat e' he' hb.1
        rcases hb.2 with h3 | h3
        · have : e'.on = i := by simpa using h3
          rw [this, getD_both h0] at h2
          cases h2
        · rw [waitsU_spec hc (getD_both h0) k e'.on h3] at h2
          cases h2
      have hlS : ∀ w', LiveU t S ((listed.setIfInBounds i true).setIfInBounds j true) w' → LiveU t S (listed.setIfInBounds j true) w' := fun w' h hl => by
        refine h ?_
        rw [Array.setIfInBounds_comm _ _ (Ne.symm hji), getD_set_ne true hti]
        exact hl
      refine wpOp_mono (fun a' w' h3 => ⟨hlS w' h3.2.1, ih (listed.setIfInBounds j true) a' w' (hc.set hj) hfree' (ready_mono hr (Ne.symm hji)) h3.1 (hlS w' h3.2.1) ?_⟩) h2
      rw [Array.setIfInBounds_comm _ _ hji]
      exact h3.2.2

theorem wpAnyU_take (i : Nat) {oi : Oper} (v : Value) {fuel : Nat} {listed : Array Bool} {a : Act} {w : World} (hi : ops[i]? = some oi)
    (hs : Region.noSelect ops = true) (hf : Region.free md ops listed i = true) (hr : (Region.ready md ops listed).contains i = true)
    (ht : decide (t < ops.size) = true) (hw : waitsU md ops i ops.size t = true) (hc : closedU md ops listed = true)
    (hQ : ∀ c a w, Q (.panic c) (a.put oi.dst v) w → Q (.panic c) a w) (hy : YieldsIf P ops S oi v a) (hS : S w)
    (h : wpAnyU P md ops Q t S fuel (listed.setIfInBounds i true) (a.put oi.dst v) w) : wpAnyU P md ops Q t S (fuel + 1) listed a w :=
  wpAnyU_first hi (Region.noSelect_spec hs) hQ (of_decide_eq_true ht) hw fuel listed a w (closedU_spec hc) (Region.free_spec hi hf) (by simpa using hr) hy (fun _ => hS) h

/-- Just one may come up, and S holds behind it. -/
theorem wpAnyU_one (i : Nat) {o : Oper} {fuel : Nat} {listed : Array Bool} {a : Act} {w : World} (hr : Region.ready md ops listed = [i]) (ho : ops[i]? = some o)
    (h : ∀ K' : Act → World → Prop, Shut (∀ a w, S w → (S w → wpAnyU P md ops Q t S fuel (listed.setIfInBounds i true) a w) → K' a w) → if Region.wanted o (yielded ops a.tmps) = true then Oper.wp P o a w K' Q else K' (a.put o.dst undef) w) :
    wpAnyU P md ops Q t S (fuel + 1) listed a w := by
  refine ⟨fun h0 => (by rw [hr] at h0; cases h0), fun j hj => ?_⟩
  rw [hr] at hj
  obtain rfl : j = i := by simpa using hj
  exact wpOp_step ho (fun K' hK => h K' (fun a w hS hW => hK a w ⟨fun _ => hS, hW hS⟩))
/-- Just t may come up, the last one. -/
theorem wpAnyU_last {o : Oper} {fuel : Nat} {listed : Array Bool} {a : Act} {w : World} (hr : Region.ready md ops listed = [t]) (ho : ops[t]? = some o) (ht : decide (t < listed.size) = true)
    (hd : Region.ready md ops (listed.setIfInBounds t true) = [])
    (h : ∀ K' : Act → World → Prop, Shut (∀ a w, Q .normal a w → K' a w) → if Region.wanted o (yielded ops a.tmps) = true then Oper.wp P o a w K' Q else K' (a.put o.dst undef) w) :
    wpAnyU P md ops Q t S (fuel + 1) listed a w := by
  refine ⟨fun h0 => (by rw [hr] at h0; cases h0), fun j hj => ?_⟩
  rw [hr] at hj
  rw [show j = t by simpa using hj]
  refine wpOp_step ho (fun K' hK => h K' (fun a w hq => hK a w ⟨fun hl => ?_, ?_⟩))
  · have ht' : t < listed.size := of_decide_eq_true ht
    simp [ht'] at hl
  · cases fuel with
    | zero => exact ⟨hd, hq⟩
    | succ n => exact ⟨fun _ => hq, by rw [hd]; simp⟩
theorem wp_region_until (t : Nat) (S : World → Prop) {id : Nat} {a : Act} {w : World} (hm : P.follows .mixedOrders = true) (hS : S w.drew)
    (h : S w.drew → wpAnyU P .any ops Q t S ops.size (Array.replicate ops.size false) a w.drew) : (Code.region id ops true).wp P Q a w :=
  wp_region_any hm (wpAny_of_until _ _ _ _ (h hS))
end

end Go.Proofs.Ytacdiicnfoejoaa
