/-
  The contracts of the library's IndexFunc and ContainsFunc at checkpoints.
-/
import Derived.Test.YthaofomhlmajbaaGreatCkRow
import Derived.Test.YthaofomhlmajbaaGreatFfgOpen
import Derived.Test.YthaofomhlmajbaaGreatFfgEq
namespace Go.Proofs.YthaofomhlmajbaaGreat
set_option maxRecDepth 100000
set_option linter.unusedVariables false
set_option linter.unusedSimpArgs false
set_option linter.unusedSimpArgs false
set_option linter.unusedVariables false
open Go.ChangeShapes Go.WideShapes Go.ChangeAt Go.RowKit

/-- Function f, bound to cb, tells of each checkpoint what q does, in each world that R tells of. -/
def FitsK (f : Nat) (cb : Array Value) (q : Ck → Bool) (R : World → Prop) : Prop := ∀ W, R W → ∀ x, WfK x → Calls Tryz.prog f (#[.agg #[.int .i64 x.e, .int .u64 x.r.1, .int .u64 x.r.2]] ++ cb) W fun e w' => e = .returned (.bool (q x)) ∧ Kept W w'
def idxK (q : Ck → Bool) (l : List Ck) : Int := if l.findIdx q < l.length then (l.findIdx q : Int) else -1
theorem idxK_hit {q : Ck → Bool} {l : List Ck} {j : Nat} (hj : j < l.length) (h : ∀ i (hi : i < l.length), i < j → q l[i] = false) (h2 : q l[j] = true) : idxK q l = j := by
  have e : l.findIdx q = j := (List.findIdx_eq hj).2 ⟨h2, fun i hi => h i (by omega) hi⟩
  unfold idxK
  rw [e, if_pos hj]
theorem idxK_none {q : Ck → Bool} {l : List Ck} (h : ∀ i (hi : i < l.length), q l[i] = false) : idxK q l = -1 := by
  have e : l.findIdx q = l.length := List.findIdx_eq_length.2 fun x hx => by
    obtain ⟨i, hi, rfl⟩ := List.getElem_of_mem hx
    exact h i hi
  unfold idxK
  rw [e, if_neg (by omega)]
theorem idxK_any (q : Ck → Bool) (l : List Ck) : decide (0 ≤ idxK q l) = l.any q := by
  unfold idxK
  by_cases h : l.findIdx q < l.length
  · rw [if_pos h]
    have := List.findIdx_getElem (w := h)
    rw [List.any_eq_true.2 ⟨_, List.getElem_mem h, this⟩]
    simp
  · rw [if_neg h]
    have : l.any q = false := by
      rw [Bool.eq_false_iff]
      intro a
      obtain ⟨x, hx, hq⟩ := List.any_eq_true.1 a
      exact h (List.findIdx_lt_length_of_exists ⟨x, hx, hq⟩)
    rw [this]; rfl

set_option maxRecDepth 100000 in
set_option maxHeartbeats 3200000 in
theorem indexK_any (A : Option Addr) (c : Nat) (l : List Ck) (hl : l.length ≤ 1000000) (hwf : ∀ x ∈ l, WfK x) (f : Nat) (cb : Array Value) (q : Ck → Bool) (R : World → Prop) (hR : ∀ W W', R W → Kept W W' → R W') (hF : FitsK f cb q R) (w : World) (hw : R w) (hA : CellsAt w w.heap.size A (cksCells l))
    (eg : ∀ args w, (callFunc f args).run Tryz.prog w = .ok (.enter f args) w) :
    Calls Tryz.prog 39 #[.slice A l.length c, .func (.func f) #[] cb] w fun e w' => e = .returned (.int .i64 (idxK q l)) ∧ Kept w w' := by
  have HA := Lib.hid hA
  have HWf := Lib.hid hwf
  have HF := Lib.hid (fun w' (k : Kept w w') x hx => hF w' (hR w w' hw k) x hx)
  have HI := Lib.hid (fun j (hj : j < l.length) h h2 => idxK_hit (q := q) hj h h2)
  have HN := Lib.hid (fun h => idxK_none (q := q) (l := l) h)
  clear hA hwf hF hR hw
  generalize idxK q l = res at *
  go_enter Tryz.func39, Tryz.ntmps39
  go_wp2_with fail
  go_loopw [8] (fun i wr => ∃ j : Nat, j ≤ l.length ∧ i = .int .i64 j ∧ Hid (∀ i (hi : i < l.length), i < j → q l[i] = false) ∧ Kept w wr) (fun i _ => l.length - (intOf i).toNat)
  case atStart => exact ⟨0, Nat.zero_le _, rfl, Lib.hid (fun i _ h => by omega), Kept.refl _⟩
  case round =>
    obtain ⟨j, hj, rfl, hh, hK⟩ := hrel
    have HK := Lib.hid hK
    clear hK
    by_cases hlt : j < l.length
    · obtain ⟨zc, oc, rfl, hbc, x0, x1, x2⟩ := ck_at (HA.out.keep fun p hp => HK.out.cell hp) hlt
      have HX := Lib.hid (HWf.out _ (List.getElem_mem hlt))
      have HIj := Lib.hid (HI.out j hlt hh.out)
      have HNj := Lib.hid (fun (h2 : q l[j] = false) i (hi : i < l.length) (h : i < j + 1) => show q l[i] = false from by
        by_cases e : i = j
        · subst e; exact h2
        · exact hh.out i hi (by omega))
      generalize l[j] = x at *
      go_wp2_with fail
      clear x0 x1 x2
      refine (HF.out wr HK.out x HX.out).mono ?_
      rintro e W1 ⟨rfl, k1⟩
      have HK1 := Lib.hid (HK.out.trans k1)
      clear k1
      cases hq : q x with
      | true =>
        have HE := Lib.hid (HIj.out hq)
        clear hq HIj HNj
        go_wp2_with fail
        go_ret
        exact ⟨by rw [HE.out]; rfl, HK1.out⟩
      | false =>
        have HE := Lib.hid (HNj.out hq)
        clear hq HIj HNj
        go_wp2_with fail
        go_roundw
        case rel => exact ⟨j + 1, by omega, by go_num, HE, HK1.out⟩
        case measure => simp [intOf]; omega
    · have hjx : j = l.length := by omega
      subst hjx
      have HE := Lib.hid (HN.out (fun i hi => hh.out i hi hi))
      go_wp2_with fail
      go_ret
      exact ⟨by rw [HE.out]; rfl, HK.out⟩
set_option maxRecDepth 100000 in
set_option maxHeartbeats 3200000 in
theorem containsK_any (A : Option Addr) (c : Nat) (l : List Ck) (hl : l.length ≤ 1000000) (hwf : ∀ x ∈ l, WfK x) (f : Nat) (cb : Array Value) (q : Ck → Bool) (R : World → Prop) (hR : ∀ W W', R W → Kept W W' → R W') (hF : FitsK f cb q R) (w : World) (hw : R w) (hA : CellsAt w w.heap.size A (cksCells l))
    (eg : ∀ args w, (callFunc f args).run Tryz.prog w = .ok (.enter f args) w) :
    Calls Tryz.prog 40 #[.slice A l.length c, .func (.func f) #[] cb] w fun e w' => e = .returned (.bool (l.any q)) ∧ Kept w w' := by
  have H := Lib.hid (indexK_any A c l hl hwf f cb q R hR hF w hw hA eg)
  have HQ := Lib.hid (idxK_any q l)
  clear hwf hF hR hw hA
  generalize l.any q = res at *
  generalize idxK q l = i at *
  go_enter Tryz.func40, Tryz.ntmps40
  go_wp2_with fail
  refine H.out.mono ?_
  rintro e W1 ⟨rfl, k1⟩
  have K1 := Lib.hid k1
  clear k1
  by_cases h0 : 0 ≤ i
  · have HE := Lib.hid (show res = true by rw [← HQ.out]; exact decide_eq_true h0)
    go_wp2_with fail
    go_ret
    exact ⟨by rw [HE.out]; first | rfl | (simp; done) | (simp [h0]; done), K1.out⟩
  · have HE := Lib.hid (show res = false by rw [← HQ.out]; exact decide_eq_false h0)
    go_wp2_with fail
    go_ret
    exact ⟨by rw [HE.out]; first | rfl | (simp; done) | (simp [h0]; done), K1.out⟩

end Go.Proofs.YthaofomhlmajbaaGreat
