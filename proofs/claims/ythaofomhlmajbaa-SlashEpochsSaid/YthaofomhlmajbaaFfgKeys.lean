/-
  The contracts of the library's Keys, AppendSeq, Collect and SortedFunc at ffg's checkpoints, and of ffg's inOrder.
-/
import Derived.RangeFuncSeq
import Derived.RangeFuncGives
import Derived.OwnWalkIn
import Derived.TacticsInMore
import Derived.LoopNIn
import Derived.LoopIn
import Derived.Test.YthaofomhlmajbaaFfgThrough
import Derived.Test.YthaofomhlmajbaaFfgSizes
import Derived.Test.YthaofomhlmajbaaSeqBack
import Derived.Test.YthaofomhlmajbaaRangeF
namespace Go.Proofs.Ythaofomhlmajbaa
set_option maxRecDepth 100000
set_option linter.unusedVariables false
set_option linter.unusedSimpArgs false
set_option linter.unusedSimpArgs false
set_option linter.unusedVariables false
open Go.ChangeShapes Go.WideShapes Go.ChangeAt Go.RowKit Go.Shelf

attribute [local go_sem] Oper.semAt_some
theorem RangeF.of_walks {α β : Type} {K : KeyKind α} {V : ValKind β} {b r n : Nat} {f : α → β} {h t : α → Bool} {cnt : Nat} {w w' : World} (H : RangeF K V b r n f h t cnt w) (k : KeepsWalks w w') : RangeF K V b r n f h t cnt w' := by
  obtain ⟨D, left, hr, h2⟩ := H
  exact ⟨D, left, hr.of_walks k, h2⟩
theorem RangeF.left_eq {α β : Type} {K : KeyKind α} {V : ValKind β} {b r n : Nat} {f : α → β} {h t : α → Bool} {cnt : Nat} {w : World} (H : RangeF K V b r n f h t cnt w) : w.rangeLeft b r = cnt := by
  obtain ⟨D, left, hr, h2⟩ := H
  exact hr.left_eq
theorem RangeF.iter_walk {α β : Type} {K : KeyKind α} {V : ValKind β} {b r n : Nat} {f : α → β} {h t : α → Bool} {cnt : Nat} {w : World} (H : RangeF K V b r n f h t cnt w) : ∃ o : Obj, w.heap[r]? = some o ∧ o.isWalk = true := by
  obtain ⟨D, left, hr, h2⟩ := H
  obtain ⟨es, clock, since, seen, c0, h1, h3, h4, h5, h6, h7⟩ := hr
  exact ⟨_, h6, rfl⟩
/-- What has come of J. -/
def CameK (J ss : List Ck) (t : Ck → Bool) : Prop := ss.Nodup ∧ (∀ x ∈ ss, x ∈ J) ∧ ∀ x, WfK x → (x ∈ ss ↔ x ∈ J ∧ t x = false)
theorem CameK.start (J : List Ck) : CameK J [] (fun x => decide (x ∈ J)) := ⟨List.nodup_nil, fun x hx => (by cases hx), fun x _ => by simp⟩
theorem CameK.step {J ss : List Ck} {t : Ck → Bool} (h : CameK J ss t) {x : Ck} (hx : WfK x) (h1 : t x = true) (h2 : x ∈ J) : CameK J (ss ++ [x]) (offF t x) := by
  obtain ⟨c1, c2, c3⟩ := h
  have hn : x ∉ ss := fun q => by have := ((c3 x hx).1 q).2; rw [h1] at this; cases this
  refine ⟨List.nodup_append.2 ⟨c1, by simp, fun a ha b hb => ?_⟩, fun y hy => ?_, fun y hy => ?_⟩
  · rw [show b = x by simpa using hb]
    exact fun e => hn (e ▸ ha)
  · rcases List.mem_append.1 hy with q | q
    · exact c2 y q
    · rw [show y = x by simpa using q]; exact h2
  · rw [List.mem_append, c3 y hy]
    unfold offF
    by_cases e : y = x
    · subst e; simp [h2]
    · simp [e]
theorem CameK.done {J ss : List Ck} {t : Ck → Bool} (h : CameK J ss t) (hJ : ∀ x ∈ J, WfK x) (ht : ∀ x, WfK x → t x = false) (x : Ck) : x ∈ ss ↔ x ∈ J :=
  ⟨h.2.1 x, fun q => (h.2.2 x (hJ x q)).2 ⟨q, ht x (hJ x q)⟩⟩

set_option maxRecDepth 100000 in
set_option maxHeartbeats 3200000 in
theorem keys_any (b : Nat) (w : World) :
    Calls Try.prog 41 #[.map (some b)] w fun e w' => e = .returned (.func (.func 56) #[] #[.pointer (some ⟨w.heap.size, 0, none⟩)]) ∧ w' = w.alloc (.cells #[.map (some b)] 65) := by
  go_enter Try.func41, Try.ntmps41
  go_wp2
  go_ret
  exact ⟨rfl, rfl⟩
set_option maxRecDepth 100000 in
set_option maxHeartbeats 3200000 in
theorem keysK_in (n : Nat) (hn : 1 ≤ n) (l Bm b : Nat) (J : List Ck) (hwf : ∀ x ∈ J, WfK x) (I Ix : List Ck → World → Prop)
    (hY : ∀ pre x W, I pre W → pre.length < J.length → YieldAt Fence.wide (n - 1) Try.prog l #[.agg #[.int .i64 x.e, .int .u64 x.r.1, .int .u64 x.r.2]] W fun e W' => (e = .returned (.bool true) ∧ I (pre ++ [x]) W' ∧ KeepsWalks W W') ∨ (e = .returned (.bool false) ∧ Ix (pre ++ [x]) W'))
    (W : World) (hI : AbidesFrom W.heap.size I) (hm : W.cell? ⟨Bm, 0, none⟩ = some (.map (some b))) (hM : JustM b J W) (h0 : I [] W) :
    CallsIn Fence.wide n Try.prog 56 #[.func (.yield l) #[] #[], .pointer (some ⟨Bm, 0, none⟩)] W fun e W' => (∃ v, e = .returned v) ∧
      ((∃ ss, (ss.Nodup ∧ ∀ x, x ∈ ss ↔ x ∈ J) ∧ I ss W') ∨ (∃ pre, True ∧ Ix pre W')) := by
  refine callsIn_of_wp Try.func56 rfl trivial ?_ rfl
  simp only [Try.ntmps56, List.size_toArray, List.length_cons, List.length_nil, Nat.reduceAdd, Nat.reduceSub, Array.replicate_succ, Array.replicate_zero, List.push_toArray, List.append_toArray, List.nil_append, List.cons_append]
  have HI := Lib.hid hI
  have HWf := Lib.hid hwf
  have HM := Lib.hid hM
  have H0 := Lib.hid h0
  clear hI hwf hM h0
  gi_wp2_with (refine wpListIn_rangeF (K := ckKey) (V := unitV) _ rfl _ 65 rfl Try.underlying65 b J.length (fun _ => ()) (fun x => decide (x ∈ J)) rfl HM.out ?_; intro cnt w0 hcnt hR hg hs)
  go_frame
  gi_loopw [3] (fun _ wr => ∃ (t : Ck → Bool) (c : Nat) (ss : List Ck), RangeF ckKey unitV b W.heap.size J.length (fun _ => ()) (fun x => decide (x ∈ J)) t c wr ∧ ss.length + c ≤ J.length ∧ CameK J ss t ∧ I ss wr)
    (fun _ wr => wr.rangeLeft b W.heap.size)
  case atStart => exact ⟨_, cnt, [], hR, by simpa using hcnt, CameK.start J, HI.out [] W w0 none H0.out hg (fun r e => by cases e)⟩
  case round =>
    obtain ⟨t, c, ss, hrg, hcs, hC, hJs⟩ := hrel
    have HC := Lib.hid hC
    have HRg := Lib.hid hrg
    clear hC hR hg hs hcnt
    gi_wp2_with (refine wpListIn_nextF (K := ckKey) (V := unitV) _ rfl _ rfl (fun v kl h => ck_inv h) b W.heap.size J.length (fun _ => ()) (fun x => decide (x ∈ J)) t c rfl hrg (fun h0 hl => ?_) (fun x w2 c2 hx ht hh hR2 hlt hg2 hs2 hen => ?_); rotate_left; (have hkx : ckKey.key x = .agg #[.int .i64 x.e, .int .u64 x.r.1, .int .u64 x.r.2] := rfl); (have hkv : unitV.enc () = .agg #[] := rfl); rw [hkx, hkv] at hen ⊢; clear hkx hkv; rotate_left)
    · have HD := Lib.hid (fun x => HC.out.done HWf.out hl x)
      have HNd := Lib.hid HC.out.1
      clear HC hl hrg
      gi_wp2
      go_end0
      exact ⟨⟨_, rfl⟩, .inl ⟨ss, ⟨HNd.out, HD.out⟩, hJs⟩⟩
    · have hJ2 : I ss (w2.alloc (.cells #[.int .i64 x.e, .int .u64 x.r.1, .int .u64 x.r.2] 26)) := HI.out ss w2 _ none (HI.out ss wr w2 (some W.heap.size) hJs hg2 (fun r e => by cases e; exact ⟨Nat.le_refl _, HRg.out.iter_walk⟩)) (World.grownBy_alloc _ _ none) (fun r e => by cases e)
      obtain ⟨fn, tmps, assign, body, hy, hRy⟩ := hY ss x _ hJ2 (by omega)
      have HC2 := Lib.hid (HC.out.step hx ht (of_decide_eq_true hh))
      have HR2 := Lib.hid (hR2.at (w' := w2.alloc (.cells #[.int .i64 x.e, .int .u64 x.r.1, .int .u64 x.r.2] 26)) (Below.heap_alloc _ _ _ hR2.lt.1) (Below.heap_alloc _ _ _ hR2.lt.2))
      have HLt := Lib.hid (⟨hlt, hcs⟩ : c2 < c ∧ ss.length + c ≤ J.length)
      have HLe := Lib.hid HRg.out.left_eq
      clear hs2 hg2 hR2 hlt hcs hrg HC hJ2 hx ht hh hJs
      gi_wp2
      rw [hy]
      gi_wp2
      refine hRy.mono ?_
      rintro e W3 (⟨rfl, hJ3, hk3⟩ | ⟨rfl, hJx3⟩)
      · have HR3 := Lib.hid (HR2.out.of_walks hk3)
        have HJ3 := Lib.hid hJ3
        clear hJ3 hk3
        gi_wp2
        go_roundw
        case rel => exact ⟨offF t x, c2, ss ++ [x], HR3.out, by have := HLt.out; simp; omega, HC2.out, HJ3.out⟩
        case measure => rw [HR3.out.left_eq, HLe.out]; exact HLt.out.1
      · have HJx := Lib.hid hJx3
        clear hJx3
        gi_wp2
        refine bodyPost_ret (results_none rfl _ _ _) rfl ?_
        exact ⟨⟨_, rfl⟩, .inr ⟨ss ++ [x], trivial, HJx.out⟩⟩
theorem keysK_stops (n : Nat) (hn : 1 ≤ n) (Bm b : Nat) (J : List Ck) (hwf : ∀ x ∈ J, WfK x) (w : World) (hBm : Bm < w.heap.size) (hm : w.cell? ⟨Bm, 0, none⟩ = some (.map (some b))) (hM : JustM b J w) :
    SeqStopsK Fence.wide n Try.prog 56 #[.pointer (some ⟨Bm, 0, none⟩)] (fun x : Ck => #[.agg #[.int .i64 x.e, .int .u64 x.r.1, .int .u64 x.r.2]]) KeepsWalks (fun ss => ss.Nodup ∧ ∀ x, x ∈ ss ↔ x ∈ J) (fun _ => True) J.length w := fun l I Ix W hW hI _ hY h0 =>
  keysK_in n hn l Bm b J hwf I Ix hY W hI ((hW.cell (p := ⟨Bm, 0, none⟩) hBm).trans hm) (hM.kept hW) h0

theorem cells_new_in (w : World) (xs : Array Value) (t : TypeId) (b : Nat) (hb : b = w.heap.size) : ∀ j u, xs.toList[j]? = some u → (w.alloc (.cells xs t)).cell? ((⟨b, 0, none⟩ : Addr).add j) = some u := fun j u hu => by
  rw [add_none, Nat.zero_add]
  exact (HasCells.new w xs t b hb).2 j u hu
theorem Cks.bound {W w : World} {l : List Ck} {v : Value} (h : Cks W l v w) {j : Nat} (hj : v.ownBlock = some j) : W.heap.size ≤ j ∧ j < w.heap.size := h.1.lt j hj
theorem cks_base {w W w' : World} {l : List Ck} {v : Value} (h : Cks W l v w') (k : Kept w W) : Cks w l v w' := by
  refine ⟨⟨h.1.1, ?_⟩, k.trans h.2⟩
  rcases h.1.2 with h2 | ⟨g, cap, cur, hv, hg, r⟩
  · exact Or.inl h2
  · exact Or.inr ⟨g, cap, cur, hv, Nat.le_trans k.size_le hg, r⟩
def AppNew (J : List Ck) (w : World) (e : Ending) (w' : World) : Prop := ∃ (ss : List Ck) (v : Value), e = .returned v ∧ ss.Nodup ∧ (∀ x, x ∈ ss ↔ x ∈ J) ∧ Cks w ss v w'
set_option maxRecDepth 100000 in
set_option maxHeartbeats 3200000 in
theorem appendSeq_any (Bm b : Nat) (J : List Ck) (hwf : ∀ x ∈ J, WfK x) (hJ : J.length ≤ 100000) (w : World) (hBm : Bm < w.heap.size) (hm : w.cell? ⟨Bm, 0, none⟩ = some (.map (some b))) (hM : JustM b J w) :
    CallsIn Fence.wide 4 Try.prog 76 #[.slice none 0 0, .func (.func 56) #[] #[.pointer (some ⟨Bm, 0, none⟩)]] w (AppNew J w) := by
  have HSq := Lib.hid (keysK_stops (4 - 1) (by omega) Bm b J hwf w hBm hm hM)
  have HJ := Lib.hid hJ
  obtain ⟨i0, hi, hz0, hz1, hz2⟩ := info_of Try.infoCk
  clear hM hm hwf hJ
  refine callsIn_of_wp_marks Try.func76 rfl trivial ?_ rfl
  simp only [Try.ntmps76, List.size_toArray, List.length_cons, List.length_nil, Nat.reduceAdd, Nat.reduceSub, Array.replicate_succ, Array.replicate_zero, List.push_toArray, List.append_toArray, List.nil_append, List.cons_append]
  gi_wp2
  have bS := Boxed.new w 42 (.slice none 0 0)
  have hB0 : Below w.heap.size w (w.alloc (.cells #[.slice none 0 0] 42)) := (Below.refl _ w).alloc (Nat.le_refl _) _
  refine wpIn_rangeFunc_ownH rfl (by omega) (gf := 56) (lb := #[.pointer (some ⟨Bm, 0, none⟩)]) rfl trivial (enters_of Try.func56 (by kernel_rfl) rfl)
    HSq.out walksK_t (fun W l o o' hl h h1 h2 => KeepsWalks.putObj _ h h2) hB0 (fun _ => rfl)
    (fun ss V => (∃ v, Boxed V w.heap.size 42 v ∧ V.ownsRow w.heap.size 26 3 v ss.length (cksCells ss) ∧ True) ∧ Below w.heap.size w V)
    (fun _ _ _ => False)
    (OwnFrom.and (Own.from (holdsRow_own w.heap.size w.heap.size 42 26 3 (fun q => q.length) cksCells (fun _ _ => True)) _) (ownFrom_below (Nat.le_refl _) (by simp)))
    (fun x => ownFrom_pure _ _)
    ⟨⟨_, bS, World.ownsRow_nil _ _ _ _, trivial⟩, hB0⟩
    (fun x a' V => ∃ z, a' = { tmps := #[.slice none 0 0, .func (.func 56) #[] #[.pointer (some ⟨Bm, 0, none⟩)], .pointer (some ⟨w.heap.size, 0, none⟩), undef, .slice none 0 0, .pointer (some ⟨z, 0, none⟩), .func (.func 56) #[] #[.pointer (some ⟨Bm, 0, none⟩)], .agg #[.int .i64 x.e, .int .u64 x.r.1, .int .u64 x.r.2], undef, undef, undef, undef, undef], defers := [] } ∧ V.heap[z]? = some (.cells #[.int .i64 x.e, .int .u64 x.r.1, .int .u64 x.r.2] 26 (0, 0)))
    (fun x a' => ?ownA) ?assign ?body ?done ?stop
  case ownA =>
    rintro _ V V' row ⟨z, e, hz⟩ hg hr
    exact ⟨z, e, own_block _ z _ _ _ () V V' row hz hg hr⟩
  case assign =>
    rintro l ss x V K ⟨⟨v, hv, hrow, _⟩, hB⟩ hK
    have HI := Lib.hid (⟨⟨v, hv, hrow, trivial⟩, hB⟩ : (∃ v, Boxed V w.heap.size 42 v ∧ V.ownsRow w.heap.size 26 3 v ss.length (cksCells ss) ∧ True) ∧ Below w.heap.size w V)
    have HK := Lib.hid hK
    clear hv hrow hB hK bS hB0
    gi_wp2
    have kA : Kept V (V.alloc (.cells #[.int .i64 x.e, .int .u64 x.r.1, .int .u64 x.r.2] 26)) := (Kept.refl V).alloc _
    obtain ⟨⟨v, hv, hrow, _⟩, hB⟩ := HI.out
    exact HK.out _ _ (KeepsFrom.kept kA) ⟨kA.size_le, fun k o hk _ => (kA.heap (Array.getElem?_eq_some_iff.1 hk).1).trans hk⟩ ⟨⟨v, hv.alloc _, grow_kept hrow kA, trivial⟩, hB.trans (kA.mono hB.size)⟩ ⟨_, rfl, World.alloc_heap_new _ _⟩
  case body =>
    clear bS hB0
    rintro l ss x a' V _ _ ⟨⟨v, hv, hrow, _⟩, hB⟩ ⟨z, rfl, hz⟩ hl
    obtain ⟨x0, x1, x2⟩ := (cells_block hz).three
    have hzl := (cells_block hz).1
    have hcb := hv.cell
    have hll := HJ.out
    have hsz : w.heap.size ≤ V.heap.size := hB.size
    have HB := Lib.hid hB
    have HE := Lib.hid (show cksCells ss ++ (#[.int .i64 x.e, .int .u64 x.r.1, .int .u64 x.r.2] : Array Value).toList = cksCells (ss ++ [x]) from by rw [← cksCells_append]; rfl)
    clear hz hB
    gi_wp2_with (gi_at_builtin; refine wpListIn_append_own _ rfl _ _ 42 rfl w.heap.size 26 i0 _ 3 24 Try.underlying42 hi hz0 hz1 hz2 rfl (by decide) _ _ _ rfl (hrow.alloc _) ⟨V.heap.size, 0, none⟩ 1 1 (#[.int .i64 x.e, .int .u64 x.r.1, .int .u64 x.r.2] : Array Value).toList rfl rfl (cells_new_in _ #[.int .i64 x.e, .int .u64 x.r.1, .int .u64 x.r.2] _ _ rfl) (by intro u hu; simp at hu; rcases hu with rfl | rfl | rfl <;> rfl) (by unfold maxLen; omega) (by omega) (by simp; omega) ?_; intro v' w1 hown' hgrow _; obtain ⟨g', cap', rfl⟩ := ownsRow_succ hown'; obtain ⟨hv1', hv2, hr2, hk2, hb2⟩ := hv.appended (by decide) hrow hsz (Nat.le_refl _) hown' hgrow; have hc1 := hv1'.cell; have hf1 := hv1'.frozen)
    exact ⟨hk2.from _, ⟨hk2.size, fun k o hk ho => hk2.same k o hk (by cases o <;> first | rfl | cases ho)⟩, ⟨⟨_, hv2, by rw [HE.out] at hr2; rw [List.length_append]; exact hr2⟩, HB.out.trans hb2⟩⟩
  case done =>
    clear bS hB0
    rintro D ss V hD hS ⟨⟨v, hv, hrow, _⟩, hB⟩ hK
    have hcb := hv.cell
    have HD := Lib.hid (show w.heap.size ≤ D by simp at hD; omega)
    have HW := Lib.hid (⟨hrow, hB⟩ : Cks w ss v V)
    have HS := Lib.hid hS
    clear hrow hB hD hS
    gi_wp2
    refine ⟨by simp, .inl ⟨_, _, rfl, run_takeDeferred hK, ?_⟩⟩
    exact ⟨_, results_tmp rfl _ _ _, ss, v, rfl, HS.out.1, HS.out.2, ownsRow_putObj HW.out.1 _ hK rfl, HW.out.2.trans' (belowK_b (w := w) (Nat.le_refl _) V D _ _ HD.out hK rfl rfl)⟩
  case stop =>
    rintro D x ss V _ _ h _
    exact h.elim
set_option maxRecDepth 100000 in
set_option maxHeartbeats 3200000 in
theorem collect_any (Bm b : Nat) (J : List Ck) (hwf : ∀ x ∈ J, WfK x) (hJ : J.length ≤ 100000) (w : World) (hBm : Bm < w.heap.size) (hm : w.cell? ⟨Bm, 0, none⟩ = some (.map (some b))) (hM : JustM b J w) :
    Calls Try.prog 54 #[.func (.func 56) #[] #[.pointer (some ⟨Bm, 0, none⟩)]] w (AppNew J w) := by
  have H := Lib.hid (callsIn_wide.1 (appendSeq_any Bm b J hwf hJ w hBm hm hM))
  clear hm hM hwf
  go_enter Try.func54, Try.ntmps54
  go_wp2_with fail
  refine H.out.mono ?_
  rintro e W1 ⟨ss, v, rfl, h1, h2, h3⟩
  have HH := Lib.hid (⟨h1, h2, h3⟩ : ss.Nodup ∧ (∀ x, x ∈ ss ↔ x ∈ J) ∧ Cks w ss v W1)
  clear h1 h2 h3
  go_wp2_with fail
  go_ret
  exact ⟨ss, v, rfl, HH.out.1, HH.out.2.1, HH.out.2.2⟩
def OrdNew (J : List Ck) (w : World) (e : Ending) (w' : World) : Prop := ∃ (S : List Ck) (A : Option Addr) (c : Nat), e = .returned (.slice A S.length c) ∧ Rise S ∧ (∀ x, x ∈ S ↔ x ∈ J) ∧ Cks w S (.slice A S.length c) w'
theorem mem_len {J S : List Ck} (hJ : J.Nodup) (hS : S.Nodup) (h : ∀ x, x ∈ S ↔ x ∈ J) : S.length = J.length :=
  Nat.le_antisymm (nodup_le hS fun x hx => (h x).1 hx) (nodup_le hJ fun x hx => (h x).2 hx)
set_option maxRecDepth 100000 in
set_option maxHeartbeats 3200000 in
theorem sortedFunc_any (Bm b : Nat) (J : List Ck) (hwf : ∀ x ∈ J, WfK x) (hnd : J.Nodup) (hJ : J.length ≤ 100000) (w : World) (hBm : Bm < w.heap.size) (hm : w.cell? ⟨Bm, 0, none⟩ = some (.map (some b))) (hM : JustM b J w) :
    Calls Try.prog 40 #[.func (.func 56) #[] #[.pointer (some ⟨Bm, 0, none⟩)], .func (.func 42) #[] #[]] w (OrdNew J w) := by
  have H := Lib.hid (collect_any Bm b J hwf hJ w hBm hm hM)
  have HNd := Lib.hid hnd
  clear hm hM hwf hnd
  go_enter Try.func40, Try.ntmps40
  go_wp2_with fail
  refine H.out.mono ?_
  rintro e W1 ⟨ss, v, rfl, h1, h2, h3⟩
  have HS := Lib.hid (sortK_any w W1 ss v (by have := mem_len HNd.out h1 h2; omega) h1 h3)
  have H2 := Lib.hid h2
  clear h1 h2 h3
  go_wp2_with fail
  refine HS.out.mono ?_
  rintro e W2 ⟨rfl, S, hp, hr, hc⟩
  obtain ⟨A, c, rfl⟩ := hc.slice
  have HH := Lib.hid (⟨hr, fun x => (hp.mem_iff).trans (H2.out x), hc⟩ : Rise S ∧ (∀ x, x ∈ S ↔ x ∈ J) ∧ Cks w S (.slice A S.length c) W2)
  clear hp hr hc
  go_wp2_with fail
  go_ret
  exact ⟨S, A, c, rfl, HH.out.1, HH.out.2.1, HH.out.2.2⟩
set_option maxRecDepth 100000 in
set_option maxHeartbeats 3200000 in
theorem inOrder_any (b : Nat) (J : List Ck) (hwf : ∀ x ∈ J, WfK x) (hnd : J.Nodup) (hJ : J.length ≤ 100000) (w : World) (hM : JustM b J w) :
    Calls Try.prog 27 #[.map (some b)] w (OrdNew J w) := by
  have K0 := Lib.hid ((Kept.refl w).alloc (.cells #[.map (some b)] 65))
  have H := Lib.hid (sortedFunc_any w.heap.size b J hwf hnd hJ (w.alloc (.cells #[.map (some b)] 65)) (by simp) (Boxed.new w _ _).cell (hM.kept K0.out))
  clear hM hwf hnd
  go_enter Try.func27, Try.ntmps27
  go_wp2_with fail
  refine (keys_any b w).mono ?_
  rintro e W1 ⟨rfl, rfl⟩
  go_wp2_with fail
  refine H.out.mono ?_
  rintro e W2 ⟨S, A, c, rfl, h1, h2, h3⟩
  have HH := Lib.hid (⟨h1, h2, h3⟩ : Rise S ∧ (∀ x, x ∈ S ↔ x ∈ J) ∧ Cks (w.alloc (.cells #[.map (some b)] 65)) S (.slice A S.length c) W2)
  clear h1 h2 h3
  go_wp2_with fail
  go_ret
  exact ⟨S, A, c, rfl, HH.out.1, HH.out.2.1, cks_base HH.out.2.2 K0.out⟩

end Go.Proofs.Ythaofomhlmajbaa
