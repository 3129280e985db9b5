/-
  The contract of ffg's Final.
-/
import Derived.Test.YthaofomhlmajbaaGreatFfgTop
import Derived.Test.YthaofomhlmajbaaGreatFfgMid
import Derived.Test.YthaofomhlmajbaaGreatFfgDel
import Derived.Test.YthaofomhlmajbaaGreatFfgRefG
namespace Go.Proofs.YthaofomhlmajbaaGreat
set_option maxRecDepth 100000
set_option linter.unusedVariables false
set_option linter.unusedSimpArgs false
set_option linter.unusedSimpArgs false
set_option linter.unusedVariables false
open Go.ChangeShapes Go.WideShapes Go.ChangeAt Go.RowKit

theorem HasCells.at_heap {w w' : World} {b : Nat} {xs : List Value} (h : HasCells w b xs) (hs : w.heap.size ≤ w'.heap.size) (e : w'.heap[b]? = w.heap[b]?) : HasCells w' b xs :=
  ⟨by have := h.1; omega, fun j u hu => (cell_of_heap (p := ⟨b, j, none⟩) e).trans (h.2 j u hu)⟩
theorem Group.above {α γ : Type} {K : KeyKind α} {S : RowKind γ} {B hi : Nat} {f : α → List γ} {b m : Nat} {w w' : World} (h : Group K S B f b m w) (hb : hi ≤ b) (hs : w.heap.size ≤ w'.heap.size) (k : ∀ i, hi ≤ i → i < w.heap.size → w'.heap[i]? = w.heap[i]?) : Group K S B f b m w' := by
  obtain ⟨V, h0, h1, hB, h2, h3⟩ := h
  refine ⟨V, h0.at (k _ hb h0.lt), h1, by omega, fun x hx => ⟨(h2 x hx).1, ?_⟩, h3⟩
  rcases (h2 x hx).2 with q | ⟨g, cap, cur, hv, hg, hh, r⟩
  · exact Or.inl q
  · exact Or.inr ⟨g, cap, cur, hv, hg, by rw [k g (by omega) ((h2 x hx).lt g (by rw [hv]; rfl)).2]; exact hh, r⟩
theorem RDel.stand {bo mo : Nat} {g : Id2 → Option (Nat × Nat)} {bg mg Bg : Nat} {A : List (Ck × Ck)} {bj mj Bj : Nat} {R : List Ck} {hi : Nat} {W8 w V : World} (h1 : ReachM bo mo g W8) (h2 : Group ckKey ckRow Bg (goesOf A) bg mg W8) (h3 : Group ckKey ckRow Bg (goesOf A) bg mg W8 → Group epKey ckRow Bj (epoF R) bj mj w) (hb : hi ≤ bj) (wa : ∀ x ∈ A, WfWay x) (wr : ∀ x ∈ R, WfK x) (la : A.length ≤ 10000) (lr : R.length ≤ 20000) (k : Kept W8 w) (hR : RDel W8.heap.size hi w V) : Stand bo mo g bg mg Bg A bj mj Bj R V :=
  have kk : Kept W8 V := k.trans' hR.1
  ⟨h1.kept kk, h2.kept kk, (h3 h2).above hb hR.2.1 hR.2.2, wa, wr, la, lr⟩
theorem isFin_eq {k : Cf} {l : List Bk} {v : List Lk} {g : Id2 → Option (Nat × Nat)} {A : List (Ck × Ck)} {R : List Ck} (hm : (mayC k && mayB l) = true) (hB : ReachB l g) (hwv : WfLks v) (hA : ∀ x, WfWay x → (x ∈ A ↔ okW k g v x = true)) (hw : ∀ x ∈ A, WfWay x) (hJ : Justs k l v R) {x : Ck} (hx : x ∈ R) : isFinQ g R A x = finalB k l v x := by
  obtain ⟨m1, m2, hj⟩ := (hJ.2 x).1 hx
  have hxr := just_range hJ x hx
  have hin : ∀ t, t ∈ goesOf A x ↔ strongC k l v x t = true := fun t => by
    rw [mem_goesOf]
    constructor
    · intro h
      have := (hA _ (hw _ h)).1 h
      rwa [okW_strong hm hB] at this
    · intro h
      exact (hA (x, t) (strong_wf hwv h)).2 (by rw [okW_strong hm hB]; exact h)
  have hu := hB.under (Bool.and_eq_true_iff.1 hm).2
  have hwr : IntKind.i64.wrap (x.e + 1) = x.e + 1 := by rw [IntKind.wrap_i64]; omega
  have hmid : ∀ t, midsQ g R x t = true ↔ ∃ m, JustK k (fineC k l v) m ∧ m.e = x.e + 1 ∧ underC l x.r m.r = true ∧ underC l m.r t.r = true := fun t => by
    unfold midsQ epoF
    rw [hwr, List.any_eq_true]
    constructor
    · rintro ⟨m, hm', h⟩
      obtain ⟨h1, h2⟩ := List.mem_filter.1 hm'
      unfold midQ at h
      rw [Bool.and_eq_true, hu, hu] at h
      exact ⟨m, ((hJ.2 m).1 h1).2.2, of_decide_eq_true h2, h.1, h.2⟩
    · rintro ⟨m, h1, h2, h3, h4⟩
      exact ⟨m, List.mem_filter.2 ⟨(hJ.2 m).2 ⟨m1, m2, h1⟩, decide_eq_true h2⟩, by unfold midQ; rw [Bool.and_eq_true, hu, hu]; exact ⟨h3, h4⟩⟩
  rw [Bool.eq_iff_iff, finalB_iff]
  unfold isFinQ FinalK
  rw [Bool.or_eq_true, sameK_iff, List.any_eq_true]
  refine or_congr Iff.rfl (exists_congr fun t => ?_)
  rw [hin]
  refine and_congr_right fun hs => ?_
  obtain ⟨_, _, b1, b2, b3, _⟩ := strong_may hs
  have hwt : IntKind.i64.wrap (t.e - x.e) = t.e - x.e := by rw [IntKind.wrap_i64]; omega
  unfold finQ
  rw [hwt]
  by_cases e1 : t.e - x.e = 1
  · rw [if_pos e1]
    exact ⟨fun _ => Or.inl (by omega), fun _ => rfl⟩
  · rw [if_neg e1]
    by_cases e2 : t.e - x.e = 2
    · rw [if_pos e2, hmid]
      refine ⟨fun h => Or.inr ⟨by omega, h⟩, fun h => ?_⟩
      rcases h with h | h
      · omega
      · exact h.2
    · rw [if_neg e2]
      refine ⟨fun h => (by cases h), fun h => ?_⟩
      rcases h with h | ⟨h, _⟩
      · omega
      · omega
theorem FinalNew.nil {k : Cf} {l : List Bk} {v : List Lk} {w w' : World} (h : ¬ (mayC k = true ∧ mayB l = true)) (q : Kept w w') : FinalNew k l v w (.returned (.slice none 0 0)) w' := ⟨[], none, 0, ⟨[], justs_none v h, rfl⟩, by simp, rfl, CellsAt.nil, by simp, q⟩
set_option maxRecDepth 100000 in
set_option maxHeartbeats 3200000 in
theorem ffgFinal_any (A : Option Addr) (c : Nat) (k : Cf) (L : Option Addr) (cl : Nat) (l : List Bk) (V : Option Addr) (cv : Nat) (v : List Lk) (w : World)
    (hk : k.ws.length ≤ 1000) (hl : l.length ≤ 1000000) (hwl : WfL l) (hv : v.length ≤ 10000) (hwv : WfLks v) (hA : CellsAt w w.heap.size A (intCells k.ws)) (hL : CellsAt w w.heap.size L (blockCells l)) (hV : CellsAt w w.heap.size V (lksCells v)) :
    Calls Tryz.prog 6 #[.agg #[.slice A k.ws.length c, .int .u64 k.seed, .int .i64 k.ep, .int .i64 k.nu, .int .i64 k.de], .slice L l.length cl, .slice V v.length cv] w (FinalNew k l v w) := by
  have K0 := Lib.hid ((Kept.refl w).alloc (.cells #[.slice A k.ws.length c, .int .u64 k.seed, .int .i64 k.ep, .int .i64 k.nu, .int .i64 k.de] 25))
  have HC := Lib.hid (HasCells.new w #[.slice A k.ws.length c, .int .u64 k.seed, .int .i64 k.ep, .int .i64 k.nu, .int .i64 k.de] 25 w.heap.size rfl)
  have HA := Lib.hid (hA.kept K0.out)
  have HL := Lib.hid (hL.kept K0.out)
  have HV := Lib.hid (hV.kept K0.out)
  have HWL := Lib.hid hwl
  have HWV := Lib.hid hwv
  clear hA hL hV hwl hwv
  go_enter Tryz.func6, Tryz.ntmps6
  obtain ⟨c0, c1, c2, c3, c4⟩ := HC.out.five
  go_wp2_with fail
  clear c0 c1 c2 c3 c4
  generalize w.alloc (.cells #[.slice A k.ws.length c, .int .u64 k.seed, .int .i64 k.ep, .int .i64 k.nu, .int .i64 k.de] 25) = W at *
  generalize w.heap.size = z0 at *
  refine (mayAsk_any A c k L cl l W hl HWL.out HA.out HL.out).mono ?_
  rintro e W1 ⟨rfl, k1⟩
  have K1 := Lib.hid k1
  clear k1
  cases hm : (mayC k && mayB l) with
  | false =>
    have HE := Lib.hid (show ¬ (mayC k = true ∧ mayB l = true) from fun h => by rw [h.1, h.2] at hm; cases hm)
    clear hm
    go_wp2_with fail
    go_ret
    exact FinalNew.nil HE.out (K0.out.trans K1.out)
  | true =>
    have HMb := Lib.hid (Bool.and_eq_true_iff.1 hm).2
    have HM := Lib.hid hm
    clear hm
    go_wp2_with fail
    refine (reachesOf_any L cl l hl HWL.out HMb.out W1 (HL.out.kept K1.out)).mono ?_
    rintro e W2 ⟨bo, mo, g, rfl, hRB, hRM, hbo, k2⟩
    have K2 := Lib.hid (K1.out.trans k2)
    have HRB := Lib.hid hRB
    have HRM := Lib.hid hRM
    clear hRB hRM k2 hbo
    obtain ⟨c0, c1, c2, c3, c4⟩ := (HC.out.kept K2.out).five
    go_wp2_with fail
    clear c0 c1 c2 c3 c4
    refine (strong_any A c k hk bo mo g V cv v hv HWV.out W2 (HA.out.kept K2.out) (HV.out.kept K2.out) HRM.out).mono ?_
    rintro e W3 ⟨bg, mg, Bg, A0, rfl, hmg, hA0, hGg, hAw, hAi, hbg, k3⟩
    have K3 := Lib.hid (K2.out.trans k3)
    have HRM3 := Lib.hid (HRM.out.kept k3)
    have HG := Lib.hid hGg
    have HAw := Lib.hid hAw
    have HAi := Lib.hid hAi
    clear hGg hAw hAi hbg k3 HRM
    go_wp2_with fail
    refine (justified_any A0 HAw.out (by omega) Bg bg mg W3 HG.out).mono ?_
    rintro e W4 ⟨bj, J, rfl, hJn, hJl, hJr, hJw, hJm, k4⟩
    have K4 := Lib.hid k4
    have HJn := Lib.hid hJn
    have HJr := Lib.hid hJr
    have HJw := Lib.hid hJw
    have HJm := Lib.hid hJm
    clear hJn hJr hJw hJm k4
    go_wp2_with fail
    refine (inOrder_any bj J HJw.out HJn.out (by omega) W4 HJm.out).mono ?_
    rintro e W5 ⟨S0, A6, c6, rfl, hR6, hS6, hC6⟩
    have HJu := Lib.hid (show Justs k l v S0 from ⟨hR6, fun x => by
      rw [hS6 x, HJr.out x, reach_just HWV.out (fun y hy => by rw [HAi.out y hy, okW_strong HM.out HRB.out]) HAw.out x]
      exact ⟨fun q => ⟨(Bool.and_eq_true_iff.1 HM.out).1, (Bool.and_eq_true_iff.1 HM.out).2, q⟩, fun q => q.2.2⟩⟩)
    have HLn := Lib.hid (show S0.length = J.length from mem_len HJn.out (Rise.nodup hR6) hS6)
    have HSw := Lib.hid (show ∀ x ∈ S0, WfK x from fun x hx => HJw.out x ((hS6 x).1 hx))
    have HS0 := Lib.hid (show 0 < S0.length from List.length_pos_of_mem ((HJu.out.2 firstK).2 ⟨(Bool.and_eq_true_iff.1 HM.out).1, (Bool.and_eq_true_iff.1 HM.out).2, .first⟩))
    obtain ⟨gr, c7, hform, hg1, hg2⟩ := hC6.form HS0.out
    injection hform with hf1 hf2 hf3
    subst hf1 hf3
    have HC6 := Lib.hid hC6
    have HEq := Lib.hid (fun x (hx : x ∈ S0) => isFin_eq HM.out HRB.out HWV.out HAi.out HAw.out HJu.out hx)
    have hl6 : S0.length ≤ v.length + 1 := by have := HLn.out; omega
    clear hR6 hS6 hC6 hJl HJn HJr HJw HJm HLn
    go_wp2_with fail
    refine (byEpoch_any (some ⟨gr, 0, none⟩) c6 S0 (by omega) HSw.out W5 (HC6.out.cells rfl)).mono ?_
    rintro e W6 ⟨be, me, Be, rfl, hme, hGe, hbe, k6⟩
    have K6 := Lib.hid k6
    have HGe := Lib.hid hGe
    clear hGe k6
    go_wp2_with fail
    have K56 := Lib.hid (K6.out.alloc (.cells #[.map (some bo), .map (some bg), .map (some be)] 57))
    have HStd := Lib.hid (HasCells.new W6 #[.map (some bo), .map (some bg), .map (some be)] 57 W6.heap.size rfl)
    have HGe7 := Lib.hid (HGe.out.kept ((Kept.refl W6).alloc (.cells #[.map (some bo), .map (some bg), .map (some be)] 57)))
    have hz := K6.out.size_le
    generalize W6.alloc (.cells #[.map (some bo), .map (some bg), .map (some be)] 57) = W7 at *
    generalize W6.heap.size = zs at *
    have HC7 := Lib.hid (HC6.out.kept K56.out)
    have K37 := Lib.hid (K4.out.trans (HC6.out.2.trans K56.out))
    have hlo : W3.heap.size ≤ gr := Nat.le_trans K4.out.size_le hg1
    refine (deleteK_any W4 W3.heap.size W5.heap.size gr c6 S0 (by omega) HSw.out 19 #[.pointer (some ⟨zs, 0, none⟩)] (fun x => !isFinQ g S0 A0 x) W7 hlo hg2 K37.out.size_le
      (fun V hV x hx => fn1_any bo mo g bg mg Bg A0 be me Be S0 zs x hx V (HStd.out.at_heap hV.2.1 (hV.2.2 zs hz HStd.out.1)) (RDel.stand HRM3.out HG.out (fun _ => HGe7.out) hbe HAw.out HSw.out (by omega) (by omega) K37.out hV))
      HC7.out (enters_of Tryz.func19 (by kernel_rfl) rfl)).mono ?_
    rintro e W8 ⟨rfl, hC8, hc8, k8⟩
    have hEq : (S0.filter fun x => !(fun x => !isFinQ g S0 A0 x) x) = S0.filter (finalB k l v) := List.filter_congr fun x hx => by
      show (!(!isFinQ g S0 A0 x)) = _
      rw [Bool.not_not, HEq.out x hx]
    rw [hEq] at hC8 hc8 ⊢
    have HFin := Lib.hid (show Finals k l v (S0.filter (finalB k l v)) from ⟨S0, HJu.out, rfl⟩)
    have HLf := Lib.hid (show (S0.filter (finalB k l v)).length ≤ v.length + 1 from Nat.le_trans (List.length_filter_le _ _) hl6)
    have HC8 := Lib.hid hC8
    have K8 := Lib.hid (K0.out.trans (K3.out.trans (K4.out.trans k8)))
    clear hEq hC8 k8 HEq
    generalize S0.filter (finalB k l v) = F at *
    go_wp2_with fail
    go_ret
    exact ⟨F, _, c6, HFin.out, HLf.out, rfl, HC8.out, hc8, K8.out⟩

end Go.Proofs.YthaofomhlmajbaaGreat
