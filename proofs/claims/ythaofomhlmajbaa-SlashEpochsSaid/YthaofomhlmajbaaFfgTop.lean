/-
  The contracts of ffg's May, Strong and Just.
-/
import Derived.Test.YthaofomhlmajbaaFfgKeys
import Derived.Test.YthaofomhlmajbaaFfgReach
import Derived.Test.YthaofomhlmajbaaFfgRefG
import Derived.Test.YthaofomhlmajbaaKeepT
import Derived.Test.YthaofomhlmajbaaGround
namespace Go.Proofs.Ythaofomhlmajbaa
set_option maxRecDepth 100000
set_option linter.unusedVariables false
set_option linter.unusedSimpArgs false
set_option linter.unusedSimpArgs false
set_option linter.unusedVariables false
open Go.ChangeShapes Go.WideShapes Go.ChangeAt Go.RowKit

theorem mayL_eq (k : Cf) (l : List Bk) (x : Lk) : mayL k l x = ((mayC k && mayB l) && (valK k x.f && (wayK x.s x.t && underC l x.s.r x.t.r))) := by
  unfold mayL valK wayK
  rw [Bool.eq_iff_iff]
  simp only [Bool.and_eq_true, decide_eq_true_iff]
  constructor
  · rintro ⟨⟨⟨a, b⟩, c⟩, d⟩
    exact ⟨⟨a, b⟩, ⟨c.1, c.2.1⟩, ⟨c.2.2.1, c.2.2.2.1, c.2.2.2.2⟩, d⟩
  · rintro ⟨⟨a, b⟩, ⟨c1, c2⟩, ⟨c3, c4, c5⟩, d⟩
    exact ⟨⟨⟨a, b⟩, c1, c2, c3, c4, c5⟩, d⟩
theorem whoK_fine (k : Cf) (l : List Bk) (v : List Lk) (s t : Ck) (h : (mayC k && mayB l) = true) : whoK (fineC k l v) s t = if (wayK s t && underC l s.r t.r) = true then whoW k v (s, t) else [] := by
  unfold whoW whoK fineC goodC
  rw [List.filter_filter, List.filter_filter]
  cases hw : (wayK s t && underC l s.r t.r) with
  | true =>
    rw [if_pos rfl]
    congr 1
    refine List.filter_congr fun x _ => ?_
    rw [mayL_eq, h, Bool.true_and]
    cases hh : hitK s t x with
    | false => rfl
    | true =>
      obtain ⟨h1, h2⟩ := hitK_iff.1 hh
      rw [h1, h2, hw, Bool.and_true]
  | false =>
    rw [if_neg (by decide)]
    have : v.filter (fun a => hitK s t a && mayL k l a) = [] := by
      rw [List.filter_eq_nil_iff]
      intro x _ hx
      rw [Bool.and_eq_true] at hx
      obtain ⟨h1, h2⟩ := hitK_iff.1 hx.1
      have h3 := hx.2
      rw [mayL_eq, h1, h2, hw, Bool.and_false, Bool.and_false] at h3
      cases h3
    rw [this]; rfl
theorem strongC_eq (k : Cf) (l : List Bk) (v : List Lk) (s t : Ck) : strongC k l v s t = ((mayC k && mayB l) && ((wayK s t && underC l s.r t.r) && enoughK k (whoW k v (s, t)))) := by
  cases h : (mayC k && mayB l) with
  | false =>
    rw [Bool.false_and, Bool.eq_false_iff]
    intro q
    have := strong_may q
    rw [this.1, this.2.1] at h
    cases h
  | true =>
    rw [Bool.true_and]
    show strongK k (fineC k l v) s t = _
    unfold strongK
    rw [whoK_fine k l v s t h]
    cases hw : (wayK s t && underC l s.r t.r) with
    | true => rw [if_pos rfl, Bool.true_and]; rfl
    | false => rw [if_neg (by decide), Bool.false_and]; simp
theorem okW_strong {k : Cf} {l : List Bk} {v : List Lk} {g : Id2 → Option (Nat × Nat)} (h : (mayC k && mayB l) = true) (hB : ReachB l g) (x : Ck × Ck) : okW k g v x = strongC k l v x.1 x.2 := by
  rw [strongC_eq, h, Bool.true_and]
  unfold okW
  rw [hB.under (Bool.and_eq_true_iff.1 h).2]
theorem strong_wf {k : Cf} {l : List Bk} {v : List Lk} (hv : WfLks v) {s t : Ck} (h : strongC k l v s t = true) : WfK s ∧ WfK t := by
  obtain ⟨x, hx, rfl, rfl⟩ := strong_some h
  have := hv x (mem_fineC.1 hx).1
  exact ⟨this.2.1, this.2.2⟩
theorem reach_just {k : Cf} {l : List Bk} {v : List Lk} {A : List (Ck × Ck)} (hv : WfLks v) (hA : ∀ x, WfWay x → (x ∈ A ↔ strongC k l v x.1 x.2 = true)) (hw : ∀ x ∈ A, WfWay x) (x : Ck) : Reach A x ↔ JustK k (fineC k l v) x := by
  constructor
  · intro h
    induction h with
    | first => exact .first
    | next _ hm ih => exact .next ih ((hA _ (hw _ hm)).1 hm)
  · intro h
    induction h with
    | first => exact .first
    | next _ hs ih => exact .next ih ((hA (_, _) (strong_wf hv hs)).2 hs)
set_option maxRecDepth 100000 in
set_option maxHeartbeats 3200000 in
theorem ffgJust_any (A : Option Addr) (c : Nat) (k : Cf) (L : Option Addr) (cl : Nat) (l : List Bk) (V : Option Addr) (cv : Nat) (v : List Lk) (w : World)
    (hk : k.ws.length ≤ 1000) (hl : l.length ≤ 1000000) (hwl : WfL l) (hv : v.length ≤ 10000) (hwv : WfLks v) (hA : CellsAt w w.heap.size A (intCells k.ws)) (hL : CellsAt w w.heap.size L (blockCells l)) (hV : CellsAt w w.heap.size V (lksCells v)) :
    Calls Try.prog 18 #[.agg #[.slice A k.ws.length c, .int .u64 k.seed, .int .i64 k.ep, .int .i64 k.nu, .int .i64 k.de], .slice L l.length cl, .slice V v.length cv] w (JustNew k l v w) := by
  have K0 := Lib.hid ((Kept.refl w).alloc (.cells #[.slice A k.ws.length c, .int .u64 k.seed, .int .i64 k.ep, .int .i64 k.nu, .int .i64 k.de] 37))
  have HC := Lib.hid (HasCells.new w #[.slice A k.ws.length c, .int .u64 k.seed, .int .i64 k.ep, .int .i64 k.nu, .int .i64 k.de] 37 w.heap.size rfl)
  have HA := Lib.hid (hA.kept K0.out)
  have HL := Lib.hid (hL.kept K0.out)
  have HV := Lib.hid (hV.kept K0.out)
  have HWL := Lib.hid hwl
  have HWV := Lib.hid hwv
  clear hA hL hV hwl hwv
  go_enter Try.func18, Try.ntmps18
  go_wp2_with fail
  generalize w.alloc (.cells #[.slice A k.ws.length c, .int .u64 k.seed, .int .i64 k.ep, .int .i64 k.nu, .int .i64 k.de] 37) = W at *
  generalize w.heap.size = z0 at *
  refine (mayAsk_any A c k L cl l W hl HWL.out HA.out HL.out).mono ?_
  rintro e W1 ⟨rfl, k1⟩
  have K1 := Lib.hid k1
  clear k1
  cases hm : (mayC k && mayB l) with
  | false =>
    have HE := Lib.hid (show ¬ (mayC k = true ∧ mayB l = true) from fun h => by rw [h.1, h.2] at hm; cases hm)
    clear hm
    go_wp2_with fail
    go_ret
    exact JustNew.nil HE.out (K0.out.trans K1.out)
  | true =>
    have HMb := Lib.hid (Bool.and_eq_true_iff.1 hm).2
    have HRe := Lib.hid (fun w' (kk : Kept W1 w') => reachesOf_any L cl l hl HWL.out HMb.out w' (HL.out.kept (K1.out.trans kk)))
    have HSt := Lib.hid (fun (bo mo : Nat) (g : Id2 → Option (Nat × Nat)) w' (kk : Kept W1 w') (h : ReachM bo mo g w') => strong_any A c k hk bo mo g V cv v hv HWV.out w' (HA.out.kept (K1.out.trans kk)) (HV.out.kept (K1.out.trans kk)) h)
    have HM := Lib.hid hm
    clear hm
    obtain ⟨b0, b1, b2, b3, b4⟩ := (HC.out.kept K1.out).five
    have hz0 := (HC.out.kept K1.out).1
    go_wp2_with fail
    refine wp_region_noPanic ?_
    refine wp_region_held_drew (S := (fun w' => w'.cell? ⟨z0, 0, none⟩ = some (.slice A k.ws.length c) ∧ w'.cell? ⟨z0, 1, none⟩ = some (.int .u64 k.seed) ∧ w'.cell? ⟨z0, 2, none⟩ = some (.int .i64 k.ep) ∧ w'.cell? ⟨z0, 3, none⟩ = some (.int .i64 k.nu) ∧ w'.cell? ⟨z0, 4, none⟩ = some (.int .i64 k.de) ∧ Kept W1 w')) (by kernel_rfl) ?_ (fun hHeld => ?_)
    · exact ⟨b0, b1, b2, b3, b4, (Kept.refl _).drew⟩
    refine wpAnyH_take (i := 0) (v := ?_) (by simp only [List.getElem?_toArray, List.getElem?_cons_succ, List.getElem?_cons_zero]; rfl) (by kernel_rfl) (by kernel_rfl) (by kernel_rfl) (fun _ _ _ h => h) (Or.inl ⟨by rfl, ?_⟩) (by assumption) ?_
    rotate_left
    · intro w hSw
      (try dsimp only at hSw)
      go_simp
      (try with_reducible rfl)
    simp only [Act.put, List.setIfInBounds_toArray, List.set_cons_zero, List.set_cons_succ]
    refine wpAnyH_take (i := 1) (v := ?_) (by simp only [List.getElem?_toArray, List.getElem?_cons_succ, List.getElem?_cons_zero]; rfl) (by kernel_rfl) (by kernel_rfl) (by kernel_rfl) (fun _ _ _ h => h) (Or.inl ⟨by rfl, ?_⟩) (by assumption) ?_
    rotate_left
    · intro w hSw
      (try dsimp only at hSw)
      go_simp
      (try with_reducible rfl)
    simp only [Act.put, List.setIfInBounds_toArray, List.set_cons_zero, List.set_cons_succ]
    refine wpAnyH_take (i := 3) (v := ?_) (by simp only [List.getElem?_toArray, List.getElem?_cons_succ, List.getElem?_cons_zero]; rfl) (by kernel_rfl) (by kernel_rfl) (by kernel_rfl) (fun _ _ _ h => h) (Or.inl ⟨by rfl, ?_⟩) (by assumption) ?_
    rotate_left
    · intro w hSw
      (try dsimp only at hSw)
      go_simp
      (try with_reducible rfl)
    simp only [Act.put, List.setIfInBounds_toArray, List.set_cons_zero, List.set_cons_succ]
    refine wpAnyH_ready (rs := [2]) (by kernel_rfl) (by simp) ?_
    refine AllReadyH.cons (by simp only [List.getElem?_toArray, List.getElem?_cons_succ, List.getElem?_cons_zero]; rfl) (fun K hK => ?_) AllReadyH.nil
    go_simp
    go_at_call 30; with_reducible refine (HRe.out _ hHeld.2.2.2.2.2).mono ?_
    rintro e w2 ⟨bo, mo, g, rfl, hRB, hRM, hbo, kk⟩
    try go_wp2_with fail
    refine hK.out _ _ ?_ (fun hHeld2 => ?_)
    · exact keepP5 hz0 hz0 hz0 hz0 hz0 hHeld kk
    clear hK K hHeld
    have hHeld := hHeld2
    clear hHeld2
    try simp only [Act.put, List.setIfInBounds_toArray, List.set_cons_zero, List.set_cons_succ]
    refine wpAnyH_ready (rs := [4]) (by kernel_rfl) (by simp) ?_
    refine AllReadyH.cons (by simp only [List.getElem?_toArray, List.getElem?_cons_succ, List.getElem?_cons_zero]; rfl) (fun K hK => ?_) AllReadyH.nil
    go_simp
    go_at_call 29; with_reducible refine (HSt.out bo mo g _ hHeld.2.2.2.2.2 hRM).mono ?_
    rintro e w4 ⟨bg, mg, Bg, A0, rfl, hmg, hA0, hGg, hAw, hAi, hbg, kk⟩
    try go_wp2_with fail
    refine hK.out _ _ ?_ (fun hHeld2 => ?_)
    · exact keepP5 hz0 hz0 hz0 hz0 hz0 hHeld kk
    clear hK K hHeld
    have hHeld := hHeld2
    clear hHeld2
    try simp only [Act.put, List.setIfInBounds_toArray, List.set_cons_zero, List.set_cons_succ]
    refine wpAnyH_ready (rs := [5]) (by kernel_rfl) (by simp) ?_
    refine AllReadyH.cons (by simp only [List.getElem?_toArray, List.getElem?_cons_succ, List.getElem?_cons_zero]; rfl) (fun K hK => ?_) AllReadyH.nil
    go_simp
    go_at_call 28; with_reducible refine (justified_any A0 hAw (by omega) Bg bg mg _ hGg).mono ?_
    rintro e w5 ⟨bj, J, rfl, hJn, hJl, hJr, hJw, hJm, kk⟩
    try go_wp2_with fail
    refine hK.out _ _ ?_ (fun hHeld2 => ?_)
    · exact keepP5 hz0 hz0 hz0 hz0 hz0 hHeld kk
    clear hK K hHeld
    have hHeld := hHeld2
    clear hHeld2
    try simp only [Act.put, List.setIfInBounds_toArray, List.set_cons_zero, List.set_cons_succ]
    refine wpAnyH_ready (rs := [6]) (by kernel_rfl) (by simp) ?_
    refine AllReadyH.cons (by simp only [List.getElem?_toArray, List.getElem?_cons_succ, List.getElem?_cons_zero]; rfl) (fun K hK => ?_) AllReadyH.nil
    go_simp
    go_at_call 27; with_reducible refine (inOrder_any bj J hJw hJn (by omega) _ hJm).mono ?_
    rintro e w6 ⟨S0, A6, c6, rfl, hR6, hS6, hC6⟩
    have kk := hC6.2
    try go_wp2_with fail
    refine hK.out _ _ ?_ (fun hHeld2 => ?_)
    · exact keepP5 hz0 hz0 hz0 hz0 hz0 hHeld kk
    clear hK K hHeld
    have hHeld := hHeld2
    clear hHeld2
    try simp only [Act.put, List.setIfInBounds_toArray, List.set_cons_zero, List.set_cons_succ]
    refine wpAnyH_take (i := 7) (v := ?_) (by simp only [List.getElem?_toArray, List.getElem?_cons_succ, List.getElem?_cons_zero]; rfl) (by kernel_rfl) (by kernel_rfl) (by kernel_rfl) (fun _ _ _ h => h) (Or.inl ⟨by rfl, ?_⟩) (by assumption) ?_
    rotate_left
    · intro w hSw
      (try dsimp only at hSw)
      go_simp
      (try with_reducible rfl)
    simp only [Act.put, List.setIfInBounds_toArray, List.set_cons_zero, List.set_cons_succ]
    refine wpAnyH_done (by kernel_rfl) ?_ _
    refine NoPanic.normal ?_
    have hm := HM.out
    have HJu := Lib.hid (show Justs k l v S0 from ⟨hR6, fun x => by
      rw [hS6 x, hJr x, reach_just HWV.out (fun y hy => by rw [hAi y hy, okW_strong hm hRB]) hAw x]
      exact ⟨fun q => ⟨(Bool.and_eq_true_iff.1 hm).1, (Bool.and_eq_true_iff.1 hm).2, q⟩, fun q => q.2.2⟩⟩)
    have HLn := Lib.hid (show S0.length ≤ v.length + 1 by have := mem_len hJn (Rise.nodup hR6) hS6; omega)
    have HC6 := Lib.hid hC6
    have K1 := Lib.hid (K1.out.trans hHeld.2.2.2.2.2)
    clear hHeld b0 b1 b2 b3 b4
    go_wp2_with fail
    go_ret
    exact ⟨S0, A6, c6, HJu.out, HLn.out, rfl, HC6.out.cells rfl, HC6.out.cap, K0.out.trans K1.out⟩

end Go.Proofs.Ythaofomhlmajbaa
