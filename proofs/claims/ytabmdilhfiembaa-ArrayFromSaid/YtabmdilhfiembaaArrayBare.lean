/-
  The contracts of package array's calls bare and From.
-/
import Derived.Test.YtabmdilhfiembaaArrayFrom
import Derived.Test.YtabmdilhfiembaaGhostKids
import Derived.Test.YtabmdilhfiembaaDutyG
namespace Go.Proofs.Ytabmdilhfiembaa
set_option maxRecDepth 100000
set_option linter.unusedVariables false
set_option linter.unusedSimpArgs false
set_option linter.unusedVariables false
open Go.ChangeShapes Go.WideShapes Go.ChangeAt Go.RowKit

theorem Its.apart {W w : World} {l : List It} {v : Value} (h : Its W l v w) {y : Nat} {xs : Array Value} {t : TypeId} (hy : w.heap[y]? = some (.cells xs t)) (ht : t ≠ 50) : some y ≠ v.ownBlock := by
  intro e
  rcases h.1.2 with ⟨hv, _⟩ | ⟨g, cap, cur, hv, _, hg, _⟩
  · rw [hv] at e; cases e
  · rw [hv] at e
    injection e with e
    simp only at e
    subst e
    rw [hy] at hg
    injection hg with hg
    injection hg with _ hg
    exact ht hg
theorem Its.from {W w : World} {l : List It} {v : Value} (h : Its W l v w) : ∀ k, v.ownBlock = some k → W.heap.size ≤ k := fun k e => (h.1.lt k e).1
/-- find, where the length is told otherwise. -/
theorem findN_any (A : Option Addr) (c n : Nat) (a : List It) (hn : n = a.length) (hl : a.length ≤ 100000) (x : Id2) (w : World) (hA : CellsAt w w.heap.size A (itemCells a)) :
    Calls Try.prog 42 #[.slice A n c, .agg #[.int .u64 x.1, .int .u64 x.2]] w fun e w' => e = .returned (.int .i64 (posI a x)) ∧ Kept w w' := by
  subst hn; exact findA_any A c a hl x w hA

set_option maxRecDepth 100000 in
set_option maxHeartbeats 3200000 in
theorem bare_any (L : Option Addr) (cl : Nat) (l : List Bk) (hl : l.length ≤ 60) (hw : WfL l) (w : World) (hL : CellsAt w w.heap.size L (blockCells l)) :
    Calls Try.prog 52 #[.slice L l.length cl] w fun e w' => ∃ A c, e = .returned (.slice A l.length c) ∧ Its w (bareTo l) (.slice A l.length c) w' := by
  have HL := Lib.hid hL
  have HW := Lib.hid hw
  clear hL hw
  go_enter Try.func52, Try.ntmps52
  go_wp2_with fail
  go_loopw [3, 8] (fun v i w' => ∃ k : Nat, k ≤ l.length ∧ i = .int .i64 k ∧ ∃ A c, v = .slice A k c ∧ Its w (bareTo (l.take k)) (.slice A k c) w') (fun _ i _ => l.length - (intOf i).toNat)
  case atStart => exact ⟨0, by omega, rfl, none, 0, rfl, Its.nil w⟩
  case round =>
    obtain ⟨k, hk, rfl, A, c, rfl, hI⟩ := hrel
    have HI := Lib.hid hI
    clear hI
    by_cases hlt : k < l.length
    · obtain ⟨zz, oo, rfl, hb, c0, c1, c2, c3, c4⟩ := block_at (HL.out.kept HI.out.2) hlt
      have HX := Lib.hid (HW.out l[k] (List.getElem_mem hlt))
      have HT := Lib.hid (bare_take hlt)
      have HLn := Lib.hid (show k = (bareTo (l.take k)).length by rw [bare_length, List.length_take]; omega)
      generalize l[k] = y at *
      go_wp2_with fail
      have HN := Lib.hid (fun w' => name_any y HX.out w')
      generalize nameB y = n at *
      have HIW := Lib.hid (HI.out.kept ((Kept.refl wr).alloc (.cells #[.int .i64 y.s, .int .i64 y.f, .int .u64 y.p.1, .int .u64 y.p.2, .int .u64 y.t] 54)))
      have HY := Lib.hid ((HasCells.new wr #[.int .i64 y.s, .int .i64 y.f, .int .u64 y.p.1, .int .u64 y.p.2, .int .u64 y.t] 54 wr.heap.size rfl))
      have HO := Lib.hid (heap_alloc_new wr (.cells #[.int .i64 y.s, .int .i64 y.f, .int .u64 y.p.1, .int .u64 y.p.2, .int .u64 y.t] 54))
      clear c0 c1 c2 c3 c4 hb
      generalize wr.alloc (.cells #[.int .i64 y.s, .int .i64 y.f, .int .u64 y.p.1, .int .u64 y.p.2, .int .u64 y.t] 54) = W2 at *
      generalize wr.heap.size = bk at *
      obtain ⟨c0, c1, c2, c3, c4⟩ := HY.out.five
      generalize hB : bareTo (l.take k) = B at *
      have HBe := Lib.hid hB
      clear hB
      refine wp_region_noPanic ?_
      refine wp_region_held_drew (S := (fun w' => w'.cell? ⟨bk, 0, none⟩ = some (.int .i64 y.s) ∧ w'.cell? ⟨bk, 1, none⟩ = some (.int .i64 y.f) ∧ w'.cell? ⟨bk, 2, none⟩ = some (.int .u64 y.p.1) ∧ w'.cell? ⟨bk, 3, none⟩ = some (.int .u64 y.p.2) ∧ w'.cell? ⟨bk, 4, none⟩ = some (.int .u64 y.t) ∧ w'.heap[bk]? = some (.cells #[.int .i64 y.s, .int .i64 y.f, .int .u64 y.p.1, .int .u64 y.p.2, .int .u64 y.t] 54) ∧ Kept w w')) (by kernel_rfl) ?_ (fun hHeld => ?_)
      · exact ⟨c0, c1, c2, c3, c4, HO.out, HIW.out.2.drew⟩
      refine wpAnyH_take (i := 0) (v := ?_) (by simp only [List.getElem?_toArray, List.getElem?_cons_succ, List.getElem?_cons_zero]; rfl) (by kernel_rfl) (by kernel_rfl) (by kernel_rfl) (fun _ _ _ h => h) (Or.inl ⟨by rfl, ?_⟩) (by assumption) ?_
      rotate_left
      · intro w hSw
        (try dsimp only at hSw)
        go_simp
        (try with_reducible rfl)
      simp only [Act.put, List.setIfInBounds_toArray, List.set_cons_zero, List.set_cons_succ]
      refine wpAnyH_take (i := 1) (v := ?_) (by simp only [List.getElem?_toArray, List.getElem?_cons_succ, List.getElem?_cons_zero]; rfl) (by kernel_rfl) (by kernel_rfl) (by kernel_rfl) (fun _ _ _ h => h) (Or.inl ⟨by rfl, ?_⟩) (by assumption) ?_
      rotate_left
      · intro w hSw
        (try dsimp only at hSw)
        go_simp
        (try with_reducible rfl)
      simp only [Act.put, List.setIfInBounds_toArray, List.set_cons_zero, List.set_cons_succ]
      refine wpAnyH_take (i := 3) (v := ?_) (by simp only [List.getElem?_toArray, List.getElem?_cons_succ, List.getElem?_cons_zero]; rfl) (by kernel_rfl) (by kernel_rfl) (by kernel_rfl) (fun _ _ _ h => h) (Or.inl ⟨by rfl, ?_⟩) (by assumption) ?_
      rotate_left
      · intro w hSw
        (try dsimp only at hSw)
        go_simp
        (try with_reducible rfl)
      simp only [Act.put, List.setIfInBounds_toArray, List.set_cons_zero, List.set_cons_succ]
      refine wpAnyH_take (i := 4) (v := ?_) (by simp only [List.getElem?_toArray, List.getElem?_cons_succ, List.getElem?_cons_zero]; rfl) (by kernel_rfl) (by kernel_rfl) (by kernel_rfl) (fun _ _ _ h => h) (Or.inl ⟨by rfl, ?_⟩) (by assumption) ?_
      rotate_left
      · intro w hSw
        (try dsimp only at hSw)
        go_simp
        (try with_reducible rfl)
      simp only [Act.put, List.setIfInBounds_toArray, List.set_cons_zero, List.set_cons_succ]
      refine wpAnyH_take (i := 5) (v := ?_) (by simp only [List.getElem?_toArray, List.getElem?_cons_succ, List.getElem?_cons_zero]; rfl) (by kernel_rfl) (by kernel_rfl) (by kernel_rfl) (fun _ _ _ h => h) (Or.inl ⟨by rfl, ?_⟩) (by assumption) ?_
      rotate_left
      · intro w hSw
        (try dsimp only at hSw)
        go_simp
        (try with_reducible rfl)
      simp only [Act.put, List.setIfInBounds_toArray, List.set_cons_zero, List.set_cons_succ]
      refine wpAnyH_ready (rs := [2]) (by kernel_rfl) (by simp) ?_
      refine AllReadyH.cons (by simp only [List.getElem?_toArray, List.getElem?_cons_succ, List.getElem?_cons_zero]; rfl) (fun K hK => ?_) (AllReadyH.nil)
      go_simp
      go_at_call 32; with_reducible refine (HN.out _).mono ?_
      rintro e w4 ⟨rfl, kk⟩
      have hI4 := HIW.out.kept (Kept.trans (Kept.drew (Kept.refl _)) kk)
      refine hK.out _ _ ?_ (fun hHeld2 => ?_)
      · exact fiveO_kept hHeld kk
      clear hK K hHeld
      have hHeld := hHeld2
      clear hHeld2
      try simp only [Act.put, List.setIfInBounds_toArray, List.set_cons_zero, List.set_cons_succ]
      refine wpAnyH_ready (rs := [6]) (by kernel_rfl) (by simp) ?_
      refine AllReadyH.cons (by simp only [List.getElem?_toArray, List.getElem?_cons_succ, List.getElem?_cons_zero]; rfl) (fun K hK => ?_) (AllReadyH.nil)
      go_simp
      go_at_call 42; with_reducible refine (findN_any A c k B HLn.out (by rw [← HLn.out]; omega) y.p w4 (hI4.cells HLn.out)).mono ?_
      rintro e w5 ⟨rfl, kk5⟩
      have hI5 := hI4.kept kk5
      refine hK.out _ _ ?_ (fun hHeld2 => ?_)
      · exact fiveO_kept hHeld kk5
      clear hK K hHeld
      have hHeld := hHeld2
      clear hHeld2
      try simp only [Act.put, List.setIfInBounds_toArray, List.set_cons_zero, List.set_cons_succ]
      refine wpAnyH_take (i := 7) (v := ?_) (by simp only [List.getElem?_toArray, List.getElem?_cons_succ, List.getElem?_cons_zero]; rfl) (by kernel_rfl) (by kernel_rfl) (by kernel_rfl) (fun _ _ _ h => h) (Or.inl ⟨by rfl, ?_⟩) (by assumption) ?_
      rotate_left
      · intro w hSw
        (try dsimp only at hSw)
        go_simp
        (try with_reducible rfl)
      simp only [Act.put, List.setIfInBounds_toArray, List.set_cons_zero, List.set_cons_succ]
      refine wpAnyH_ready (rs := [8]) (by kernel_rfl) (by simp) ?_
      refine AllReadyH.cons (by simp only [List.getElem?_toArray, List.getElem?_cons_succ, List.getElem?_cons_zero]; rfl) (fun K hK => ?_) (AllReadyH.nil)
      go_simp
      refine hK.out _ _ ?_ (fun hHeld2 => ?_)
      · exact fiveO_kept hHeld ((Kept.refl _).alloc _)
      clear hK K hHeld
      have hHeld := hHeld2
      clear hHeld2
      try simp only [Act.put, List.setIfInBounds_toArray, List.set_cons_zero, List.set_cons_succ]
      refine wpAnyH_ready (rs := [9]) (by kernel_rfl) (by simp) ?_
      refine AllReadyH.cons (by simp only [List.getElem?_toArray, List.getElem?_cons_succ, List.getElem?_cons_zero]; rfl) (fun K hK => ?_) (AllReadyH.nil)
      have hap := (hI5.alloc (.cells #[.int .u64 n.1, .int .u64 n.2, .int .i64 (posI B y.p), .int .i64 0, .int .i64 0, .int .i64 0, .int .i64 0] 50)).apart hHeld.2.2.2.2.2.1 (by decide)
      refine step_its _ (by rfl) 76 Try.underlying76 (.tmp 12) (.tmp 20) (by rfl) _ B _ (by rfl) (hI5.alloc (.cells #[.int .u64 n.1, .int .u64 n.2, .int .i64 (posI B y.p), .int .i64 0, .int .i64 0, .int .i64 0, .int .i64 0] 50)) _ _ 1 1 [⟨n, posI B y.p, 0, 0, 0, 0⟩] (by rfl) rfl (items_new (t := ⟨n, posI B y.p, 0, 0, 0, 0⟩) w5.heap.size rfl 50) (by rw [← HLn.out]; omega) ?_
      intro A6 c6 w6 hI6 g6
      refine hK.out _ _ ?_ (fun hHeld2 => ?_)
      · exact fiveO_grown hHeld g6 hap (hI5.alloc (.cells #[.int .u64 n.1, .int .u64 n.2, .int .i64 (posI B y.p), .int .i64 0, .int .i64 0, .int .i64 0, .int .i64 0] 50)).from
      clear hK K hHeld
      have hHeld := hHeld2
      clear hHeld2
      try simp only [Act.put, List.setIfInBounds_toArray, List.set_cons_zero, List.set_cons_succ]
      refine wpAnyH_take (i := 10) (v := ?_) (by simp only [List.getElem?_toArray, List.getElem?_cons_succ, List.getElem?_cons_zero]; rfl) (by kernel_rfl) (by kernel_rfl) (by kernel_rfl) (fun _ _ _ h => h) (Or.inl ⟨by rfl, ?_⟩) (by assumption) ?_
      rotate_left
      · intro w hSw
        (try dsimp only at hSw)
        go_simp
        (try with_reducible rfl)
      simp only [Act.put, List.setIfInBounds_toArray, List.set_cons_zero, List.set_cons_succ]
      refine wpAnyH_done (by kernel_rfl) ?_ _
      refine NoPanic.normal ?_
      have HI6 := Lib.hid (show Its w (bareTo (l.take (k + 1))) (.slice A6 (k + 1) c6) w6 from by have h := hI6; rw [show (B ++ [(⟨n, posI B y.p, 0, 0, 0, 0⟩ : It)]).length = k + 1 from by rw [List.length_append, ← HLn.out]; rfl] at h; rw [HT.out]; exact h)
      have hl6 : (B ++ [(⟨n, posI B y.p, 0, 0, 0, 0⟩ : It)]).length = k + 1 := by rw [List.length_append, ← HLn.out]; rfl
      clear hHeld hI6 g6 hap hI5 kk5 hI4 kk c0 c1 c2 c3 c4
      try rw [hl6]
      clear hl6
      generalize w6 = V1 at *
      go_wp2_with fail
      go_roundw
      case rel => exact ⟨k + 1, by omega, by go_num, A6, c6, by first | rfl | rw [← HLn.out] | (rw [← HLn.out]; rfl), HI6.out⟩
      case measure => simp [intOf]; omega
    · have hkl : k = l.length := by omega
      subst hkl
      have HE := Lib.hid (show Its w (bareTo l) (.slice A l.length c) wr by have h := HI.out; rw [List.take_length] at h; exact h)
      go_wp2_with fail
      go_ret
      exact ⟨A, c, rfl, HE.out⟩

/-! ### From -/
def FromNew (r : List It) (w : World) (e : Ending) (w' : World) : Prop := ∃ A c, e = .returned (.slice A r.length c) ∧ CellsAt w' w'.heap.size A (itemCells r) ∧ r.length ≤ c ∧ Kept w w'
theorem FromNew.nil {r : List It} {w w' : World} (h : r = []) (k : Kept w w') : FromNew r w (.returned (.slice none 0 0)) w' := by subst h; exact ⟨none, 0, rfl, CellsAt.nil, Nat.zero_le _, k⟩
set_option maxRecDepth 100000 in
set_option maxHeartbeats 6400000 in
theorem from_any (A : Option Addr) (c : Nat) (k : Cf) (L : Option Addr) (cl : Nat) (l : List Bk) (V : Option Addr) (cv : Nat) (v : List Vt) (w : World)
    (hl : l.length ≤ 1000000) (hv : v.length ≤ 100000) (hwl : WfL l) (hwv : WfVs v) (hA : CellsAt w w.heap.size A (intCells k.ws)) (hL : CellsAt w w.heap.size L (blockCells l)) (hV : CellsAt w w.heap.size V (votesCells v)) :
    Calls Try.prog 27 #[.agg #[.slice A k.ws.length c, .int .u64 k.seed, .int .i64 k.ep, .int .i64 k.nu, .int .i64 k.de], .slice L l.length cl, .slice V v.length cv] w (FromNew (fromC k l v) w) := by
  have K0 := Lib.hid ((Kept.refl w).alloc (.cells #[.slice A k.ws.length c, .int .u64 k.seed, .int .i64 k.ep, .int .i64 k.nu, .int .i64 k.de] 25))
  have HC := Lib.hid (HasCells.new w #[.slice A k.ws.length c, .int .u64 k.seed, .int .i64 k.ep, .int .i64 k.nu, .int .i64 k.de] 25 w.heap.size rfl)
  have HA := Lib.hid (hA.kept K0.out)
  have HL := Lib.hid (hL.kept K0.out)
  have HV := Lib.hid (hV.kept K0.out)
  have HWL := Lib.hid hwl
  have HWV := Lib.hid hwv
  clear hA hL hV hwl hwv
  go_enter Try.func27, Try.ntmps27
  by_cases h60 : l.length ≤ 60
  · go_wp2_with fail
    generalize w.alloc (.cells #[.slice A k.ws.length c, .int .u64 k.seed, .int .i64 k.ep, .int .i64 k.nu, .int .i64 k.de] 25) = W at *
    generalize w.heap.size = z at *
    refine (mayD_any A c k W HA.out).mono ?_
    rintro e W1 ⟨rfl, k1⟩
    have K1 := Lib.hid k1
    clear k1
    cases hm : mayC k with
    | false =>
      have HE := Lib.hid (fromC_no (k := k) (l := l) v (fun h => by rw [hm] at h; cases h.1))
      clear hm
      go_wp2_with fail
      go_ret
      exact FromNew.nil HE.out (K0.out.trans K1.out)
    | true =>
      have HMc := Lib.hid hm
      clear hm
      go_wp2_with fail
      refine (may_any L cl l hl HWL.out W1 (HL.out.kept K1.out)).mono ?_
      rintro e W2 ⟨rfl, k2⟩
      have K2 := Lib.hid (K1.out.trans k2)
      clear k2 K1
      cases hm : mayB l with
      | false =>
        have HE := Lib.hid (fromC_no (k := k) (l := l) v (fun h => by rw [hm] at h; cases h.2.1))
        clear hm
        go_wp2_with fail
        go_ret
        exact FromNew.nil HE.out (K0.out.trans K2.out)
      | true =>
        have HE := Lib.hid (fromC_yes v HMc.out hm h60)
        clear hm
        go_wp2_with fail
        refine (bare_any L cl l h60 HWL.out W2 (HL.out.kept K2.out)).mono ?_
        rintro e W3 ⟨B, cb, rfl, hI⟩
        have HI0 := Lib.hid hI
        have HVl := Lib.hid (votes_length k l)
        have HGd := Lib.hid (votes_good k l)
        clear hI
        go_wp2_with fail
        go_loopw [28] (fun i w' => ∃ j : Nat, j ≤ v.length ∧ i = .int .i64 (j : Nat) ∧ Its W2 (votesTo k (bareTo l) (v.take j)) (.slice B l.length cb) w') (fun i _ => v.length - (intOf i).toNat)
        case atStart => exact ⟨0, by omega, by first | rfl | simp, HI0.out⟩
        case round =>
          obtain ⟨j, hj, rfl, hI⟩ := hrel
          have HI := Lib.hid hI
          clear hI HI0
          by_cases hlt : j < v.length
          · obtain ⟨zv, ov, rfl, hbv, v0, v1, v2, v3⟩ := vote_at (HV.out.kept (K2.out.trans HI.out.2)) hlt
            have HT := Lib.hid (votes_take (k := k) (a := bareTo l) hlt)
            have HG := Lib.hid (HGd.out (v.take j))
            have HLn := Lib.hid (HVl.out (v.take j))
            obtain ⟨c0, c1, c2, c3, c4⟩ := (HC.out.kept (K2.out.trans HI.out.2)).five
            have hzl := (HC.out.kept (K2.out.trans HI.out.2)).1
            have HAr := Lib.hid (HA.out.kept (K2.out.trans HI.out.2))
            have HNo := Lib.hid (fun h => addV_none (k := k) (a := votesTo k (bareTo l) (v.take j)) (y := v[j]'hlt) h)
            have HFu := Lib.hid (fun i h h2 => addV_full (k := k) (a := votesTo k (bareTo l) (v.take j)) (y := v[j]'hlt) (i := i) h h2)
            have HOk := Lib.hid (fun i h h2 => addV_ok (k := k) (a := votesTo k (bareTo l) (v.take j)) (y := v[j]'hlt) (i := i) h h2)
            have HPw := Lib.hid (posI_way (votesTo k (bareTo l) (v.take j)) v[j].p)
            have hwb := weight_bounds k [v[j].f]
            have HFd := Lib.hid (fun w' (kk : Kept wr w') => findN_any B cb l.length (votesTo k (bareTo l) (v.take j)) (by rw [HLn.out]) (by rw [HLn.out]; omega) v[j].p w' ((HI.out.cells (by rw [HLn.out])).kept kk))
            generalize votesTo k (bareTo l) (v.take j) = X at *
            generalize v[j] = y at *
            have HWt := Lib.hid (fun (Q : Option Addr) cq w' (kk : Kept wr w') (hQ : CellsAt w' w'.heap.size Q (intCells [y.f])) => (show Calls Try.prog 53 #[.agg #[.slice A k.ws.length c, .int .u64 k.seed, .int .i64 k.ep, .int .i64 k.nu, .int .i64 k.de], .slice Q 1 cq] w' fun e w'' => e = .returned (.int .i64 (weightC k [y.f])) ∧ Kept w' w'' from weight_any A c k Q [y.f] cq w' (HAr.out.kept kk) (by simp) hQ))
            generalize posI X y.p = pp at *
            generalize weightC k [y.f] = wt at *
            go_wp2_with fail
            refine wp_region_noPanic ?_
            refine wp_region_held_drew (S := (fun w' => w'.cell? ⟨z, 0, none⟩ = some (.slice A k.ws.length c) ∧ w'.cell? ⟨z, 1, none⟩ = some (.int .u64 k.seed) ∧ w'.cell? ⟨z, 2, none⟩ = some (.int .i64 k.ep) ∧ w'.cell? ⟨z, 3, none⟩ = some (.int .i64 k.nu) ∧ w'.cell? ⟨z, 4, none⟩ = some (.int .i64 k.de) ∧ w'.cell? ⟨zv, ov + j * 4, none⟩ = some (.int .i64 y.f) ∧ w'.cell? ⟨zv, ov + j * 4 + 2, none⟩ = some (.int .u64 y.p.1) ∧ w'.cell? ⟨zv, ov + j * 4 + 3, none⟩ = some (.int .u64 y.p.2) ∧ Kept wr w')) (by kernel_rfl) ?_ (fun hHeld => ?_)
            · exact ⟨c0, c1, c2, c3, c4, v0, v2, v3, (Kept.refl _).drew⟩
            refine wpAnyH_take (i := 0) (v := ?_) (by simp only [List.getElem?_toArray, List.getElem?_cons_succ, List.getElem?_cons_zero]; rfl) (by kernel_rfl) (by kernel_rfl) (by kernel_rfl) (fun _ _ _ h => h) (Or.inl ⟨by rfl, ?_⟩) (by assumption) ?_
            rotate_left
            · intro w hSw
              (try dsimp only at hSw)
              go_simp
              (try with_reducible rfl)
            simp only [Act.put, List.setIfInBounds_toArray, List.set_cons_zero, List.set_cons_succ]
            refine wpAnyH_take (i := 1) (v := ?_) (by simp only [List.getElem?_toArray, List.getElem?_cons_succ, List.getElem?_cons_zero]; rfl) (by kernel_rfl) (by kernel_rfl) (by kernel_rfl) (fun _ _ _ h => h) (Or.inl ⟨by rfl, ?_⟩) (by assumption) ?_
            rotate_left
            · intro w hSw
              (try dsimp only at hSw)
              go_simp
              (try with_reducible rfl)
            simp only [Act.put, List.setIfInBounds_toArray, List.set_cons_zero, List.set_cons_succ]
            refine wpAnyH_take (i := 2) (v := ?_) (by simp only [List.getElem?_toArray, List.getElem?_cons_succ, List.getElem?_cons_zero]; rfl) (by kernel_rfl) (by kernel_rfl) (by kernel_rfl) (fun _ _ _ h => h) (Or.inl ⟨by rfl, ?_⟩) (by assumption) ?_
            rotate_left
            · intro w hSw
              (try dsimp only at hSw)
              go_simp
              (try with_reducible rfl)
            simp only [Act.put, List.setIfInBounds_toArray, List.set_cons_zero, List.set_cons_succ]
            refine wpAnyH_take (i := 3) (v := ?_) (by simp only [List.getElem?_toArray, List.getElem?_cons_succ, List.getElem?_cons_zero]; rfl) (by kernel_rfl) (by kernel_rfl) (by kernel_rfl) (fun _ _ _ h => h) (Or.inl ⟨by rfl, ?_⟩) (by assumption) ?_
            rotate_left
            · intro w hSw
              (try dsimp only at hSw)
              go_simp
              (try with_reducible rfl)
            simp only [Act.put, List.setIfInBounds_toArray, List.set_cons_zero, List.set_cons_succ]
            refine wpAnyH_take (i := 4) (v := ?_) (by simp only [List.getElem?_toArray, List.getElem?_cons_succ, List.getElem?_cons_zero]; rfl) (by kernel_rfl) (by kernel_rfl) (by kernel_rfl) (fun _ _ _ h => h) (Or.inl ⟨by rfl, ?_⟩) (by assumption) ?_
            rotate_left
            · intro w hSw
              (try dsimp only at hSw)
              go_simp
              (try with_reducible rfl)
            simp only [Act.put, List.setIfInBounds_toArray, List.set_cons_zero, List.set_cons_succ]
            refine wpAnyH_take (i := 5) (v := ?_) (by simp only [List.getElem?_toArray, List.getElem?_cons_succ, List.getElem?_cons_zero]; rfl) (by kernel_rfl) (by kernel_rfl) (by kernel_rfl) (fun _ _ _ h => h) (Or.inl ⟨by rfl, ?_⟩) (by assumption) ?_
            rotate_left
            · intro w hSw
              (try dsimp only at hSw)
              go_simp
              (try with_reducible rfl)
            simp only [Act.put, List.setIfInBounds_toArray, List.set_cons_zero, List.set_cons_succ]
            refine wpAnyH_take (i := 7) (v := ?_) (by simp only [List.getElem?_toArray, List.getElem?_cons_succ, List.getElem?_cons_zero]; rfl) (by kernel_rfl) (by kernel_rfl) (by kernel_rfl) (fun _ _ _ h => h) (Or.inl ⟨by rfl, ?_⟩) (by assumption) ?_
            rotate_left
            · intro w hSw
              (try dsimp only at hSw)
              go_simp
              (try with_reducible rfl)
            simp only [Act.put, List.setIfInBounds_toArray, List.set_cons_zero, List.set_cons_succ]
            refine wpAnyH_take (i := 8) (v := ?_) (by simp only [List.getElem?_toArray, List.getElem?_cons_succ, List.getElem?_cons_zero]; rfl) (by kernel_rfl) (by kernel_rfl) (by kernel_rfl) (fun _ _ _ h => h) (Or.inl ⟨by rfl, ?_⟩) (by assumption) ?_
            rotate_left
            · intro w hSw
              (try dsimp only at hSw)
              go_simp
              (try with_reducible rfl)
            simp only [Act.put, List.setIfInBounds_toArray, List.set_cons_zero, List.set_cons_succ]
            refine wpAnyH_take (i := 9) (v := ?_) (by simp only [List.getElem?_toArray, List.getElem?_cons_succ, List.getElem?_cons_zero]; rfl) (by kernel_rfl) (by kernel_rfl) (by kernel_rfl) (fun _ _ _ h => h) (Or.inl ⟨by rfl, ?_⟩) (by assumption) ?_
            rotate_left
            · intro w hSw
              (try dsimp only at hSw)
              go_simp
              (try with_reducible rfl)
            simp only [Act.put, List.setIfInBounds_toArray, List.set_cons_zero, List.set_cons_succ]
            refine wpAnyH_take (i := 10) (v := ?_) (by simp only [List.getElem?_toArray, List.getElem?_cons_succ, List.getElem?_cons_zero]; rfl) (by kernel_rfl) (by kernel_rfl) (by kernel_rfl) (fun _ _ _ h => h) (Or.inl ⟨by rfl, ?_⟩) (by assumption) ?_
            rotate_left
            · intro w hSw
              (try dsimp only at hSw)
              go_simp
              (try with_reducible rfl)
            simp only [Act.put, List.setIfInBounds_toArray, List.set_cons_zero, List.set_cons_succ]
            refine wpAnyH_take (i := 11) (v := ?_) (by simp only [List.getElem?_toArray, List.getElem?_cons_succ, List.getElem?_cons_zero]; rfl) (by kernel_rfl) (by kernel_rfl) (by kernel_rfl) (fun _ _ _ h => h) (Or.inl ⟨by rfl, ?_⟩) (by assumption) ?_
            rotate_left
            · intro w hSw
              (try dsimp only at hSw)
              go_simp
              (try with_reducible rfl)
            simp only [Act.put, List.setIfInBounds_toArray, List.set_cons_zero, List.set_cons_succ]
            refine wpAnyH_take (i := 12) (v := ?_) (by simp only [List.getElem?_toArray, List.getElem?_cons_succ, List.getElem?_cons_zero]; rfl) (by kernel_rfl) (by kernel_rfl) (by kernel_rfl) (fun _ _ _ h => h) (Or.inl ⟨by rfl, ?_⟩) (by assumption) ?_
            rotate_left
            · intro w hSw
              (try dsimp only at hSw)
              go_simp
              (try with_reducible rfl)
            simp only [Act.put, List.setIfInBounds_toArray, List.set_cons_zero, List.set_cons_succ]
            refine wpAnyH_ready (rs := [6, 13]) (by kernel_rfl) (by simp) ?_
            refine AllReadyH.cons (by simp only [List.getElem?_toArray, List.getElem?_cons_succ, List.getElem?_cons_zero]; rfl) (fun K hK => ?_) (AllReadyH.cons (by simp only [List.getElem?_toArray, List.getElem?_cons_succ, List.getElem?_cons_zero]; rfl) (fun K hK => ?_) (AllReadyH.nil))
            · go_simp
              go_at_call 42; with_reducible refine (HFd.out _ hHeld.2.2.2.2.2.2.2.2).mono ?_
              rintro e w6 ⟨rfl, kk⟩
              refine hK.out _ _ ?_ (fun hHeld2 => ?_)
              · exact keepP8 hzl hzl hzl hzl hzl hbv hbv hbv hHeld kk
              clear hK K hHeld
              have hHeld := hHeld2
              clear hHeld2
              try simp only [Act.put, List.setIfInBounds_toArray, List.set_cons_zero, List.set_cons_succ]
              refine wpAnyH_ready (rs := [13]) (by kernel_rfl) (by simp) ?_
              refine AllReadyH.cons (by simp only [List.getElem?_toArray, List.getElem?_cons_succ, List.getElem?_cons_zero]; rfl) (fun K hK => ?_) (AllReadyH.nil)
              go_simp
              refine hK.out _ _ ?_ (fun hHeld2 => ?_)
              · exact keepP8 hzl hzl hzl hzl hzl hbv hbv hbv hHeld ((Kept.refl _).alloc _)
              clear hK K hHeld
              have hHeld := hHeld2
              clear hHeld2
              try simp only [Act.put, List.setIfInBounds_toArray, List.set_cons_zero, List.set_cons_succ]
              refine wpAnyH_ready (rs := [14]) (by kernel_rfl) (by simp) ?_
              refine AllReadyH.cons (by simp only [List.getElem?_toArray, List.getElem?_cons_succ, List.getElem?_cons_zero]; rfl) (fun K hK => ?_) (AllReadyH.nil)
              go_simp
              go_at_call 53; with_reducible refine (HWt.out _ 1 _ hHeld.2.2.2.2.2.2.2.2 (CellsAt.new w6 #[.int .i64 y.f] 3 w6.heap.size rfl)).mono ?_
              rintro e w7 ⟨rfl, kk7⟩
              refine hK.out _ _ ?_ (fun hHeld2 => ?_)
              · exact keepP8 hzl hzl hzl hzl hzl hbv hbv hbv hHeld kk7
              clear hK K hHeld
              have hHeld := hHeld2
              clear hHeld2
              try simp only [Act.put, List.setIfInBounds_toArray, List.set_cons_zero, List.set_cons_succ]
              refine wpAnyH_take (i := 15) (v := ?_) (by simp only [List.getElem?_toArray, List.getElem?_cons_succ, List.getElem?_cons_zero]; rfl) (by kernel_rfl) (by kernel_rfl) (by kernel_rfl) (fun _ _ _ h => h) (Or.inl ⟨by rfl, ?_⟩) (by assumption) ?_
              rotate_left
              · intro w hSw
                (try dsimp only at hSw)
                go_simp
                (try with_reducible rfl)
              simp only [Act.put, List.setIfInBounds_toArray, List.set_cons_zero, List.set_cons_succ]
              refine wpAnyH_take (i := 16) (v := ?_) (by simp only [List.getElem?_toArray, List.getElem?_cons_succ, List.getElem?_cons_zero]; rfl) (by kernel_rfl) (by kernel_rfl) (by kernel_rfl) (fun _ _ _ h => h) (Or.inl ⟨by rfl, ?_⟩) (by assumption) ?_
              rotate_left
              · intro w hSw
                (try dsimp only at hSw)
                go_simp
                (try with_reducible rfl)
              simp only [Act.put, List.setIfInBounds_toArray, List.set_cons_zero, List.set_cons_succ]
              refine wpAnyH_done (by kernel_rfl) ?_ _
              refine NoPanic.normal ?_
              have HI7 := Lib.hid (HI.out.kept hHeld.2.2.2.2.2.2.2.2)
              clear hHeld kk kk7 HFd HWt c0 c1 c2 c3 c4 hzl hbv v0 v1 v2 v3
              generalize w7 = V1 at *
              rcases HPw.out with ⟨rfl, _⟩ | ⟨i, rfl, hi, _⟩
              · have HN := Lib.hid (HNo.out rfl)
                clear HNo HFu HOk HPw
                go_wp2_with fail
                go_roundw
                case rel => exact ⟨j + 1, by omega, by go_num, by rw [HT.out, HN.out]; exact HI7.out⟩
                case measure => simp [intOf]; omega
              · have hi1 : ((i : Int) != -1) = true := by rw [bne_iff_ne]; omega
                have hil : i < l.length := by have := HLn.out; omega
                obtain ⟨g, rfl, _⟩ := form0 HI7.out (by omega)
                obtain ⟨_, _, _, s3, _, _, _⟩ := HI7.out.at HLn.out.symm hi
                have hob := HG.out.own i hi
                have HFi := Lib.hid (fun h => HFu.out i rfl h)
                have HOi := Lib.hid (fun h => HOk.out i rfl h)
                clear HNo HFu HOk HPw
                generalize hto : (itA X i).o = to at *
                have HTo := Lib.hid hto
                clear hto
                cases ho : ownB (to + wt) with
                | false =>
                  have HN := Lib.hid (HFi.out ho)
                  have HO := Lib.hid ho
                  clear ho HFi HOi
                  go_wp2_with fail
                  refine (ownB_any (to + wt) _).mono ?_
                  rintro e w' ⟨rfl, rfl⟩
                  rw [HO.out]
                  go_wp2_with fail
                  go_roundw
                  case rel => exact ⟨j + 1, by omega, by go_num, by rw [HT.out, HN.out]; exact HI7.out⟩
                  case measure => simp [intOf]; omega
                | true =>
                  have HN := Lib.hid (HOi.out ho)
                  have HO := Lib.hid ho
                  clear ho HFi HOi
                  have f3 := HI7.out.frozen (i * 7 + 3)
                  go_wp2_with fail
                  refine (ownB_any (to + wt) _).mono ?_
                  rintro e w' ⟨rfl, rfl⟩
                  rw [HO.out]
                  go_wp2_with fail
                  have HI8 := Lib.hid (show Its W2 (ownI X i (to + wt)) (.slice (some ⟨g, 0, none⟩) l.length cb) (V1.setCell ⟨g, i * 7 + 3, none⟩ (.int .i64 (to + wt))) from
                    HI7.out.set hi (j := 3) (by omega) (t := { itA X i with o := to + wt }) (by rw [← itA_get hi]; rfl))
                  go_roundw
                  case rel => exact ⟨j + 1, by omega, by go_num, by rw [HT.out, HN.out]; exact HI8.out⟩
                  case measure => simp [intOf]; omega
            · go_simp
              refine hK.out _ _ ?_ (fun hHeld2 => ?_)
              · exact keepP8 hzl hzl hzl hzl hzl hbv hbv hbv hHeld ((Kept.refl _).alloc _)
              clear hK K hHeld
              have hHeld := hHeld2
              clear hHeld2
              try simp only [Act.put, List.setIfInBounds_toArray, List.set_cons_zero, List.set_cons_succ]
              refine wpAnyH_ready (rs := [6]) (by kernel_rfl) (by simp) ?_
              refine AllReadyH.cons (by simp only [List.getElem?_toArray, List.getElem?_cons_succ, List.getElem?_cons_zero]; rfl) (fun K hK => ?_) (AllReadyH.nil)
              go_simp
              go_at_call 42; with_reducible refine (HFd.out _ hHeld.2.2.2.2.2.2.2.2).mono ?_
              rintro e w6 ⟨rfl, kk⟩
              refine hK.out _ _ ?_ (fun hHeld2 => ?_)
              · exact keepP8 hzl hzl hzl hzl hzl hbv hbv hbv hHeld kk
              clear hK K hHeld
              have hHeld := hHeld2
              clear hHeld2
              try simp only [Act.put, List.setIfInBounds_toArray, List.set_cons_zero, List.set_cons_succ]
              refine wpAnyH_ready (rs := [14]) (by kernel_rfl) (by simp) ?_
              refine AllReadyH.cons (by simp only [List.getElem?_toArray, List.getElem?_cons_succ, List.getElem?_cons_zero]; rfl) (fun K hK => ?_) (AllReadyH.nil)
              go_simp
              go_at_call 53; with_reducible refine (HWt.out _ 1 _ hHeld.2.2.2.2.2.2.2.2 ((CellsAt.new wr #[.int .i64 y.f] 3 wr.heap.size rfl).kept (Kept.trans (Kept.drew (Kept.refl _)) kk))).mono ?_
              rintro e w7 ⟨rfl, kk7⟩
              refine hK.out _ _ ?_ (fun hHeld2 => ?_)
              · exact keepP8 hzl hzl hzl hzl hzl hbv hbv hbv hHeld kk7
              clear hK K hHeld
              have hHeld := hHeld2
              clear hHeld2
              try simp only [Act.put, List.setIfInBounds_toArray, List.set_cons_zero, List.set_cons_succ]
              refine wpAnyH_take (i := 15) (v := ?_) (by simp only [List.getElem?_toArray, List.getElem?_cons_succ, List.getElem?_cons_zero]; rfl) (by kernel_rfl) (by kernel_rfl) (by kernel_rfl) (fun _ _ _ h => h) (Or.inl ⟨by rfl, ?_⟩) (by assumption) ?_
              rotate_left
              · intro w hSw
                (try dsimp only at hSw)
                go_simp
                (try with_reducible rfl)
              simp only [Act.put, List.setIfInBounds_toArray, List.set_cons_zero, List.set_cons_succ]
              refine wpAnyH_take (i := 16) (v := ?_) (by simp only [List.getElem?_toArray, List.getElem?_cons_succ, List.getElem?_cons_zero]; rfl) (by kernel_rfl) (by kernel_rfl) (by kernel_rfl) (fun _ _ _ h => h) (Or.inl ⟨by rfl, ?_⟩) (by assumption) ?_
              rotate_left
              · intro w hSw
                (try dsimp only at hSw)
                go_simp
                (try with_reducible rfl)
              simp only [Act.put, List.setIfInBounds_toArray, List.set_cons_zero, List.set_cons_succ]
              refine wpAnyH_done (by kernel_rfl) ?_ _
              refine NoPanic.normal ?_
              have HI7 := Lib.hid (HI.out.kept hHeld.2.2.2.2.2.2.2.2)
              clear hHeld kk kk7 HFd HWt c0 c1 c2 c3 c4 hzl hbv v0 v1 v2 v3
              generalize w7 = V1 at *
              rcases HPw.out with ⟨rfl, _⟩ | ⟨i, rfl, hi, _⟩
              · have HN := Lib.hid (HNo.out rfl)
                clear HNo HFu HOk HPw
                go_wp2_with fail
                go_roundw
                case rel => exact ⟨j + 1, by omega, by go_num, by rw [HT.out, HN.out]; exact HI7.out⟩
                case measure => simp [intOf]; omega
              · have hi1 : ((i : Int) != -1) = true := by rw [bne_iff_ne]; omega
                have hil : i < l.length := by have := HLn.out; omega
                obtain ⟨g, rfl, _⟩ := form0 HI7.out (by omega)
                obtain ⟨_, _, _, s3, _, _, _⟩ := HI7.out.at HLn.out.symm hi
                have hob := HG.out.own i hi
                have HFi := Lib.hid (fun h => HFu.out i rfl h)
                have HOi := Lib.hid (fun h => HOk.out i rfl h)
                clear HNo HFu HOk HPw
                generalize hto : (itA X i).o = to at *
                have HTo := Lib.hid hto
                clear hto
                cases ho : ownB (to + wt) with
                | false =>
                  have HN := Lib.hid (HFi.out ho)
                  have HO := Lib.hid ho
                  clear ho HFi HOi
                  go_wp2_with fail
                  refine (ownB_any (to + wt) _).mono ?_
                  rintro e w' ⟨rfl, rfl⟩
                  rw [HO.out]
                  go_wp2_with fail
                  go_roundw
                  case rel => exact ⟨j + 1, by omega, by go_num, by rw [HT.out, HN.out]; exact HI7.out⟩
                  case measure => simp [intOf]; omega
                | true =>
                  have HN := Lib.hid (HOi.out ho)
                  have HO := Lib.hid ho
                  clear ho HFi HOi
                  have f3 := HI7.out.frozen (i * 7 + 3)
                  go_wp2_with fail
                  refine (ownB_any (to + wt) _).mono ?_
                  rintro e w' ⟨rfl, rfl⟩
                  rw [HO.out]
                  go_wp2_with fail
                  have HI8 := Lib.hid (show Its W2 (ownI X i (to + wt)) (.slice (some ⟨g, 0, none⟩) l.length cb) (V1.setCell ⟨g, i * 7 + 3, none⟩ (.int .i64 (to + wt))) from
                    HI7.out.set hi (j := 3) (by omega) (t := { itA X i with o := to + wt }) (by rw [← itA_get hi]; rfl))
                  go_roundw
                  case rel => exact ⟨j + 1, by omega, by go_num, by rw [HT.out, HN.out]; exact HI8.out⟩
                  case measure => simp [intOf]; omega
          · have hjl : j = v.length := by omega
            subst hjl
            have HI1 := Lib.hid (show Its W2 (votesTo k (bareTo l) v) (.slice B l.length cb) wr by have h := HI.out; rw [List.take_length] at h; exact h)
            have HSe := Lib.hid (show Calls Try.prog 45 #[.slice B l.length cb] wr fun e w' => e = .returned (.tuple #[]) ∧ Its W2 (anewC (votesTo k (bareTo l) v)) (.slice B l.length cb) w' from by
              have h := settleV_any W2 B cb (votesTo k (bareTo l) v) (by rw [HVl.out]; omega) ((HGd.out v).right (bare_right l)) (HGd.out v).own wr (by rw [HVl.out]; exact HI1.out)
              rw [HVl.out] at h
              exact h)
            have HLn := Lib.hid (show (anewC (votesTo k (bareTo l) v)).length = l.length by rw [anewC_length, HVl.out])
            go_wp2_with fail
            refine HSe.out.mono ?_
            rintro e V2 ⟨rfl, hI2⟩
            have HI2 := Lib.hid hI2
            clear hI2 HSe
            go_wp2_with fail
            go_ret
            rw [HE.out]
            exact ⟨B, cb, by rw [HLn.out]; rfl, HI2.out.cells HLn.out.symm, by rw [HLn.out]; exact HI2.out.cap, K0.out.trans (K2.out.trans HI2.out.2)⟩
  · have HE := Lib.hid (fromC_no (k := k) (l := l) v (fun h => h60 h.2.2))
    go_wp2_with fail
    go_ret
    exact FromNew.nil HE.out K0.out

end Go.Proofs.Ytabmdilhfiembaa
