/-
  The contracts of package array's calls Top, Insert and Move.
-/
import Derived.Test.YtabmdilhfiembaaArrayStand
import Derived.Test.YtabmdilhfiembaaGhostRef
namespace Go.Proofs.Ytabmdilhfiembaa
set_option maxRecDepth 100000
set_option linter.unusedVariables false
set_option linter.unusedSimpArgs false
set_option linter.unusedVariables false
open Go.ChangeShapes Go.WideShapes Go.ChangeAt Go.RowKit

/-! ### Plain -/
theorem MayI.stand {a : List It} (h : MayI a) : StandI a := ⟨h.1, h.2.1⟩
theorem may_at {a : List It} (h : MayI a) {k : Nat} (hk : k < a.length) : itA a k = nodeC a k := by
  have e := anewC_at hk
  rwa [h.2.2] at e
theorem may_best {a : List It} (h : MayI a) (j : Int) : bestE a (kidsE a j) = bC a j := by
  have e := anew_best h.stand.right j
  rwa [h.2.2] at e
theorem topC_no {a : List It} (h : mayI a = false) : topC a = zid := by unfold topC; rw [h]; rfl
theorem topC_none {a : List It} (h : mayI a = true) (q : bC a (-1) = none) : topC a = zid := by unfold topC; rw [if_pos h, q]
theorem topC_some {a : List It} (h : mayI a = true) {r : Nat} (q : bC a (-1) = some r) : topC a = (itA a (hC a r)).x := by unfold topC; rw [if_pos h, q]
/-- With one item more: the array, and which error. -/
noncomputable def insC (a : List It) (id par : Id2) : List It × Int :=
  if mayI a = false ∨ id = zid then ([], 1) else if 0 ≤ posI a id then ([], 4) else if posI a par = -1 ∧ par ≠ zid then ([], 3) else if a.length = 60 then ([], 7) else (anewC (putI a id (posI a par)), 0)
theorem insC_arg {a : List It} {id par : Id2} (h : mayI a = false ∨ id = zid) : insC a id par = ([], 1) := by unfold insC; rw [if_pos h]
theorem insC_have {a : List It} {id par : Id2} (h : ¬ (mayI a = false ∨ id = zid)) (h2 : 0 ≤ posI a id) : insC a id par = ([], 4) := by unfold insC; rw [if_neg h, if_pos h2]
theorem insC_none {a : List It} {id par : Id2} (h : ¬ (mayI a = false ∨ id = zid)) (h2 : ¬ 0 ≤ posI a id) (h3 : posI a par = -1 ∧ par ≠ zid) : insC a id par = ([], 3) := by unfold insC; rw [if_neg h, if_neg h2, if_pos h3]
theorem insC_full {a : List It} {id par : Id2} (h : ¬ (mayI a = false ∨ id = zid)) (h2 : ¬ 0 ≤ posI a id) (h3 : ¬ (posI a par = -1 ∧ par ≠ zid)) (h4 : a.length = 60) : insC a id par = ([], 7) := by unfold insC; rw [if_neg h, if_neg h2, if_neg h3, if_pos h4]
theorem insC_ok {a : List It} {id par : Id2} (h : ¬ (mayI a = false ∨ id = zid)) (h2 : ¬ 0 ≤ posI a id) (h3 : ¬ (posI a par = -1 ∧ par ≠ zid)) (h4 : ¬ a.length = 60) : insC a id par = (anewC (putI a id (posI a par)), 0) := by unfold insC; rw [if_neg h, if_neg h2, if_neg h3, if_neg h4]
/-- With weight moved. -/
noncomputable def movC (a : List It) (id : Id2) (by_ : Int) : List It × Int :=
  if mayI a = false then ([], 1) else if posI a id < 0 then ([], 3) else if ownB ((itA a (posI a id).toNat).o + by_) then (anewC (ownI a (posI a id).toNat ((itA a (posI a id).toNat).o + by_)), 0) else ([], 1)
theorem movC_arg {a : List It} {id : Id2} {y : Int} (h : mayI a = false) : movC a id y = ([], 1) := by unfold movC; rw [if_pos h]
theorem movC_none {a : List It} {id : Id2} {y : Int} (h : mayI a = true) (h2 : posI a id = -1) : movC a id y = ([], 3) := by unfold movC; rw [if_neg (by rw [h]; simp), if_pos (by omega)]
theorem movC_own {a : List It} {id : Id2} {y : Int} (h : mayI a = true) {k : Nat} (h2 : posI a id = (k : Int)) (h3 : ownB ((itA a k).o + y) = false) : movC a id y = ([], 1) := by
  unfold movC; rw [if_neg (by rw [h]; simp), if_neg (by omega), h2, Int.toNat_natCast, h3]; rfl
theorem movC_ok {a : List It} {id : Id2} {y : Int} (h : mayI a = true) {k : Nat} (h2 : posI a id = (k : Int)) (h3 : ownB ((itA a k).o + y) = true) : movC a id y = (anewC (ownI a k ((itA a k).o + y)), 0) := by
  unfold movC; rw [if_neg (by rw [h]; simp), if_neg (by omega), h2, Int.toNat_natCast, if_pos h3]
/-- What hands back an array that is new, and an error's number. -/
def ItsNew (r : List It × Int) (w : World) (e : Ending) (w' : World) : Prop :=
  ∃ A c, e = .returned (.tuple #[.slice A r.1.length c, .int .i64 r.2]) ∧ CellsAt w' w'.heap.size A (itemCells r.1) ∧ r.1.length ≤ c ∧ Kept w w'
theorem ItsNew.none {r : List It × Int} {w w' : World} {n : Int} (h : r = ([], n)) (k : Kept w w') : ItsNew r w (.returned (.tuple #[.slice none 0 0, .int .i64 n])) w' := by
  subst h; exact ⟨_, _, rfl, CellsAt.nil, Nat.zero_le _, k⟩
theorem Its.cap {W w : World} {l : List It} {A : Option Addr} {n c : Nat} (h : Its W l (.slice A n c) w) : n ≤ c := by
  rcases h.1.2 with ⟨hv, _⟩ | ⟨g, cap, cur, hv, _, _, hn, _⟩
  · injection hv with _ h1 h2; omega
  · injection hv with _ h1 h2; omega
theorem putI_right {a : List It} (h : AllRight a) (id : Id2) {p : Int} (h1 : -1 ≤ p) (h2 : p < a.length) : AllRight (putI a id p) := fun i hi => by
  rw [putI_length] at hi
  by_cases e : i = a.length
  · subst e; rw [putI_new]; exact ⟨h1, h2⟩
  · rw [putI_at (by omega)]; exact h i (by omega)
theorem putI_own {a : List It} (h : ∀ i, i < a.length → 0 ≤ (itA a i).o ∧ (itA a i).o ≤ 1125899906842624) (id : Id2) (p : Int) : ∀ i, i < (putI a id p).length → 0 ≤ (itA (putI a id p) i).o ∧ (itA (putI a id p) i).o ≤ 1125899906842624 := fun i hi => by
  rw [putI_length] at hi
  by_cases e : i = a.length
  · subst e; rw [putI_new]; exact ⟨Int.le_refl 0, (by decide : (0 : Int) ≤ 1125899906842624)⟩
  · rw [putI_at (by omega)]; exact h i (by omega)
theorem ownI_right {a : List It} (h : AllRight a) (k : Nat) (v : Int) : AllRight (ownI a k v) := fun i hi => by
  rw [ownI_length] at hi; rw [ownI_p]; exact h i hi
theorem ownI_own {a : List It} (h : ∀ i, i < a.length → 0 ≤ (itA a i).o ∧ (itA a i).o ≤ 1125899906842624) {k : Nat} (hk : k < a.length) {v : Int} (hv : 0 ≤ v ∧ v ≤ 1125899906842624) : ∀ i, i < (ownI a k v).length → 0 ≤ (itA (ownI a k v) i).o ∧ (itA (ownI a k v) i).o ≤ 1125899906842624 := fun i hi => by
  rw [ownI_length] at hi
  by_cases e : i = k
  · subst e; rw [ownI_at hk]; exact hv
  · rw [ownI_other e]; exact h i hi

/-! ### Top -/
set_option maxRecDepth 100000 in
set_option maxHeartbeats 1600000 in
theorem topI_any (A : Option Addr) (c : Nat) (a : List It) (hl : a.length ≤ 70) (hc : a.length ≤ c) (w : World) (hA : CellsAt w w.heap.size A (itemCells a)) :
    Calls Try.prog 25 #[.slice A a.length c] w fun e w' => e = .returned (.agg #[.int .u64 (topC a).1, .int .u64 (topC a).2]) ∧ Kept w w' := by
  have HD := Lib.hid (Down.new w)
  have HK0 := Lib.hid ((Kept.refl w).alloc (.cells #[.int .u64 0, .int .u64 0] 29))
  have HA := Lib.hid (hA.kept HK0.out)
  have HM := Lib.hid (mayI_any A c a hl hc _ HA.out)
  clear hA
  go_enter Try.func25, Try.ntmps25
  go_wp2_with fail
  generalize w.alloc (.cells #[.int .u64 0, .int .u64 0] 29) = W at *
  generalize hzz : w.heap.size = z at *
  have HZ := Lib.hid (Nat.le_of_eq hzz)
  clear hzz
  refine HM.out.mono ?_
  rintro e W1 ⟨rfl, k1⟩
  have HD1 := Lib.hid (HD.out.keep k1)
  have HA1 := Lib.hid (HA.out.kept k1)
  clear k1 HM HK0 HA HD
  obtain ⟨d0, d1⟩ := HD1.out.cells.two
  have hzl := HD1.out.cells.1
  have f0 := HD1.out.f0
  have f1 := HD1.out.f1
  cases hm : mayI a with
  | false =>
    have HT := Lib.hid (topC_no hm)
    clear hm
    go_wp2_with fail
    refine bodyPost_ret (v := .agg #[.int .u64 0, .int .u64 0]) (by simp [results, Try.results25, go_sem, d0, d1]) rfl ⟨by rw [HT.out]; rfl, ?_⟩
    exact (HD1.out.set HZ.out zid).kept
  | true =>
    have HMa := Lib.hid (mayI_of hm)
    have HBo := Lib.hid (bestOn_any A c a (by omega) (-1) W1 HA1.out)
    rw [may_best HMa.out] at HBo
    go_wp2_with fail
    refine HBo.out.mono ?_
    rintro e W2 ⟨rfl, k2⟩
    have HD2 := Lib.hid (HD1.out.keep k2)
    have HA2 := Lib.hid (HA1.out.kept k2)
    clear k2 d0 d1 hzl f0 f1
    obtain ⟨d0, d1⟩ := HD2.out.cells.two
    have hzl := HD2.out.cells.1
    have f0 := HD2.out.f0
    have f1 := HD2.out.f1
    cases hb : bC a (-1) with
    | none =>
      have HT := Lib.hid (topC_none hm hb)
      rw [show optI none = -1 from rfl]
      clear hm hb
      go_wp2_with fail
      refine bodyPost_ret (v := .agg #[.int .u64 0, .int .u64 0]) (by simp [results, Try.results25, go_sem, d0, d1]) rfl ⟨by rw [HT.out]; rfl, ?_⟩
      exact (HD2.out.set HZ.out zid).kept
    | some r =>
      have HT := Lib.hid (topC_some hm hb)
      have hr := (bC_mem hb).1
      have hh := (hC_lt a.length r (by omega) hr).2.1
      have HN := Lib.hid (show a[r].h = (hC a r : Int) by rw [← itA_get hr, may_at HMa.out hr]; rfl)
      have HX := Lib.hid (itA_get hh)
      obtain ⟨zz, o, rfl, hbz, _, _, _, _, _, _, c6⟩ := item_at HA2.out hr
      obtain ⟨z2, o2, e2, _, x0, x1, _, _, _, _, _⟩ := item_at HA2.out hh
      obtain ⟨rfl, rfl⟩ : zz = z2 ∧ o = o2 := by injection e2 with e2; injection e2 with e3 e4; exact ⟨e3, e4⟩
      rw [HN.out] at c6
      have hr1 : ((r : Int) == -1) = false := by rw [beq_eq_false_iff_ne]; omega
      rw [show optI (some r) = (r : Int) from rfl]
      clear hm hb e2
      rw [← HX.out] at x0 x1
      generalize (itA a (hC a r)).x = tx at *
      generalize hC a r = hd at *
      go_wp2_with fail
      refine bodyPost_ret (v := .agg #[.int .u64 tx.1, .int .u64 tx.2]) (by simp [results, Try.results25, go_sem, d0, d1]) rfl ⟨by rw [HT.out], ?_⟩
      exact (HD2.out.set HZ.out tx).kept

/-! ### Insert -/
theorem Its.mono {W W' w : World} {l : List It} {v : Value} (h : Its W' l v w) (k : Kept W W') : Its W l v w :=
  ⟨⟨h.1.1, h.1.2.imp id fun ⟨g, cap, cur, h1, h2, h3⟩ => ⟨g, cap, cur, h1, Nat.le_trans k.size_le h2, h3⟩⟩, k.trans h.2⟩
set_option maxRecDepth 100000 in
set_option maxHeartbeats 3200000 in
theorem insI_any (A : Option Addr) (c : Nat) (a : List It) (hl : a.length ≤ 70) (hc : a.length ≤ c) (id par : Id2) (w : World) (hA : CellsAt w w.heap.size A (itemCells a)) :
    Calls Try.prog 19 #[.slice A a.length c, .agg #[.int .u64 id.1, .int .u64 id.2], .agg #[.int .u64 par.1, .int .u64 par.2]] w (ItsNew (insC a id par) w) := by
  have K0 := Lib.hid (((Kept.refl w).alloc (.cells #[.int .u64 id.1, .int .u64 id.2] 29)).alloc (.cells #[.int .u64 par.1, .int .u64 par.2] 29))
  have HI := Lib.hid ((HasCells.new w #[.int .u64 id.1, .int .u64 id.2] 29 w.heap.size rfl).alloc (.cells #[.int .u64 par.1, .int .u64 par.2] 29))
  have HP := Lib.hid (HasCells.new (w.alloc (.cells #[.int .u64 id.1, .int .u64 id.2] 29)) #[.int .u64 par.1, .int .u64 par.2] 29 (w.heap.size + 1) (by simp))
  have HA := Lib.hid (hA.kept K0.out)
  clear hA
  go_enter Try.func19, Try.ntmps19
  go_wp2_with fail
  generalize (w.alloc (.cells #[.int .u64 id.1, .int .u64 id.2] 29)).alloc (.cells #[.int .u64 par.1, .int .u64 par.2] 29) = W at *
  generalize w.heap.size + 1 = y at *
  generalize w.heap.size = z at *
  refine (findA_any A c a (by omega) par W HA.out).mono ?_
  rintro e W1 ⟨rfl, k1⟩
  have K1 := Lib.hid k1
  clear k1
  go_wp2_with fail
  refine (mayI_any A c a hl hc W1 (HA.out.kept K1.out)).mono ?_
  rintro e W2 ⟨rfl, k2⟩
  have K2 := Lib.hid (K1.out.trans k2)
  clear k2 K1
  cases hm : mayI a with
  | false =>
    have HE := Lib.hid (insC_arg (id := id) (par := par) (Or.inl hm))
    clear hm
    go_wp2_with fail
    go_ret2
    exact ItsNew.none HE.out (K0.out.trans K2.out)
  | true =>
    have HMa := Lib.hid (mayI_of hm)
    obtain ⟨d0, d1⟩ := (HI.out.kept K2.out).two
    have hzl := (HI.out.kept K2.out).1
    go_wp2_with fail
    refine (isBegA_any id W2).mono ?_
    rintro e W3 ⟨rfl, k3⟩
    have K3 := Lib.hid (K2.out.trans k3)
    clear k3 d0 d1 hzl K2
    cases hz : isZ id with
    | true =>
      have HE := Lib.hid (insC_arg (a := a) (par := par) (Or.inr (of_decide_eq_true hz : id = zid)))
      clear hm hz
      go_wp2_with fail
      go_ret2
      exact ItsNew.none HE.out (K0.out.trans K3.out)
    | false =>
      have HG := Lib.hid (show ¬ (mayI a = false ∨ id = zid) from fun h => by
        rcases h with h | h
        · rw [hm] at h; cases h
        · exact of_decide_eq_false hz h)
      clear hm hz
      obtain ⟨d0, d1⟩ := (HI.out.kept K3.out).two
      have hzl := (HI.out.kept K3.out).1
      go_wp2_with fail
      refine (findA_any A c a (by omega) id W3 (HA.out.kept K3.out)).mono ?_
      rintro e W4 ⟨rfl, k4⟩
      have K4 := Lib.hid (K3.out.trans k4)
      clear k4 d0 d1 hzl K3
      rcases posI_way a id with ⟨hq, _⟩ | ⟨j, hq, _⟩
      · have HQ := Lib.hid (show ¬ 0 ≤ posI a id by rw [hq]; omega)
        rw [hq]
        clear hq
        rcases posI_way a par with ⟨hp, _⟩ | ⟨pp, hp, hpl, _⟩
        · have HPp := Lib.hid hp
          rw [hp]
          clear hp
          obtain ⟨d0, d1⟩ := (HP.out.kept K4.out).two
          have hyl := (HP.out.kept K4.out).1
          go_wp2_with fail
          refine (isBegA_any par W4).mono ?_
          rintro e W5 ⟨rfl, k5⟩
          have K5 := Lib.hid (K4.out.trans k5)
          clear k5 d0 d1 hyl K4
          cases hz : isZ par with
          | false =>
            have HE := Lib.hid (insC_none HG.out (by have := HQ.out; omega) ⟨HPp.out, (of_decide_eq_false hz : ¬ par = zid)⟩)
            clear hz
            go_wp2_with fail
            go_ret2
            exact ItsNew.none HE.out (K0.out.trans K5.out)
          | true =>
            have HN := Lib.hid (show ¬ (posI a par = -1 ∧ par ≠ zid) from fun h => h.2 (of_decide_eq_true hz))
            clear hz
            by_cases h60 : a.length = 60
            · have HE := Lib.hid (insC_full HG.out (by have := HQ.out; omega) HN.out h60)
              have h6 : ((a.length : Int) == 60) = true := by rw [beq_iff_eq]; omega
              clear h60
              go_wp2_with fail
              go_ret2
              exact ItsNew.none HE.out (K0.out.trans K5.out)
            · have HE := Lib.hid (show insC a id par = (anewC (putI a id (-1)), 0) by have h := insC_ok HG.out (by have := HQ.out; omega) HN.out h60; rw [HPp.out] at h; exact h)
              have h6 : ((a.length : Int) == 60) = false := by rw [beq_eq_false_iff_ne]; omega
              clear h60
              obtain ⟨pv, hpv⟩ : ∃ pv : Int, pv = -1 := ⟨_, rfl⟩
              have HB := Lib.hid (show -1 ≤ pv ∧ pv < a.length by omega)
              rw [← hpv] at HE ⊢
              clear hpv
              have K9 := Lib.hid K5.out
              obtain ⟨m0, m1⟩ := (HI.out.kept K9.out).two
              have hzl := (HI.out.kept K9.out).1
              have HCl := Lib.hid (fun w' (kk : Kept W5 w') => clone_any A c a (by omega) w' ((HA.out.kept K9.out).kept kk))
              have hlen : a.length + 1 ≤ 1000000 := by omega
              go_wp2_with fail
              refine wp_region_noPanic ?_
              refine wp_region_held_drew (S := (fun w' => w'.cell? ⟨z, 0, none⟩ = some (.int .u64 id.1) ∧ w'.cell? ⟨z, 1, none⟩ = some (.int .u64 id.2) ∧ Kept W5 w')) (by kernel_rfl) ?_ (fun hHeld => ?_)
              · exact ⟨m0, m1, (Kept.refl _).drew⟩
              refine wpAnyH_take (i := 0) (v := ?_) (by simp only [List.getElem?_toArray, List.getElem?_cons_succ, List.getElem?_cons_zero]; rfl) (by kernel_rfl) (by kernel_rfl) (by kernel_rfl) (fun _ _ _ h => h) (Or.inl ⟨by rfl, ?_⟩) (by assumption) ?_
              rotate_left
              · intro w hSw
                (try dsimp only at hSw)
                go_simp
                (try with_reducible rfl)
              simp only [Act.put, List.setIfInBounds_toArray, List.set_cons_zero, List.set_cons_succ]
              refine wpAnyH_take (i := 2) (v := ?_) (by simp only [List.getElem?_toArray, List.getElem?_cons_succ, List.getElem?_cons_zero]; rfl) (by kernel_rfl) (by kernel_rfl) (by kernel_rfl) (fun _ _ _ h => h) (Or.inl ⟨by rfl, ?_⟩) (by assumption) ?_
              rotate_left
              · intro w hSw
                (try dsimp only at hSw)
                go_simp
                (try with_reducible rfl)
              simp only [Act.put, List.setIfInBounds_toArray, List.set_cons_zero, List.set_cons_succ]
              refine wpAnyH_take (i := 3) (v := ?_) (by simp only [List.getElem?_toArray, List.getElem?_cons_succ, List.getElem?_cons_zero]; rfl) (by kernel_rfl) (by kernel_rfl) (by kernel_rfl) (fun _ _ _ h => h) (Or.inl ⟨by rfl, ?_⟩) (by assumption) ?_
              rotate_left
              · intro w hSw
                (try dsimp only at hSw)
                go_simp
                (try with_reducible rfl)
              simp only [Act.put, List.setIfInBounds_toArray, List.set_cons_zero, List.set_cons_succ]
              refine wpAnyH_take (i := 4) (v := ?_) (by simp only [List.getElem?_toArray, List.getElem?_cons_succ, List.getElem?_cons_zero]; rfl) (by kernel_rfl) (by kernel_rfl) (by kernel_rfl) (fun _ _ _ h => h) (Or.inl ⟨by rfl, ?_⟩) (by assumption) ?_
              rotate_left
              · intro w hSw
                (try dsimp only at hSw)
                go_simp
                (try with_reducible rfl)
              simp only [Act.put, List.setIfInBounds_toArray, List.set_cons_zero, List.set_cons_succ]
              refine wpAnyH_ready (rs := [1, 5]) (by kernel_rfl) (by simp) ?_
              refine AllReadyH.cons (by simp only [List.getElem?_toArray, List.getElem?_cons_succ, List.getElem?_cons_zero]; rfl) (fun K hK => ?_) (AllReadyH.cons (by simp only [List.getElem?_toArray, List.getElem?_cons_succ, List.getElem?_cons_zero]; rfl) (fun K hK => ?_) (AllReadyH.nil))
              · go_simp
                go_at_call 44; with_reducible refine (HCl.out _ hHeld.2.2).mono ?_
                rintro e w1 ⟨A1, c1, rfl, hI⟩
                refine hK.out _ _ ?_ (fun hHeld2 => ?_)
                · exact keepP2 hzl hzl hHeld hI.2
                clear hK K hHeld
                have hHeld := hHeld2
                clear hHeld2
                try simp only [Act.put, List.setIfInBounds_toArray, List.set_cons_zero, List.set_cons_succ]
                refine wpAnyH_ready (rs := [5]) (by kernel_rfl) (by simp) ?_
                refine AllReadyH.cons (by simp only [List.getElem?_toArray, List.getElem?_cons_succ, List.getElem?_cons_zero]; rfl) (fun K hK => ?_) (AllReadyH.nil)
                go_simp
                refine hK.out _ _ ?_ (fun hHeld2 => ?_)
                · exact keepP2 hzl hzl hHeld ((Kept.refl _).alloc _)
                clear hK K hHeld
                have hHeld := hHeld2
                clear hHeld2
                try simp only [Act.put, List.setIfInBounds_toArray, List.set_cons_zero, List.set_cons_succ]
                refine wpAnyH_ready (rs := [6]) (by kernel_rfl) (by simp) ?_
                refine AllReadyH.cons (by simp only [List.getElem?_toArray, List.getElem?_cons_succ, List.getElem?_cons_zero]; rfl) (fun K hK => ?_) (AllReadyH.nil)
                refine step_its _ (by rfl) 36 Try.underlying36 (.tmp 39) (.tmp 43) (by rfl) _ a _ (by rfl) (hI.alloc (.cells #[.int .u64 id.1, .int .u64 id.2, .int .i64 pv, .int .i64 0, .int .i64 0, .int .i64 0, .int .i64 0] 50)) _ _ 1 1 [⟨id, pv, 0, 0, 0, 0⟩] (by rfl) rfl (items_new (t := ⟨id, pv, 0, 0, 0, 0⟩) w1.heap.size rfl 50) (by omega) ?_
                intro A6 c6 w6 hI6 _
                have k6 : Kept W5 w6 := Kept.trans (Kept.drew (Kept.refl _)) hI6.2
                refine hK.out _ _ ?_ (fun hHeld2 => ?_)
                · exact keepP2 hzl hzl ⟨m0, m1, Kept.refl _⟩ k6
                clear hK K hHeld
                have hHeld := hHeld2
                clear hHeld2
                try simp only [Act.put, List.setIfInBounds_toArray, List.set_cons_zero, List.set_cons_succ]
                refine wpAnyH_take (i := 7) (v := ?_) (by simp only [List.getElem?_toArray, List.getElem?_cons_succ, List.getElem?_cons_zero]; rfl) (by kernel_rfl) (by kernel_rfl) (by kernel_rfl) (fun _ _ _ h => h) (Or.inl ⟨by rfl, ?_⟩) (by assumption) ?_
                rotate_left
                · intro w hSw
                  (try dsimp only at hSw)
                  go_simp
                  (try with_reducible rfl)
                simp only [Act.put, List.setIfInBounds_toArray, List.set_cons_zero, List.set_cons_succ]
                refine wpAnyH_done (by kernel_rfl) ?_ _
                refine NoPanic.normal ?_
                have HI6 := Lib.hid (show Its W5 (putI a id pv) (.slice A6 (a.length + 1) c6) w6 from by have h := hI6.mono (Kept.drew (Kept.refl _)); rw [show (a ++ [(⟨id, pv, 0, 0, 0, 0⟩ : It)]).length = a.length + 1 from by simp] at h; exact h)
                clear hHeld hI6 hI k6 m0 m1 hzl
                generalize w6 = V1 at *
                have HSe := Lib.hid (show Calls Try.prog 45 #[.slice A6 (a.length + 1) c6] V1 fun e w' => e = .returned (.tuple #[]) ∧ Its W5 (anewC (putI a id pv)) (.slice A6 (a.length + 1) c6) w' from by
                  have h := settleV_any W5 A6 c6 (putI a id pv) (by rw [putI_length]; have := HMa.out.1; omega) (putI_right HMa.out.stand.right id HB.out.1 HB.out.2) (putI_own HMa.out.stand.own id pv) V1 (by rw [putI_length]; exact HI6.out)
                  rw [putI_length] at h
                  exact h)
                have HLn := Lib.hid (show (anewC (putI a id pv)).length = a.length + 1 by rw [anewC_length, putI_length])
                go_wp2_with fail
                refine HSe.out.mono ?_
                rintro e V2 ⟨rfl, hI2⟩
                have HI2 := Lib.hid hI2
                clear hI2 HSe
                go_wp2_with fail
                go_ret2
                rw [HE.out]
                exact ⟨A6, c6, by rw [HLn.out]; rfl, HI2.out.cells HLn.out.symm, by rw [HLn.out]; exact HI2.out.cap, K0.out.trans (K9.out.trans HI2.out.2)⟩
              · go_simp
                refine hK.out _ _ ?_ (fun hHeld2 => ?_)
                · exact keepP2 hzl hzl hHeld ((Kept.refl _).alloc _)
                clear hK K hHeld
                have hHeld := hHeld2
                clear hHeld2
                try simp only [Act.put, List.setIfInBounds_toArray, List.set_cons_zero, List.set_cons_succ]
                refine wpAnyH_ready (rs := [1]) (by kernel_rfl) (by simp) ?_
                refine AllReadyH.cons (by simp only [List.getElem?_toArray, List.getElem?_cons_succ, List.getElem?_cons_zero]; rfl) (fun K hK => ?_) (AllReadyH.nil)
                go_simp
                go_at_call 44; with_reducible refine (HCl.out _ hHeld.2.2).mono ?_
                rintro e w1 ⟨A1, c1, rfl, hI⟩
                refine hK.out _ _ ?_ (fun hHeld2 => ?_)
                · exact keepP2 hzl hzl hHeld hI.2
                clear hK K hHeld
                have hHeld := hHeld2
                clear hHeld2
                try simp only [Act.put, List.setIfInBounds_toArray, List.set_cons_zero, List.set_cons_succ]
                refine wpAnyH_ready (rs := [6]) (by kernel_rfl) (by simp) ?_
                refine AllReadyH.cons (by simp only [List.getElem?_toArray, List.getElem?_cons_succ, List.getElem?_cons_zero]; rfl) (fun K hK => ?_) (AllReadyH.nil)
                refine step_its _ (by rfl) 36 Try.underlying36 (.tmp 39) (.tmp 43) (by rfl) _ a _ (by rfl) hI _ _ 1 1 [⟨id, pv, 0, 0, 0, 0⟩] (by rfl) rfl ((items_new (w := W5) (t := ⟨id, pv, 0, 0, 0, 0⟩) W5.heap.size rfl 50).kept (Kept.trans (Kept.drew (Kept.refl _)) hI.2)) (by omega) ?_
                intro A6 c6 w6 hI6 _
                have k6 : Kept W5 w6 := Kept.trans (Kept.drew (Kept.alloc (Kept.refl _) _)) hI6.2
                refine hK.out _ _ ?_ (fun hHeld2 => ?_)
                · exact keepP2 hzl hzl ⟨m0, m1, Kept.refl _⟩ k6
                clear hK K hHeld
                have hHeld := hHeld2
                clear hHeld2
                try simp only [Act.put, List.setIfInBounds_toArray, List.set_cons_zero, List.set_cons_succ]
                refine wpAnyH_take (i := 7) (v := ?_) (by simp only [List.getElem?_toArray, List.getElem?_cons_succ, List.getElem?_cons_zero]; rfl) (by kernel_rfl) (by kernel_rfl) (by kernel_rfl) (fun _ _ _ h => h) (Or.inl ⟨by rfl, ?_⟩) (by assumption) ?_
                rotate_left
                · intro w hSw
                  (try dsimp only at hSw)
                  go_simp
                  (try with_reducible rfl)
                simp only [Act.put, List.setIfInBounds_toArray, List.set_cons_zero, List.set_cons_succ]
                refine wpAnyH_done (by kernel_rfl) ?_ _
                refine NoPanic.normal ?_
                have HI6 := Lib.hid (show Its W5 (putI a id pv) (.slice A6 (a.length + 1) c6) w6 from by have h := hI6.mono (Kept.drew (Kept.alloc (Kept.refl _) _)); rw [show (a ++ [(⟨id, pv, 0, 0, 0, 0⟩ : It)]).length = a.length + 1 from by simp] at h; exact h)
                clear hHeld hI6 hI k6 m0 m1 hzl
                generalize w6 = V1 at *
                have HSe := Lib.hid (show Calls Try.prog 45 #[.slice A6 (a.length + 1) c6] V1 fun e w' => e = .returned (.tuple #[]) ∧ Its W5 (anewC (putI a id pv)) (.slice A6 (a.length + 1) c6) w' from by
                  have h := settleV_any W5 A6 c6 (putI a id pv) (by rw [putI_length]; have := HMa.out.1; omega) (putI_right HMa.out.stand.right id HB.out.1 HB.out.2) (putI_own HMa.out.stand.own id pv) V1 (by rw [putI_length]; exact HI6.out)
                  rw [putI_length] at h
                  exact h)
                have HLn := Lib.hid (show (anewC (putI a id pv)).length = a.length + 1 by rw [anewC_length, putI_length])
                go_wp2_with fail
                refine HSe.out.mono ?_
                rintro e V2 ⟨rfl, hI2⟩
                have HI2 := Lib.hid hI2
                clear hI2 HSe
                go_wp2_with fail
                go_ret2
                rw [HE.out]
                exact ⟨A6, c6, by rw [HLn.out]; rfl, HI2.out.cells HLn.out.symm, by rw [HLn.out]; exact HI2.out.cap, K0.out.trans (K9.out.trans HI2.out.2)⟩
        · have hp1 : ((pp : Int) == -1) = false := by rw [beq_eq_false_iff_ne]; omega
          have HN := Lib.hid (show ¬ (posI a par = -1 ∧ par ≠ zid) from fun h => by rw [hp] at h; omega)
          have HB0 := Lib.hid (show -1 ≤ (pp : Int) ∧ (pp : Int) < a.length by omega)
          by_cases h60 : a.length = 60
          · have HE := Lib.hid (insC_full HG.out (by have := HQ.out; omega) HN.out h60)
            have h6 : ((a.length : Int) == 60) = true := by rw [beq_iff_eq]; omega
            rw [hp]
            clear h60 hp
            go_wp2_with fail
            go_ret2
            exact ItsNew.none HE.out (K0.out.trans K4.out)
          · have HE := Lib.hid (show insC a id par = (anewC (putI a id (pp : Int)), 0) by have h := insC_ok HG.out (by have := HQ.out; omega) HN.out h60; rw [hp] at h; exact h)
            have h6 : ((a.length : Int) == 60) = false := by rw [beq_eq_false_iff_ne]; omega
            rw [hp]
            clear h60 hp hpl
            obtain ⟨pv, hpv⟩ : ∃ pv : Int, pv = (pp : Int) := ⟨_, rfl⟩
            have HB := Lib.hid (show -1 ≤ pv ∧ pv < a.length by have := HB0.out; omega)
            rw [← hpv] at HE hp1 ⊢
            clear hpv HB0
            have K9 := Lib.hid K4.out
            obtain ⟨m0, m1⟩ := (HI.out.kept K9.out).two
            have hzl := (HI.out.kept K9.out).1
            have HCl := Lib.hid (fun w' (kk : Kept W4 w') => clone_any A c a (by omega) w' ((HA.out.kept K9.out).kept kk))
            have hlen : a.length + 1 ≤ 1000000 := by omega
            go_wp2_with fail
            refine wp_region_noPanic ?_
            refine wp_region_held_drew (S := (fun w' => w'.cell? ⟨z, 0, none⟩ = some (.int .u64 id.1) ∧ w'.cell? ⟨z, 1, none⟩ = some (.int .u64 id.2) ∧ Kept W4 w')) (by kernel_rfl) ?_ (fun hHeld => ?_)
            · exact ⟨m0, m1, (Kept.refl _).drew⟩
            refine wpAnyH_take (i := 0) (v := ?_) (by simp only [List.getElem?_toArray, List.getElem?_cons_succ, List.getElem?_cons_zero]; rfl) (by kernel_rfl) (by kernel_rfl) (by kernel_rfl) (fun _ _ _ h => h) (Or.inl ⟨by rfl, ?_⟩) (by assumption) ?_
            rotate_left
            · intro w hSw
              (try dsimp only at hSw)
              go_simp
              (try with_reducible rfl)
            simp only [Act.put, List.setIfInBounds_toArray, List.set_cons_zero, List.set_cons_succ]
            refine wpAnyH_take (i := 2) (v := ?_) (by simp only [List.getElem?_toArray, List.getElem?_cons_succ, List.getElem?_cons_zero]; rfl) (by kernel_rfl) (by kernel_rfl) (by kernel_rfl) (fun _ _ _ h => h) (Or.inl ⟨by rfl, ?_⟩) (by assumption) ?_
            rotate_left
            · intro w hSw
              (try dsimp only at hSw)
              go_simp
              (try with_reducible rfl)
            simp only [Act.put, List.setIfInBounds_toArray, List.set_cons_zero, List.set_cons_succ]
            refine wpAnyH_take (i := 3) (v := ?_) (by simp only [List.getElem?_toArray, List.getElem?_cons_succ, List.getElem?_cons_zero]; rfl) (by kernel_rfl) (by kernel_rfl) (by kernel_rfl) (fun _ _ _ h => h) (Or.inl ⟨by rfl, ?_⟩) (by assumption) ?_
            rotate_left
            · intro w hSw
              (try dsimp only at hSw)
              go_simp
              (try with_reducible rfl)
            simp only [Act.put, List.setIfInBounds_toArray, List.set_cons_zero, List.set_cons_succ]
            refine wpAnyH_take (i := 4) (v := ?_) (by simp only [List.getElem?_toArray, List.getElem?_cons_succ, List.getElem?_cons_zero]; rfl) (by kernel_rfl) (by kernel_rfl) (by kernel_rfl) (fun _ _ _ h => h) (Or.inl ⟨by rfl, ?_⟩) (by assumption) ?_
            rotate_left
            · intro w hSw
              (try dsimp only at hSw)
              go_simp
              (try with_reducible rfl)
            simp only [Act.put, List.setIfInBounds_toArray, List.set_cons_zero, List.set_cons_succ]
            refine wpAnyH_ready (rs := [1, 5]) (by kernel_rfl) (by simp) ?_
            refine AllReadyH.cons (by simp only [List.getElem?_toArray, List.getElem?_cons_succ, List.getElem?_cons_zero]; rfl) (fun K hK => ?_) (AllReadyH.cons (by simp only [List.getElem?_toArray, List.getElem?_cons_succ, List.getElem?_cons_zero]; rfl) (fun K hK => ?_) (AllReadyH.nil))
            · go_simp
              go_at_call 44; with_reducible refine (HCl.out _ hHeld.2.2).mono ?_
              rintro e w1 ⟨A1, c1, rfl, hI⟩
              refine hK.out _ _ ?_ (fun hHeld2 => ?_)
              · exact keepP2 hzl hzl hHeld hI.2
              clear hK K hHeld
              have hHeld := hHeld2
              clear hHeld2
              try simp only [Act.put, List.setIfInBounds_toArray, List.set_cons_zero, List.set_cons_succ]
              refine wpAnyH_ready (rs := [5]) (by kernel_rfl) (by simp) ?_
              refine AllReadyH.cons (by simp only [List.getElem?_toArray, List.getElem?_cons_succ, List.getElem?_cons_zero]; rfl) (fun K hK => ?_) (AllReadyH.nil)
              go_simp
              refine hK.out _ _ ?_ (fun hHeld2 => ?_)
              · exact keepP2 hzl hzl hHeld ((Kept.refl _).alloc _)
              clear hK K hHeld
              have hHeld := hHeld2
              clear hHeld2
              try simp only [Act.put, List.setIfInBounds_toArray, List.set_cons_zero, List.set_cons_succ]
              refine wpAnyH_ready (rs := [6]) (by kernel_rfl) (by simp) ?_
              refine AllReadyH.cons (by simp only [List.getElem?_toArray, List.getElem?_cons_succ, List.getElem?_cons_zero]; rfl) (fun K hK => ?_) (AllReadyH.nil)
              refine step_its _ (by rfl) 36 Try.underlying36 (.tmp 39) (.tmp 43) (by rfl) _ a _ (by rfl) (hI.alloc (.cells #[.int .u64 id.1, .int .u64 id.2, .int .i64 pv, .int .i64 0, .int .i64 0, .int .i64 0, .int .i64 0] 50)) _ _ 1 1 [⟨id, pv, 0, 0, 0, 0⟩] (by rfl) rfl (items_new (t := ⟨id, pv, 0, 0, 0, 0⟩) w1.heap.size rfl 50) (by omega) ?_
              intro A6 c6 w6 hI6 _
              have k6 : Kept W4 w6 := Kept.trans (Kept.drew (Kept.refl _)) hI6.2
              refine hK.out _ _ ?_ (fun hHeld2 => ?_)
              · exact keepP2 hzl hzl ⟨m0, m1, Kept.refl _⟩ k6
              clear hK K hHeld
              have hHeld := hHeld2
              clear hHeld2
              try simp only [Act.put, List.setIfInBounds_toArray, List.set_cons_zero, List.set_cons_succ]
              refine wpAnyH_take (i := 7) (v := ?_) (by simp only [List.getElem?_toArray, List.getElem?_cons_succ, List.getElem?_cons_zero]; rfl) (by kernel_rfl) (by kernel_rfl) (by kernel_rfl) (fun _ _ _ h => h) (Or.inl ⟨by rfl, ?_⟩) (by assumption) ?_
              rotate_left
              · intro w hSw
                (try dsimp only at hSw)
                go_simp
                (try with_reducible rfl)
              simp only [Act.put, List.setIfInBounds_toArray, List.set_cons_zero, List.set_cons_succ]
              refine wpAnyH_done (by kernel_rfl) ?_ _
              refine NoPanic.normal ?_
              have HI6 := Lib.hid (show Its W4 (putI a id pv) (.slice A6 (a.length + 1) c6) w6 from by have h := hI6.mono (Kept.drew (Kept.refl _)); rw [show (a ++ [(⟨id, pv, 0, 0, 0, 0⟩ : It)]).length = a.length + 1 from by simp] at h; exact h)
              clear hHeld hI6 hI k6 m0 m1 hzl
              generalize w6 = V1 at *
              have HSe := Lib.hid (show Calls Try.prog 45 #[.slice A6 (a.length + 1) c6] V1 fun e w' => e = .returned (.tuple #[]) ∧ Its W4 (anewC (putI a id pv)) (.slice A6 (a.length + 1) c6) w' from by
                have h := settleV_any W4 A6 c6 (putI a id pv) (by rw [putI_length]; have := HMa.out.1; omega) (putI_right HMa.out.stand.right id HB.out.1 HB.out.2) (putI_own HMa.out.stand.own id pv) V1 (by rw [putI_length]; exact HI6.out)
                rw [putI_length] at h
                exact h)
              have HLn := Lib.hid (show (anewC (putI a id pv)).length = a.length + 1 by rw [anewC_length, putI_length])
              go_wp2_with fail
              refine HSe.out.mono ?_
              rintro e V2 ⟨rfl, hI2⟩
              have HI2 := Lib.hid hI2
              clear hI2 HSe
              go_wp2_with fail
              go_ret2
              rw [HE.out]
              exact ⟨A6, c6, by rw [HLn.out]; rfl, HI2.out.cells HLn.out.symm, by rw [HLn.out]; exact HI2.out.cap, K0.out.trans (K9.out.trans HI2.out.2)⟩
            · go_simp
              refine hK.out _ _ ?_ (fun hHeld2 => ?_)
              · exact keepP2 hzl hzl hHeld ((Kept.refl _).alloc _)
              clear hK K hHeld
              have hHeld := hHeld2
              clear hHeld2
              try simp only [Act.put, List.setIfInBounds_toArray, List.set_cons_zero, List.set_cons_succ]
              refine wpAnyH_ready (rs := [1]) (by kernel_rfl) (by simp) ?_
              refine AllReadyH.cons (by simp only [List.getElem?_toArray, List.getElem?_cons_succ, List.getElem?_cons_zero]; rfl) (fun K hK => ?_) (AllReadyH.nil)
              go_simp
              go_at_call 44; with_reducible refine (HCl.out _ hHeld.2.2).mono ?_
              rintro e w1 ⟨A1, c1, rfl, hI⟩
              refine hK.out _ _ ?_ (fun hHeld2 => ?_)
              · exact keepP2 hzl hzl hHeld hI.2
              clear hK K hHeld
              have hHeld := hHeld2
              clear hHeld2
              try simp only [Act.put, List.setIfInBounds_toArray, List.set_cons_zero, List.set_cons_succ]
              refine wpAnyH_ready (rs := [6]) (by kernel_rfl) (by simp) ?_
              refine AllReadyH.cons (by simp only [List.getElem?_toArray, List.getElem?_cons_succ, List.getElem?_cons_zero]; rfl) (fun K hK => ?_) (AllReadyH.nil)
              refine step_its _ (by rfl) 36 Try.underlying36 (.tmp 39) (.tmp 43) (by rfl) _ a _ (by rfl) hI _ _ 1 1 [⟨id, pv, 0, 0, 0, 0⟩] (by rfl) rfl ((items_new (w := W4) (t := ⟨id, pv, 0, 0, 0, 0⟩) W4.heap.size rfl 50).kept (Kept.trans (Kept.drew (Kept.refl _)) hI.2)) (by omega) ?_
              intro A6 c6 w6 hI6 _
              have k6 : Kept W4 w6 := Kept.trans (Kept.drew (Kept.alloc (Kept.refl _) _)) hI6.2
              refine hK.out _ _ ?_ (fun hHeld2 => ?_)
              · exact keepP2 hzl hzl ⟨m0, m1, Kept.refl _⟩ k6
              clear hK K hHeld
              have hHeld := hHeld2
              clear hHeld2
              try simp only [Act.put, List.setIfInBounds_toArray, List.set_cons_zero, List.set_cons_succ]
              refine wpAnyH_take (i := 7) (v := ?_) (by simp only [List.getElem?_toArray, List.getElem?_cons_succ, List.getElem?_cons_zero]; rfl) (by kernel_rfl) (by kernel_rfl) (by kernel_rfl) (fun _ _ _ h => h) (Or.inl ⟨by rfl, ?_⟩) (by assumption) ?_
              rotate_left
              · intro w hSw
                (try dsimp only at hSw)
                go_simp
                (try with_reducible rfl)
              simp only [Act.put, List.setIfInBounds_toArray, List.set_cons_zero, List.set_cons_succ]
              refine wpAnyH_done (by kernel_rfl) ?_ _
              refine NoPanic.normal ?_
              have HI6 := Lib.hid (show Its W4 (putI a id pv) (.slice A6 (a.length + 1) c6) w6 from by have h := hI6.mono (Kept.drew (Kept.alloc (Kept.refl _) _)); rw [show (a ++ [(⟨id, pv, 0, 0, 0, 0⟩ : It)]).length = a.length + 1 from by simp] at h; exact h)
              clear hHeld hI6 hI k6 m0 m1 hzl
              generalize w6 = V1 at *
              have HSe := Lib.hid (show Calls Try.prog 45 #[.slice A6 (a.length + 1) c6] V1 fun e w' => e = .returned (.tuple #[]) ∧ Its W4 (anewC (putI a id pv)) (.slice A6 (a.length + 1) c6) w' from by
                have h := settleV_any W4 A6 c6 (putI a id pv) (by rw [putI_length]; have := HMa.out.1; omega) (putI_right HMa.out.stand.right id HB.out.1 HB.out.2) (putI_own HMa.out.stand.own id pv) V1 (by rw [putI_length]; exact HI6.out)
                rw [putI_length] at h
                exact h)
              have HLn := Lib.hid (show (anewC (putI a id pv)).length = a.length + 1 by rw [anewC_length, putI_length])
              go_wp2_with fail
              refine HSe.out.mono ?_
              rintro e V2 ⟨rfl, hI2⟩
              have HI2 := Lib.hid hI2
              clear hI2 HSe
              go_wp2_with fail
              go_ret2
              rw [HE.out]
              exact ⟨A6, c6, by rw [HLn.out]; rfl, HI2.out.cells HLn.out.symm, by rw [HLn.out]; exact HI2.out.cap, K0.out.trans (K9.out.trans HI2.out.2)⟩
      · have HE := Lib.hid (insC_have (par := par) HG.out (show 0 ≤ posI a id by rw [hq]; omega))
        have hj1 : ((j : Int) != -1) = true := by rw [bne_iff_ne]; omega
        rw [hq]
        clear hq
        go_wp2_with fail
        go_ret2
        exact ItsNew.none HE.out (K0.out.trans K4.out)

end Go.Proofs.Ytabmdilhfiembaa
