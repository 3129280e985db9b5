/-
  The contracts of package array's calls children, on, isBetter, best, bestOn.
-/
import Derived.Test.YtabmdilhfiembaaItemRow
import Derived.Test.YtabmdilhfiembaaGround
import Derived.Test.YtabmdilhfiembaaMixLess
import Derived.Test.YtabmdilhfiembaaTreeG
import Derived.Test.YtabmdilhfiembaaWeighOn
namespace Go.Proofs.Ytabmdilhfiembaa
set_option maxRecDepth 100000
set_option linter.unusedVariables false
set_option linter.unusedSimpArgs false
set_option linter.unusedVariables false
open Go.ChangeShapes Go.WideShapes Go.ChangeAt Go.RowKit

/-! ### Plain -/
/-- The places whose Parent is j, of the first n. -/
def kidsEto (a : List It) (j : Int) (n : Nat) : List Nat := (List.range n).filter fun k => decide ((itA a k).p = j)
def kidsE (a : List It) (j : Int) : List Nat := kidsEto a j a.length
theorem kidsEto_hit {a : List It} {j : Int} {k : Nat} (hk : k < a.length) (h : a[k].p = j) : kidsEto a j (k + 1) = kidsEto a j k ++ [k] := by
  unfold kidsEto; rw [List.range_succ, List.filter_append]; simp [itA_get hk, h]
theorem kidsEto_miss {a : List It} {j : Int} {k : Nat} (hk : k < a.length) (h : ¬ a[k].p = j) : kidsEto a j (k + 1) = kidsEto a j k := by
  unfold kidsEto; rw [List.range_succ, List.filter_append, List.filter_cons_of_neg (by simpa [itA_get hk] using h)]; simp
theorem kidsEto_le (a : List It) (j : Int) (n : Nat) : (kidsEto a j n).length ≤ n := by
  unfold kidsEto
  have := List.length_filter_le (fun k => decide ((itA a k).p = j)) (List.range n)
  rw [List.length_range] at this
  exact this
theorem mem_kidsE {a : List It} {j : Int} {k : Nat} : k ∈ kidsE a j ↔ k < a.length ∧ (itA a k).p = j := by
  unfold kidsE kidsEto; rw [List.mem_filter, List.mem_range, decide_eq_true_iff]
/-- Where each stands behind its parent these are the children. -/
theorem kidsE_kids {a : List It} (hr : AllRight a) (j : Int) : kidsE a j = kidsI a j := by
  unfold kidsE kidsI kidsEto kidsTo
  refine List.filter_congr fun k hk => ?_
  have := hr k (List.mem_range.1 hk)
  rw [decide_eq_decide]
  constructor
  · intro e; exact ⟨by omega, e⟩
  · exact fun e => e.2
def natsI (q : List Nat) : List Int := q.map fun k : Nat => (k : Int)
theorem natsI_snoc (q : List Nat) (k : Nat) : natsI (q ++ [k]) = natsI q ++ [(k : Int)] := by simp [natsI]
theorem natsI_length (q : List Nat) : (natsI q).length = q.length := by simp [natsI]
def sumW (a : List It) (q : List Nat) : Int := (q.map fun k => (itA a k).w).sum
theorem sumW_snoc (a : List It) (q : List Nat) (k : Nat) : sumW a (q ++ [k]) = sumW a q + (itA a k).w := by simp [sumW]
theorem sumW_take {a : List It} {q : List Nat} {i : Nat} (hi : i < q.length) : sumW a (q.take (i + 1)) = sumW a (q.take i) + (itA a q[i]).w := by rw [List.take_succ_eq_append_getElem hi, sumW_snoc]
def moreE (a : List It) (i j : Nat) : Bool := moreI (itA a i).w (itA a j).w (itA a i).x (itA a j).x
def bestE (a : List It) (q : List Nat) : Option Nat := bestX (fun k => (itA a k).w) (fun k => (itA a k).x) q
theorem bestE_first {a : List It} {q : List Nat} {i : Nat} (hi : i < q.length) (h : bestE a (q.take i) = none) : bestE a (q.take (i + 1)) = some q[i] := by
  rw [List.take_succ_eq_append_getElem hi]; exact bestX_first h
theorem bestE_hit {a : List It} {q : List Nat} {i y : Nat} (hi : i < q.length) (h : bestE a (q.take i) = some y) (m : moreE a q[i] y = true) : bestE a (q.take (i + 1)) = some q[i] := by
  rw [List.take_succ_eq_append_getElem hi]; exact bestX_hit h m
theorem bestE_miss {a : List It} {q : List Nat} {i y : Nat} (hi : i < q.length) (h : bestE a (q.take i) = some y) (m : moreE a q[i] y = false) : bestE a (q.take (i + 1)) = some y := by
  rw [List.take_succ_eq_append_getElem hi]; exact bestX_miss h m
theorem bestE_mem {a : List It} {q : List Nat} {y : Nat} (h : bestE a q = some y) : y ∈ q := (bestX_some h).1
theorem moreI_more {n m : Int} {x y : Nat × Nat} (h : m < n) : moreI n m x y = true := by unfold moreI; rw [decide_eq_true h]; rfl
theorem moreI_same {n m : Int} {x y : Nat × Nat} (h : n = m) : moreI n m x y = lessN y x := by unfold moreI; rw [decide_eq_false (show ¬ m < n by omega), decide_eq_true h]; simp
theorem moreI_less {n m : Int} {x y : Nat × Nat} (h : ¬ m < n) (h2 : ¬ n = m) : moreI n m x y = false := by unfold moreI; rw [decide_eq_false h, decide_eq_false h2]; rfl
theorem num_at {w : World} {B : Nat} {A : Option Addr} {q : List Nat} (h : CellsAt w B A (intCells (natsI q))) {i : Nat} (hi : i < q.length) : ∃ z o, A = some ⟨z, o, none⟩ ∧ z < B ∧ w.cell? ⟨z, o + i, none⟩ = some (.int .i64 (q[i] : Nat)) := by
  obtain ⟨z, o, e, hb, hc⟩ := h.plain (by simp [natsI]; omega)
  exact ⟨z, o, e, hb, hc i _ (by simp [intCells, natsI, hi])⟩

/-! ### children -/
set_option maxRecDepth 100000 in
set_option maxHeartbeats 1600000 in
theorem children_any (A : Option Addr) (c : Nat) (a : List It) (hl : a.length ≤ 100000) (j : Int) (w : World) (hA : CellsAt w w.heap.size A (itemCells a)) :
    Calls Try.prog 72 #[.slice A a.length c, .int .i64 j] w fun e w' => ∃ A' c', e = .returned (.slice A' (natsI (kidsE a j)).length c') ∧ CellsAt w' w'.heap.size A' (intCells (natsI (kidsE a j))) ∧ Kept w w' := by
  have HA := Lib.hid hA
  clear hA
  go_enter Try.func72, Try.ntmps72
  go_wp2_with fail
  go_loopw [5, 10] (fun v i w' => ∃ k : Nat, k ≤ a.length ∧ i = .int .i64 k ∧ Ints w (natsI (kidsEto a j k)) v w') (fun _ i _ => a.length - (intOf i).toNat)
  case atStart => exact ⟨0, by omega, rfl, Ints.nil w⟩
  case round =>
    obtain ⟨k, hk, rfl, hI⟩ := hrel
    have HI := Lib.hid hI
    clear hI
    by_cases hlt : k < a.length
    · obtain ⟨z, o, rfl, hb, c0, c1, c2, c3, c4, c5, c6⟩ := item_at (HA.out.kept HI.out.2) hlt
      by_cases he : a[k].p = j
      · have hs : (a[k].p == j) = true := by rw [beq_iff_eq]; exact he
        have HN := Lib.hid (show natsI (kidsEto a j (k + 1)) = natsI (kidsEto a j k) ++ [(k : Int)] by rw [kidsEto_hit hlt he, natsI_snoc])
        have HL := Lib.hid (kidsEto_le a j k)
        have HP := Lib.hid he
        clear he
        generalize a[k] = y at *
        have hll : (natsI (kidsEto a j k)).length + 1 ≤ 1000000 := by rw [natsI_length]; have := HL.out; omega
        go_wp2_with (refine wpList_ints _ rfl _ _ rfl w (natsI (kidsEto a j k)) _ rfl ((HI.out.alloc _).alloc _) _ _ 1 1 [(k : Int)] rfl rfl (CellsAt.new _ _ _ _ (by simp)) hll ?_; intro v' w' HI'; rw [← HN.out] at HI')
        go_roundw
        case rel => exact ⟨k + 1, by omega, by go_num, HI'⟩
        case measure => simp [intOf]; omega
      · have hs : (a[k].p == j) = false := by rw [beq_eq_false_iff_ne]; exact he
        have HN := Lib.hid (show kidsEto a j (k + 1) = kidsEto a j k from kidsEto_miss hlt he)
        clear he
        generalize a[k] = y at *
        go_wp2_with fail
        go_roundw
        case rel => exact ⟨k + 1, by omega, by go_num, by rw [HN.out]; exact HI.out.alloc _⟩
        case measure => simp [intOf]; omega
    · have hkl : k = a.length := by omega
      subst hkl
      obtain ⟨A', c', rfl⟩ := HI.out.slice
      go_wp2_with fail
      go_ret
      exact ⟨A', c', rfl, CellsAt.of_own HI.out.1, HI.out.2⟩

/-! ### on -/
set_option maxRecDepth 100000 in
set_option maxHeartbeats 1600000 in
theorem onI_any (A : Option Addr) (c : Nat) (a : List It) (hl : a.length ≤ 100000) (j : Int) (hb : ∀ i, i ≤ (kidsE a j).length → 0 ≤ sumW a ((kidsE a j).take i) ∧ sumW a ((kidsE a j).take i) ≤ 1000000000000000000) (w : World) (hA : CellsAt w w.heap.size A (itemCells a)) :
    Calls Try.prog 70 #[.slice A a.length c, .int .i64 j] w fun e w' => e = .returned (.int .i64 (sumW a (kidsE a j))) ∧ Kept w w' := by
  have HA := Lib.hid hA
  have HB := Lib.hid hb
  clear hA hb
  go_enter Try.func70, Try.ntmps70
  go_wp2_with fail
  refine (children_any A c a hl j w HA.out).mono ?_
  rintro e W ⟨Q, cq, rfl, hQ, k1⟩
  have HQ := Lib.hid hQ
  have K1 := Lib.hid k1
  have HA1 := Lib.hid (HA.out.kept k1)
  have HM := Lib.hid (fun k (hk : k ∈ kidsE a j) => mem_kidsE.1 hk)
  have HL := Lib.hid (natsI_length (kidsE a j))
  have hql : (kidsE a j).length ≤ 100000 := Nat.le_trans (kidsEto_le a j _) hl
  clear hQ k1
  rw [HL.out]
  generalize hq : kidsE a j = q at *
  have HQe := Lib.hid hq
  clear hq
  go_wp2_with fail
  go_loop [5, 12] (fun s i => ∃ k : Nat, k ≤ q.length ∧ i = .int .i64 k ∧ s = .int .i64 (sumW a (q.take k))) (fun _ i => q.length - (intOf i).toNat)
  case atStart => exact ⟨0, by omega, rfl, rfl⟩
  case round =>
    obtain ⟨k, hk, rfl, rfl⟩ := hrel
    by_cases hlt : k < q.length
    · obtain ⟨z, o, rfl, hzb, cz⟩ := num_at HQ.out hlt
      have hm := (HM.out _ (List.getElem_mem hlt)).1
      obtain ⟨z1, o1, rfl, hb, c0, c1, c2, c3, c4, c5, c6⟩ := item_at HA1.out hm
      have HS := Lib.hid (show sumW a (q.take (k + 1)) = sumW a (q.take k) + a[q[k]].w by rw [sumW_take hlt, itA_get hm])
      have hb0 := HB.out k hk
      have hb1 := HB.out (k + 1) hlt
      rw [HS.out] at hb1
      generalize a[q[k]] = y at *
      generalize q[k] = p at *
      generalize sumW a (q.take k) = s at *
      go_wp2_with fail
      go_round
      case rel => exact ⟨k + 1, by omega, by go_num, by rw [HS.out]⟩
      case measure => simp [intOf]; omega
    · have hkl : k = q.length := by omega
      subst hkl
      go_wp2_with fail
      go_ret
      exact ⟨by rw [HQe.out]; rfl, K1.out⟩

/-! ### isBetter -/
set_option maxRecDepth 100000 in
set_option maxHeartbeats 1600000 in
theorem moreE_any (A : Option Addr) (c : Nat) (a : List It) (i j : Nat) (hi : i < a.length) (hj : j < a.length) (w : World) (hA : CellsAt w w.heap.size A (itemCells a)) :
    Calls Try.prog 73 #[.slice A a.length c, .int .i64 (i : Nat), .int .i64 (j : Nat)] w fun e w' => e = .returned (.bool (moreE a i j)) ∧ Kept w w' := by
  have HE := Lib.hid (show moreE a i j = moreI a[i].w a[j].w a[i].x a[j].x by unfold moreE; rw [itA_get hi, itA_get hj])
  obtain ⟨z, o, rfl, hb, c0, c1, _, _, c4, _, _⟩ := item_at hA hi
  obtain ⟨z2, o2, e2, _, d0, d1, _, _, d4, _, _⟩ := item_at hA hj
  obtain ⟨rfl, rfl⟩ : z = z2 ∧ o = o2 := by injection e2 with e2; injection e2 with e3 e4; exact ⟨e3, e4⟩
  clear e2 hA
  generalize a[i] = s at *
  generalize a[j] = t at *
  generalize a.length = n at *
  obtain ⟨sx, sp, so, sw, sb, sh⟩ := s
  obtain ⟨tx, tp, to, tw, tb, th⟩ := t
  dsimp only at *
  by_cases h1 : tw < sw
  · have HM := Lib.hid (moreI_more (x := sx) (y := tx) h1)
    go_enter Try.func73, Try.ntmps73
    go_wp2_with fail
    go_quiet (fail)
    go_wp2_with fail
    go_ret
    exact ⟨by rw [HE.out, HM.out]; rfl, (Kept.refl _).drewN _⟩
  · have hd : decide (tw < sw) = false := decide_eq_false h1
    by_cases h2 : sw = tw
    · have HM := Lib.hid (moreI_same (x := sx) (y := tx) h2)
      subst h2
      clear h1
      go_enter Try.func73, Try.ntmps73
      go_wp2_with fail
      go_region_held3 (fun w' => w'.cell? ⟨z, o + i * 7 + 4, none⟩ = some (.int .i64 sw) ∧ w'.cell? ⟨z, o + j * 7 + 4, none⟩ = some (.int .i64 sw) ∧ w'.cell? ⟨z, o + i * 7, none⟩ = some (.int .u64 sx.1) ∧ w'.cell? ⟨z, o + i * 7 + 1, none⟩ = some (.int .u64 sx.2) ∧ w'.cell? ⟨z, o + j * 7, none⟩ = some (.int .u64 tx.1) ∧ w'.cell? ⟨z, o + j * 7 + 1, none⟩ = some (.int .u64 tx.2) ∧ Kept w w')
        (first | exact ⟨c4, d4, c0, c1, d0, d1, Kept.refl _⟩ | exact ⟨c4, d4, c0, c1, d0, d1, (Kept.refl _).drew⟩ | assumption | exact keepP6 hb hb hb hb hb hb (by assumption) (by assumption))
        (first
          | (go_at_call 33; ((with_reducible refine (less_any tx sx _).mono ?_); rintro e w' ⟨rfl, kk⟩)))
      rename_i hh
      have K1 := Lib.hid hh.2.2.2.2.2.2
      clear hh kk
      go_wp2_with fail
      go_ret
      exact ⟨by rw [HE.out, HM.out]; rfl, K1.out⟩
    · have HM := Lib.hid (moreI_less (x := sx) (y := tx) h1 h2)
      have hn : (sw == tw) = false := by rw [beq_eq_false_iff_ne]; exact h2
      clear h1 h2
      go_enter Try.func73, Try.ntmps73
      go_wp2_with fail
      go_quiet (fail)
      go_wp2_with fail
      go_ret
      exact ⟨by rw [HE.out, HM.out]; rfl, (Kept.refl _).drewN _⟩

/-! ### best, bestOn -/
set_option maxRecDepth 100000 in
set_option maxHeartbeats 1600000 in
theorem bestX_any (Q : Option Addr) (cq : Nat) (q : List Nat) (A : Option Addr) (c : Nat) (a : List It) (hq : ∀ k ∈ q, k < a.length) (hl : q.length ≤ 100000) (w : World) (hQ : CellsAt w w.heap.size Q (intCells (natsI q))) (hA : CellsAt w w.heap.size A (itemCells a)) :
    Calls Try.prog 71 #[.slice Q q.length cq, .func (.func 73) #[.slice A a.length c] #[]] w fun e w' => e = .returned (.int .i64 (optI (bestE a q))) ∧ Kept w w' := by
  have HQ := Lib.hid hQ
  have HA := Lib.hid hA
  have HM := Lib.hid hq
  clear hQ hA hq
  go_enter Try.func71, Try.ntmps71
  go_wp2_with fail
  go_loopw [5, 10] (fun f i w' => ∃ k : Nat, k ≤ q.length ∧ i = .int .i64 k ∧ f = .int .i64 (optI (bestE a (q.take k))) ∧ Kept w w') (fun _ i _ => q.length - (intOf i).toNat)
  case atStart => exact ⟨0, by omega, rfl, rfl, Kept.refl _⟩
  case round =>
    obtain ⟨k, hk, rfl, rfl, hK⟩ := hrel
    have HK := Lib.hid hK
    clear hK
    by_cases hlt : k < q.length
    · obtain ⟨z, o, rfl, hzb, cz⟩ := num_at (HQ.out.kept HK.out) hlt
      have hm := Lib.hid (HM.out _ (List.getElem_mem hlt))
      cases hb : bestE a (q.take k) with
      | none =>
        have HN := Lib.hid (bestE_first hlt hb)
        clear hb
        generalize q[k] = p at *
        unfold optI
        go_wp2_with fail
        go_roundw
        case rel => exact ⟨k + 1, by omega, by go_num, by rw [HN.out]; first | done | rfl, HK.out⟩
        case measure => simp [intOf]; omega
      | some y =>
        have hyl := Lib.hid (HM.out _ (List.mem_of_mem_take (bestE_mem hb)))
        have hy1 : ((y : Int) == -1) = false := by rw [beq_eq_false_iff_ne]; omega
        have HC := Lib.hid (moreE_any A c a q[k] y hm.out hyl.out wr (HA.out.kept HK.out))
        have HH := Lib.hid (bestE_hit hlt hb)
        have HS := Lib.hid (bestE_miss hlt hb)
        clear hb
        generalize q[k] = p at *
        unfold optI
        generalize hal : a.length = n at *
        clear hal
        go_wp2_with fail
        refine HC.out.mono ?_
        rintro e W1 ⟨rfl, k1⟩
        have K1 := Lib.hid (HK.out.trans k1)
        clear k1
        cases hmo : moreE a p y with
        | true =>
          have HN := Lib.hid (HH.out hmo)
          clear hmo
          go_wp2_with fail
          go_roundw
          case rel => exact ⟨k + 1, by omega, by go_num, by rw [HN.out]; first | done | rfl, K1.out⟩
          case measure => simp [intOf]; omega
        | false =>
          have HN := Lib.hid (HS.out hmo)
          clear hmo
          go_wp2_with fail
          go_roundw
          case rel => exact ⟨k + 1, by omega, by go_num, by rw [HN.out]; first | done | rfl, K1.out⟩
          case measure => simp [intOf]; omega
    · have hkl : k = q.length := by omega
      subst hkl
      go_wp2_with fail
      go_ret
      exact ⟨by first | rfl | simp, HK.out⟩
set_option maxRecDepth 100000 in
set_option maxHeartbeats 1600000 in
theorem bestOn_any (A : Option Addr) (c : Nat) (a : List It) (hl : a.length ≤ 100000) (j : Int) (w : World) (hA : CellsAt w w.heap.size A (itemCells a)) :
    Calls Try.prog 49 #[.slice A a.length c, .int .i64 j] w fun e w' => e = .returned (.int .i64 (optI (bestE a (kidsE a j)))) ∧ Kept w w' := by
  have HA := Lib.hid hA
  clear hA
  go_enter Try.func49, Try.ntmps49
  go_wp2_with fail
  refine (children_any A c a hl j w HA.out).mono ?_
  rintro e W ⟨Q, cq, rfl, hQ, k1⟩
  have K1 := Lib.hid k1
  have HB := Lib.hid (bestX_any Q cq (kidsE a j) A c a (fun k hk => (mem_kidsE.1 hk).1) (Nat.le_trans (kidsEto_le a j _) hl) W hQ (HA.out.kept k1))
  have HL := Lib.hid (natsI_length (kidsE a j))
  clear hQ k1
  rw [HL.out]
  generalize (kidsE a j).length = m at *
  generalize a.length = n at *
  go_wp2_with fail
  refine HB.out.mono ?_
  rintro e W2 ⟨rfl, k2⟩
  have K2 := Lib.hid (K1.out.trans k2)
  clear k2
  go_wp2_with fail
  go_ret
  exact ⟨rfl, K2.out⟩

end Go.Proofs.Ytabmdilhfiembaa
