/-
  Ids held against one another, as what is so of them; the contract of package tree's call Kids.
-/
import Derived.Test.YtepgbnojbomicaaTreeFind
import Derived.Test.YtepgbnojbomicaaIdRow
namespace Go.Proofs.Ytepgbnojbomicaa
open Go.ChangeShapes Go.WideShapes Go.ChangeAt Go.RowKit

def sameI (x y : Id2) : Bool := decide (x = y)
theorem sameI_yes {x y : Id2} (h : x = y) : sameI x y = true := decide_eq_true h
theorem sameI_no {x y : Id2} (h : ¬ x = y) : sameI x y = false := decide_eq_false h
theorem sameI_int (x y : Id2) : (((x.1 : Int) == (y.1 : Int)) && ((x.2 : Int) == (y.2 : Int))) = sameI x y := by
  obtain ⟨a, b⟩ := x
  obtain ⟨c, d⟩ := y
  unfold sameI
  rw [Bool.eq_iff_iff]
  simp
  omega
theorem eqIdN (x y : Id2) (w : World) : Sem.run Try.prog (Op.equalIn 10000 25 (.agg #[.int .u64 x.1, .int .u64 x.2]) (.agg #[.int .u64 y.1, .int .u64 y.2])) w = .ok (sameI x y) w := by rw [eqId10, sameI_int]
theorem eqIdZ (x : Id2) (w : World) : Sem.run Try.prog (Op.equalIn 10000 25 (.agg #[.int .u64 x.1, .int .u64 x.2]) (.agg #[.int .u64 0, .int .u64 0])) w = .ok (isZ x) w := by rw [eqId10, isZ_int]

theorem kidsC_yes {l : List Bk} (x : Id2) (h : mayB l = true) : kidsC l x = kidsB l x := by unfold kidsC; rw [if_pos h]
theorem kidsC_no {l : List Bk} (x : Id2) (h : mayB l = false) : kidsC l x = [] := by unfold kidsC; rw [h]; rfl
theorem kids_hit {l : List Bk} {x : Id2} {k : Nat} (hk : k < l.length) (e : l[k].p = x) : kidsB (l.take (k + 1)) x = kidsB (l.take k) x ++ [nameB l[k]] := by
  rw [List.take_succ_eq_append_getElem hk, kidsB_hit e]
theorem kids_miss {l : List Bk} {x : Id2} {k : Nat} (hk : k < l.length) (e : ¬ l[k].p = x) : kidsB (l.take (k + 1)) x = kidsB (l.take k) x := by
  rw [List.take_succ_eq_append_getElem hk, kidsB_miss e]

attribute [local go_sem high] eqIdN in
set_option maxRecDepth 100000 in
set_option maxHeartbeats 1600000 in
theorem kids_any (A : Option Addr) (c : Nat) (l : List Bk) (hl : l.length ≤ 1000000) (hw : WfL l) (x : Id2) (w : World) (hA : CellsAt w w.heap.size A (blockCells l)) :
    Calls Try.prog 15 #[.slice A l.length c, .agg #[.int .u64 x.1, .int .u64 x.2]] w (IdsNew (kidsC l x) w) := by
  have HP := Lib.hid (may_any A c l hl hw _ (hA.kept ((Kept.refl w).alloc (.cells #[.int .u64 x.1, .int .u64 x.2] 25))))
  have HA := Lib.hid (hA.kept ((Kept.refl w).alloc (.cells #[.int .u64 x.1, .int .u64 x.2] 25)))
  have HC := Lib.hid (HasCells.new w #[.int .u64 x.1, .int .u64 x.2] 25 w.heap.size rfl)
  have HW := Lib.hid hw
  clear hw hA
  go_enter Try.func15, Try.ntmps15
  go_wp2_with fail
  refine HP.out.mono ?_
  rintro e W ⟨rfl, k1⟩
  have HK := Lib.hid (((Kept.refl w).alloc _).trans k1)
  have HA1 := Lib.hid (HA.out.kept k1)
  have HC1 := Lib.hid (HC.out.kept k1)
  clear k1 HA HC HP
  cases hm : mayB l with
  | false =>
    have HR := Lib.hid (kidsC_no x hm)
    clear hm
    go_wp2_with fail
    go_ret
    rw [HR.out]
    exact IdsNew.nil HK.out
  | true =>
    have HR := Lib.hid (kidsC_yes x hm)
    clear hm
    go_wp2_with fail
    go_loopw [5, 13] (fun v i w' => ∃ k : Nat, k ≤ l.length ∧ i = .int .i64 k ∧ Ids W (kidsB (l.take k) x) v w') (fun _ i _ => l.length - (intOf i).toNat)
    case atStart => exact ⟨0, by omega, rfl, Ids.nil W⟩
    case round =>
      obtain ⟨k, hk, rfl, hI⟩ := hrel
      have HI := Lib.hid hI
      clear hI
      by_cases hlt : k < l.length
      · obtain ⟨z, o, rfl, hb, c0, c1, c2, c3, c4⟩ := block_at (HA1.out.kept HI.out.2) hlt
        have HX := Lib.hid (HW.out l[k] (List.getElem_mem hlt))
        obtain ⟨d0, d1⟩ := (HC1.out.kept HI.out.2).two
        have hlz : w.heap.size < wr.heap.size := (HC1.out.kept HI.out.2).1
        by_cases he : l[k].p = x
        · have hs := sameI_yes he
          have HN := Lib.hid (kids_hit hlt he)
          have HL := Lib.hid (kidsB_le (l.take k) x)
          clear he
          generalize l[k] = y at *
          go_wp2_with fail
          have HB := Lib.hid (HI.out.alloc (.cells #[.int .i64 y.s, .int .i64 y.f, .int .u64 y.p.1, .int .u64 y.p.2, .int .u64 y.t] 36))
          refine (name_any y HX.out _).mono ?_
          rintro e W1 ⟨rfl, k2⟩
          have HI1 := Lib.hid ((HI.out.alloc (.cells #[.int .i64 y.s, .int .i64 y.f, .int .u64 y.p.1, .int .u64 y.p.2, .int .u64 y.t] 36)).kept k2)
          have hll : (kidsB (l.take k) x).length + 1 ≤ 10000000 := by have := HL.out; rw [List.length_take] at this; omega
          clear c0 c1 c2 c3 c4 d0 d1 k2
          generalize nameB y = n at *
          go_wp2_with (refine wpList_ids _ rfl _ _ rfl W (kidsB (l.take k) x) _ rfl (HI1.out.alloc _) _ _ 1 1 [n] rfl rfl (ids_one_at (HasCells.new _ _ _ _ rfl)) hll ?_; intro v' w' HI' _; rw [← HN.out] at HI')
          go_roundw
          case rel => exact ⟨k + 1, by omega, by go_num, HI'⟩
          case measure => simp [intOf]; omega
        · have hs := sameI_no he
          have HN := Lib.hid (kids_miss hlt he)
          clear he
          generalize l[k] = y at *
          go_wp2_with fail
          go_roundw
          case rel => exact ⟨k + 1, by omega, by go_num, by rw [HN.out]; exact HI.out.alloc _⟩
          case measure => simp [intOf]; omega
      · have hkl : k = l.length := by omega
        subst hkl
        have HT := Lib.hid (show l.take l.length = l from List.take_length)
        rw [HT.out] at HI
        obtain ⟨A', c', rfl⟩ := HI.out.slice
        go_wp2_with fail
        go_ret
        rw [HR.out]
        obtain ⟨A2, c2, e2, h2, h3, h4⟩ := HI.out.new
        exact ⟨A2, c2, e2, h2, fun ad h => Nat.le_trans HK.out.size_le (h3 ad h), HK.out.trans h4⟩

end Go.Proofs.Ytepgbnojbomicaa
