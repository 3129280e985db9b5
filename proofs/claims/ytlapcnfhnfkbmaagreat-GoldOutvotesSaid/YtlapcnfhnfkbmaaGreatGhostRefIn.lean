/-
  The contracts of MayIn and KidsIn of the given package marigoldref06.
-/
import Derived.Test.YtlapcnfhnfkbmaaGreatTreeRefG
namespace Go.Proofs.YtlapcnfhnfkbmaaGreat
set_option maxRecDepth 100000
set_option linter.unusedVariables false
set_option linter.unusedSimpArgs false
set_option linter.unusedSimpArgs false
set_option linter.unusedVariables false
open Go.ChangeShapes Go.WideShapes Go.ChangeAt Go.RowKit

set_option maxHeartbeats 800000 in
theorem refMayIn6_any (A : Option Addr) (c : Nat) (l : List Bk) (hl : l.length ≤ 1000000) (N : Option Addr) (cn : Nat) (ns : List Id2) (hns : ns = namesB l) (hcn : ns.length ≤ cn) (w : World) (hA : CellsAt w w.heap.size A (blockCells l)) (hN : CellsAt w w.heap.size N (idsCells ns)) :
    Calls Tryz.prog 59 #[.slice A l.length c, .slice N ns.length cn] w fun e w' => e = .returned (.bool (mayB l)) ∧ Kept w w' := by
  have HM := Lib.hid (refMayIn_any A c l hl N cn ns hns hcn w hA hN)
  clear hA hN hns hcn
  generalize ns.length = n at *
  go_enter Tryz.func59, Tryz.ntmps59
  go_wp2_with fail
  refine HM.out.mono ?_
  rintro e W ⟨rfl, k1⟩
  have K1 := Lib.hid k1
  clear k1
  go_wp2_with fail
  go_ret
  exact ⟨rfl, K1.out⟩

attribute [local go_sem high] eqIdN in
set_option maxRecDepth 100000 in
set_option maxHeartbeats 1600000 in
theorem refKidsIn_any (A : Option Addr) (c : Nat) (l : List Bk) (hl : l.length ≤ 1000000) (hm : mayB l = true) (N : Option Addr) (cn : Nat) (x : Id2) (w : World) (hA : CellsAt w w.heap.size A (blockCells l)) (hN : CellsAt w w.heap.size N (idsCells (namesB l))) :
    Calls Tryz.prog 86 #[.slice A l.length c, .slice N (namesB l).length cn, .agg #[.int .u64 x.1, .int .u64 x.2]] w (IdsNew (kidsC l x) w) := by
  have HK := Lib.hid ((Kept.refl w).alloc (.cells #[.int .u64 x.1, .int .u64 x.2] 35))
  have HA2 := Lib.hid (hA.kept HK.out)
  have HN2 := Lib.hid (hN.kept HK.out)
  have HC2 := Lib.hid (HasCells.new w #[.int .u64 x.1, .int .u64 x.2] 35 w.heap.size rfl)
  have HNl := Lib.hid (namesB_length l)
  have HNg := Lib.hid (show ∀ k (hk : k < l.length) (hn : k < (namesB l).length), (namesB l)[k] = nameB l[k] from fun k hk hn => by simp [namesB])
  have HR := Lib.hid (kidsC_yes x hm)
  clear hA hN hm
  go_enter Tryz.func86, Tryz.ntmps86
  go_wp2_with fail
  generalize w.alloc (.cells #[.int .u64 x.1, .int .u64 x.2] 35) = W2 at *
  generalize w.heap.size = z at *
  go_loopw [7, 8] (fun v i w' => ∃ k : Nat, k ≤ l.length ∧ i = .int .i64 k ∧ Ids W2 (kidsB (l.take k) x) v w') (fun _ i _ => l.length - (intOf i).toNat)
  case atStart => exact ⟨0, by omega, rfl, Ids.nil W2⟩
  case round =>
    obtain ⟨k, hk, rfl, hI⟩ := hrel
    have HI := Lib.hid hI
    clear hI
    by_cases hlt : k < l.length
    · obtain ⟨z1, o1, rfl, hb, c0, c1, c2, c3, c4⟩ := block_at (HA2.out.kept HI.out.2) hlt
      have hkn : k < (namesB l).length := by rw [HNl.out]; exact hlt
      obtain ⟨z2, o2, rfl, hb2, f0, f1⟩ := id_at (HN2.out.kept HI.out.2) hkn
      rw [HNg.out k hlt hkn] at f0 f1
      obtain ⟨d0, d1⟩ := (HC2.out.kept HI.out.2).two
      by_cases he : l[k].p = x
      · have hs := sameI_yes he
        have HNk := Lib.hid (kids_hit hlt he)
        have HL := Lib.hid (kidsB_le (l.take k) x)
        have hll : (kidsB (l.take k) x).length + 1 ≤ 10000000 := by have := HL.out; rw [List.length_take] at this; omega
        clear he
        generalize l[k] = y at *
        generalize nameB y = n at *
        generalize namesB l = ns at *
        go_wp2_with fail
        go_quiet (fail)
        go_wp2_with (refine wpList_ids _ rfl _ _ rfl W2 (kidsB (l.take k) x) _ rfl ((HI.out.drewN _).alloc _) _ _ 1 1 [n] rfl rfl (ids_one_at (HasCells.new _ _ _ _ rfl)) hll ?_; intro v' w' HI' _; rw [← HNk.out] at HI')
        go_roundw
        case rel => exact ⟨k + 1, by omega, by go_num, HI'⟩
        case measure => simp [intOf]; omega
      · have hs := sameI_no he
        have HNk := Lib.hid (kids_miss hlt he)
        clear he
        generalize l[k] = y at *
        generalize namesB l = ns at *
        go_wp2_with fail
        go_quiet (fail)
        go_wp2_with fail
        go_roundw
        case rel => exact ⟨k + 1, by omega, by go_num, by rw [HNk.out]; exact HI.out.drewN _⟩
        case measure => simp [intOf]; omega
    · have hkl : k = l.length := by omega
      subst hkl
      have HT := Lib.hid (show l.take l.length = l from List.take_length)
      rw [HT.out] at HI
      obtain ⟨A', c', rfl⟩ := HI.out.slice
      go_wp2_with fail
      go_ret
      rw [HR.out]
      obtain ⟨A3, c3, e3, h3, h4, h5⟩ := HI.out.new
      exact ⟨A3, c3, e3, h3, fun ad h => Nat.le_trans HK.out.size_le (h4 ad h), HK.out.trans h5⟩

end Go.Proofs.YtlapcnfhnfkbmaaGreat
