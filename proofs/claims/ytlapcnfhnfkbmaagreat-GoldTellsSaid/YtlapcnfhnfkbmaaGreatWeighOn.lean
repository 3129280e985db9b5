/-
  The contracts of package weigh's calls gather, weights (and its closure), On and All.
-/
import Derived.Test.YtlapcnfhnfkbmaaGreatWeigh
namespace Go.Proofs.YtlapcnfhnfkbmaaGreat
set_option maxRecDepth 100000
set_option linter.unusedVariables false
set_option linter.unusedSimpArgs false
open Go.ChangeShapes Go.WideShapes Go.ChangeAt Go.RowKit

theorem Ints.slice {W w : World} {l : List Int} {v : Value} (h : Ints W l v w) : ∃ A c, v = .slice A l.length c := row_slice h.1
theorem take_vote {L : List Vt} {k : Nat} (hk : k < L.length) : L.take (k + 1) = L.take k ++ [L[k]] := List.take_succ_eq_append_getElem hk
theorem who_hit {l : List Bk} {v : List Vt} {x : Id2} {k : Nat} (hk : k < v.length) (h : underC l x v[k].p = true) : whoC l (v.take (k + 1)) x = whoC l (v.take k) x ++ [v[k].f] := by rw [take_vote hk, whoC_hit _ h]
theorem who_miss {l : List Bk} {v : List Vt} {x : Id2} {k : Nat} (hk : k < v.length) (h : underC l x v[k].p = false) : whoC l (v.take (k + 1)) x = whoC l (v.take k) x := by rw [take_vote hk, whoC_miss _ h]
theorem who_le (l : List Bk) (v : List Vt) (x : Id2) (k : Nat) : (whoC l (v.take k) x).length ≤ k := by
  have := whoC_length l (v.take k) x
  rw [List.length_take] at this
  omega

set_option maxRecDepth 100000 in
set_option maxHeartbeats 1600000 in
theorem gatherW_any (V : Option Addr) (c : Nat) (v : List Vt) (hl : v.length ≤ 100000) (hw : WfVs v) (z : Nat) (s : Value) (l : List Bk) (x : Id2) (w : World) (hV : CellsAt w w.heap.size V (votesCells v)) (hz : HasCells w z [s]) (hS : SetI (fun y => underC l x y) s w) :
    Calls Tryz.prog 38 #[.slice V v.length c, .func (.func 65) #[] #[.pointer (some ⟨z, 0, none⟩)]] w
      fun e w' => ∃ A' c', e = .returned (.slice A' (whoC l v x).length c') ∧ CellsAt w' w'.heap.size A' (intCells (whoC l v x)) ∧ Kept w w' := by
  have HV := Lib.hid hV
  have HW := Lib.hid hw
  have HZ := Lib.hid hz
  have HS := Lib.hid hS
  clear hV hw hz hS
  go_enter Tryz.func38, Tryz.ntmps38
  go_wp2_with fail
  go_loopw [5, 12] (fun u i w' => ∃ k : Nat, k ≤ v.length ∧ i = .int .i64 k ∧ Ints w (whoC l (v.take k) x) u w') (fun _ i _ => v.length - (intOf i).toNat)
  case atStart => exact ⟨0, by omega, rfl, Ints.nil w⟩
  case round =>
    obtain ⟨k, hk, rfl, hI⟩ := hrel
    have HI := Lib.hid hI
    clear hI
    by_cases hlt : k < v.length
    · obtain ⟨z1, o1, rfl, hb, c0, c1, c2, c3⟩ := vote_at (HV.out.kept HI.out.2) hlt
      have HX := Lib.hid (HW.out v[k] (List.getElem_mem hlt))
      have HL := Lib.hid (who_le l v x k)
      cases hu : underC l x v[k].p with
      | true =>
        have HN := Lib.hid (who_hit hlt hu)
        have HU := Lib.hid hu
        clear hu
        generalize v[k] = y at *
        go_wp2_with fail
        refine (voter_any z s _ y HX.out.2.2 _ ((HZ.out.kept HI.out.2).alloc _) ((HS.out.kept HI.out.2).kept ((Kept.refl _).alloc _))).mono ?_
        rintro e W1 ⟨rfl, k1⟩
        rw [HU.out]
        have HI1 := Lib.hid ((HI.out.alloc (.cells #[.int .i64 y.f, .int .i64 y.s, .int .u64 y.p.1, .int .u64 y.p.2] 39)).kept k1)
        have hll : (whoC l (v.take k) x).length + 1 ≤ 1000000 := by have := HL.out; omega
        clear c0 c1 c2 c3 k1
        go_wp2_with (refine wpList_ints _ rfl _ _ rfl w (whoC l (v.take k) x) _ rfl (HI1.out.alloc _) _ _ 1 1 [y.f] rfl rfl (CellsAt.new _ _ _ _ rfl) hll ?_; intro v' w' HI'; rw [← HN.out] at HI')
        go_roundw
        case rel => exact ⟨k + 1, by omega, by go_num, HI'⟩
        case measure => simp [intOf]; omega
      | false =>
        have HN := Lib.hid (who_miss hlt hu)
        have HU := Lib.hid hu
        clear hu
        generalize v[k] = y at *
        go_wp2_with fail
        refine (voter_any z s _ y HX.out.2.2 _ ((HZ.out.kept HI.out.2).alloc _) ((HS.out.kept HI.out.2).kept ((Kept.refl _).alloc _))).mono ?_
        rintro e W1 ⟨rfl, k1⟩
        rw [HU.out]
        have HI1 := Lib.hid ((HI.out.alloc (.cells #[.int .i64 y.f, .int .i64 y.s, .int .u64 y.p.1, .int .u64 y.p.2] 39)).kept k1)
        clear c0 c1 c2 c3 k1
        go_wp2_with fail
        go_roundw
        case rel => exact ⟨k + 1, by omega, by go_num, by rw [HN.out]; exact HI1.out⟩
        case measure => simp [intOf]; omega
    · have hkl : k = v.length := by omega
      subst hkl
      have HT := Lib.hid (show v.take v.length = v from List.take_length)
      rw [HT.out] at HI
      obtain ⟨A', c', rfl⟩ := HI.out.slice
      go_wp2_with fail
      go_ret
      exact ⟨A', c', rfl, HI.out.cells rfl, HI.out.2⟩

/-! ### weights -/
theorem weights_any (A : Option Addr) (c : Nat) (k : Cf) (w : World) :
    Calls Tryz.prog 37 #[.agg #[.slice A k.ws.length c, .int .u64 k.seed, .int .i64 k.ep, .int .i64 k.nu, .int .i64 k.de]] w fun e w' => ∃ z, e = .returned (.func (.func 63) #[] #[.pointer (some ⟨z, 0, none⟩)]) ∧ HasCells w' z [.slice A k.ws.length c, .int .u64 k.seed, .int .i64 k.ep, .int .i64 k.nu, .int .i64 k.de] ∧ Kept w w' := by
  go_enter Tryz.func37, Tryz.ntmps37
  go_wp2_with fail
  go_ret
  exact ⟨w.heap.size, rfl, HasCells.new w #[.slice A k.ws.length c, .int .u64 k.seed, .int .i64 k.ep, .int .i64 k.nu, .int .i64 k.de] 25 w.heap.size rfl, (Kept.refl w).alloc _⟩
set_option maxHeartbeats 800000 in
theorem weights1_any (A : Option Addr) (c : Nat) (k : Cf) (z : Nat) (B : Option Addr) (l : List Int) (n cb : Nat) (hn : n = l.length) (w : World) (hz : HasCells w z [.slice A k.ws.length c, .int .u64 k.seed, .int .i64 k.ep, .int .i64 k.nu, .int .i64 k.de]) (hA : CellsAt w w.heap.size A (intCells k.ws)) (hl : n ≤ 1000000) (hB : CellsAt w w.heap.size B (intCells l)) :
    Calls Tryz.prog 63 #[.slice B n cb, .pointer (some ⟨z, 0, none⟩)] w fun e w' => e = .returned (.int .i64 (weightC k l)) ∧ Kept w w' := by
  obtain ⟨c0, c1, c2, c3, c4⟩ := hz.five
  have HW := Lib.hid (weight_len A c k B l n cb w hA hl hB hn)
  clear hz hA hB hl hn
  go_enter Tryz.func63, Tryz.ntmps63
  go_wp2_with fail
  refine HW.out.mono ?_
  rintro e W ⟨rfl, k1⟩
  have K1 := Lib.hid k1
  clear k1 c0 c1 c2 c3 c4
  go_wp2_with fail
  go_ret
  exact ⟨rfl, K1.out⟩

/-! ### On and All -/
set_option maxHeartbeats 1600000 in
theorem on_any (A : Option Addr) (c : Nat) (k : Cf) (L : Option Addr) (cl : Nat) (l : List Bk) (V : Option Addr) (cv : Nat) (v : List Vt) (x : Id2) (w : World)
    (hl : l.length ≤ 1000000) (hv : v.length ≤ 100000) (hwl : WfL l) (hwv : WfVs v) (hx : WfI x) (hA : CellsAt w w.heap.size A (intCells k.ws)) (hL : CellsAt w w.heap.size L (blockCells l)) (hV : CellsAt w w.heap.size V (votesCells v)) :
    Calls Tryz.prog 17 #[.agg #[.slice A k.ws.length c, .int .u64 k.seed, .int .i64 k.ep, .int .i64 k.nu, .int .i64 k.de], .slice L l.length cl, .slice V v.length cv, .agg #[.int .u64 x.1, .int .u64 x.2]] w fun e w' => e = .returned (.int .i64 (onC k l v x)) ∧ Kept w w' := by
  have HK := Lib.hid (((Kept.refl w).alloc (.cells #[.slice A k.ws.length c, .int .u64 k.seed, .int .i64 k.ep, .int .i64 k.nu, .int .i64 k.de] 25)).alloc (.cells #[.int .u64 x.1, .int .u64 x.2] 35))
  have HC := Lib.hid ((HasCells.new w #[.slice A k.ws.length c, .int .u64 k.seed, .int .i64 k.ep, .int .i64 k.nu, .int .i64 k.de] 25 w.heap.size rfl).alloc (.cells #[.int .u64 x.1, .int .u64 x.2] 35))
  have HI := Lib.hid (HasCells.new (w.alloc (.cells #[.slice A k.ws.length c, .int .u64 k.seed, .int .i64 k.ep, .int .i64 k.nu, .int .i64 k.de] 25)) #[.int .u64 x.1, .int .u64 x.2] 35 (w.heap.size + 1) (by simp))
  have HA := Lib.hid (hA.kept HK.out)
  have HL := Lib.hid (hL.kept HK.out)
  have HV := Lib.hid (hV.kept HK.out)
  have HWL := Lib.hid hwl
  have HWV := Lib.hid hwv
  have HX := Lib.hid hx
  have HLen := Lib.hid (whoC_length l v x)
  have HOn := Lib.hid (show onC k l v x = weightC k (whoC l v x) from rfl)
  clear hA hL hV hwl hwv hx
  go_enter Tryz.func17, Tryz.ntmps17
  go_wp2_with fail
  generalize (w.alloc (.cells #[.slice A k.ws.length c, .int .u64 k.seed, .int .i64 k.ep, .int .i64 k.nu, .int .i64 k.de] 25)).alloc (.cells #[.int .u64 x.1, .int .u64 x.2] 35) = W at *
  generalize w.heap.size + 1 = y at *
  generalize w.heap.size = z at *
  refine (weights_any A c k _).mono ?_
  rintro e W1 ⟨zc, rfl, hzc, k1⟩
  have HZ := Lib.hid hzc
  have HK1 := Lib.hid (HK.out.trans k1)
  have HL1 := Lib.hid (HL.out.kept k1)
  have HV1 := Lib.hid (HV.out.kept k1)
  have HA1 := Lib.hid (HA.out.kept k1)
  obtain ⟨d0, d1⟩ := (HI.out.kept k1).two
  clear hzc k1 HK HL HV HA HI HC
  go_wp2_with fail
  refine (voterFor_any L cl l hl HWL.out x HX.out W1 HL1.out).mono ?_
  rintro e W2 ⟨zs, s, rfl, hzs, hS, k2⟩
  have HZS := Lib.hid hzs
  have HS := Lib.hid hS
  have HK2 := Lib.hid (HK1.out.trans k2)
  have HV2 := Lib.hid (HV1.out.kept k2)
  have HA2 := Lib.hid (HA1.out.kept k2)
  have HZ2 := Lib.hid (HZ.out.kept k2)
  clear hzs hS k2 HK1 HL1 HV1 HA1 HZ d0 d1
  go_wp2_with fail
  refine (gatherW_any V cv v hv HWV.out zs s l x W2 HV2.out HZS.out HS.out).mono ?_
  rintro e W3 ⟨G, cg, rfl, hG, k3⟩
  have HG := Lib.hid hG
  have HK3 := Lib.hid (HK2.out.trans k3)
  have HA3 := Lib.hid (HA2.out.kept k3)
  have HZ3 := Lib.hid (HZ2.out.kept k3)
  have hgl : (whoC l v x).length ≤ 1000000 := by have := HLen.out; omega
  clear hG k3 HK2 HV2 HA2 HZ2 HZS HS HLen
  generalize whoC l v x = q at *
  have HQ := Lib.hid (fun w' (h1 : HasCells w' zc [.slice A k.ws.length c, .int .u64 k.seed, .int .i64 k.ep, .int .i64 k.nu, .int .i64 k.de]) (h2 : CellsAt w' w'.heap.size A (intCells k.ws)) (h3 : CellsAt w' w'.heap.size G (intCells q)) => weights1_any A c k zc G q q.length cg rfl w' h1 h2 hgl h3)
  generalize q.length = n at *
  go_wp2_with fail
  refine (HQ.out W3 HZ3.out HA3.out HG.out).mono ?_
  rintro e W4 ⟨rfl, k4⟩
  have HK4 := Lib.hid (HK3.out.trans k4)
  clear k4
  go_wp2_with fail
  go_ret
  exact ⟨by rw [HOn.out]; rfl, HK4.out⟩

theorem on_zero (A : Option Addr) (c : Nat) (k : Cf) (L : Option Addr) (cl : Nat) (l : List Bk) (V : Option Addr) (cv : Nat) (v : List Vt) (w : World)
    (hl : l.length ≤ 1000000) (hv : v.length ≤ 100000) (hwl : WfL l) (hwv : WfVs v) (hA : CellsAt w w.heap.size A (intCells k.ws)) (hL : CellsAt w w.heap.size L (blockCells l)) (hV : CellsAt w w.heap.size V (votesCells v)) :
    Calls Tryz.prog 17 #[.agg #[.slice A k.ws.length c, .int .u64 k.seed, .int .i64 k.ep, .int .i64 k.nu, .int .i64 k.de], .slice L l.length cl, .slice V v.length cv, .agg #[.int .u64 0, .int .u64 0]] w fun e w' => e = .returned (.int .i64 (onC k l v zid)) ∧ Kept w w' :=
  on_any A c k L cl l V cv v zid w hl hv hwl hwv WfI.zid hA hL hV

set_option maxHeartbeats 800000 in
theorem all_any (A : Option Addr) (c : Nat) (k : Cf) (L : Option Addr) (cl : Nat) (l : List Bk) (V : Option Addr) (cv : Nat) (v : List Vt) (w : World)
    (hl : l.length ≤ 1000000) (hv : v.length ≤ 100000) (hwl : WfL l) (hwv : WfVs v) (hA : CellsAt w w.heap.size A (intCells k.ws)) (hL : CellsAt w w.heap.size L (blockCells l)) (hV : CellsAt w w.heap.size V (votesCells v)) :
    Calls Tryz.prog 18 #[.agg #[.slice A k.ws.length c, .int .u64 k.seed, .int .i64 k.ep, .int .i64 k.nu, .int .i64 k.de], .slice L l.length cl, .slice V v.length cv] w fun e w' => e = .returned (.int .i64 (onC k l v zid)) ∧ Kept w w' := by
  have HK := Lib.hid ((Kept.refl w).alloc (.cells #[.slice A k.ws.length c, .int .u64 k.seed, .int .i64 k.ep, .int .i64 k.nu, .int .i64 k.de] 25))
  have HO := Lib.hid (on_zero A c k L cl l V cv v _ hl hv hwl hwv (hA.kept HK.out) (hL.kept HK.out) (hV.kept HK.out))
  clear hA hL hV hwl hwv
  go_enter Tryz.func18, Tryz.ntmps18
  go_wp2_with fail
  refine HO.out.mono ?_
  rintro e W1 ⟨rfl, k1⟩
  have HK1 := Lib.hid (HK.out.trans k1)
  clear k1 HO
  go_wp2_with fail
  go_ret
  exact ⟨rfl, HK1.out⟩

end Go.Proofs.YtlapcnfhnfkbmaaGreat
