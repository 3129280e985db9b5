/-
  The contract of package array's call Move.
-/
import Derived.Test.YtabmdilhfiembaaArrayOps
namespace Go.Proofs.Ytabmdilhfiembaa
set_option maxRecDepth 100000
set_option linter.unusedVariables false
set_option linter.unusedSimpArgs false
set_option linter.unusedVariables false
open Go.ChangeShapes Go.WideShapes Go.ChangeAt Go.RowKit

theorem ownB_over {n : Int} (h1 : 9223372036854775807 < n) (h2 : n ≤ 9224498936761618431) : ownB (n - 18446744073709551616) = false ∧ ownB n = false :=
  ⟨decide_eq_false (by omega), decide_eq_false (by omega)⟩
set_option maxRecDepth 100000 in
set_option maxHeartbeats 3200000 in
theorem movI_any (A : Option Addr) (c : Nat) (a : List It) (hl : a.length ≤ 70) (hc : a.length ≤ c) (id : Id2) (y : Int) (hy1 : -9223372036854775808 ≤ y) (hy2 : y ≤ 9223372036854775807) (w : World) (hA : CellsAt w w.heap.size A (itemCells a)) :
    Calls Try.prog 21 #[.slice A a.length c, .agg #[.int .u64 id.1, .int .u64 id.2], .int .i64 y] w (ItsNew (movC a id y) w) := by
  have K0 := Lib.hid ((Kept.refl w).alloc (.cells #[.int .u64 id.1, .int .u64 id.2] 29))
  have HI := Lib.hid (HasCells.new w #[.int .u64 id.1, .int .u64 id.2] 29 w.heap.size rfl)
  have HA := Lib.hid (hA.kept K0.out)
  clear hA
  go_enter Try.func21, Try.ntmps21
  go_wp2_with fail
  generalize w.alloc (.cells #[.int .u64 id.1, .int .u64 id.2] 29) = W at *
  generalize w.heap.size = z at *
  refine (mayI_any A c a hl hc W HA.out).mono ?_
  rintro e W2 ⟨rfl, k2⟩
  have K2 := Lib.hid k2
  clear k2
  cases hm : mayI a with
  | false =>
    have HE := Lib.hid (movC_arg (id := id) (y := y) hm)
    clear hm
    go_wp2_with fail
    go_ret2
    exact ItsNew.none HE.out (K0.out.trans K2.out)
  | true =>
    have HMt := Lib.hid hm
    have HMa := Lib.hid (mayI_of hm)
    clear hm
    obtain ⟨d0, d1⟩ := (HI.out.kept K2.out).two
    have hzl := (HI.out.kept K2.out).1
    go_wp2_with fail
    refine (findA_any A c a (by omega) id W2 (HA.out.kept K2.out)).mono ?_
    rintro e W3 ⟨rfl, k3⟩
    have K3 := Lib.hid (K2.out.trans k3)
    clear k3 d0 d1 hzl K2
    rcases posI_way a id with ⟨hq, _⟩ | ⟨k, hq, hk, _⟩
    · have HE := Lib.hid (movC_none (y := y) HMt.out hq)
      rw [hq]
      clear hq
      go_wp2_with fail
      go_ret2
      exact ItsNew.none HE.out (K0.out.trans K3.out)
    · have HQ := Lib.hid hq
      rw [hq]
      clear hq
      have hk1 : ((k : Int) == -1) = false := by rw [beq_eq_false_iff_ne]; omega
      obtain ⟨zz, o, rfl, hb, c0, c1, c2, c3, c4, c5, c6⟩ := item_at (HA.out.kept K3.out) hk
      have HX := Lib.hid (itA_get hk)
      have hob := HMa.out.stand.own k hk
      rw [← HX.out] at c3
      generalize hto : (itA a k).o = to at *
      have HTo := Lib.hid hto
      clear hto
      by_cases hov : to + y ≤ 9223372036854775807
      · cases ho : ownB (to + y) with
        | false =>
          have HE := Lib.hid (movC_own (y := y) HMt.out HQ.out (by rw [HTo.out]; exact ho))
          have HO := Lib.hid ho
          clear ho
          go_wp2_with fail
          refine (ownB_any (to + y) _).mono ?_
          rintro e w' ⟨rfl, rfl⟩
          rw [HO.out]
          go_wp2_with fail
          go_ret2
          exact ItsNew.none HE.out (K0.out.trans K3.out)
        | true =>
          have HE := Lib.hid (show movC a id y = (anewC (ownI a k (to + y)), 0) by have h := movC_ok (y := y) HMt.out HQ.out (by rw [HTo.out]; exact ho); rw [HTo.out] at h; exact h)
          have HO := Lib.hid ho
          clear ho
          go_wp2_with fail
          refine (ownB_any (to + y) _).mono ?_
          rintro e w' ⟨rfl, rfl⟩
          rw [HO.out]
          have hcl := clone_any (some ⟨zz, o, none⟩) c a (by omega) W3 (HA.out.kept K3.out)
          clear c0 c1 c2 c3 c4 c5 c6 hb
          have HCl := Lib.hid hcl
          clear hcl
          go_wp2_with fail
          refine HCl.out.mono ?_
          rintro e W4 ⟨A2, c2, rfl, hI⟩
          obtain ⟨g, rfl, hgw⟩ := form0 hI (by omega)
          have HI2 := Lib.hid hI
          clear hI HCl
          obtain ⟨_, _, _, s3, _, _, _⟩ := HI2.out.at rfl hk
          rw [HTo.out] at s3
          have f3 := HI2.out.frozen (k * 7 + 3)
          go_wp2_with fail
          have HI5 := Lib.hid (show Its W3 (ownI a k (to + y)) (.slice (some ⟨g, 0, none⟩) a.length c2) (W4.setCell ⟨g, k * 7 + 3, none⟩ (.int .i64 (to + y))) from
            HI2.out.set hk (j := 3) (by omega) (t := { itA a k with o := to + y }) (by rw [← HX.out]; rfl))
          clear s3 f3
          generalize W4.setCell ⟨g, k * 7 + 3, none⟩ (.int .i64 (to + y)) = V1 at *
          have HSe := Lib.hid (show Calls Try.prog 45 #[.slice (some ⟨g, 0, none⟩) a.length c2] V1 fun e w' => e = .returned (.tuple #[]) ∧ Its W3 (anewC (ownI a k (to + y))) (.slice (some ⟨g, 0, none⟩) a.length c2) w' from by
            have h := settleV_any W3 (some ⟨g, 0, none⟩) c2 (ownI a k (to + y)) (by rw [ownI_length]; exact hl) (ownI_right HMa.out.stand.right k _) (ownI_own HMa.out.stand.own hk (ownB_yes HO.out)) V1 (by rw [ownI_length]; exact HI5.out)
            rw [ownI_length] at h
            exact h)
          have HLn := Lib.hid (show (anewC (ownI a k (to + y))).length = a.length by rw [anewC_length, ownI_length])
          refine HSe.out.mono ?_
          rintro e V2 ⟨rfl, hI6⟩
          have HI6 := Lib.hid hI6
          clear hI6 HSe
          go_wp2_with fail
          go_ret2
          rw [HE.out]
          exact ⟨some ⟨g, 0, none⟩, c2, by rw [HLn.out]; rfl, HI6.out.cells HLn.out.symm, by rw [HLn.out]; exact HI6.out.cap, K0.out.trans (K3.out.trans HI6.out.2)⟩
      · have HE := Lib.hid (movC_own (y := y) HMt.out HQ.out (by rw [HTo.out]; exact (ownB_over (n := to + y) (by omega) (by omega)).2))
        have HO := Lib.hid (ownB_over (n := to + y) (by omega) (by omega)).1
        have hw : IntKind.i64.wrap (to + y) = to + y - 18446744073709551616 := by rw [IntKind.wrap_i64]; omega
        go_wp2_with fail
        refine (ownB_any (to + y - 18446744073709551616) _).mono ?_
        rintro e w' ⟨rfl, rfl⟩
        rw [HO.out]
        go_wp2_with fail
        go_ret2
        exact ItsNew.none HE.out (K0.out.trans K3.out)

end Go.Proofs.Ytabmdilhfiembaa
