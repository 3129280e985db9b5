/-
  For all blocks a and b and all votes v and w marigoldlaw03.WireApart returns true and leaves its arguments as they were: no further condition.
-/
import Derived.Test.YtfbjiepnhfgmfaaWireAwake
namespace Go.Proofs.Ytfbjiepnhfgmfaa.wireApart
open Go.ChangeShapes Go.WideShapes Go.ChangeAt Go.RowKit
set_option linter.unusedVariables false

/-! ### The walk: the call returns true, and of what was there nothing has changed. -/
attribute [local go_sem high] eqBlock eqVote in
set_option maxRecDepth 100000 in
set_option maxHeartbeats 8000000 in
theorem walk (w : World) (ms mf : Int) (mp : Nat × Nat) (mt : Nat) (hm1 : mp.1 < 18446744073709551616) (hm2 : mp.2 < 18446744073709551616) (hm3 : mt < 18446744073709551616) (ns nf : Int) (np : Nat × Nat) (nt : Nat) (hn1 : np.1 < 18446744073709551616) (hn2 : np.2 < 18446744073709551616) (hn3 : nt < 18446744073709551616) (vf vs : Int) (vp : Nat × Nat) (hv1 : vp.1 < 18446744073709551616) (hv2 : vp.2 < 18446744073709551616) (uf us : Int) (up : Nat × Nat) (hu1 : up.1 < 18446744073709551616) (hu2 : up.2 < 18446744073709551616) :
    Calls Try.prog 6 #[.agg #[.int .i64 ms, .int .i64 mf, .int .u64 mp.1, .int .u64 mp.2, .int .u64 mt], .agg #[.int .i64 ns, .int .i64 nf, .int .u64 np.1, .int .u64 np.2, .int .u64 nt], .agg #[.int .i64 vf, .int .i64 vs, .int .u64 vp.1, .int .u64 vp.2], .agg #[.int .i64 uf, .int .i64 us, .int .u64 up.1, .int .u64 up.2]] w fun e w' => e = .returned (.bool true) ∧ Kept w w' := by
  cases hm : made ms mf
  · cases hv : made vs vf
    · have Hm := Lib.hid hm
      clear hm
      have Hv := Lib.hid hv
      clear hv
      go_enter Try.func6, Try.ntmps6
      go_wp2_with fail
      have M0 := Lib.hid (HasCells.new w #[.int .i64 ms, .int .i64 mf, .int .u64 mp.1, .int .u64 mp.2, .int .u64 mt] 26 (w.heap.size) (by simp))
      have N0 := Lib.hid (HasCells.new (w.alloc (.cells #[.int .i64 ms, .int .i64 mf, .int .u64 mp.1, .int .u64 mp.2, .int .u64 mt] 26)) #[.int .i64 ns, .int .i64 nf, .int .u64 np.1, .int .u64 np.2, .int .u64 nt] 26 (w.heap.size + 1) (by simp))
      have M0 := Lib.hid (M0.out.alloc (.cells #[.int .i64 ns, .int .i64 nf, .int .u64 np.1, .int .u64 np.2, .int .u64 nt] 26))
      have V0 := Lib.hid (HasCells.new ((w.alloc (.cells #[.int .i64 ms, .int .i64 mf, .int .u64 mp.1, .int .u64 mp.2, .int .u64 mt] 26)).alloc (.cells #[.int .i64 ns, .int .i64 nf, .int .u64 np.1, .int .u64 np.2, .int .u64 nt] 26)) #[.int .i64 vf, .int .i64 vs, .int .u64 vp.1, .int .u64 vp.2] 28 (w.heap.size + 2) (by simp))
      have M0 := Lib.hid (M0.out.alloc (.cells #[.int .i64 vf, .int .i64 vs, .int .u64 vp.1, .int .u64 vp.2] 28))
      have N0 := Lib.hid (N0.out.alloc (.cells #[.int .i64 vf, .int .i64 vs, .int .u64 vp.1, .int .u64 vp.2] 28))
      have U0 := Lib.hid (HasCells.new (((w.alloc (.cells #[.int .i64 ms, .int .i64 mf, .int .u64 mp.1, .int .u64 mp.2, .int .u64 mt] 26)).alloc (.cells #[.int .i64 ns, .int .i64 nf, .int .u64 np.1, .int .u64 np.2, .int .u64 nt] 26)).alloc (.cells #[.int .i64 vf, .int .i64 vs, .int .u64 vp.1, .int .u64 vp.2] 28)) #[.int .i64 uf, .int .i64 us, .int .u64 up.1, .int .u64 up.2] 28 (w.heap.size + 3) (by simp))
      have M0 := Lib.hid (M0.out.alloc (.cells #[.int .i64 uf, .int .i64 us, .int .u64 up.1, .int .u64 up.2] 28))
      have N0 := Lib.hid (N0.out.alloc (.cells #[.int .i64 uf, .int .i64 us, .int .u64 up.1, .int .u64 up.2] 28))
      have V0 := Lib.hid (V0.out.alloc (.cells #[.int .i64 uf, .int .i64 us, .int .u64 up.1, .int .u64 up.2] 28))
      have K0 := Lib.hid (show Kept w ((((w.alloc (.cells #[.int .i64 ms, .int .i64 mf, .int .u64 mp.1, .int .u64 mp.2, .int .u64 mt] 26)).alloc (.cells #[.int .i64 ns, .int .i64 nf, .int .u64 np.1, .int .u64 np.2, .int .u64 nt] 26)).alloc (.cells #[.int .i64 vf, .int .i64 vs, .int .u64 vp.1, .int .u64 vp.2] 28)).alloc (.cells #[.int .i64 uf, .int .i64 us, .int .u64 up.1, .int .u64 up.2] 28)) from ((((Kept.refl w).alloc _).alloc _).alloc _).alloc _)
      generalize ((((w.alloc (.cells #[.int .i64 ms, .int .i64 mf, .int .u64 mp.1, .int .u64 mp.2, .int .u64 mt] 26)).alloc (.cells #[.int .i64 ns, .int .i64 nf, .int .u64 np.1, .int .u64 np.2, .int .u64 nt] 26)).alloc (.cells #[.int .i64 vf, .int .i64 vs, .int .u64 vp.1, .int .u64 vp.2] 28)).alloc (.cells #[.int .i64 uf, .int .i64 us, .int .u64 up.1, .int .u64 up.2] 28)) = W0 at *
      generalize w.heap.size = z at *
      have HZ := Lib.hid True.intro
      refine (awake_any _).mono ?_
      rintro e W1 ⟨rfl, k1⟩
      have K1 := Lib.hid (K0.out.trans k1)
      have M1 := Lib.hid (M0.out.kept k1)
      clear M0 
      obtain ⟨m1a, m1b, m1c, m1d, m1e⟩ := M1.out.five
      have N1 := Lib.hid (N0.out.kept k1)
      clear N0 
      obtain ⟨n1a, n1b, n1c, n1d, n1e⟩ := N1.out.five
      have V1 := Lib.hid (V0.out.kept k1)
      clear V0 
      obtain ⟨v1a, v1b, v1c, v1d⟩ := V1.out.four
      have U1 := Lib.hid (U0.out.kept k1)
      clear U0 
      obtain ⟨u1a, u1b, u1c, u1d⟩ := U1.out.four
      clear k1
      go_wp2_with fail
      refine (block_no ms mf mp mt _ Hm.out).mono ?_
      rintro e W2 ⟨mA, mc, rfl, mr, k2⟩
      have K2 := Lib.hid (K1.out.trans k2)
      have M2 := Lib.hid (M1.out.kept k2)
      clear M1 m1a m1b m1c m1d m1e
      obtain ⟨m2a, m2b, m2c, m2d, m2e⟩ := M2.out.five
      have N2 := Lib.hid (N1.out.kept k2)
      clear N1 n1a n1b n1c n1d n1e
      obtain ⟨n2a, n2b, n2c, n2d, n2e⟩ := N2.out.five
      have V2 := Lib.hid (V1.out.kept k2)
      clear V1 v1a v1b v1c v1d
      obtain ⟨v2a, v2b, v2c, v2d⟩ := V2.out.four
      have U2 := Lib.hid (U1.out.kept k2)
      clear U1 u1a u1b u1c u1d
      obtain ⟨u2a, u2b, u2c, u2d⟩ := U2.out.four
      clear k2
      clear mr
      go_wp2_with fail
      refine (block_some ns nf np nt _).mono ?_
      rintro e W3 ⟨nv, nk, rfl, k3⟩
      have K3 := Lib.hid (K2.out.trans k3)
      have M3 := Lib.hid (M2.out.kept k3)
      clear M2 m2a m2b m2c m2d m2e
      obtain ⟨m3a, m3b, m3c, m3d, m3e⟩ := M3.out.five
      have N3 := Lib.hid (N2.out.kept k3)
      clear N2 n2a n2b n2c n2d n2e
      obtain ⟨n3a, n3b, n3c, n3d, n3e⟩ := N3.out.five
      have V3 := Lib.hid (V2.out.kept k3)
      clear V2 v2a v2b v2c v2d
      obtain ⟨v3a, v3b, v3c, v3d⟩ := V3.out.four
      have U3 := Lib.hid (U2.out.kept k3)
      clear U2 u2a u2b u2c u2d
      obtain ⟨u3a, u3b, u3c, u3d⟩ := U3.out.four
      clear k3
      go_wp2_with fail
      refine (vote_no vs vf vp _ Hv.out).mono ?_
      rintro e W4 ⟨vA, vc, rfl, vr, k4⟩
      have K4 := Lib.hid (K3.out.trans k4)
      have M4 := Lib.hid (M3.out.kept k4)
      clear M3 m3a m3b m3c m3d m3e
      obtain ⟨m4a, m4b, m4c, m4d, m4e⟩ := M4.out.five
      have N4 := Lib.hid (N3.out.kept k4)
      clear N3 n3a n3b n3c n3d n3e
      obtain ⟨n4a, n4b, n4c, n4d, n4e⟩ := N4.out.five
      have V4 := Lib.hid (V3.out.kept k4)
      clear V3 v3a v3b v3c v3d
      obtain ⟨v4a, v4b, v4c, v4d⟩ := V4.out.four
      have U4 := Lib.hid (U3.out.kept k4)
      clear U3 u3a u3b u3c u3d
      obtain ⟨u4a, u4b, u4c, u4d⟩ := U4.out.four
      clear k4
      clear vr
      go_wp2_with fail
      refine (vote_some us uf up _).mono ?_
      rintro e W5 ⟨uv, uk, rfl, k5⟩
      have K5 := Lib.hid (K4.out.trans k5)
      have M5 := Lib.hid (M4.out.kept k5)
      clear M4 m4a m4b m4c m4d m4e
      obtain ⟨m5a, m5b, m5c, m5d, m5e⟩ := M5.out.five
      have N5 := Lib.hid (N4.out.kept k5)
      clear N4 n4a n4b n4c n4d n4e
      obtain ⟨n5a, n5b, n5c, n5d, n5e⟩ := N5.out.five
      have V5 := Lib.hid (V4.out.kept k5)
      clear V4 v4a v4b v4c v4d
      obtain ⟨v5a, v5b, v5c, v5d⟩ := V5.out.four
      have U5 := Lib.hid (U4.out.kept k5)
      clear U4 u4a u4b u4c u4d
      obtain ⟨u5a, u5b, u5c, u5d⟩ := U5.out.four
      clear k5
      go_wp2_with fail
      go_quiet (fail)
      go_wp2_with fail
      go_quiet (fail)
      go_wp2_with fail
      go_ret
      exact ⟨rfl, (K5.out.drewN _).drewN _⟩
    · cases hu : made us uf
      · have Hm := Lib.hid hm
        clear hm
        have Hv := Lib.hid hv; have Hu := Lib.hid hu
        clear hv hu
        go_enter Try.func6, Try.ntmps6
        go_wp2_with fail
        have M0 := Lib.hid (HasCells.new w #[.int .i64 ms, .int .i64 mf, .int .u64 mp.1, .int .u64 mp.2, .int .u64 mt] 26 (w.heap.size) (by simp))
        have N0 := Lib.hid (HasCells.new (w.alloc (.cells #[.int .i64 ms, .int .i64 mf, .int .u64 mp.1, .int .u64 mp.2, .int .u64 mt] 26)) #[.int .i64 ns, .int .i64 nf, .int .u64 np.1, .int .u64 np.2, .int .u64 nt] 26 (w.heap.size + 1) (by simp))
        have M0 := Lib.hid (M0.out.alloc (.cells #[.int .i64 ns, .int .i64 nf, .int .u64 np.1, .int .u64 np.2, .int .u64 nt] 26))
        have V0 := Lib.hid (HasCells.new ((w.alloc (.cells #[.int .i64 ms, .int .i64 mf, .int .u64 mp.1, .int .u64 mp.2, .int .u64 mt] 26)).alloc (.cells #[.int .i64 ns, .int .i64 nf, .int .u64 np.1, .int .u64 np.2, .int .u64 nt] 26)) #[.int .i64 vf, .int .i64 vs, .int .u64 vp.1, .int .u64 vp.2] 28 (w.heap.size + 2) (by simp))
        have M0 := Lib.hid (M0.out.alloc (.cells #[.int .i64 vf, .int .i64 vs, .int .u64 vp.1, .int .u64 vp.2] 28))
        have N0 := Lib.hid (N0.out.alloc (.cells #[.int .i64 vf, .int .i64 vs, .int .u64 vp.1, .int .u64 vp.2] 28))
        have U0 := Lib.hid (HasCells.new (((w.alloc (.cells #[.int .i64 ms, .int .i64 mf, .int .u64 mp.1, .int .u64 mp.2, .int .u64 mt] 26)).alloc (.cells #[.int .i64 ns, .int .i64 nf, .int .u64 np.1, .int .u64 np.2, .int .u64 nt] 26)).alloc (.cells #[.int .i64 vf, .int .i64 vs, .int .u64 vp.1, .int .u64 vp.2] 28)) #[.int .i64 uf, .int .i64 us, .int .u64 up.1, .int .u64 up.2] 28 (w.heap.size + 3) (by simp))
        have M0 := Lib.hid (M0.out.alloc (.cells #[.int .i64 uf, .int .i64 us, .int .u64 up.1, .int .u64 up.2] 28))
        have N0 := Lib.hid (N0.out.alloc (.cells #[.int .i64 uf, .int .i64 us, .int .u64 up.1, .int .u64 up.2] 28))
        have V0 := Lib.hid (V0.out.alloc (.cells #[.int .i64 uf, .int .i64 us, .int .u64 up.1, .int .u64 up.2] 28))
        have K0 := Lib.hid (show Kept w ((((w.alloc (.cells #[.int .i64 ms, .int .i64 mf, .int .u64 mp.1, .int .u64 mp.2, .int .u64 mt] 26)).alloc (.cells #[.int .i64 ns, .int .i64 nf, .int .u64 np.1, .int .u64 np.2, .int .u64 nt] 26)).alloc (.cells #[.int .i64 vf, .int .i64 vs, .int .u64 vp.1, .int .u64 vp.2] 28)).alloc (.cells #[.int .i64 uf, .int .i64 us, .int .u64 up.1, .int .u64 up.2] 28)) from ((((Kept.refl w).alloc _).alloc _).alloc _).alloc _)
        generalize ((((w.alloc (.cells #[.int .i64 ms, .int .i64 mf, .int .u64 mp.1, .int .u64 mp.2, .int .u64 mt] 26)).alloc (.cells #[.int .i64 ns, .int .i64 nf, .int .u64 np.1, .int .u64 np.2, .int .u64 nt] 26)).alloc (.cells #[.int .i64 vf, .int .i64 vs, .int .u64 vp.1, .int .u64 vp.2] 28)).alloc (.cells #[.int .i64 uf, .int .i64 us, .int .u64 up.1, .int .u64 up.2] 28)) = W0 at *
        generalize w.heap.size = z at *
        have HZ := Lib.hid True.intro
        refine (awake_any _).mono ?_
        rintro e W1 ⟨rfl, k1⟩
        have K1 := Lib.hid (K0.out.trans k1)
        have M1 := Lib.hid (M0.out.kept k1)
        clear M0 
        obtain ⟨m1a, m1b, m1c, m1d, m1e⟩ := M1.out.five
        have N1 := Lib.hid (N0.out.kept k1)
        clear N0 
        obtain ⟨n1a, n1b, n1c, n1d, n1e⟩ := N1.out.five
        have V1 := Lib.hid (V0.out.kept k1)
        clear V0 
        obtain ⟨v1a, v1b, v1c, v1d⟩ := V1.out.four
        have U1 := Lib.hid (U0.out.kept k1)
        clear U0 
        obtain ⟨u1a, u1b, u1c, u1d⟩ := U1.out.four
        clear k1
        go_wp2_with fail
        refine (block_no ms mf mp mt _ Hm.out).mono ?_
        rintro e W2 ⟨mA, mc, rfl, mr, k2⟩
        have K2 := Lib.hid (K1.out.trans k2)
        have M2 := Lib.hid (M1.out.kept k2)
        clear M1 m1a m1b m1c m1d m1e
        obtain ⟨m2a, m2b, m2c, m2d, m2e⟩ := M2.out.five
        have N2 := Lib.hid (N1.out.kept k2)
        clear N1 n1a n1b n1c n1d n1e
        obtain ⟨n2a, n2b, n2c, n2d, n2e⟩ := N2.out.five
        have V2 := Lib.hid (V1.out.kept k2)
        clear V1 v1a v1b v1c v1d
        obtain ⟨v2a, v2b, v2c, v2d⟩ := V2.out.four
        have U2 := Lib.hid (U1.out.kept k2)
        clear U1 u1a u1b u1c u1d
        obtain ⟨u2a, u2b, u2c, u2d⟩ := U2.out.four
        clear k2
        clear mr
        go_wp2_with fail
        refine (block_some ns nf np nt _).mono ?_
        rintro e W3 ⟨nv, nk, rfl, k3⟩
        have K3 := Lib.hid (K2.out.trans k3)
        have M3 := Lib.hid (M2.out.kept k3)
        clear M2 m2a m2b m2c m2d m2e
        obtain ⟨m3a, m3b, m3c, m3d, m3e⟩ := M3.out.five
        have N3 := Lib.hid (N2.out.kept k3)
        clear N2 n2a n2b n2c n2d n2e
        obtain ⟨n3a, n3b, n3c, n3d, n3e⟩ := N3.out.five
        have V3 := Lib.hid (V2.out.kept k3)
        clear V2 v2a v2b v2c v2d
        obtain ⟨v3a, v3b, v3c, v3d⟩ := V3.out.four
        have U3 := Lib.hid (U2.out.kept k3)
        clear U2 u2a u2b u2c u2d
        obtain ⟨u3a, u3b, u3c, u3d⟩ := U3.out.four
        clear k3
        go_wp2_with fail
        refine (vote_yes vs vf vp _ Hv.out).mono ?_
        rintro e W4 ⟨vg, vc, rfl, vr, k4⟩
        have K4 := Lib.hid (K3.out.trans k4)
        have M4 := Lib.hid (M3.out.kept k4)
        clear M3 m3a m3b m3c m3d m3e
        obtain ⟨m4a, m4b, m4c, m4d, m4e⟩ := M4.out.five
        have N4 := Lib.hid (N3.out.kept k4)
        clear N3 n3a n3b n3c n3d n3e
        obtain ⟨n4a, n4b, n4c, n4d, n4e⟩ := N4.out.five
        have V4 := Lib.hid (V3.out.kept k4)
        clear V3 v3a v3b v3c v3d
        obtain ⟨v4a, v4b, v4c, v4d⟩ := V4.out.four
        have U4 := Lib.hid (U3.out.kept k4)
        clear U3 u3a u3b u3c u3d
        obtain ⟨u4a, u4b, u4c, u4d⟩ := U4.out.four
        clear k4
        have R4 := Lib.hid vr
        clear vr
        go_wp2_with fail
        refine (vote_no us uf up _ Hu.out).mono ?_
        rintro e W5 ⟨uA, uc, rfl, ur, k5⟩
        have K5 := Lib.hid (K4.out.trans k5)
        have M5 := Lib.hid (M4.out.kept k5)
        clear M4 m4a m4b m4c m4d m4e
        obtain ⟨m5a, m5b, m5c, m5d, m5e⟩ := M5.out.five
        have N5 := Lib.hid (N4.out.kept k5)
        clear N4 n4a n4b n4c n4d n4e
        obtain ⟨n5a, n5b, n5c, n5d, n5e⟩ := N5.out.five
        have V5 := Lib.hid (V4.out.kept k5)
        clear V4 v4a v4b v4c v4d
        obtain ⟨v5a, v5b, v5c, v5d⟩ := V5.out.four
        have U5 := Lib.hid (U4.out.kept k5)
        clear U4 u4a u4b u4c u4d
        obtain ⟨u5a, u5b, u5c, u5d⟩ := U5.out.four
        have R5 := Lib.hid (R4.out.kept k5)
        clear R4
        clear k5
        clear ur
        have strR := R5.out.strs
        go_wp2_with fail
        go_quiet (fail)
        go_wp2_with fail
        go_quiet (fail)
        go_wp2_with fail
        go_ret
        exact ⟨rfl, (K5.out.drewN _).drewN _⟩
      · by_cases hvu : vs = us ∧ vf = uf ∧ vp = up
        · have Hm := Lib.hid hm
          clear hm
          obtain ⟨rfl, rfl, rfl⟩ := hvu
          have Hv := Lib.hid hv; have Hu := Lib.hid hu
          clear hv hu
          go_enter Try.func6, Try.ntmps6
          go_wp2_with fail
          have M0 := Lib.hid (HasCells.new w #[.int .i64 ms, .int .i64 mf, .int .u64 mp.1, .int .u64 mp.2, .int .u64 mt] 26 (w.heap.size) (by simp))
          have N0 := Lib.hid (HasCells.new (w.alloc (.cells #[.int .i64 ms, .int .i64 mf, .int .u64 mp.1, .int .u64 mp.2, .int .u64 mt] 26)) #[.int .i64 ns, .int .i64 nf, .int .u64 np.1, .int .u64 np.2, .int .u64 nt] 26 (w.heap.size + 1) (by simp))
          have M0 := Lib.hid (M0.out.alloc (.cells #[.int .i64 ns, .int .i64 nf, .int .u64 np.1, .int .u64 np.2, .int .u64 nt] 26))
          have V0 := Lib.hid (HasCells.new ((w.alloc (.cells #[.int .i64 ms, .int .i64 mf, .int .u64 mp.1, .int .u64 mp.2, .int .u64 mt] 26)).alloc (.cells #[.int .i64 ns, .int .i64 nf, .int .u64 np.1, .int .u64 np.2, .int .u64 nt] 26)) #[.int .i64 vf, .int .i64 vs, .int .u64 vp.1, .int .u64 vp.2] 28 (w.heap.size + 2) (by simp))
          have M0 := Lib.hid (M0.out.alloc (.cells #[.int .i64 vf, .int .i64 vs, .int .u64 vp.1, .int .u64 vp.2] 28))
          have N0 := Lib.hid (N0.out.alloc (.cells #[.int .i64 vf, .int .i64 vs, .int .u64 vp.1, .int .u64 vp.2] 28))
          have U0 := Lib.hid (HasCells.new (((w.alloc (.cells #[.int .i64 ms, .int .i64 mf, .int .u64 mp.1, .int .u64 mp.2, .int .u64 mt] 26)).alloc (.cells #[.int .i64 ns, .int .i64 nf, .int .u64 np.1, .int .u64 np.2, .int .u64 nt] 26)).alloc (.cells #[.int .i64 vf, .int .i64 vs, .int .u64 vp.1, .int .u64 vp.2] 28)) #[.int .i64 vf, .int .i64 vs, .int .u64 vp.1, .int .u64 vp.2] 28 (w.heap.size + 3) (by simp))
          have M0 := Lib.hid (M0.out.alloc (.cells #[.int .i64 vf, .int .i64 vs, .int .u64 vp.1, .int .u64 vp.2] 28))
          have N0 := Lib.hid (N0.out.alloc (.cells #[.int .i64 vf, .int .i64 vs, .int .u64 vp.1, .int .u64 vp.2] 28))
          have V0 := Lib.hid (V0.out.alloc (.cells #[.int .i64 vf, .int .i64 vs, .int .u64 vp.1, .int .u64 vp.2] 28))
          have K0 := Lib.hid (show Kept w ((((w.alloc (.cells #[.int .i64 ms, .int .i64 mf, .int .u64 mp.1, .int .u64 mp.2, .int .u64 mt] 26)).alloc (.cells #[.int .i64 ns, .int .i64 nf, .int .u64 np.1, .int .u64 np.2, .int .u64 nt] 26)).alloc (.cells #[.int .i64 vf, .int .i64 vs, .int .u64 vp.1, .int .u64 vp.2] 28)).alloc (.cells #[.int .i64 vf, .int .i64 vs, .int .u64 vp.1, .int .u64 vp.2] 28)) from ((((Kept.refl w).alloc _).alloc _).alloc _).alloc _)
          generalize ((((w.alloc (.cells #[.int .i64 ms, .int .i64 mf, .int .u64 mp.1, .int .u64 mp.2, .int .u64 mt] 26)).alloc (.cells #[.int .i64 ns, .int .i64 nf, .int .u64 np.1, .int .u64 np.2, .int .u64 nt] 26)).alloc (.cells #[.int .i64 vf, .int .i64 vs, .int .u64 vp.1, .int .u64 vp.2] 28)).alloc (.cells #[.int .i64 vf, .int .i64 vs, .int .u64 vp.1, .int .u64 vp.2] 28)) = W0 at *
          generalize w.heap.size = z at *
          have HZ := Lib.hid True.intro
          refine (awake_any _).mono ?_
          rintro e W1 ⟨rfl, k1⟩
          have K1 := Lib.hid (K0.out.trans k1)
          have M1 := Lib.hid (M0.out.kept k1)
          clear M0 
          obtain ⟨m1a, m1b, m1c, m1d, m1e⟩ := M1.out.five
          have N1 := Lib.hid (N0.out.kept k1)
          clear N0 
          obtain ⟨n1a, n1b, n1c, n1d, n1e⟩ := N1.out.five
          have V1 := Lib.hid (V0.out.kept k1)
          clear V0 
          obtain ⟨v1a, v1b, v1c, v1d⟩ := V1.out.four
          have U1 := Lib.hid (U0.out.kept k1)
          clear U0 
          obtain ⟨u1a, u1b, u1c, u1d⟩ := U1.out.four
          clear k1
          go_wp2_with fail
          refine (block_no ms mf mp mt _ Hm.out).mono ?_
          rintro e W2 ⟨mA, mc, rfl, mr, k2⟩
          have K2 := Lib.hid (K1.out.trans k2)
          have M2 := Lib.hid (M1.out.kept k2)
          clear M1 m1a m1b m1c m1d m1e
          obtain ⟨m2a, m2b, m2c, m2d, m2e⟩ := M2.out.five
          have N2 := Lib.hid (N1.out.kept k2)
          clear N1 n1a n1b n1c n1d n1e
          obtain ⟨n2a, n2b, n2c, n2d, n2e⟩ := N2.out.five
          have V2 := Lib.hid (V1.out.kept k2)
          clear V1 v1a v1b v1c v1d
          obtain ⟨v2a, v2b, v2c, v2d⟩ := V2.out.four
          have U2 := Lib.hid (U1.out.kept k2)
          clear U1 u1a u1b u1c u1d
          obtain ⟨u2a, u2b, u2c, u2d⟩ := U2.out.four
          clear k2
          clear mr
          go_wp2_with fail
          refine (block_some ns nf np nt _).mono ?_
          rintro e W3 ⟨nv, nk, rfl, k3⟩
          have K3 := Lib.hid (K2.out.trans k3)
          have M3 := Lib.hid (M2.out.kept k3)
          clear M2 m2a m2b m2c m2d m2e
          obtain ⟨m3a, m3b, m3c, m3d, m3e⟩ := M3.out.five
          have N3 := Lib.hid (N2.out.kept k3)
          clear N2 n2a n2b n2c n2d n2e
          obtain ⟨n3a, n3b, n3c, n3d, n3e⟩ := N3.out.five
          have V3 := Lib.hid (V2.out.kept k3)
          clear V2 v2a v2b v2c v2d
          obtain ⟨v3a, v3b, v3c, v3d⟩ := V3.out.four
          have U3 := Lib.hid (U2.out.kept k3)
          clear U2 u2a u2b u2c u2d
          obtain ⟨u3a, u3b, u3c, u3d⟩ := U3.out.four
          clear k3
          go_wp2_with fail
          refine (vote_yes vs vf vp _ Hv.out).mono ?_
          rintro e W4 ⟨vg, vc, rfl, vr, k4⟩
          have K4 := Lib.hid (K3.out.trans k4)
          have M4 := Lib.hid (M3.out.kept k4)
          clear M3 m3a m3b m3c m3d m3e
          obtain ⟨m4a, m4b, m4c, m4d, m4e⟩ := M4.out.five
          have N4 := Lib.hid (N3.out.kept k4)
          clear N3 n3a n3b n3c n3d n3e
          obtain ⟨n4a, n4b, n4c, n4d, n4e⟩ := N4.out.five
          have V4 := Lib.hid (V3.out.kept k4)
          clear V3 v3a v3b v3c v3d
          obtain ⟨v4a, v4b, v4c, v4d⟩ := V4.out.four
          have U4 := Lib.hid (U3.out.kept k4)
          clear U3 u3a u3b u3c u3d
          obtain ⟨u4a, u4b, u4c, u4d⟩ := U4.out.four
          clear k4
          have R4 := Lib.hid vr
          clear vr
          go_wp2_with fail
          refine (vote_yes vs vf vp _ Hu.out).mono ?_
          rintro e W5 ⟨ug, uc, rfl, ur, k5⟩
          have K5 := Lib.hid (K4.out.trans k5)
          have M5 := Lib.hid (M4.out.kept k5)
          clear M4 m4a m4b m4c m4d m4e
          obtain ⟨m5a, m5b, m5c, m5d, m5e⟩ := M5.out.five
          have N5 := Lib.hid (N4.out.kept k5)
          clear N4 n4a n4b n4c n4d n4e
          obtain ⟨n5a, n5b, n5c, n5d, n5e⟩ := N5.out.five
          have V5 := Lib.hid (V4.out.kept k5)
          clear V4 v4a v4b v4c v4d
          obtain ⟨v5a, v5b, v5c, v5d⟩ := V5.out.four
          have U5 := Lib.hid (U4.out.kept k5)
          clear U4 u4a u4b u4c u4d
          obtain ⟨u5a, u5b, u5c, u5d⟩ := U5.out.four
          have R5 := Lib.hid (R4.out.kept k5)
          clear R4
          clear k5
          have S5 := Lib.hid ur
          clear ur
          have strR := R5.out.strs
          have strS := S5.out.strs
          go_wp2_with fail
          go_quiet (fail)
          go_wp2_with fail
          go_quiet (fail)
          go_wp2_with fail
          go_ret
          exact ⟨rfl, (K5.out.drewN _).drewN _⟩
        · have Hm := Lib.hid hm
          clear hm
          have Nv := vote_ne hvu
          have Sv := strL_ne (voteL_made (p := vp) hv) (voteL_made (p := up) hu) (fun e => hvu (vote_inj hv hu hv1 hv2 hu1 hu2 e))
          have Hv := Lib.hid hv; have Hu := Lib.hid hu
          clear hv hu hvu
          go_enter Try.func6, Try.ntmps6
          go_wp2_with fail
          have M0 := Lib.hid (HasCells.new w #[.int .i64 ms, .int .i64 mf, .int .u64 mp.1, .int .u64 mp.2, .int .u64 mt] 26 (w.heap.size) (by simp))
          have N0 := Lib.hid (HasCells.new (w.alloc (.cells #[.int .i64 ms, .int .i64 mf, .int .u64 mp.1, .int .u64 mp.2, .int .u64 mt] 26)) #[.int .i64 ns, .int .i64 nf, .int .u64 np.1, .int .u64 np.2, .int .u64 nt] 26 (w.heap.size + 1) (by simp))
          have M0 := Lib.hid (M0.out.alloc (.cells #[.int .i64 ns, .int .i64 nf, .int .u64 np.1, .int .u64 np.2, .int .u64 nt] 26))
          have V0 := Lib.hid (HasCells.new ((w.alloc (.cells #[.int .i64 ms, .int .i64 mf, .int .u64 mp.1, .int .u64 mp.2, .int .u64 mt] 26)).alloc (.cells #[.int .i64 ns, .int .i64 nf, .int .u64 np.1, .int .u64 np.2, .int .u64 nt] 26)) #[.int .i64 vf, .int .i64 vs, .int .u64 vp.1, .int .u64 vp.2] 28 (w.heap.size + 2) (by simp))
          have M0 := Lib.hid (M0.out.alloc (.cells #[.int .i64 vf, .int .i64 vs, .int .u64 vp.1, .int .u64 vp.2] 28))
          have N0 := Lib.hid (N0.out.alloc (.cells #[.int .i64 vf, .int .i64 vs, .int .u64 vp.1, .int .u64 vp.2] 28))
          have U0 := Lib.hid (HasCells.new (((w.alloc (.cells #[.int .i64 ms, .int .i64 mf, .int .u64 mp.1, .int .u64 mp.2, .int .u64 mt] 26)).alloc (.cells #[.int .i64 ns, .int .i64 nf, .int .u64 np.1, .int .u64 np.2, .int .u64 nt] 26)).alloc (.cells #[.int .i64 vf, .int .i64 vs, .int .u64 vp.1, .int .u64 vp.2] 28)) #[.int .i64 uf, .int .i64 us, .int .u64 up.1, .int .u64 up.2] 28 (w.heap.size + 3) (by simp))
          have M0 := Lib.hid (M0.out.alloc (.cells #[.int .i64 uf, .int .i64 us, .int .u64 up.1, .int .u64 up.2] 28))
          have N0 := Lib.hid (N0.out.alloc (.cells #[.int .i64 uf, .int .i64 us, .int .u64 up.1, .int .u64 up.2] 28))
          have V0 := Lib.hid (V0.out.alloc (.cells #[.int .i64 uf, .int .i64 us, .int .u64 up.1, .int .u64 up.2] 28))
          have K0 := Lib.hid (show Kept w ((((w.alloc (.cells #[.int .i64 ms, .int .i64 mf, .int .u64 mp.1, .int .u64 mp.2, .int .u64 mt] 26)).alloc (.cells #[.int .i64 ns, .int .i64 nf, .int .u64 np.1, .int .u64 np.2, .int .u64 nt] 26)).alloc (.cells #[.int .i64 vf, .int .i64 vs, .int .u64 vp.1, .int .u64 vp.2] 28)).alloc (.cells #[.int .i64 uf, .int .i64 us, .int .u64 up.1, .int .u64 up.2] 28)) from ((((Kept.refl w).alloc _).alloc _).alloc _).alloc _)
          generalize ((((w.alloc (.cells #[.int .i64 ms, .int .i64 mf, .int .u64 mp.1, .int .u64 mp.2, .int .u64 mt] 26)).alloc (.cells #[.int .i64 ns, .int .i64 nf, .int .u64 np.1, .int .u64 np.2, .int .u64 nt] 26)).alloc (.cells #[.int .i64 vf, .int .i64 vs, .int .u64 vp.1, .int .u64 vp.2] 28)).alloc (.cells #[.int .i64 uf, .int .i64 us, .int .u64 up.1, .int .u64 up.2] 28)) = W0 at *
          generalize w.heap.size = z at *
          have HZ := Lib.hid True.intro
          refine (awake_any _).mono ?_
          rintro e W1 ⟨rfl, k1⟩
          have K1 := Lib.hid (K0.out.trans k1)
          have M1 := Lib.hid (M0.out.kept k1)
          clear M0 
          obtain ⟨m1a, m1b, m1c, m1d, m1e⟩ := M1.out.five
          have N1 := Lib.hid (N0.out.kept k1)
          clear N0 
          obtain ⟨n1a, n1b, n1c, n1d, n1e⟩ := N1.out.five
          have V1 := Lib.hid (V0.out.kept k1)
          clear V0 
          obtain ⟨v1a, v1b, v1c, v1d⟩ := V1.out.four
          have U1 := Lib.hid (U0.out.kept k1)
          clear U0 
          obtain ⟨u1a, u1b, u1c, u1d⟩ := U1.out.four
          clear k1
          go_wp2_with fail
          refine (block_no ms mf mp mt _ Hm.out).mono ?_
          rintro e W2 ⟨mA, mc, rfl, mr, k2⟩
          have K2 := Lib.hid (K1.out.trans k2)
          have M2 := Lib.hid (M1.out.kept k2)
          clear M1 m1a m1b m1c m1d m1e
          obtain ⟨m2a, m2b, m2c, m2d, m2e⟩ := M2.out.five
          have N2 := Lib.hid (N1.out.kept k2)
          clear N1 n1a n1b n1c n1d n1e
          obtain ⟨n2a, n2b, n2c, n2d, n2e⟩ := N2.out.five
          have V2 := Lib.hid (V1.out.kept k2)
          clear V1 v1a v1b v1c v1d
          obtain ⟨v2a, v2b, v2c, v2d⟩ := V2.out.four
          have U2 := Lib.hid (U1.out.kept k2)
          clear U1 u1a u1b u1c u1d
          obtain ⟨u2a, u2b, u2c, u2d⟩ := U2.out.four
          clear k2
          clear mr
          go_wp2_with fail
          refine (block_some ns nf np nt _).mono ?_
          rintro e W3 ⟨nv, nk, rfl, k3⟩
          have K3 := Lib.hid (K2.out.trans k3)
          have M3 := Lib.hid (M2.out.kept k3)
          clear M2 m2a m2b m2c m2d m2e
          obtain ⟨m3a, m3b, m3c, m3d, m3e⟩ := M3.out.five
          have N3 := Lib.hid (N2.out.kept k3)
          clear N2 n2a n2b n2c n2d n2e
          obtain ⟨n3a, n3b, n3c, n3d, n3e⟩ := N3.out.five
          have V3 := Lib.hid (V2.out.kept k3)
          clear V2 v2a v2b v2c v2d
          obtain ⟨v3a, v3b, v3c, v3d⟩ := V3.out.four
          have U3 := Lib.hid (U2.out.kept k3)
          clear U2 u2a u2b u2c u2d
          obtain ⟨u3a, u3b, u3c, u3d⟩ := U3.out.four
          clear k3
          go_wp2_with fail
          refine (vote_yes vs vf vp _ Hv.out).mono ?_
          rintro e W4 ⟨vg, vc, rfl, vr, k4⟩
          have K4 := Lib.hid (K3.out.trans k4)
          have M4 := Lib.hid (M3.out.kept k4)
          clear M3 m3a m3b m3c m3d m3e
          obtain ⟨m4a, m4b, m4c, m4d, m4e⟩ := M4.out.five
          have N4 := Lib.hid (N3.out.kept k4)
          clear N3 n3a n3b n3c n3d n3e
          obtain ⟨n4a, n4b, n4c, n4d, n4e⟩ := N4.out.five
          have V4 := Lib.hid (V3.out.kept k4)
          clear V3 v3a v3b v3c v3d
          obtain ⟨v4a, v4b, v4c, v4d⟩ := V4.out.four
          have U4 := Lib.hid (U3.out.kept k4)
          clear U3 u3a u3b u3c u3d
          obtain ⟨u4a, u4b, u4c, u4d⟩ := U4.out.four
          clear k4
          have R4 := Lib.hid vr
          clear vr
          go_wp2_with fail
          refine (vote_yes us uf up _ Hu.out).mono ?_
          rintro e W5 ⟨ug, uc, rfl, ur, k5⟩
          have K5 := Lib.hid (K4.out.trans k5)
          have M5 := Lib.hid (M4.out.kept k5)
          clear M4 m4a m4b m4c m4d m4e
          obtain ⟨m5a, m5b, m5c, m5d, m5e⟩ := M5.out.five
          have N5 := Lib.hid (N4.out.kept k5)
          clear N4 n4a n4b n4c n4d n4e
          obtain ⟨n5a, n5b, n5c, n5d, n5e⟩ := N5.out.five
          have V5 := Lib.hid (V4.out.kept k5)
          clear V4 v4a v4b v4c v4d
          obtain ⟨v5a, v5b, v5c, v5d⟩ := V5.out.four
          have U5 := Lib.hid (U4.out.kept k5)
          clear U4 u4a u4b u4c u4d
          obtain ⟨u5a, u5b, u5c, u5d⟩ := U5.out.four
          have R5 := Lib.hid (R4.out.kept k5)
          clear R4
          clear k5
          have S5 := Lib.hid ur
          clear ur
          have strR := R5.out.strs
          have strS := S5.out.strs
          go_wp2_with fail
          go_quiet (fail)
          go_wp2_with fail
          go_quiet (fail)
          go_wp2_with fail
          go_ret
          exact ⟨rfl, (K5.out.drewN _).drewN _⟩
  · cases hn : made ns nf
    · cases hv : made vs vf
      · have Hm := Lib.hid hm; have Hn := Lib.hid hn
        clear hm hn
        have Hv := Lib.hid hv
        clear hv
        go_enter Try.func6, Try.ntmps6
        go_wp2_with fail
        have M0 := Lib.hid (HasCells.new w #[.int .i64 ms, .int .i64 mf, .int .u64 mp.1, .int .u64 mp.2, .int .u64 mt] 26 (w.heap.size) (by simp))
        have N0 := Lib.hid (HasCells.new (w.alloc (.cells #[.int .i64 ms, .int .i64 mf, .int .u64 mp.1, .int .u64 mp.2, .int .u64 mt] 26)) #[.int .i64 ns, .int .i64 nf, .int .u64 np.1, .int .u64 np.2, .int .u64 nt] 26 (w.heap.size + 1) (by simp))
        have M0 := Lib.hid (M0.out.alloc (.cells #[.int .i64 ns, .int .i64 nf, .int .u64 np.1, .int .u64 np.2, .int .u64 nt] 26))
        have V0 := Lib.hid (HasCells.new ((w.alloc (.cells #[.int .i64 ms, .int .i64 mf, .int .u64 mp.1, .int .u64 mp.2, .int .u64 mt] 26)).alloc (.cells #[.int .i64 ns, .int .i64 nf, .int .u64 np.1, .int .u64 np.2, .int .u64 nt] 26)) #[.int .i64 vf, .int .i64 vs, .int .u64 vp.1, .int .u64 vp.2] 28 (w.heap.size + 2) (by simp))
        have M0 := Lib.hid (M0.out.alloc (.cells #[.int .i64 vf, .int .i64 vs, .int .u64 vp.1, .int .u64 vp.2] 28))
        have N0 := Lib.hid (N0.out.alloc (.cells #[.int .i64 vf, .int .i64 vs, .int .u64 vp.1, .int .u64 vp.2] 28))
        have U0 := Lib.hid (HasCells.new (((w.alloc (.cells #[.int .i64 ms, .int .i64 mf, .int .u64 mp.1, .int .u64 mp.2, .int .u64 mt] 26)).alloc (.cells #[.int .i64 ns, .int .i64 nf, .int .u64 np.1, .int .u64 np.2, .int .u64 nt] 26)).alloc (.cells #[.int .i64 vf, .int .i64 vs, .int .u64 vp.1, .int .u64 vp.2] 28)) #[.int .i64 uf, .int .i64 us, .int .u64 up.1, .int .u64 up.2] 28 (w.heap.size + 3) (by simp))
        have M0 := Lib.hid (M0.out.alloc (.cells #[.int .i64 uf, .int .i64 us, .int .u64 up.1, .int .u64 up.2] 28))
        have N0 := Lib.hid (N0.out.alloc (.cells #[.int .i64 uf, .int .i64 us, .int .u64 up.1, .int .u64 up.2] 28))
        have V0 := Lib.hid (V0.out.alloc (.cells #[.int .i64 uf, .int .i64 us, .int .u64 up.1, .int .u64 up.2] 28))
        have K0 := Lib.hid (show Kept w ((((w.alloc (.cells #[.int .i64 ms, .int .i64 mf, .int .u64 mp.1, .int .u64 mp.2, .int .u64 mt] 26)).alloc (.cells #[.int .i64 ns, .int .i64 nf, .int .u64 np.1, .int .u64 np.2, .int .u64 nt] 26)).alloc (.cells #[.int .i64 vf, .int .i64 vs, .int .u64 vp.1, .int .u64 vp.2] 28)).alloc (.cells #[.int .i64 uf, .int .i64 us, .int .u64 up.1, .int .u64 up.2] 28)) from ((((Kept.refl w).alloc _).alloc _).alloc _).alloc _)
        generalize ((((w.alloc (.cells #[.int .i64 ms, .int .i64 mf, .int .u64 mp.1, .int .u64 mp.2, .int .u64 mt] 26)).alloc (.cells #[.int .i64 ns, .int .i64 nf, .int .u64 np.1, .int .u64 np.2, .int .u64 nt] 26)).alloc (.cells #[.int .i64 vf, .int .i64 vs, .int .u64 vp.1, .int .u64 vp.2] 28)).alloc (.cells #[.int .i64 uf, .int .i64 us, .int .u64 up.1, .int .u64 up.2] 28)) = W0 at *
        generalize w.heap.size = z at *
        have HZ := Lib.hid True.intro
        refine (awake_any _).mono ?_
        rintro e W1 ⟨rfl, k1⟩
        have K1 := Lib.hid (K0.out.trans k1)
        have M1 := Lib.hid (M0.out.kept k1)
        clear M0 
        obtain ⟨m1a, m1b, m1c, m1d, m1e⟩ := M1.out.five
        have N1 := Lib.hid (N0.out.kept k1)
        clear N0 
        obtain ⟨n1a, n1b, n1c, n1d, n1e⟩ := N1.out.five
        have V1 := Lib.hid (V0.out.kept k1)
        clear V0 
        obtain ⟨v1a, v1b, v1c, v1d⟩ := V1.out.four
        have U1 := Lib.hid (U0.out.kept k1)
        clear U0 
        obtain ⟨u1a, u1b, u1c, u1d⟩ := U1.out.four
        clear k1
        go_wp2_with fail
        refine (block_yes ms mf mp mt _ Hm.out).mono ?_
        rintro e W2 ⟨mg, mc, rfl, mr, k2⟩
        have K2 := Lib.hid (K1.out.trans k2)
        have M2 := Lib.hid (M1.out.kept k2)
        clear M1 m1a m1b m1c m1d m1e
        obtain ⟨m2a, m2b, m2c, m2d, m2e⟩ := M2.out.five
        have N2 := Lib.hid (N1.out.kept k2)
        clear N1 n1a n1b n1c n1d n1e
        obtain ⟨n2a, n2b, n2c, n2d, n2e⟩ := N2.out.five
        have V2 := Lib.hid (V1.out.kept k2)
        clear V1 v1a v1b v1c v1d
        obtain ⟨v2a, v2b, v2c, v2d⟩ := V2.out.four
        have U2 := Lib.hid (U1.out.kept k2)
        clear U1 u1a u1b u1c u1d
        obtain ⟨u2a, u2b, u2c, u2d⟩ := U2.out.four
        clear k2
        have P2 := Lib.hid mr
        clear mr
        go_wp2_with fail
        refine (block_no ns nf np nt _ Hn.out).mono ?_
        rintro e W3 ⟨nA, nc, rfl, nr, k3⟩
        have K3 := Lib.hid (K2.out.trans k3)
        have M3 := Lib.hid (M2.out.kept k3)
        clear M2 m2a m2b m2c m2d m2e
        obtain ⟨m3a, m3b, m3c, m3d, m3e⟩ := M3.out.five
        have N3 := Lib.hid (N2.out.kept k3)
        clear N2 n2a n2b n2c n2d n2e
        obtain ⟨n3a, n3b, n3c, n3d, n3e⟩ := N3.out.five
        have V3 := Lib.hid (V2.out.kept k3)
        clear V2 v2a v2b v2c v2d
        obtain ⟨v3a, v3b, v3c, v3d⟩ := V3.out.four
        have U3 := Lib.hid (U2.out.kept k3)
        clear U2 u2a u2b u2c u2d
        obtain ⟨u3a, u3b, u3c, u3d⟩ := U3.out.four
        have P3 := Lib.hid (P2.out.kept k3)
        clear P2
        clear k3
        clear nr
        go_wp2_with fail
        refine (vote_no vs vf vp _ Hv.out).mono ?_
        rintro e W4 ⟨vA, vc, rfl, vr, k4⟩
        have K4 := Lib.hid (K3.out.trans k4)
        have M4 := Lib.hid (M3.out.kept k4)
        clear M3 m3a m3b m3c m3d m3e
        obtain ⟨m4a, m4b, m4c, m4d, m4e⟩ := M4.out.five
        have N4 := Lib.hid (N3.out.kept k4)
        clear N3 n3a n3b n3c n3d n3e
        obtain ⟨n4a, n4b, n4c, n4d, n4e⟩ := N4.out.five
        have V4 := Lib.hid (V3.out.kept k4)
        clear V3 v3a v3b v3c v3d
        obtain ⟨v4a, v4b, v4c, v4d⟩ := V4.out.four
        have U4 := Lib.hid (U3.out.kept k4)
        clear U3 u3a u3b u3c u3d
        obtain ⟨u4a, u4b, u4c, u4d⟩ := U4.out.four
        have P4 := Lib.hid (P3.out.kept k4)
        clear P3
        clear k4
        clear vr
        go_wp2_with fail
        refine (vote_some us uf up _).mono ?_
        rintro e W5 ⟨uv, uk, rfl, k5⟩
        have K5 := Lib.hid (K4.out.trans k5)
        have M5 := Lib.hid (M4.out.kept k5)
        clear M4 m4a m4b m4c m4d m4e
        obtain ⟨m5a, m5b, m5c, m5d, m5e⟩ := M5.out.five
        have N5 := Lib.hid (N4.out.kept k5)
        clear N4 n4a n4b n4c n4d n4e
        obtain ⟨n5a, n5b, n5c, n5d, n5e⟩ := N5.out.five
        have V5 := Lib.hid (V4.out.kept k5)
        clear V4 v4a v4b v4c v4d
        obtain ⟨v5a, v5b, v5c, v5d⟩ := V5.out.four
        have U5 := Lib.hid (U4.out.kept k5)
        clear U4 u4a u4b u4c u4d
        obtain ⟨u5a, u5b, u5c, u5d⟩ := U5.out.four
        have P5 := Lib.hid (P4.out.kept k5)
        clear P4
        clear k5
        have strP := P5.out.strs
        go_wp2_with fail
        go_quiet (fail)
        go_wp2_with fail
        go_quiet (fail)
        go_wp2_with fail
        go_ret
        exact ⟨rfl, (K5.out.drewN _).drewN _⟩
      · cases hu : made us uf
        · have Hm := Lib.hid hm; have Hn := Lib.hid hn
          clear hm hn
          have Hv := Lib.hid hv; have Hu := Lib.hid hu
          clear hv hu
          go_enter Try.func6, Try.ntmps6
          go_wp2_with fail
          have M0 := Lib.hid (HasCells.new w #[.int .i64 ms, .int .i64 mf, .int .u64 mp.1, .int .u64 mp.2, .int .u64 mt] 26 (w.heap.size) (by simp))
          have N0 := Lib.hid (HasCells.new (w.alloc (.cells #[.int .i64 ms, .int .i64 mf, .int .u64 mp.1, .int .u64 mp.2, .int .u64 mt] 26)) #[.int .i64 ns, .int .i64 nf, .int .u64 np.1, .int .u64 np.2, .int .u64 nt] 26 (w.heap.size + 1) (by simp))
          have M0 := Lib.hid (M0.out.alloc (.cells #[.int .i64 ns, .int .i64 nf, .int .u64 np.1, .int .u64 np.2, .int .u64 nt] 26))
          have V0 := Lib.hid (HasCells.new ((w.alloc (.cells #[.int .i64 ms, .int .i64 mf, .int .u64 mp.1, .int .u64 mp.2, .int .u64 mt] 26)).alloc (.cells #[.int .i64 ns, .int .i64 nf, .int .u64 np.1, .int .u64 np.2, .int .u64 nt] 26)) #[.int .i64 vf, .int .i64 vs, .int .u64 vp.1, .int .u64 vp.2] 28 (w.heap.size + 2) (by simp))
          have M0 := Lib.hid (M0.out.alloc (.cells #[.int .i64 vf, .int .i64 vs, .int .u64 vp.1, .int .u64 vp.2] 28))
          have N0 := Lib.hid (N0.out.alloc (.cells #[.int .i64 vf, .int .i64 vs, .int .u64 vp.1, .int .u64 vp.2] 28))
          have U0 := Lib.hid (HasCells.new (((w.alloc (.cells #[.int .i64 ms, .int .i64 mf, .int .u64 mp.1, .int .u64 mp.2, .int .u64 mt] 26)).alloc (.cells #[.int .i64 ns, .int .i64 nf, .int .u64 np.1, .int .u64 np.2, .int .u64 nt] 26)).alloc (.cells #[.int .i64 vf, .int .i64 vs, .int .u64 vp.1, .int .u64 vp.2] 28)) #[.int .i64 uf, .int .i64 us, .int .u64 up.1, .int .u64 up.2] 28 (w.heap.size + 3) (by simp))
          have M0 := Lib.hid (M0.out.alloc (.cells #[.int .i64 uf, .int .i64 us, .int .u64 up.1, .int .u64 up.2] 28))
          have N0 := Lib.hid (N0.out.alloc (.cells #[.int .i64 uf, .int .i64 us, .int .u64 up.1, .int .u64 up.2] 28))
          have V0 := Lib.hid (V0.out.alloc (.cells #[.int .i64 uf, .int .i64 us, .int .u64 up.1, .int .u64 up.2] 28))
          have K0 := Lib.hid (show Kept w ((((w.alloc (.cells #[.int .i64 ms, .int .i64 mf, .int .u64 mp.1, .int .u64 mp.2, .int .u64 mt] 26)).alloc (.cells #[.int .i64 ns, .int .i64 nf, .int .u64 np.1, .int .u64 np.2, .int .u64 nt] 26)).alloc (.cells #[.int .i64 vf, .int .i64 vs, .int .u64 vp.1, .int .u64 vp.2] 28)).alloc (.cells #[.int .i64 uf, .int .i64 us, .int .u64 up.1, .int .u64 up.2] 28)) from ((((Kept.refl w).alloc _).alloc _).alloc _).alloc _)
          generalize ((((w.alloc (.cells #[.int .i64 ms, .int .i64 mf, .int .u64 mp.1, .int .u64 mp.2, .int .u64 mt] 26)).alloc (.cells #[.int .i64 ns, .int .i64 nf, .int .u64 np.1, .int .u64 np.2, .int .u64 nt] 26)).alloc (.cells #[.int .i64 vf, .int .i64 vs, .int .u64 vp.1, .int .u64 vp.2] 28)).alloc (.cells #[.int .i64 uf, .int .i64 us, .int .u64 up.1, .int .u64 up.2] 28)) = W0 at *
          generalize w.heap.size = z at *
          have HZ := Lib.hid True.intro
          refine (awake_any _).mono ?_
          rintro e W1 ⟨rfl, k1⟩
          have K1 := Lib.hid (K0.out.trans k1)
          have M1 := Lib.hid (M0.out.kept k1)
          clear M0 
          obtain ⟨m1a, m1b, m1c, m1d, m1e⟩ := M1.out.five
          have N1 := Lib.hid (N0.out.kept k1)
          clear N0 
          obtain ⟨n1a, n1b, n1c, n1d, n1e⟩ := N1.out.five
          have V1 := Lib.hid (V0.out.kept k1)
          clear V0 
          obtain ⟨v1a, v1b, v1c, v1d⟩ := V1.out.four
          have U1 := Lib.hid (U0.out.kept k1)
          clear U0 
          obtain ⟨u1a, u1b, u1c, u1d⟩ := U1.out.four
          clear k1
          go_wp2_with fail
          refine (block_yes ms mf mp mt _ Hm.out).mono ?_
          rintro e W2 ⟨mg, mc, rfl, mr, k2⟩
          have K2 := Lib.hid (K1.out.trans k2)
          have M2 := Lib.hid (M1.out.kept k2)
          clear M1 m1a m1b m1c m1d m1e
          obtain ⟨m2a, m2b, m2c, m2d, m2e⟩ := M2.out.five
          have N2 := Lib.hid (N1.out.kept k2)
          clear N1 n1a n1b n1c n1d n1e
          obtain ⟨n2a, n2b, n2c, n2d, n2e⟩ := N2.out.five
          have V2 := Lib.hid (V1.out.kept k2)
          clear V1 v1a v1b v1c v1d
          obtain ⟨v2a, v2b, v2c, v2d⟩ := V2.out.four
          have U2 := Lib.hid (U1.out.kept k2)
          clear U1 u1a u1b u1c u1d
          obtain ⟨u2a, u2b, u2c, u2d⟩ := U2.out.four
          clear k2
          have P2 := Lib.hid mr
          clear mr
          go_wp2_with fail
          refine (block_no ns nf np nt _ Hn.out).mono ?_
          rintro e W3 ⟨nA, nc, rfl, nr, k3⟩
          have K3 := Lib.hid (K2.out.trans k3)
          have M3 := Lib.hid (M2.out.kept k3)
          clear M2 m2a m2b m2c m2d m2e
          obtain ⟨m3a, m3b, m3c, m3d, m3e⟩ := M3.out.five
          have N3 := Lib.hid (N2.out.kept k3)
          clear N2 n2a n2b n2c n2d n2e
          obtain ⟨n3a, n3b, n3c, n3d, n3e⟩ := N3.out.five
          have V3 := Lib.hid (V2.out.kept k3)
          clear V2 v2a v2b v2c v2d
          obtain ⟨v3a, v3b, v3c, v3d⟩ := V3.out.four
          have U3 := Lib.hid (U2.out.kept k3)
          clear U2 u2a u2b u2c u2d
          obtain ⟨u3a, u3b, u3c, u3d⟩ := U3.out.four
          have P3 := Lib.hid (P2.out.kept k3)
          clear P2
          clear k3
          clear nr
          go_wp2_with fail
          refine (vote_yes vs vf vp _ Hv.out).mono ?_
          rintro e W4 ⟨vg, vc, rfl, vr, k4⟩
          have K4 := Lib.hid (K3.out.trans k4)
          have M4 := Lib.hid (M3.out.kept k4)
          clear M3 m3a m3b m3c m3d m3e
          obtain ⟨m4a, m4b, m4c, m4d, m4e⟩ := M4.out.five
          have N4 := Lib.hid (N3.out.kept k4)
          clear N3 n3a n3b n3c n3d n3e
          obtain ⟨n4a, n4b, n4c, n4d, n4e⟩ := N4.out.five
          have V4 := Lib.hid (V3.out.kept k4)
          clear V3 v3a v3b v3c v3d
          obtain ⟨v4a, v4b, v4c, v4d⟩ := V4.out.four
          have U4 := Lib.hid (U3.out.kept k4)
          clear U3 u3a u3b u3c u3d
          obtain ⟨u4a, u4b, u4c, u4d⟩ := U4.out.four
          have P4 := Lib.hid (P3.out.kept k4)
          clear P3
          clear k4
          have R4 := Lib.hid vr
          clear vr
          go_wp2_with fail
          refine (vote_no us uf up _ Hu.out).mono ?_
          rintro e W5 ⟨uA, uc, rfl, ur, k5⟩
          have K5 := Lib.hid (K4.out.trans k5)
          have M5 := Lib.hid (M4.out.kept k5)
          clear M4 m4a m4b m4c m4d m4e
          obtain ⟨m5a, m5b, m5c, m5d, m5e⟩ := M5.out.five
          have N5 := Lib.hid (N4.out.kept k5)
          clear N4 n4a n4b n4c n4d n4e
          obtain ⟨n5a, n5b, n5c, n5d, n5e⟩ := N5.out.five
          have V5 := Lib.hid (V4.out.kept k5)
          clear V4 v4a v4b v4c v4d
          obtain ⟨v5a, v5b, v5c, v5d⟩ := V5.out.four
          have U5 := Lib.hid (U4.out.kept k5)
          clear U4 u4a u4b u4c u4d
          obtain ⟨u5a, u5b, u5c, u5d⟩ := U5.out.four
          have P5 := Lib.hid (P4.out.kept k5)
          clear P4
          have R5 := Lib.hid (R4.out.kept k5)
          clear R4
          clear k5
          clear ur
          have strP := P5.out.strs
          have strR := R5.out.strs
          go_wp2_with fail
          go_quiet (fail)
          go_wp2_with fail
          go_quiet (fail)
          go_wp2_with fail
          go_ret
          exact ⟨rfl, (K5.out.drewN _).drewN _⟩
        · by_cases hvu : vs = us ∧ vf = uf ∧ vp = up
          · have Hm := Lib.hid hm; have Hn := Lib.hid hn
            clear hm hn
            obtain ⟨rfl, rfl, rfl⟩ := hvu
            have Hv := Lib.hid hv; have Hu := Lib.hid hu
            clear hv hu
            go_enter Try.func6, Try.ntmps6
            go_wp2_with fail
            have M0 := Lib.hid (HasCells.new w #[.int .i64 ms, .int .i64 mf, .int .u64 mp.1, .int .u64 mp.2, .int .u64 mt] 26 (w.heap.size) (by simp))
            have N0 := Lib.hid (HasCells.new (w.alloc (.cells #[.int .i64 ms, .int .i64 mf, .int .u64 mp.1, .int .u64 mp.2, .int .u64 mt] 26)) #[.int .i64 ns, .int .i64 nf, .int .u64 np.1, .int .u64 np.2, .int .u64 nt] 26 (w.heap.size + 1) (by simp))
            have M0 := Lib.hid (M0.out.alloc (.cells #[.int .i64 ns, .int .i64 nf, .int .u64 np.1, .int .u64 np.2, .int .u64 nt] 26))
            have V0 := Lib.hid (HasCells.new ((w.alloc (.cells #[.int .i64 ms, .int .i64 mf, .int .u64 mp.1, .int .u64 mp.2, .int .u64 mt] 26)).alloc (.cells #[.int .i64 ns, .int .i64 nf, .int .u64 np.1, .int .u64 np.2, .int .u64 nt] 26)) #[.int .i64 vf, .int .i64 vs, .int .u64 vp.1, .int .u64 vp.2] 28 (w.heap.size + 2) (by simp))
            have M0 := Lib.hid (M0.out.alloc (.cells #[.int .i64 vf, .int .i64 vs, .int .u64 vp.1, .int .u64 vp.2] 28))
            have N0 := Lib.hid (N0.out.alloc (.cells #[.int .i64 vf, .int .i64 vs, .int .u64 vp.1, .int .u64 vp.2] 28))
            have U0 := Lib.hid (HasCells.new (((w.alloc (.cells #[.int .i64 ms, .int .i64 mf, .int .u64 mp.1, .int .u64 mp.2, .int .u64 mt] 26)).alloc (.cells #[.int .i64 ns, .int .i64 nf, .int .u64 np.1, .int .u64 np.2, .int .u64 nt] 26)).alloc (.cells #[.int .i64 vf, .int .i64 vs, .int .u64 vp.1, .int .u64 vp.2] 28)) #[.int .i64 vf, .int .i64 vs, .int .u64 vp.1, .int .u64 vp.2] 28 (w.heap.size + 3) (by simp))
            have M0 := Lib.hid (M0.out.alloc (.cells #[.int .i64 vf, .int .i64 vs, .int .u64 vp.1, .int .u64 vp.2] 28))
            have N0 := Lib.hid (N0.out.alloc (.cells #[.int .i64 vf, .int .i64 vs, .int .u64 vp.1, .int .u64 vp.2] 28))
            have V0 := Lib.hid (V0.out.alloc (.cells #[.int .i64 vf, .int .i64 vs, .int .u64 vp.1, .int .u64 vp.2] 28))
            have K0 := Lib.hid (show Kept w ((((w.alloc (.cells #[.int .i64 ms, .int .i64 mf, .int .u64 mp.1, .int .u64 mp.2, .int .u64 mt] 26)).alloc (.cells #[.int .i64 ns, .int .i64 nf, .int .u64 np.1, .int .u64 np.2, .int .u64 nt] 26)).alloc (.cells #[.int .i64 vf, .int .i64 vs, .int .u64 vp.1, .int .u64 vp.2] 28)).alloc (.cells #[.int .i64 vf, .int .i64 vs, .int .u64 vp.1, .int .u64 vp.2] 28)) from ((((Kept.refl w).alloc _).alloc _).alloc _).alloc _)
            generalize ((((w.alloc (.cells #[.int .i64 ms, .int .i64 mf, .int .u64 mp.1, .int .u64 mp.2, .int .u64 mt] 26)).alloc (.cells #[.int .i64 ns, .int .i64 nf, .int .u64 np.1, .int .u64 np.2, .int .u64 nt] 26)).alloc (.cells #[.int .i64 vf, .int .i64 vs, .int .u64 vp.1, .int .u64 vp.2] 28)).alloc (.cells #[.int .i64 vf, .int .i64 vs, .int .u64 vp.1, .int .u64 vp.2] 28)) = W0 at *
            generalize w.heap.size = z at *
            have HZ := Lib.hid True.intro
            refine (awake_any _).mono ?_
            rintro e W1 ⟨rfl, k1⟩
            have K1 := Lib.hid (K0.out.trans k1)
            have M1 := Lib.hid (M0.out.kept k1)
            clear M0 
            obtain ⟨m1a, m1b, m1c, m1d, m1e⟩ := M1.out.five
            have N1 := Lib.hid (N0.out.kept k1)
            clear N0 
            obtain ⟨n1a, n1b, n1c, n1d, n1e⟩ := N1.out.five
            have V1 := Lib.hid (V0.out.kept k1)
            clear V0 
            obtain ⟨v1a, v1b, v1c, v1d⟩ := V1.out.four
            have U1 := Lib.hid (U0.out.kept k1)
            clear U0 
            obtain ⟨u1a, u1b, u1c, u1d⟩ := U1.out.four
            clear k1
            go_wp2_with fail
            refine (block_yes ms mf mp mt _ Hm.out).mono ?_
            rintro e W2 ⟨mg, mc, rfl, mr, k2⟩
            have K2 := Lib.hid (K1.out.trans k2)
            have M2 := Lib.hid (M1.out.kept k2)
            clear M1 m1a m1b m1c m1d m1e
            obtain ⟨m2a, m2b, m2c, m2d, m2e⟩ := M2.out.five
            have N2 := Lib.hid (N1.out.kept k2)
            clear N1 n1a n1b n1c n1d n1e
            obtain ⟨n2a, n2b, n2c, n2d, n2e⟩ := N2.out.five
            have V2 := Lib.hid (V1.out.kept k2)
            clear V1 v1a v1b v1c v1d
            obtain ⟨v2a, v2b, v2c, v2d⟩ := V2.out.four
            have U2 := Lib.hid (U1.out.kept k2)
            clear U1 u1a u1b u1c u1d
            obtain ⟨u2a, u2b, u2c, u2d⟩ := U2.out.four
            clear k2
            have P2 := Lib.hid mr
            clear mr
            go_wp2_with fail
            refine (block_no ns nf np nt _ Hn.out).mono ?_
            rintro e W3 ⟨nA, nc, rfl, nr, k3⟩
            have K3 := Lib.hid (K2.out.trans k3)
            have M3 := Lib.hid (M2.out.kept k3)
            clear M2 m2a m2b m2c m2d m2e
            obtain ⟨m3a, m3b, m3c, m3d, m3e⟩ := M3.out.five
            have N3 := Lib.hid (N2.out.kept k3)
            clear N2 n2a n2b n2c n2d n2e
            obtain ⟨n3a, n3b, n3c, n3d, n3e⟩ := N3.out.five
            have V3 := Lib.hid (V2.out.kept k3)
            clear V2 v2a v2b v2c v2d
            obtain ⟨v3a, v3b, v3c, v3d⟩ := V3.out.four
            have U3 := Lib.hid (U2.out.kept k3)
            clear U2 u2a u2b u2c u2d
            obtain ⟨u3a, u3b, u3c, u3d⟩ := U3.out.four
            have P3 := Lib.hid (P2.out.kept k3)
            clear P2
            clear k3
            clear nr
            go_wp2_with fail
            refine (vote_yes vs vf vp _ Hv.out).mono ?_
            rintro e W4 ⟨vg, vc, rfl, vr, k4⟩
            have K4 := Lib.hid (K3.out.trans k4)
            have M4 := Lib.hid (M3.out.kept k4)
            clear M3 m3a m3b m3c m3d m3e
            obtain ⟨m4a, m4b, m4c, m4d, m4e⟩ := M4.out.five
            have N4 := Lib.hid (N3.out.kept k4)
            clear N3 n3a n3b n3c n3d n3e
            obtain ⟨n4a, n4b, n4c, n4d, n4e⟩ := N4.out.five
            have V4 := Lib.hid (V3.out.kept k4)
            clear V3 v3a v3b v3c v3d
            obtain ⟨v4a, v4b, v4c, v4d⟩ := V4.out.four
            have U4 := Lib.hid (U3.out.kept k4)
            clear U3 u3a u3b u3c u3d
            obtain ⟨u4a, u4b, u4c, u4d⟩ := U4.out.four
            have P4 := Lib.hid (P3.out.kept k4)
            clear P3
            clear k4
            have R4 := Lib.hid vr
            clear vr
            go_wp2_with fail
            refine (vote_yes vs vf vp _ Hu.out).mono ?_
            rintro e W5 ⟨ug, uc, rfl, ur, k5⟩
            have K5 := Lib.hid (K4.out.trans k5)
            have M5 := Lib.hid (M4.out.kept k5)
            clear M4 m4a m4b m4c m4d m4e
            obtain ⟨m5a, m5b, m5c, m5d, m5e⟩ := M5.out.five
            have N5 := Lib.hid (N4.out.kept k5)
            clear N4 n4a n4b n4c n4d n4e
            obtain ⟨n5a, n5b, n5c, n5d, n5e⟩ := N5.out.five
            have V5 := Lib.hid (V4.out.kept k5)
            clear V4 v4a v4b v4c v4d
            obtain ⟨v5a, v5b, v5c, v5d⟩ := V5.out.four
            have U5 := Lib.hid (U4.out.kept k5)
            clear U4 u4a u4b u4c u4d
            obtain ⟨u5a, u5b, u5c, u5d⟩ := U5.out.four
            have P5 := Lib.hid (P4.out.kept k5)
            clear P4
            have R5 := Lib.hid (R4.out.kept k5)
            clear R4
            clear k5
            have S5 := Lib.hid ur
            clear ur
            have strP := P5.out.strs
            have strR := R5.out.strs
            have strS := S5.out.strs
            go_wp2_with fail
            go_quiet (fail)
            go_wp2_with fail
            go_quiet (fail)
            go_wp2_with fail
            go_ret
            exact ⟨rfl, (K5.out.drewN _).drewN _⟩
          · have Hm := Lib.hid hm; have Hn := Lib.hid hn
            clear hm hn
            have Nv := vote_ne hvu
            have Sv := strL_ne (voteL_made (p := vp) hv) (voteL_made (p := up) hu) (fun e => hvu (vote_inj hv hu hv1 hv2 hu1 hu2 e))
            have Hv := Lib.hid hv; have Hu := Lib.hid hu
            clear hv hu hvu
            go_enter Try.func6, Try.ntmps6
            go_wp2_with fail
            have M0 := Lib.hid (HasCells.new w #[.int .i64 ms, .int .i64 mf, .int .u64 mp.1, .int .u64 mp.2, .int .u64 mt] 26 (w.heap.size) (by simp))
            have N0 := Lib.hid (HasCells.new (w.alloc (.cells #[.int .i64 ms, .int .i64 mf, .int .u64 mp.1, .int .u64 mp.2, .int .u64 mt] 26)) #[.int .i64 ns, .int .i64 nf, .int .u64 np.1, .int .u64 np.2, .int .u64 nt] 26 (w.heap.size + 1) (by simp))
            have M0 := Lib.hid (M0.out.alloc (.cells #[.int .i64 ns, .int .i64 nf, .int .u64 np.1, .int .u64 np.2, .int .u64 nt] 26))
            have V0 := Lib.hid (HasCells.new ((w.alloc (.cells #[.int .i64 ms, .int .i64 mf, .int .u64 mp.1, .int .u64 mp.2, .int .u64 mt] 26)).alloc (.cells #[.int .i64 ns, .int .i64 nf, .int .u64 np.1, .int .u64 np.2, .int .u64 nt] 26)) #[.int .i64 vf, .int .i64 vs, .int .u64 vp.1, .int .u64 vp.2] 28 (w.heap.size + 2) (by simp))
            have M0 := Lib.hid (M0.out.alloc (.cells #[.int .i64 vf, .int .i64 vs, .int .u64 vp.1, .int .u64 vp.2] 28))
            have N0 := Lib.hid (N0.out.alloc (.cells #[.int .i64 vf, .int .i64 vs, .int .u64 vp.1, .int .u64 vp.2] 28))
            have U0 := Lib.hid (HasCells.new (((w.alloc (.cells #[.int .i64 ms, .int .i64 mf, .int .u64 mp.1, .int .u64 mp.2, .int .u64 mt] 26)).alloc (.cells #[.int .i64 ns, .int .i64 nf, .int .u64 np.1, .int .u64 np.2, .int .u64 nt] 26)).alloc (.cells #[.int .i64 vf, .int .i64 vs, .int .u64 vp.1, .int .u64 vp.2] 28)) #[.int .i64 uf, .int .i64 us, .int .u64 up.1, .int .u64 up.2] 28 (w.heap.size + 3) (by simp))
            have M0 := Lib.hid (M0.out.alloc (.cells #[.int .i64 uf, .int .i64 us, .int .u64 up.1, .int .u64 up.2] 28))
            have N0 := Lib.hid (N0.out.alloc (.cells #[.int .i64 uf, .int .i64 us, .int .u64 up.1, .int .u64 up.2] 28))
            have V0 := Lib.hid (V0.out.alloc (.cells #[.int .i64 uf, .int .i64 us, .int .u64 up.1, .int .u64 up.2] 28))
            have K0 := Lib.hid (show Kept w ((((w.alloc (.cells #[.int .i64 ms, .int .i64 mf, .int .u64 mp.1, .int .u64 mp.2, .int .u64 mt] 26)).alloc (.cells #[.int .i64 ns, .int .i64 nf, .int .u64 np.1, .int .u64 np.2, .int .u64 nt] 26)).alloc (.cells #[.int .i64 vf, .int .i64 vs, .int .u64 vp.1, .int .u64 vp.2] 28)).alloc (.cells #[.int .i64 uf, .int .i64 us, .int .u64 up.1, .int .u64 up.2] 28)) from ((((Kept.refl w).alloc _).alloc _).alloc _).alloc _)
            generalize ((((w.alloc (.cells #[.int .i64 ms, .int .i64 mf, .int .u64 mp.1, .int .u64 mp.2, .int .u64 mt] 26)).alloc (.cells #[.int .i64 ns, .int .i64 nf, .int .u64 np.1, .int .u64 np.2, .int .u64 nt] 26)).alloc (.cells #[.int .i64 vf, .int .i64 vs, .int .u64 vp.1, .int .u64 vp.2] 28)).alloc (.cells #[.int .i64 uf, .int .i64 us, .int .u64 up.1, .int .u64 up.2] 28)) = W0 at *
            generalize w.heap.size = z at *
            have HZ := Lib.hid True.intro
            refine (awake_any _).mono ?_
            rintro e W1 ⟨rfl, k1⟩
            have K1 := Lib.hid (K0.out.trans k1)
            have M1 := Lib.hid (M0.out.kept k1)
            clear M0 
            obtain ⟨m1a, m1b, m1c, m1d, m1e⟩ := M1.out.five
            have N1 := Lib.hid (N0.out.kept k1)
            clear N0 
            obtain ⟨n1a, n1b, n1c, n1d, n1e⟩ := N1.out.five
            have V1 := Lib.hid (V0.out.kept k1)
            clear V0 
            obtain ⟨v1a, v1b, v1c, v1d⟩ := V1.out.four
            have U1 := Lib.hid (U0.out.kept k1)
            clear U0 
            obtain ⟨u1a, u1b, u1c, u1d⟩ := U1.out.four
            clear k1
            go_wp2_with fail
            refine (block_yes ms mf mp mt _ Hm.out).mono ?_
            rintro e W2 ⟨mg, mc, rfl, mr, k2⟩
            have K2 := Lib.hid (K1.out.trans k2)
            have M2 := Lib.hid (M1.out.kept k2)
            clear M1 m1a m1b m1c m1d m1e
            obtain ⟨m2a, m2b, m2c, m2d, m2e⟩ := M2.out.five
            have N2 := Lib.hid (N1.out.kept k2)
            clear N1 n1a n1b n1c n1d n1e
            obtain ⟨n2a, n2b, n2c, n2d, n2e⟩ := N2.out.five
            have V2 := Lib.hid (V1.out.kept k2)
            clear V1 v1a v1b v1c v1d
            obtain ⟨v2a, v2b, v2c, v2d⟩ := V2.out.four
            have U2 := Lib.hid (U1.out.kept k2)
            clear U1 u1a u1b u1c u1d
            obtain ⟨u2a, u2b, u2c, u2d⟩ := U2.out.four
            clear k2
            have P2 := Lib.hid mr
            clear mr
            go_wp2_with fail
            refine (block_no ns nf np nt _ Hn.out).mono ?_
            rintro e W3 ⟨nA, nc, rfl, nr, k3⟩
            have K3 := Lib.hid (K2.out.trans k3)
            have M3 := Lib.hid (M2.out.kept k3)
            clear M2 m2a m2b m2c m2d m2e
            obtain ⟨m3a, m3b, m3c, m3d, m3e⟩ := M3.out.five
            have N3 := Lib.hid (N2.out.kept k3)
            clear N2 n2a n2b n2c n2d n2e
            obtain ⟨n3a, n3b, n3c, n3d, n3e⟩ := N3.out.five
            have V3 := Lib.hid (V2.out.kept k3)
            clear V2 v2a v2b v2c v2d
            obtain ⟨v3a, v3b, v3c, v3d⟩ := V3.out.four
            have U3 := Lib.hid (U2.out.kept k3)
            clear U2 u2a u2b u2c u2d
            obtain ⟨u3a, u3b, u3c, u3d⟩ := U3.out.four
            have P3 := Lib.hid (P2.out.kept k3)
            clear P2
            clear k3
            clear nr
            go_wp2_with fail
            refine (vote_yes vs vf vp _ Hv.out).mono ?_
            rintro e W4 ⟨vg, vc, rfl, vr, k4⟩
            have K4 := Lib.hid (K3.out.trans k4)
            have M4 := Lib.hid (M3.out.kept k4)
            clear M3 m3a m3b m3c m3d m3e
            obtain ⟨m4a, m4b, m4c, m4d, m4e⟩ := M4.out.five
            have N4 := Lib.hid (N3.out.kept k4)
            clear N3 n3a n3b n3c n3d n3e
            obtain ⟨n4a, n4b, n4c, n4d, n4e⟩ := N4.out.five
            have V4 := Lib.hid (V3.out.kept k4)
            clear V3 v3a v3b v3c v3d
            obtain ⟨v4a, v4b, v4c, v4d⟩ := V4.out.four
            have U4 := Lib.hid (U3.out.kept k4)
            clear U3 u3a u3b u3c u3d
            obtain ⟨u4a, u4b, u4c, u4d⟩ := U4.out.four
            have P4 := Lib.hid (P3.out.kept k4)
            clear P3
            clear k4
            have R4 := Lib.hid vr
            clear vr
            go_wp2_with fail
            refine (vote_yes us uf up _ Hu.out).mono ?_
            rintro e W5 ⟨ug, uc, rfl, ur, k5⟩
            have K5 := Lib.hid (K4.out.trans k5)
            have M5 := Lib.hid (M4.out.kept k5)
            clear M4 m4a m4b m4c m4d m4e
            obtain ⟨m5a, m5b, m5c, m5d, m5e⟩ := M5.out.five
            have N5 := Lib.hid (N4.out.kept k5)
            clear N4 n4a n4b n4c n4d n4e
            obtain ⟨n5a, n5b, n5c, n5d, n5e⟩ := N5.out.five
            have V5 := Lib.hid (V4.out.kept k5)
            clear V4 v4a v4b v4c v4d
            obtain ⟨v5a, v5b, v5c, v5d⟩ := V5.out.four
            have U5 := Lib.hid (U4.out.kept k5)
            clear U4 u4a u4b u4c u4d
            obtain ⟨u5a, u5b, u5c, u5d⟩ := U5.out.four
            have P5 := Lib.hid (P4.out.kept k5)
            clear P4
            have R5 := Lib.hid (R4.out.kept k5)
            clear R4
            clear k5
            have S5 := Lib.hid ur
            clear ur
            have strP := P5.out.strs
            have strR := R5.out.strs
            have strS := S5.out.strs
            go_wp2_with fail
            go_quiet (fail)
            go_wp2_with fail
            go_quiet (fail)
            go_wp2_with fail
            go_ret
            exact ⟨rfl, (K5.out.drewN _).drewN _⟩
    · by_cases hmn : ms = ns ∧ mf = nf ∧ mp = np ∧ mt = nt
      · cases hv : made vs vf
        · obtain ⟨rfl, rfl, rfl, rfl⟩ := hmn
          have Hm := Lib.hid hm; have Hn := Lib.hid hn
          clear hm hn
          have Hv := Lib.hid hv
          clear hv
          go_enter Try.func6, Try.ntmps6
          go_wp2_with fail
          have M0 := Lib.hid (HasCells.new w #[.int .i64 ms, .int .i64 mf, .int .u64 mp.1, .int .u64 mp.2, .int .u64 mt] 26 (w.heap.size) (by simp))
          have N0 := Lib.hid (HasCells.new (w.alloc (.cells #[.int .i64 ms, .int .i64 mf, .int .u64 mp.1, .int .u64 mp.2, .int .u64 mt] 26)) #[.int .i64 ms, .int .i64 mf, .int .u64 mp.1, .int .u64 mp.2, .int .u64 mt] 26 (w.heap.size + 1) (by simp))
          have M0 := Lib.hid (M0.out.alloc (.cells #[.int .i64 ms, .int .i64 mf, .int .u64 mp.1, .int .u64 mp.2, .int .u64 mt] 26))
          have V0 := Lib.hid (HasCells.new ((w.alloc (.cells #[.int .i64 ms, .int .i64 mf, .int .u64 mp.1, .int .u64 mp.2, .int .u64 mt] 26)).alloc (.cells #[.int .i64 ms, .int .i64 mf, .int .u64 mp.1, .int .u64 mp.2, .int .u64 mt] 26)) #[.int .i64 vf, .int .i64 vs, .int .u64 vp.1, .int .u64 vp.2] 28 (w.heap.size + 2) (by simp))
          have M0 := Lib.hid (M0.out.alloc (.cells #[.int .i64 vf, .int .i64 vs, .int .u64 vp.1, .int .u64 vp.2] 28))
          have N0 := Lib.hid (N0.out.alloc (.cells #[.int .i64 vf, .int .i64 vs, .int .u64 vp.1, .int .u64 vp.2] 28))
          have U0 := Lib.hid (HasCells.new (((w.alloc (.cells #[.int .i64 ms, .int .i64 mf, .int .u64 mp.1, .int .u64 mp.2, .int .u64 mt] 26)).alloc (.cells #[.int .i64 ms, .int .i64 mf, .int .u64 mp.1, .int .u64 mp.2, .int .u64 mt] 26)).alloc (.cells #[.int .i64 vf, .int .i64 vs, .int .u64 vp.1, .int .u64 vp.2] 28)) #[.int .i64 uf, .int .i64 us, .int .u64 up.1, .int .u64 up.2] 28 (w.heap.size + 3) (by simp))
          have M0 := Lib.hid (M0.out.alloc (.cells #[.int .i64 uf, .int .i64 us, .int .u64 up.1, .int .u64 up.2] 28))
          have N0 := Lib.hid (N0.out.alloc (.cells #[.int .i64 uf, .int .i64 us, .int .u64 up.1, .int .u64 up.2] 28))
          have V0 := Lib.hid (V0.out.alloc (.cells #[.int .i64 uf, .int .i64 us, .int .u64 up.1, .int .u64 up.2] 28))
          have K0 := Lib.hid (show Kept w ((((w.alloc (.cells #[.int .i64 ms, .int .i64 mf, .int .u64 mp.1, .int .u64 mp.2, .int .u64 mt] 26)).alloc (.cells #[.int .i64 ms, .int .i64 mf, .int .u64 mp.1, .int .u64 mp.2, .int .u64 mt] 26)).alloc (.cells #[.int .i64 vf, .int .i64 vs, .int .u64 vp.1, .int .u64 vp.2] 28)).alloc (.cells #[.int .i64 uf, .int .i64 us, .int .u64 up.1, .int .u64 up.2] 28)) from ((((Kept.refl w).alloc _).alloc _).alloc _).alloc _)
          generalize ((((w.alloc (.cells #[.int .i64 ms, .int .i64 mf, .int .u64 mp.1, .int .u64 mp.2, .int .u64 mt] 26)).alloc (.cells #[.int .i64 ms, .int .i64 mf, .int .u64 mp.1, .int .u64 mp.2, .int .u64 mt] 26)).alloc (.cells #[.int .i64 vf, .int .i64 vs, .int .u64 vp.1, .int .u64 vp.2] 28)).alloc (.cells #[.int .i64 uf, .int .i64 us, .int .u64 up.1, .int .u64 up.2] 28)) = W0 at *
          generalize w.heap.size = z at *
          have HZ := Lib.hid True.intro
          refine (awake_any _).mono ?_
          rintro e W1 ⟨rfl, k1⟩
          have K1 := Lib.hid (K0.out.trans k1)
          have M1 := Lib.hid (M0.out.kept k1)
          clear M0 
          obtain ⟨m1a, m1b, m1c, m1d, m1e⟩ := M1.out.five
          have N1 := Lib.hid (N0.out.kept k1)
          clear N0 
          obtain ⟨n1a, n1b, n1c, n1d, n1e⟩ := N1.out.five
          have V1 := Lib.hid (V0.out.kept k1)
          clear V0 
          obtain ⟨v1a, v1b, v1c, v1d⟩ := V1.out.four
          have U1 := Lib.hid (U0.out.kept k1)
          clear U0 
          obtain ⟨u1a, u1b, u1c, u1d⟩ := U1.out.four
          clear k1
          go_wp2_with fail
          refine (block_yes ms mf mp mt _ Hm.out).mono ?_
          rintro e W2 ⟨mg, mc, rfl, mr, k2⟩
          have K2 := Lib.hid (K1.out.trans k2)
          have M2 := Lib.hid (M1.out.kept k2)
          clear M1 m1a m1b m1c m1d m1e
          obtain ⟨m2a, m2b, m2c, m2d, m2e⟩ := M2.out.five
          have N2 := Lib.hid (N1.out.kept k2)
          clear N1 n1a n1b n1c n1d n1e
          obtain ⟨n2a, n2b, n2c, n2d, n2e⟩ := N2.out.five
          have V2 := Lib.hid (V1.out.kept k2)
          clear V1 v1a v1b v1c v1d
          obtain ⟨v2a, v2b, v2c, v2d⟩ := V2.out.four
          have U2 := Lib.hid (U1.out.kept k2)
          clear U1 u1a u1b u1c u1d
          obtain ⟨u2a, u2b, u2c, u2d⟩ := U2.out.four
          clear k2
          have P2 := Lib.hid mr
          clear mr
          go_wp2_with fail
          refine (block_yes ms mf mp mt _ Hn.out).mono ?_
          rintro e W3 ⟨ng, nc, rfl, nr, k3⟩
          have K3 := Lib.hid (K2.out.trans k3)
          have M3 := Lib.hid (M2.out.kept k3)
          clear M2 m2a m2b m2c m2d m2e
          obtain ⟨m3a, m3b, m3c, m3d, m3e⟩ := M3.out.five
          have N3 := Lib.hid (N2.out.kept k3)
          clear N2 n2a n2b n2c n2d n2e
          obtain ⟨n3a, n3b, n3c, n3d, n3e⟩ := N3.out.five
          have V3 := Lib.hid (V2.out.kept k3)
          clear V2 v2a v2b v2c v2d
          obtain ⟨v3a, v3b, v3c, v3d⟩ := V3.out.four
          have U3 := Lib.hid (U2.out.kept k3)
          clear U2 u2a u2b u2c u2d
          obtain ⟨u3a, u3b, u3c, u3d⟩ := U3.out.four
          have P3 := Lib.hid (P2.out.kept k3)
          clear P2
          clear k3
          have Q3 := Lib.hid nr
          clear nr
          go_wp2_with fail
          refine (vote_no vs vf vp _ Hv.out).mono ?_
          rintro e W4 ⟨vA, vc, rfl, vr, k4⟩
          have K4 := Lib.hid (K3.out.trans k4)
          have M4 := Lib.hid (M3.out.kept k4)
          clear M3 m3a m3b m3c m3d m3e
          obtain ⟨m4a, m4b, m4c, m4d, m4e⟩ := M4.out.five
          have N4 := Lib.hid (N3.out.kept k4)
          clear N3 n3a n3b n3c n3d n3e
          obtain ⟨n4a, n4b, n4c, n4d, n4e⟩ := N4.out.five
          have V4 := Lib.hid (V3.out.kept k4)
          clear V3 v3a v3b v3c v3d
          obtain ⟨v4a, v4b, v4c, v4d⟩ := V4.out.four
          have U4 := Lib.hid (U3.out.kept k4)
          clear U3 u3a u3b u3c u3d
          obtain ⟨u4a, u4b, u4c, u4d⟩ := U4.out.four
          have P4 := Lib.hid (P3.out.kept k4)
          clear P3
          have Q4 := Lib.hid (Q3.out.kept k4)
          clear Q3
          clear k4
          clear vr
          go_wp2_with fail
          refine (vote_some us uf up _).mono ?_
          rintro e W5 ⟨uv, uk, rfl, k5⟩
          have K5 := Lib.hid (K4.out.trans k5)
          have M5 := Lib.hid (M4.out.kept k5)
          clear M4 m4a m4b m4c m4d m4e
          obtain ⟨m5a, m5b, m5c, m5d, m5e⟩ := M5.out.five
          have N5 := Lib.hid (N4.out.kept k5)
          clear N4 n4a n4b n4c n4d n4e
          obtain ⟨n5a, n5b, n5c, n5d, n5e⟩ := N5.out.five
          have V5 := Lib.hid (V4.out.kept k5)
          clear V4 v4a v4b v4c v4d
          obtain ⟨v5a, v5b, v5c, v5d⟩ := V5.out.four
          have U5 := Lib.hid (U4.out.kept k5)
          clear U4 u4a u4b u4c u4d
          obtain ⟨u5a, u5b, u5c, u5d⟩ := U5.out.four
          have P5 := Lib.hid (P4.out.kept k5)
          clear P4
          have Q5 := Lib.hid (Q4.out.kept k5)
          clear Q4
          clear k5
          have strP := P5.out.strs
          have strQ := Q5.out.strs
          go_wp2_with fail
          go_quiet (fail)
          go_wp2_with fail
          go_quiet (fail)
          go_wp2_with fail
          go_ret
          exact ⟨rfl, (K5.out.drewN _).drewN _⟩
        · cases hu : made us uf
          · obtain ⟨rfl, rfl, rfl, rfl⟩ := hmn
            have Hm := Lib.hid hm; have Hn := Lib.hid hn
            clear hm hn
            have Hv := Lib.hid hv; have Hu := Lib.hid hu
            clear hv hu
            go_enter Try.func6, Try.ntmps6
            go_wp2_with fail
            have M0 := Lib.hid (HasCells.new w #[.int .i64 ms, .int .i64 mf, .int .u64 mp.1, .int .u64 mp.2, .int .u64 mt] 26 (w.heap.size) (by simp))
            have N0 := Lib.hid (HasCells.new (w.alloc (.cells #[.int .i64 ms, .int .i64 mf, .int .u64 mp.1, .int .u64 mp.2, .int .u64 mt] 26)) #[.int .i64 ms, .int .i64 mf, .int .u64 mp.1, .int .u64 mp.2, .int .u64 mt] 26 (w.heap.size + 1) (by simp))
            have M0 := Lib.hid (M0.out.alloc (.cells #[.int .i64 ms, .int .i64 mf, .int .u64 mp.1, .int .u64 mp.2, .int .u64 mt] 26))
            have V0 := Lib.hid (HasCells.new ((w.alloc (.cells #[.int .i64 ms, .int .i64 mf, .int .u64 mp.1, .int .u64 mp.2, .int .u64 mt] 26)).alloc (.cells #[.int .i64 ms, .int .i64 mf, .int .u64 mp.1, .int .u64 mp.2, .int .u64 mt] 26)) #[.int .i64 vf, .int .i64 vs, .int .u64 vp.1, .int .u64 vp.2] 28 (w.heap.size + 2) (by simp))
            have M0 := Lib.hid (M0.out.alloc (.cells #[.int .i64 vf, .int .i64 vs, .int .u64 vp.1, .int .u64 vp.2] 28))
            have N0 := Lib.hid (N0.out.alloc (.cells #[.int .i64 vf, .int .i64 vs, .int .u64 vp.1, .int .u64 vp.2] 28))
            have U0 := Lib.hid (HasCells.new (((w.alloc (.cells #[.int .i64 ms, .int .i64 mf, .int .u64 mp.1, .int .u64 mp.2, .int .u64 mt] 26)).alloc (.cells #[.int .i64 ms, .int .i64 mf, .int .u64 mp.1, .int .u64 mp.2, .int .u64 mt] 26)).alloc (.cells #[.int .i64 vf, .int .i64 vs, .int .u64 vp.1, .int .u64 vp.2] 28)) #[.int .i64 uf, .int .i64 us, .int .u64 up.1, .int .u64 up.2] 28 (w.heap.size + 3) (by simp))
            have M0 := Lib.hid (M0.out.alloc (.cells #[.int .i64 uf, .int .i64 us, .int .u64 up.1, .int .u64 up.2] 28))
            have N0 := Lib.hid (N0.out.alloc (.cells #[.int .i64 uf, .int .i64 us, .int .u64 up.1, .int .u64 up.2] 28))
            have V0 := Lib.hid (V0.out.alloc (.cells #[.int .i64 uf, .int .i64 us, .int .u64 up.1, .int .u64 up.2] 28))
            have K0 := Lib.hid (show Kept w ((((w.alloc (.cells #[.int .i64 ms, .int .i64 mf, .int .u64 mp.1, .int .u64 mp.2, .int .u64 mt] 26)).alloc (.cells #[.int .i64 ms, .int .i64 mf, .int .u64 mp.1, .int .u64 mp.2, .int .u64 mt] 26)).alloc (.cells #[.int .i64 vf, .int .i64 vs, .int .u64 vp.1, .int .u64 vp.2] 28)).alloc (.cells #[.int .i64 uf, .int .i64 us, .int .u64 up.1, .int .u64 up.2] 28)) from ((((Kept.refl w).alloc _).alloc _).alloc _).alloc _)
            generalize ((((w.alloc (.cells #[.int .i64 ms, .int .i64 mf, .int .u64 mp.1, .int .u64 mp.2, .int .u64 mt] 26)).alloc (.cells #[.int .i64 ms, .int .i64 mf, .int .u64 mp.1, .int .u64 mp.2, .int .u64 mt] 26)).alloc (.cells #[.int .i64 vf, .int .i64 vs, .int .u64 vp.1, .int .u64 vp.2] 28)).alloc (.cells #[.int .i64 uf, .int .i64 us, .int .u64 up.1, .int .u64 up.2] 28)) = W0 at *
            generalize w.heap.size = z at *
            have HZ := Lib.hid True.intro
            refine (awake_any _).mono ?_
            rintro e W1 ⟨rfl, k1⟩
            have K1 := Lib.hid (K0.out.trans k1)
            have M1 := Lib.hid (M0.out.kept k1)
            clear M0 
            obtain ⟨m1a, m1b, m1c, m1d, m1e⟩ := M1.out.five
            have N1 := Lib.hid (N0.out.kept k1)
            clear N0 
            obtain ⟨n1a, n1b, n1c, n1d, n1e⟩ := N1.out.five
            have V1 := Lib.hid (V0.out.kept k1)
            clear V0 
            obtain ⟨v1a, v1b, v1c, v1d⟩ := V1.out.four
            have U1 := Lib.hid (U0.out.kept k1)
            clear U0 
            obtain ⟨u1a, u1b, u1c, u1d⟩ := U1.out.four
            clear k1
            go_wp2_with fail
            refine (block_yes ms mf mp mt _ Hm.out).mono ?_
            rintro e W2 ⟨mg, mc, rfl, mr, k2⟩
            have K2 := Lib.hid (K1.out.trans k2)
            have M2 := Lib.hid (M1.out.kept k2)
            clear M1 m1a m1b m1c m1d m1e
            obtain ⟨m2a, m2b, m2c, m2d, m2e⟩ := M2.out.five
            have N2 := Lib.hid (N1.out.kept k2)
            clear N1 n1a n1b n1c n1d n1e
            obtain ⟨n2a, n2b, n2c, n2d, n2e⟩ := N2.out.five
            have V2 := Lib.hid (V1.out.kept k2)
            clear V1 v1a v1b v1c v1d
            obtain ⟨v2a, v2b, v2c, v2d⟩ := V2.out.four
            have U2 := Lib.hid (U1.out.kept k2)
            clear U1 u1a u1b u1c u1d
            obtain ⟨u2a, u2b, u2c, u2d⟩ := U2.out.four
            clear k2
            have P2 := Lib.hid mr
            clear mr
            go_wp2_with fail
            refine (block_yes ms mf mp mt _ Hn.out).mono ?_
            rintro e W3 ⟨ng, nc, rfl, nr, k3⟩
            have K3 := Lib.hid (K2.out.trans k3)
            have M3 := Lib.hid (M2.out.kept k3)
            clear M2 m2a m2b m2c m2d m2e
            obtain ⟨m3a, m3b, m3c, m3d, m3e⟩ := M3.out.five
            have N3 := Lib.hid (N2.out.kept k3)
            clear N2 n2a n2b n2c n2d n2e
            obtain ⟨n3a, n3b, n3c, n3d, n3e⟩ := N3.out.five
            have V3 := Lib.hid (V2.out.kept k3)
            clear V2 v2a v2b v2c v2d
            obtain ⟨v3a, v3b, v3c, v3d⟩ := V3.out.four
            have U3 := Lib.hid (U2.out.kept k3)
            clear U2 u2a u2b u2c u2d
            obtain ⟨u3a, u3b, u3c, u3d⟩ := U3.out.four
            have P3 := Lib.hid (P2.out.kept k3)
            clear P2
            clear k3
            have Q3 := Lib.hid nr
            clear nr
            go_wp2_with fail
            refine (vote_yes vs vf vp _ Hv.out).mono ?_
            rintro e W4 ⟨vg, vc, rfl, vr, k4⟩
            have K4 := Lib.hid (K3.out.trans k4)
            have M4 := Lib.hid (M3.out.kept k4)
            clear M3 m3a m3b m3c m3d m3e
            obtain ⟨m4a, m4b, m4c, m4d, m4e⟩ := M4.out.five
            have N4 := Lib.hid (N3.out.kept k4)
            clear N3 n3a n3b n3c n3d n3e
            obtain ⟨n4a, n4b, n4c, n4d, n4e⟩ := N4.out.five
            have V4 := Lib.hid (V3.out.kept k4)
            clear V3 v3a v3b v3c v3d
            obtain ⟨v4a, v4b, v4c, v4d⟩ := V4.out.four
            have U4 := Lib.hid (U3.out.kept k4)
            clear U3 u3a u3b u3c u3d
            obtain ⟨u4a, u4b, u4c, u4d⟩ := U4.out.four
            have P4 := Lib.hid (P3.out.kept k4)
            clear P3
            have Q4 := Lib.hid (Q3.out.kept k4)
            clear Q3
            clear k4
            have R4 := Lib.hid vr
            clear vr
            go_wp2_with fail
            refine (vote_no us uf up _ Hu.out).mono ?_
            rintro e W5 ⟨uA, uc, rfl, ur, k5⟩
            have K5 := Lib.hid (K4.out.trans k5)
            have M5 := Lib.hid (M4.out.kept k5)
            clear M4 m4a m4b m4c m4d m4e
            obtain ⟨m5a, m5b, m5c, m5d, m5e⟩ := M5.out.five
            have N5 := Lib.hid (N4.out.kept k5)
            clear N4 n4a n4b n4c n4d n4e
            obtain ⟨n5a, n5b, n5c, n5d, n5e⟩ := N5.out.five
            have V5 := Lib.hid (V4.out.kept k5)
            clear V4 v4a v4b v4c v4d
            obtain ⟨v5a, v5b, v5c, v5d⟩ := V5.out.four
            have U5 := Lib.hid (U4.out.kept k5)
            clear U4 u4a u4b u4c u4d
            obtain ⟨u5a, u5b, u5c, u5d⟩ := U5.out.four
            have P5 := Lib.hid (P4.out.kept k5)
            clear P4
            have Q5 := Lib.hid (Q4.out.kept k5)
            clear Q4
            have R5 := Lib.hid (R4.out.kept k5)
            clear R4
            clear k5
            clear ur
            have strP := P5.out.strs
            have strQ := Q5.out.strs
            have strR := R5.out.strs
            go_wp2_with fail
            go_quiet (fail)
            go_wp2_with fail
            go_quiet (fail)
            go_wp2_with fail
            go_ret
            exact ⟨rfl, (K5.out.drewN _).drewN _⟩
          · by_cases hvu : vs = us ∧ vf = uf ∧ vp = up
            · obtain ⟨rfl, rfl, rfl, rfl⟩ := hmn
              have Hm := Lib.hid hm; have Hn := Lib.hid hn
              clear hm hn
              obtain ⟨rfl, rfl, rfl⟩ := hvu
              have Hv := Lib.hid hv; have Hu := Lib.hid hu
              clear hv hu
              go_enter Try.func6, Try.ntmps6
              go_wp2_with fail
              have M0 := Lib.hid (HasCells.new w #[.int .i64 ms, .int .i64 mf, .int .u64 mp.1, .int .u64 mp.2, .int .u64 mt] 26 (w.heap.size) (by simp))
              have N0 := Lib.hid (HasCells.new (w.alloc (.cells #[.int .i64 ms, .int .i64 mf, .int .u64 mp.1, .int .u64 mp.2, .int .u64 mt] 26)) #[.int .i64 ms, .int .i64 mf, .int .u64 mp.1, .int .u64 mp.2, .int .u64 mt] 26 (w.heap.size + 1) (by simp))
              have M0 := Lib.hid (M0.out.alloc (.cells #[.int .i64 ms, .int .i64 mf, .int .u64 mp.1, .int .u64 mp.2, .int .u64 mt] 26))
              have V0 := Lib.hid (HasCells.new ((w.alloc (.cells #[.int .i64 ms, .int .i64 mf, .int .u64 mp.1, .int .u64 mp.2, .int .u64 mt] 26)).alloc (.cells #[.int .i64 ms, .int .i64 mf, .int .u64 mp.1, .int .u64 mp.2, .int .u64 mt] 26)) #[.int .i64 vf, .int .i64 vs, .int .u64 vp.1, .int .u64 vp.2] 28 (w.heap.size + 2) (by simp))
              have M0 := Lib.hid (M0.out.alloc (.cells #[.int .i64 vf, .int .i64 vs, .int .u64 vp.1, .int .u64 vp.2] 28))
              have N0 := Lib.hid (N0.out.alloc (.cells #[.int .i64 vf, .int .i64 vs, .int .u64 vp.1, .int .u64 vp.2] 28))
              have U0 := Lib.hid (HasCells.new (((w.alloc (.cells #[.int .i64 ms, .int .i64 mf, .int .u64 mp.1, .int .u64 mp.2, .int .u64 mt] 26)).alloc (.cells #[.int .i64 ms, .int .i64 mf, .int .u64 mp.1, .int .u64 mp.2, .int .u64 mt] 26)).alloc (.cells #[.int .i64 vf, .int .i64 vs, .int .u64 vp.1, .int .u64 vp.2] 28)) #[.int .i64 vf, .int .i64 vs, .int .u64 vp.1, .int .u64 vp.2] 28 (w.heap.size + 3) (by simp))
              have M0 := Lib.hid (M0.out.alloc (.cells #[.int .i64 vf, .int .i64 vs, .int .u64 vp.1, .int .u64 vp.2] 28))
              have N0 := Lib.hid (N0.out.alloc (.cells #[.int .i64 vf, .int .i64 vs, .int .u64 vp.1, .int .u64 vp.2] 28))
              have V0 := Lib.hid (V0.out.alloc (.cells #[.int .i64 vf, .int .i64 vs, .int .u64 vp.1, .int .u64 vp.2] 28))
              have K0 := Lib.hid (show Kept w ((((w.alloc (.cells #[.int .i64 ms, .int .i64 mf, .int .u64 mp.1, .int .u64 mp.2, .int .u64 mt] 26)).alloc (.cells #[.int .i64 ms, .int .i64 mf, .int .u64 mp.1, .int .u64 mp.2, .int .u64 mt] 26)).alloc (.cells #[.int .i64 vf, .int .i64 vs, .int .u64 vp.1, .int .u64 vp.2] 28)).alloc (.cells #[.int .i64 vf, .int .i64 vs, .int .u64 vp.1, .int .u64 vp.2] 28)) from ((((Kept.refl w).alloc _).alloc _).alloc _).alloc _)
              generalize ((((w.alloc (.cells #[.int .i64 ms, .int .i64 mf, .int .u64 mp.1, .int .u64 mp.2, .int .u64 mt] 26)).alloc (.cells #[.int .i64 ms, .int .i64 mf, .int .u64 mp.1, .int .u64 mp.2, .int .u64 mt] 26)).alloc (.cells #[.int .i64 vf, .int .i64 vs, .int .u64 vp.1, .int .u64 vp.2] 28)).alloc (.cells #[.int .i64 vf, .int .i64 vs, .int .u64 vp.1, .int .u64 vp.2] 28)) = W0 at *
              generalize w.heap.size = z at *
              have HZ := Lib.hid True.intro
              refine (awake_any _).mono ?_
              rintro e W1 ⟨rfl, k1⟩
              have K1 := Lib.hid (K0.out.trans k1)
              have M1 := Lib.hid (M0.out.kept k1)
              clear M0 
              obtain ⟨m1a, m1b, m1c, m1d, m1e⟩ := M1.out.five
              have N1 := Lib.hid (N0.out.kept k1)
              clear N0 
              obtain ⟨n1a, n1b, n1c, n1d, n1e⟩ := N1.out.five
              have V1 := Lib.hid (V0.out.kept k1)
              clear V0 
              obtain ⟨v1a, v1b, v1c, v1d⟩ := V1.out.four
              have U1 := Lib.hid (U0.out.kept k1)
              clear U0 
              obtain ⟨u1a, u1b, u1c, u1d⟩ := U1.out.four
              clear k1
              go_wp2_with fail
              refine (block_yes ms mf mp mt _ Hm.out).mono ?_
              rintro e W2 ⟨mg, mc, rfl, mr, k2⟩
              have K2 := Lib.hid (K1.out.trans k2)
              have M2 := Lib.hid (M1.out.kept k2)
              clear M1 m1a m1b m1c m1d m1e
              obtain ⟨m2a, m2b, m2c, m2d, m2e⟩ := M2.out.five
              have N2 := Lib.hid (N1.out.kept k2)
              clear N1 n1a n1b n1c n1d n1e
              obtain ⟨n2a, n2b, n2c, n2d, n2e⟩ := N2.out.five
              have V2 := Lib.hid (V1.out.kept k2)
              clear V1 v1a v1b v1c v1d
              obtain ⟨v2a, v2b, v2c, v2d⟩ := V2.out.four
              have U2 := Lib.hid (U1.out.kept k2)
              clear U1 u1a u1b u1c u1d
              obtain ⟨u2a, u2b, u2c, u2d⟩ := U2.out.four
              clear k2
              have P2 := Lib.hid mr
              clear mr
              go_wp2_with fail
              refine (block_yes ms mf mp mt _ Hn.out).mono ?_
              rintro e W3 ⟨ng, nc, rfl, nr, k3⟩
              have K3 := Lib.hid (K2.out.trans k3)
              have M3 := Lib.hid (M2.out.kept k3)
              clear M2 m2a m2b m2c m2d m2e
              obtain ⟨m3a, m3b, m3c, m3d, m3e⟩ := M3.out.five
              have N3 := Lib.hid (N2.out.kept k3)
              clear N2 n2a n2b n2c n2d n2e
              obtain ⟨n3a, n3b, n3c, n3d, n3e⟩ := N3.out.five
              have V3 := Lib.hid (V2.out.kept k3)
              clear V2 v2a v2b v2c v2d
              obtain ⟨v3a, v3b, v3c, v3d⟩ := V3.out.four
              have U3 := Lib.hid (U2.out.kept k3)
              clear U2 u2a u2b u2c u2d
              obtain ⟨u3a, u3b, u3c, u3d⟩ := U3.out.four
              have P3 := Lib.hid (P2.out.kept k3)
              clear P2
              clear k3
              have Q3 := Lib.hid nr
              clear nr
              go_wp2_with fail
              refine (vote_yes vs vf vp _ Hv.out).mono ?_
              rintro e W4 ⟨vg, vc, rfl, vr, k4⟩
              have K4 := Lib.hid (K3.out.trans k4)
              have M4 := Lib.hid (M3.out.kept k4)
              clear M3 m3a m3b m3c m3d m3e
              obtain ⟨m4a, m4b, m4c, m4d, m4e⟩ := M4.out.five
              have N4 := Lib.hid (N3.out.kept k4)
              clear N3 n3a n3b n3c n3d n3e
              obtain ⟨n4a, n4b, n4c, n4d, n4e⟩ := N4.out.five
              have V4 := Lib.hid (V3.out.kept k4)
              clear V3 v3a v3b v3c v3d
              obtain ⟨v4a, v4b, v4c, v4d⟩ := V4.out.four
              have U4 := Lib.hid (U3.out.kept k4)
              clear U3 u3a u3b u3c u3d
              obtain ⟨u4a, u4b, u4c, u4d⟩ := U4.out.four
              have P4 := Lib.hid (P3.out.kept k4)
              clear P3
              have Q4 := Lib.hid (Q3.out.kept k4)
              clear Q3
              clear k4
              have R4 := Lib.hid vr
              clear vr
              go_wp2_with fail
              refine (vote_yes vs vf vp _ Hu.out).mono ?_
              rintro e W5 ⟨ug, uc, rfl, ur, k5⟩
              have K5 := Lib.hid (K4.out.trans k5)
              have M5 := Lib.hid (M4.out.kept k5)
              clear M4 m4a m4b m4c m4d m4e
              obtain ⟨m5a, m5b, m5c, m5d, m5e⟩ := M5.out.five
              have N5 := Lib.hid (N4.out.kept k5)
              clear N4 n4a n4b n4c n4d n4e
              obtain ⟨n5a, n5b, n5c, n5d, n5e⟩ := N5.out.five
              have V5 := Lib.hid (V4.out.kept k5)
              clear V4 v4a v4b v4c v4d
              obtain ⟨v5a, v5b, v5c, v5d⟩ := V5.out.four
              have U5 := Lib.hid (U4.out.kept k5)
              clear U4 u4a u4b u4c u4d
              obtain ⟨u5a, u5b, u5c, u5d⟩ := U5.out.four
              have P5 := Lib.hid (P4.out.kept k5)
              clear P4
              have Q5 := Lib.hid (Q4.out.kept k5)
              clear Q4
              have R5 := Lib.hid (R4.out.kept k5)
              clear R4
              clear k5
              have S5 := Lib.hid ur
              clear ur
              have strP := P5.out.strs
              have strQ := Q5.out.strs
              have strR := R5.out.strs
              have strS := S5.out.strs
              go_wp2_with fail
              go_quiet (fail)
              go_wp2_with fail
              go_quiet (fail)
              go_wp2_with fail
              go_ret
              exact ⟨rfl, (K5.out.drewN _).drewN _⟩
            · obtain ⟨rfl, rfl, rfl, rfl⟩ := hmn
              have Hm := Lib.hid hm; have Hn := Lib.hid hn
              clear hm hn
              have Nv := vote_ne hvu
              have Sv := strL_ne (voteL_made (p := vp) hv) (voteL_made (p := up) hu) (fun e => hvu (vote_inj hv hu hv1 hv2 hu1 hu2 e))
              have Hv := Lib.hid hv; have Hu := Lib.hid hu
              clear hv hu hvu
              go_enter Try.func6, Try.ntmps6
              go_wp2_with fail
              have M0 := Lib.hid (HasCells.new w #[.int .i64 ms, .int .i64 mf, .int .u64 mp.1, .int .u64 mp.2, .int .u64 mt] 26 (w.heap.size) (by simp))
              have N0 := Lib.hid (HasCells.new (w.alloc (.cells #[.int .i64 ms, .int .i64 mf, .int .u64 mp.1, .int .u64 mp.2, .int .u64 mt] 26)) #[.int .i64 ms, .int .i64 mf, .int .u64 mp.1, .int .u64 mp.2, .int .u64 mt] 26 (w.heap.size + 1) (by simp))
              have M0 := Lib.hid (M0.out.alloc (.cells #[.int .i64 ms, .int .i64 mf, .int .u64 mp.1, .int .u64 mp.2, .int .u64 mt] 26))
              have V0 := Lib.hid (HasCells.new ((w.alloc (.cells #[.int .i64 ms, .int .i64 mf, .int .u64 mp.1, .int .u64 mp.2, .int .u64 mt] 26)).alloc (.cells #[.int .i64 ms, .int .i64 mf, .int .u64 mp.1, .int .u64 mp.2, .int .u64 mt] 26)) #[.int .i64 vf, .int .i64 vs, .int .u64 vp.1, .int .u64 vp.2] 28 (w.heap.size + 2) (by simp))
              have M0 := Lib.hid (M0.out.alloc (.cells #[.int .i64 vf, .int .i64 vs, .int .u64 vp.1, .int .u64 vp.2] 28))
              have N0 := Lib.hid (N0.out.alloc (.cells #[.int .i64 vf, .int .i64 vs, .int .u64 vp.1, .int .u64 vp.2] 28))
              have U0 := Lib.hid (HasCells.new (((w.alloc (.cells #[.int .i64 ms, .int .i64 mf, .int .u64 mp.1, .int .u64 mp.2, .int .u64 mt] 26)).alloc (.cells #[.int .i64 ms, .int .i64 mf, .int .u64 mp.1, .int .u64 mp.2, .int .u64 mt] 26)).alloc (.cells #[.int .i64 vf, .int .i64 vs, .int .u64 vp.1, .int .u64 vp.2] 28)) #[.int .i64 uf, .int .i64 us, .int .u64 up.1, .int .u64 up.2] 28 (w.heap.size + 3) (by simp))
              have M0 := Lib.hid (M0.out.alloc (.cells #[.int .i64 uf, .int .i64 us, .int .u64 up.1, .int .u64 up.2] 28))
              have N0 := Lib.hid (N0.out.alloc (.cells #[.int .i64 uf, .int .i64 us, .int .u64 up.1, .int .u64 up.2] 28))
              have V0 := Lib.hid (V0.out.alloc (.cells #[.int .i64 uf, .int .i64 us, .int .u64 up.1, .int .u64 up.2] 28))
              have K0 := Lib.hid (show Kept w ((((w.alloc (.cells #[.int .i64 ms, .int .i64 mf, .int .u64 mp.1, .int .u64 mp.2, .int .u64 mt] 26)).alloc (.cells #[.int .i64 ms, .int .i64 mf, .int .u64 mp.1, .int .u64 mp.2, .int .u64 mt] 26)).alloc (.cells #[.int .i64 vf, .int .i64 vs, .int .u64 vp.1, .int .u64 vp.2] 28)).alloc (.cells #[.int .i64 uf, .int .i64 us, .int .u64 up.1, .int .u64 up.2] 28)) from ((((Kept.refl w).alloc _).alloc _).alloc _).alloc _)
              generalize ((((w.alloc (.cells #[.int .i64 ms, .int .i64 mf, .int .u64 mp.1, .int .u64 mp.2, .int .u64 mt] 26)).alloc (.cells #[.int .i64 ms, .int .i64 mf, .int .u64 mp.1, .int .u64 mp.2, .int .u64 mt] 26)).alloc (.cells #[.int .i64 vf, .int .i64 vs, .int .u64 vp.1, .int .u64 vp.2] 28)).alloc (.cells #[.int .i64 uf, .int .i64 us, .int .u64 up.1, .int .u64 up.2] 28)) = W0 at *
              generalize w.heap.size = z at *
              have HZ := Lib.hid True.intro
              refine (awake_any _).mono ?_
              rintro e W1 ⟨rfl, k1⟩
              have K1 := Lib.hid (K0.out.trans k1)
              have M1 := Lib.hid (M0.out.kept k1)
              clear M0 
              obtain ⟨m1a, m1b, m1c, m1d, m1e⟩ := M1.out.five
              have N1 := Lib.hid (N0.out.kept k1)
              clear N0 
              obtain ⟨n1a, n1b, n1c, n1d, n1e⟩ := N1.out.five
              have V1 := Lib.hid (V0.out.kept k1)
              clear V0 
              obtain ⟨v1a, v1b, v1c, v1d⟩ := V1.out.four
              have U1 := Lib.hid (U0.out.kept k1)
              clear U0 
              obtain ⟨u1a, u1b, u1c, u1d⟩ := U1.out.four
              clear k1
              go_wp2_with fail
              refine (block_yes ms mf mp mt _ Hm.out).mono ?_
              rintro e W2 ⟨mg, mc, rfl, mr, k2⟩
              have K2 := Lib.hid (K1.out.trans k2)
              have M2 := Lib.hid (M1.out.kept k2)
              clear M1 m1a m1b m1c m1d m1e
              obtain ⟨m2a, m2b, m2c, m2d, m2e⟩ := M2.out.five
              have N2 := Lib.hid (N1.out.kept k2)
              clear N1 n1a n1b n1c n1d n1e
              obtain ⟨n2a, n2b, n2c, n2d, n2e⟩ := N2.out.five
              have V2 := Lib.hid (V1.out.kept k2)
              clear V1 v1a v1b v1c v1d
              obtain ⟨v2a, v2b, v2c, v2d⟩ := V2.out.four
              have U2 := Lib.hid (U1.out.kept k2)
              clear U1 u1a u1b u1c u1d
              obtain ⟨u2a, u2b, u2c, u2d⟩ := U2.out.four
              clear k2
              have P2 := Lib.hid mr
              clear mr
              go_wp2_with fail
              refine (block_yes ms mf mp mt _ Hn.out).mono ?_
              rintro e W3 ⟨ng, nc, rfl, nr, k3⟩
              have K3 := Lib.hid (K2.out.trans k3)
              have M3 := Lib.hid (M2.out.kept k3)
              clear M2 m2a m2b m2c m2d m2e
              obtain ⟨m3a, m3b, m3c, m3d, m3e⟩ := M3.out.five
              have N3 := Lib.hid (N2.out.kept k3)
              clear N2 n2a n2b n2c n2d n2e
              obtain ⟨n3a, n3b, n3c, n3d, n3e⟩ := N3.out.five
              have V3 := Lib.hid (V2.out.kept k3)
              clear V2 v2a v2b v2c v2d
              obtain ⟨v3a, v3b, v3c, v3d⟩ := V3.out.four
              have U3 := Lib.hid (U2.out.kept k3)
              clear U2 u2a u2b u2c u2d
              obtain ⟨u3a, u3b, u3c, u3d⟩ := U3.out.four
              have P3 := Lib.hid (P2.out.kept k3)
              clear P2
              clear k3
              have Q3 := Lib.hid nr
              clear nr
              go_wp2_with fail
              refine (vote_yes vs vf vp _ Hv.out).mono ?_
              rintro e W4 ⟨vg, vc, rfl, vr, k4⟩
              have K4 := Lib.hid (K3.out.trans k4)
              have M4 := Lib.hid (M3.out.kept k4)
              clear M3 m3a m3b m3c m3d m3e
              obtain ⟨m4a, m4b, m4c, m4d, m4e⟩ := M4.out.five
              have N4 := Lib.hid (N3.out.kept k4)
              clear N3 n3a n3b n3c n3d n3e
              obtain ⟨n4a, n4b, n4c, n4d, n4e⟩ := N4.out.five
              have V4 := Lib.hid (V3.out.kept k4)
              clear V3 v3a v3b v3c v3d
              obtain ⟨v4a, v4b, v4c, v4d⟩ := V4.out.four
              have U4 := Lib.hid (U3.out.kept k4)
              clear U3 u3a u3b u3c u3d
              obtain ⟨u4a, u4b, u4c, u4d⟩ := U4.out.four
              have P4 := Lib.hid (P3.out.kept k4)
              clear P3
              have Q4 := Lib.hid (Q3.out.kept k4)
              clear Q3
              clear k4
              have R4 := Lib.hid vr
              clear vr
              go_wp2_with fail
              refine (vote_yes us uf up _ Hu.out).mono ?_
              rintro e W5 ⟨ug, uc, rfl, ur, k5⟩
              have K5 := Lib.hid (K4.out.trans k5)
              have M5 := Lib.hid (M4.out.kept k5)
              clear M4 m4a m4b m4c m4d m4e
              obtain ⟨m5a, m5b, m5c, m5d, m5e⟩ := M5.out.five
              have N5 := Lib.hid (N4.out.kept k5)
              clear N4 n4a n4b n4c n4d n4e
              obtain ⟨n5a, n5b, n5c, n5d, n5e⟩ := N5.out.five
              have V5 := Lib.hid (V4.out.kept k5)
              clear V4 v4a v4b v4c v4d
              obtain ⟨v5a, v5b, v5c, v5d⟩ := V5.out.four
              have U5 := Lib.hid (U4.out.kept k5)
              clear U4 u4a u4b u4c u4d
              obtain ⟨u5a, u5b, u5c, u5d⟩ := U5.out.four
              have P5 := Lib.hid (P4.out.kept k5)
              clear P4
              have Q5 := Lib.hid (Q4.out.kept k5)
              clear Q4
              have R5 := Lib.hid (R4.out.kept k5)
              clear R4
              clear k5
              have S5 := Lib.hid ur
              clear ur
              have strP := P5.out.strs
              have strQ := Q5.out.strs
              have strR := R5.out.strs
              have strS := S5.out.strs
              go_wp2_with fail
              go_quiet (fail)
              go_wp2_with fail
              go_quiet (fail)
              go_wp2_with fail
              go_ret
              exact ⟨rfl, (K5.out.drewN _).drewN _⟩
      · cases hv : made vs vf
        · have Nm := block_ne hmn
          have Sm := strL_ne (blockL_made (p := mp) (t := mt) hm) (blockL_made (p := np) (t := nt) hn) (fun e => hmn (block_inj hm hn hm1 hm2 hm3 hn1 hn2 hn3 e))
          have Hm := Lib.hid hm; have Hn := Lib.hid hn
          clear hm hn hmn
          have Hv := Lib.hid hv
          clear hv
          go_enter Try.func6, Try.ntmps6
          go_wp2_with fail
          have M0 := Lib.hid (HasCells.new w #[.int .i64 ms, .int .i64 mf, .int .u64 mp.1, .int .u64 mp.2, .int .u64 mt] 26 (w.heap.size) (by simp))
          have N0 := Lib.hid (HasCells.new (w.alloc (.cells #[.int .i64 ms, .int .i64 mf, .int .u64 mp.1, .int .u64 mp.2, .int .u64 mt] 26)) #[.int .i64 ns, .int .i64 nf, .int .u64 np.1, .int .u64 np.2, .int .u64 nt] 26 (w.heap.size + 1) (by simp))
          have M0 := Lib.hid (M0.out.alloc (.cells #[.int .i64 ns, .int .i64 nf, .int .u64 np.1, .int .u64 np.2, .int .u64 nt] 26))
          have V0 := Lib.hid (HasCells.new ((w.alloc (.cells #[.int .i64 ms, .int .i64 mf, .int .u64 mp.1, .int .u64 mp.2, .int .u64 mt] 26)).alloc (.cells #[.int .i64 ns, .int .i64 nf, .int .u64 np.1, .int .u64 np.2, .int .u64 nt] 26)) #[.int .i64 vf, .int .i64 vs, .int .u64 vp.1, .int .u64 vp.2] 28 (w.heap.size + 2) (by simp))
          have M0 := Lib.hid (M0.out.alloc (.cells #[.int .i64 vf, .int .i64 vs, .int .u64 vp.1, .int .u64 vp.2] 28))
          have N0 := Lib.hid (N0.out.alloc (.cells #[.int .i64 vf, .int .i64 vs, .int .u64 vp.1, .int .u64 vp.2] 28))
          have U0 := Lib.hid (HasCells.new (((w.alloc (.cells #[.int .i64 ms, .int .i64 mf, .int .u64 mp.1, .int .u64 mp.2, .int .u64 mt] 26)).alloc (.cells #[.int .i64 ns, .int .i64 nf, .int .u64 np.1, .int .u64 np.2, .int .u64 nt] 26)).alloc (.cells #[.int .i64 vf, .int .i64 vs, .int .u64 vp.1, .int .u64 vp.2] 28)) #[.int .i64 uf, .int .i64 us, .int .u64 up.1, .int .u64 up.2] 28 (w.heap.size + 3) (by simp))
          have M0 := Lib.hid (M0.out.alloc (.cells #[.int .i64 uf, .int .i64 us, .int .u64 up.1, .int .u64 up.2] 28))
          have N0 := Lib.hid (N0.out.alloc (.cells #[.int .i64 uf, .int .i64 us, .int .u64 up.1, .int .u64 up.2] 28))
          have V0 := Lib.hid (V0.out.alloc (.cells #[.int .i64 uf, .int .i64 us, .int .u64 up.1, .int .u64 up.2] 28))
          have K0 := Lib.hid (show Kept w ((((w.alloc (.cells #[.int .i64 ms, .int .i64 mf, .int .u64 mp.1, .int .u64 mp.2, .int .u64 mt] 26)).alloc (.cells #[.int .i64 ns, .int .i64 nf, .int .u64 np.1, .int .u64 np.2, .int .u64 nt] 26)).alloc (.cells #[.int .i64 vf, .int .i64 vs, .int .u64 vp.1, .int .u64 vp.2] 28)).alloc (.cells #[.int .i64 uf, .int .i64 us, .int .u64 up.1, .int .u64 up.2] 28)) from ((((Kept.refl w).alloc _).alloc _).alloc _).alloc _)
          generalize ((((w.alloc (.cells #[.int .i64 ms, .int .i64 mf, .int .u64 mp.1, .int .u64 mp.2, .int .u64 mt] 26)).alloc (.cells #[.int .i64 ns, .int .i64 nf, .int .u64 np.1, .int .u64 np.2, .int .u64 nt] 26)).alloc (.cells #[.int .i64 vf, .int .i64 vs, .int .u64 vp.1, .int .u64 vp.2] 28)).alloc (.cells #[.int .i64 uf, .int .i64 us, .int .u64 up.1, .int .u64 up.2] 28)) = W0 at *
          generalize w.heap.size = z at *
          have HZ := Lib.hid True.intro
          refine (awake_any _).mono ?_
          rintro e W1 ⟨rfl, k1⟩
          have K1 := Lib.hid (K0.out.trans k1)
          have M1 := Lib.hid (M0.out.kept k1)
          clear M0 
          obtain ⟨m1a, m1b, m1c, m1d, m1e⟩ := M1.out.five
          have N1 := Lib.hid (N0.out.kept k1)
          clear N0 
          obtain ⟨n1a, n1b, n1c, n1d, n1e⟩ := N1.out.five
          have V1 := Lib.hid (V0.out.kept k1)
          clear V0 
          obtain ⟨v1a, v1b, v1c, v1d⟩ := V1.out.four
          have U1 := Lib.hid (U0.out.kept k1)
          clear U0 
          obtain ⟨u1a, u1b, u1c, u1d⟩ := U1.out.four
          clear k1
          go_wp2_with fail
          refine (block_yes ms mf mp mt _ Hm.out).mono ?_
          rintro e W2 ⟨mg, mc, rfl, mr, k2⟩
          have K2 := Lib.hid (K1.out.trans k2)
          have M2 := Lib.hid (M1.out.kept k2)
          clear M1 m1a m1b m1c m1d m1e
          obtain ⟨m2a, m2b, m2c, m2d, m2e⟩ := M2.out.five
          have N2 := Lib.hid (N1.out.kept k2)
          clear N1 n1a n1b n1c n1d n1e
          obtain ⟨n2a, n2b, n2c, n2d, n2e⟩ := N2.out.five
          have V2 := Lib.hid (V1.out.kept k2)
          clear V1 v1a v1b v1c v1d
          obtain ⟨v2a, v2b, v2c, v2d⟩ := V2.out.four
          have U2 := Lib.hid (U1.out.kept k2)
          clear U1 u1a u1b u1c u1d
          obtain ⟨u2a, u2b, u2c, u2d⟩ := U2.out.four
          clear k2
          have P2 := Lib.hid mr
          clear mr
          go_wp2_with fail
          refine (block_yes ns nf np nt _ Hn.out).mono ?_
          rintro e W3 ⟨ng, nc, rfl, nr, k3⟩
          have K3 := Lib.hid (K2.out.trans k3)
          have M3 := Lib.hid (M2.out.kept k3)
          clear M2 m2a m2b m2c m2d m2e
          obtain ⟨m3a, m3b, m3c, m3d, m3e⟩ := M3.out.five
          have N3 := Lib.hid (N2.out.kept k3)
          clear N2 n2a n2b n2c n2d n2e
          obtain ⟨n3a, n3b, n3c, n3d, n3e⟩ := N3.out.five
          have V3 := Lib.hid (V2.out.kept k3)
          clear V2 v2a v2b v2c v2d
          obtain ⟨v3a, v3b, v3c, v3d⟩ := V3.out.four
          have U3 := Lib.hid (U2.out.kept k3)
          clear U2 u2a u2b u2c u2d
          obtain ⟨u3a, u3b, u3c, u3d⟩ := U3.out.four
          have P3 := Lib.hid (P2.out.kept k3)
          clear P2
          clear k3
          have Q3 := Lib.hid nr
          clear nr
          go_wp2_with fail
          refine (vote_no vs vf vp _ Hv.out).mono ?_
          rintro e W4 ⟨vA, vc, rfl, vr, k4⟩
          have K4 := Lib.hid (K3.out.trans k4)
          have M4 := Lib.hid (M3.out.kept k4)
          clear M3 m3a m3b m3c m3d m3e
          obtain ⟨m4a, m4b, m4c, m4d, m4e⟩ := M4.out.five
          have N4 := Lib.hid (N3.out.kept k4)
          clear N3 n3a n3b n3c n3d n3e
          obtain ⟨n4a, n4b, n4c, n4d, n4e⟩ := N4.out.five
          have V4 := Lib.hid (V3.out.kept k4)
          clear V3 v3a v3b v3c v3d
          obtain ⟨v4a, v4b, v4c, v4d⟩ := V4.out.four
          have U4 := Lib.hid (U3.out.kept k4)
          clear U3 u3a u3b u3c u3d
          obtain ⟨u4a, u4b, u4c, u4d⟩ := U4.out.four
          have P4 := Lib.hid (P3.out.kept k4)
          clear P3
          have Q4 := Lib.hid (Q3.out.kept k4)
          clear Q3
          clear k4
          clear vr
          go_wp2_with fail
          refine (vote_some us uf up _).mono ?_
          rintro e W5 ⟨uv, uk, rfl, k5⟩
          have K5 := Lib.hid (K4.out.trans k5)
          have M5 := Lib.hid (M4.out.kept k5)
          clear M4 m4a m4b m4c m4d m4e
          obtain ⟨m5a, m5b, m5c, m5d, m5e⟩ := M5.out.five
          have N5 := Lib.hid (N4.out.kept k5)
          clear N4 n4a n4b n4c n4d n4e
          obtain ⟨n5a, n5b, n5c, n5d, n5e⟩ := N5.out.five
          have V5 := Lib.hid (V4.out.kept k5)
          clear V4 v4a v4b v4c v4d
          obtain ⟨v5a, v5b, v5c, v5d⟩ := V5.out.four
          have U5 := Lib.hid (U4.out.kept k5)
          clear U4 u4a u4b u4c u4d
          obtain ⟨u5a, u5b, u5c, u5d⟩ := U5.out.four
          have P5 := Lib.hid (P4.out.kept k5)
          clear P4
          have Q5 := Lib.hid (Q4.out.kept k5)
          clear Q4
          clear k5
          have strP := P5.out.strs
          have strQ := Q5.out.strs
          go_wp2_with fail
          go_quiet (fail)
          go_wp2_with fail
          go_quiet (fail)
          go_wp2_with fail
          go_ret
          exact ⟨rfl, (K5.out.drewN _).drewN _⟩
        · cases hu : made us uf
          · have Nm := block_ne hmn
            have Sm := strL_ne (blockL_made (p := mp) (t := mt) hm) (blockL_made (p := np) (t := nt) hn) (fun e => hmn (block_inj hm hn hm1 hm2 hm3 hn1 hn2 hn3 e))
            have Hm := Lib.hid hm; have Hn := Lib.hid hn
            clear hm hn hmn
            have Hv := Lib.hid hv; have Hu := Lib.hid hu
            clear hv hu
            go_enter Try.func6, Try.ntmps6
            go_wp2_with fail
            have M0 := Lib.hid (HasCells.new w #[.int .i64 ms, .int .i64 mf, .int .u64 mp.1, .int .u64 mp.2, .int .u64 mt] 26 (w.heap.size) (by simp))
            have N0 := Lib.hid (HasCells.new (w.alloc (.cells #[.int .i64 ms, .int .i64 mf, .int .u64 mp.1, .int .u64 mp.2, .int .u64 mt] 26)) #[.int .i64 ns, .int .i64 nf, .int .u64 np.1, .int .u64 np.2, .int .u64 nt] 26 (w.heap.size + 1) (by simp))
            have M0 := Lib.hid (M0.out.alloc (.cells #[.int .i64 ns, .int .i64 nf, .int .u64 np.1, .int .u64 np.2, .int .u64 nt] 26))
            have V0 := Lib.hid (HasCells.new ((w.alloc (.cells #[.int .i64 ms, .int .i64 mf, .int .u64 mp.1, .int .u64 mp.2, .int .u64 mt] 26)).alloc (.cells #[.int .i64 ns, .int .i64 nf, .int .u64 np.1, .int .u64 np.2, .int .u64 nt] 26)) #[.int .i64 vf, .int .i64 vs, .int .u64 vp.1, .int .u64 vp.2] 28 (w.heap.size + 2) (by simp))
            have M0 := Lib.hid (M0.out.alloc (.cells #[.int .i64 vf, .int .i64 vs, .int .u64 vp.1, .int .u64 vp.2] 28))
            have N0 := Lib.hid (N0.out.alloc (.cells #[.int .i64 vf, .int .i64 vs, .int .u64 vp.1, .int .u64 vp.2] 28))
            have U0 := Lib.hid (HasCells.new (((w.alloc (.cells #[.int .i64 ms, .int .i64 mf, .int .u64 mp.1, .int .u64 mp.2, .int .u64 mt] 26)).alloc (.cells #[.int .i64 ns, .int .i64 nf, .int .u64 np.1, .int .u64 np.2, .int .u64 nt] 26)).alloc (.cells #[.int .i64 vf, .int .i64 vs, .int .u64 vp.1, .int .u64 vp.2] 28)) #[.int .i64 uf, .int .i64 us, .int .u64 up.1, .int .u64 up.2] 28 (w.heap.size + 3) (by simp))
            have M0 := Lib.hid (M0.out.alloc (.cells #[.int .i64 uf, .int .i64 us, .int .u64 up.1, .int .u64 up.2] 28))
            have N0 := Lib.hid (N0.out.alloc (.cells #[.int .i64 uf, .int .i64 us, .int .u64 up.1, .int .u64 up.2] 28))
            have V0 := Lib.hid (V0.out.alloc (.cells #[.int .i64 uf, .int .i64 us, .int .u64 up.1, .int .u64 up.2] 28))
            have K0 := Lib.hid (show Kept w ((((w.alloc (.cells #[.int .i64 ms, .int .i64 mf, .int .u64 mp.1, .int .u64 mp.2, .int .u64 mt] 26)).alloc (.cells #[.int .i64 ns, .int .i64 nf, .int .u64 np.1, .int .u64 np.2, .int .u64 nt] 26)).alloc (.cells #[.int .i64 vf, .int .i64 vs, .int .u64 vp.1, .int .u64 vp.2] 28)).alloc (.cells #[.int .i64 uf, .int .i64 us, .int .u64 up.1, .int .u64 up.2] 28)) from ((((Kept.refl w).alloc _).alloc _).alloc _).alloc _)
            generalize ((((w.alloc (.cells #[.int .i64 ms, .int .i64 mf, .int .u64 mp.1, .int .u64 mp.2, .int .u64 mt] 26)).alloc (.cells #[.int .i64 ns, .int .i64 nf, .int .u64 np.1, .int .u64 np.2, .int .u64 nt] 26)).alloc (.cells #[.int .i64 vf, .int .i64 vs, .int .u64 vp.1, .int .u64 vp.2] 28)).alloc (.cells #[.int .i64 uf, .int .i64 us, .int .u64 up.1, .int .u64 up.2] 28)) = W0 at *
            generalize w.heap.size = z at *
            have HZ := Lib.hid True.intro
            refine (awake_any _).mono ?_
            rintro e W1 ⟨rfl, k1⟩
            have K1 := Lib.hid (K0.out.trans k1)
            have M1 := Lib.hid (M0.out.kept k1)
            clear M0 
            obtain ⟨m1a, m1b, m1c, m1d, m1e⟩ := M1.out.five
            have N1 := Lib.hid (N0.out.kept k1)
            clear N0 
            obtain ⟨n1a, n1b, n1c, n1d, n1e⟩ := N1.out.five
            have V1 := Lib.hid (V0.out.kept k1)
            clear V0 
            obtain ⟨v1a, v1b, v1c, v1d⟩ := V1.out.four
            have U1 := Lib.hid (U0.out.kept k1)
            clear U0 
            obtain ⟨u1a, u1b, u1c, u1d⟩ := U1.out.four
            clear k1
            go_wp2_with fail
            refine (block_yes ms mf mp mt _ Hm.out).mono ?_
            rintro e W2 ⟨mg, mc, rfl, mr, k2⟩
            have K2 := Lib.hid (K1.out.trans k2)
            have M2 := Lib.hid (M1.out.kept k2)
            clear M1 m1a m1b m1c m1d m1e
            obtain ⟨m2a, m2b, m2c, m2d, m2e⟩ := M2.out.five
            have N2 := Lib.hid (N1.out.kept k2)
            clear N1 n1a n1b n1c n1d n1e
            obtain ⟨n2a, n2b, n2c, n2d, n2e⟩ := N2.out.five
            have V2 := Lib.hid (V1.out.kept k2)
            clear V1 v1a v1b v1c v1d
            obtain ⟨v2a, v2b, v2c, v2d⟩ := V2.out.four
            have U2 := Lib.hid (U1.out.kept k2)
            clear U1 u1a u1b u1c u1d
            obtain ⟨u2a, u2b, u2c, u2d⟩ := U2.out.four
            clear k2
            have P2 := Lib.hid mr
            clear mr
            go_wp2_with fail
            refine (block_yes ns nf np nt _ Hn.out).mono ?_
            rintro e W3 ⟨ng, nc, rfl, nr, k3⟩
            have K3 := Lib.hid (K2.out.trans k3)
            have M3 := Lib.hid (M2.out.kept k3)
            clear M2 m2a m2b m2c m2d m2e
            obtain ⟨m3a, m3b, m3c, m3d, m3e⟩ := M3.out.five
            have N3 := Lib.hid (N2.out.kept k3)
            clear N2 n2a n2b n2c n2d n2e
            obtain ⟨n3a, n3b, n3c, n3d, n3e⟩ := N3.out.five
            have V3 := Lib.hid (V2.out.kept k3)
            clear V2 v2a v2b v2c v2d
            obtain ⟨v3a, v3b, v3c, v3d⟩ := V3.out.four
            have U3 := Lib.hid (U2.out.kept k3)
            clear U2 u2a u2b u2c u2d
            obtain ⟨u3a, u3b, u3c, u3d⟩ := U3.out.four
            have P3 := Lib.hid (P2.out.kept k3)
            clear P2
            clear k3
            have Q3 := Lib.hid nr
            clear nr
            go_wp2_with fail
            refine (vote_yes vs vf vp _ Hv.out).mono ?_
            rintro e W4 ⟨vg, vc, rfl, vr, k4⟩
            have K4 := Lib.hid (K3.out.trans k4)
            have M4 := Lib.hid (M3.out.kept k4)
            clear M3 m3a m3b m3c m3d m3e
            obtain ⟨m4a, m4b, m4c, m4d, m4e⟩ := M4.out.five
            have N4 := Lib.hid (N3.out.kept k4)
            clear N3 n3a n3b n3c n3d n3e
            obtain ⟨n4a, n4b, n4c, n4d, n4e⟩ := N4.out.five
            have V4 := Lib.hid (V3.out.kept k4)
            clear V3 v3a v3b v3c v3d
            obtain ⟨v4a, v4b, v4c, v4d⟩ := V4.out.four
            have U4 := Lib.hid (U3.out.kept k4)
            clear U3 u3a u3b u3c u3d
            obtain ⟨u4a, u4b, u4c, u4d⟩ := U4.out.four
            have P4 := Lib.hid (P3.out.kept k4)
            clear P3
            have Q4 := Lib.hid (Q3.out.kept k4)
            clear Q3
            clear k4
            have R4 := Lib.hid vr
            clear vr
            go_wp2_with fail
            refine (vote_no us uf up _ Hu.out).mono ?_
            rintro e W5 ⟨uA, uc, rfl, ur, k5⟩
            have K5 := Lib.hid (K4.out.trans k5)
            have M5 := Lib.hid (M4.out.kept k5)
            clear M4 m4a m4b m4c m4d m4e
            obtain ⟨m5a, m5b, m5c, m5d, m5e⟩ := M5.out.five
            have N5 := Lib.hid (N4.out.kept k5)
            clear N4 n4a n4b n4c n4d n4e
            obtain ⟨n5a, n5b, n5c, n5d, n5e⟩ := N5.out.five
            have V5 := Lib.hid (V4.out.kept k5)
            clear V4 v4a v4b v4c v4d
            obtain ⟨v5a, v5b, v5c, v5d⟩ := V5.out.four
            have U5 := Lib.hid (U4.out.kept k5)
            clear U4 u4a u4b u4c u4d
            obtain ⟨u5a, u5b, u5c, u5d⟩ := U5.out.four
            have P5 := Lib.hid (P4.out.kept k5)
            clear P4
            have Q5 := Lib.hid (Q4.out.kept k5)
            clear Q4
            have R5 := Lib.hid (R4.out.kept k5)
            clear R4
            clear k5
            clear ur
            have strP := P5.out.strs
            have strQ := Q5.out.strs
            have strR := R5.out.strs
            go_wp2_with fail
            go_quiet (fail)
            go_wp2_with fail
            go_quiet (fail)
            go_wp2_with fail
            go_ret
            exact ⟨rfl, (K5.out.drewN _).drewN _⟩
          · by_cases hvu : vs = us ∧ vf = uf ∧ vp = up
            · have Nm := block_ne hmn
              have Sm := strL_ne (blockL_made (p := mp) (t := mt) hm) (blockL_made (p := np) (t := nt) hn) (fun e => hmn (block_inj hm hn hm1 hm2 hm3 hn1 hn2 hn3 e))
              have Hm := Lib.hid hm; have Hn := Lib.hid hn
              clear hm hn hmn
              obtain ⟨rfl, rfl, rfl⟩ := hvu
              have Hv := Lib.hid hv; have Hu := Lib.hid hu
              clear hv hu
              go_enter Try.func6, Try.ntmps6
              go_wp2_with fail
              have M0 := Lib.hid (HasCells.new w #[.int .i64 ms, .int .i64 mf, .int .u64 mp.1, .int .u64 mp.2, .int .u64 mt] 26 (w.heap.size) (by simp))
              have N0 := Lib.hid (HasCells.new (w.alloc (.cells #[.int .i64 ms, .int .i64 mf, .int .u64 mp.1, .int .u64 mp.2, .int .u64 mt] 26)) #[.int .i64 ns, .int .i64 nf, .int .u64 np.1, .int .u64 np.2, .int .u64 nt] 26 (w.heap.size + 1) (by simp))
              have M0 := Lib.hid (M0.out.alloc (.cells #[.int .i64 ns, .int .i64 nf, .int .u64 np.1, .int .u64 np.2, .int .u64 nt] 26))
              have V0 := Lib.hid (HasCells.new ((w.alloc (.cells #[.int .i64 ms, .int .i64 mf, .int .u64 mp.1, .int .u64 mp.2, .int .u64 mt] 26)).alloc (.cells #[.int .i64 ns, .int .i64 nf, .int .u64 np.1, .int .u64 np.2, .int .u64 nt] 26)) #[.int .i64 vf, .int .i64 vs, .int .u64 vp.1, .int .u64 vp.2] 28 (w.heap.size + 2) (by simp))
              have M0 := Lib.hid (M0.out.alloc (.cells #[.int .i64 vf, .int .i64 vs, .int .u64 vp.1, .int .u64 vp.2] 28))
              have N0 := Lib.hid (N0.out.alloc (.cells #[.int .i64 vf, .int .i64 vs, .int .u64 vp.1, .int .u64 vp.2] 28))
              have U0 := Lib.hid (HasCells.new (((w.alloc (.cells #[.int .i64 ms, .int .i64 mf, .int .u64 mp.1, .int .u64 mp.2, .int .u64 mt] 26)).alloc (.cells #[.int .i64 ns, .int .i64 nf, .int .u64 np.1, .int .u64 np.2, .int .u64 nt] 26)).alloc (.cells #[.int .i64 vf, .int .i64 vs, .int .u64 vp.1, .int .u64 vp.2] 28)) #[.int .i64 vf, .int .i64 vs, .int .u64 vp.1, .int .u64 vp.2] 28 (w.heap.size + 3) (by simp))
              have M0 := Lib.hid (M0.out.alloc (.cells #[.int .i64 vf, .int .i64 vs, .int .u64 vp.1, .int .u64 vp.2] 28))
              have N0 := Lib.hid (N0.out.alloc (.cells #[.int .i64 vf, .int .i64 vs, .int .u64 vp.1, .int .u64 vp.2] 28))
              have V0 := Lib.hid (V0.out.alloc (.cells #[.int .i64 vf, .int .i64 vs, .int .u64 vp.1, .int .u64 vp.2] 28))
              have K0 := Lib.hid (show Kept w ((((w.alloc (.cells #[.int .i64 ms, .int .i64 mf, .int .u64 mp.1, .int .u64 mp.2, .int .u64 mt] 26)).alloc (.cells #[.int .i64 ns, .int .i64 nf, .int .u64 np.1, .int .u64 np.2, .int .u64 nt] 26)).alloc (.cells #[.int .i64 vf, .int .i64 vs, .int .u64 vp.1, .int .u64 vp.2] 28)).alloc (.cells #[.int .i64 vf, .int .i64 vs, .int .u64 vp.1, .int .u64 vp.2] 28)) from ((((Kept.refl w).alloc _).alloc _).alloc _).alloc _)
              generalize ((((w.alloc (.cells #[.int .i64 ms, .int .i64 mf, .int .u64 mp.1, .int .u64 mp.2, .int .u64 mt] 26)).alloc (.cells #[.int .i64 ns, .int .i64 nf, .int .u64 np.1, .int .u64 np.2, .int .u64 nt] 26)).alloc (.cells #[.int .i64 vf, .int .i64 vs, .int .u64 vp.1, .int .u64 vp.2] 28)).alloc (.cells #[.int .i64 vf, .int .i64 vs, .int .u64 vp.1, .int .u64 vp.2] 28)) = W0 at *
              generalize w.heap.size = z at *
              have HZ := Lib.hid True.intro
              refine (awake_any _).mono ?_
              rintro e W1 ⟨rfl, k1⟩
              have K1 := Lib.hid (K0.out.trans k1)
              have M1 := Lib.hid (M0.out.kept k1)
              clear M0 
              obtain ⟨m1a, m1b, m1c, m1d, m1e⟩ := M1.out.five
              have N1 := Lib.hid (N0.out.kept k1)
              clear N0 
              obtain ⟨n1a, n1b, n1c, n1d, n1e⟩ := N1.out.five
              have V1 := Lib.hid (V0.out.kept k1)
              clear V0 
              obtain ⟨v1a, v1b, v1c, v1d⟩ := V1.out.four
              have U1 := Lib.hid (U0.out.kept k1)
              clear U0 
              obtain ⟨u1a, u1b, u1c, u1d⟩ := U1.out.four
              clear k1
              go_wp2_with fail
              refine (block_yes ms mf mp mt _ Hm.out).mono ?_
              rintro e W2 ⟨mg, mc, rfl, mr, k2⟩
              have K2 := Lib.hid (K1.out.trans k2)
              have M2 := Lib.hid (M1.out.kept k2)
              clear M1 m1a m1b m1c m1d m1e
              obtain ⟨m2a, m2b, m2c, m2d, m2e⟩ := M2.out.five
              have N2 := Lib.hid (N1.out.kept k2)
              clear N1 n1a n1b n1c n1d n1e
              obtain ⟨n2a, n2b, n2c, n2d, n2e⟩ := N2.out.five
              have V2 := Lib.hid (V1.out.kept k2)
              clear V1 v1a v1b v1c v1d
              obtain ⟨v2a, v2b, v2c, v2d⟩ := V2.out.four
              have U2 := Lib.hid (U1.out.kept k2)
              clear U1 u1a u1b u1c u1d
              obtain ⟨u2a, u2b, u2c, u2d⟩ := U2.out.four
              clear k2
              have P2 := Lib.hid mr
              clear mr
              go_wp2_with fail
              refine (block_yes ns nf np nt _ Hn.out).mono ?_
              rintro e W3 ⟨ng, nc, rfl, nr, k3⟩
              have K3 := Lib.hid (K2.out.trans k3)
              have M3 := Lib.hid (M2.out.kept k3)
              clear M2 m2a m2b m2c m2d m2e
              obtain ⟨m3a, m3b, m3c, m3d, m3e⟩ := M3.out.five
              have N3 := Lib.hid (N2.out.kept k3)
              clear N2 n2a n2b n2c n2d n2e
              obtain ⟨n3a, n3b, n3c, n3d, n3e⟩ := N3.out.five
              have V3 := Lib.hid (V2.out.kept k3)
              clear V2 v2a v2b v2c v2d
              obtain ⟨v3a, v3b, v3c, v3d⟩ := V3.out.four
              have U3 := Lib.hid (U2.out.kept k3)
              clear U2 u2a u2b u2c u2d
              obtain ⟨u3a, u3b, u3c, u3d⟩ := U3.out.four
              have P3 := Lib.hid (P2.out.kept k3)
              clear P2
              clear k3
              have Q3 := Lib.hid nr
              clear nr
              go_wp2_with fail
              refine (vote_yes vs vf vp _ Hv.out).mono ?_
              rintro e W4 ⟨vg, vc, rfl, vr, k4⟩
              have K4 := Lib.hid (K3.out.trans k4)
              have M4 := Lib.hid (M3.out.kept k4)
              clear M3 m3a m3b m3c m3d m3e
              obtain ⟨m4a, m4b, m4c, m4d, m4e⟩ := M4.out.five
              have N4 := Lib.hid (N3.out.kept k4)
              clear N3 n3a n3b n3c n3d n3e
              obtain ⟨n4a, n4b, n4c, n4d, n4e⟩ := N4.out.five
              have V4 := Lib.hid (V3.out.kept k4)
              clear V3 v3a v3b v3c v3d
              obtain ⟨v4a, v4b, v4c, v4d⟩ := V4.out.four
              have U4 := Lib.hid (U3.out.kept k4)
              clear U3 u3a u3b u3c u3d
              obtain ⟨u4a, u4b, u4c, u4d⟩ := U4.out.four
              have P4 := Lib.hid (P3.out.kept k4)
              clear P3
              have Q4 := Lib.hid (Q3.out.kept k4)
              clear Q3
              clear k4
              have R4 := Lib.hid vr
              clear vr
              go_wp2_with fail
              refine (vote_yes vs vf vp _ Hu.out).mono ?_
              rintro e W5 ⟨ug, uc, rfl, ur, k5⟩
              have K5 := Lib.hid (K4.out.trans k5)
              have M5 := Lib.hid (M4.out.kept k5)
              clear M4 m4a m4b m4c m4d m4e
              obtain ⟨m5a, m5b, m5c, m5d, m5e⟩ := M5.out.five
              have N5 := Lib.hid (N4.out.kept k5)
              clear N4 n4a n4b n4c n4d n4e
              obtain ⟨n5a, n5b, n5c, n5d, n5e⟩ := N5.out.five
              have V5 := Lib.hid (V4.out.kept k5)
              clear V4 v4a v4b v4c v4d
              obtain ⟨v5a, v5b, v5c, v5d⟩ := V5.out.four
              have U5 := Lib.hid (U4.out.kept k5)
              clear U4 u4a u4b u4c u4d
              obtain ⟨u5a, u5b, u5c, u5d⟩ := U5.out.four
              have P5 := Lib.hid (P4.out.kept k5)
              clear P4
              have Q5 := Lib.hid (Q4.out.kept k5)
              clear Q4
              have R5 := Lib.hid (R4.out.kept k5)
              clear R4
              clear k5
              have S5 := Lib.hid ur
              clear ur
              have strP := P5.out.strs
              have strQ := Q5.out.strs
              have strR := R5.out.strs
              have strS := S5.out.strs
              go_wp2_with fail
              go_quiet (fail)
              go_wp2_with fail
              go_quiet (fail)
              go_wp2_with fail
              go_ret
              exact ⟨rfl, (K5.out.drewN _).drewN _⟩
            · have Nm := block_ne hmn
              have Sm := strL_ne (blockL_made (p := mp) (t := mt) hm) (blockL_made (p := np) (t := nt) hn) (fun e => hmn (block_inj hm hn hm1 hm2 hm3 hn1 hn2 hn3 e))
              have Hm := Lib.hid hm; have Hn := Lib.hid hn
              clear hm hn hmn
              have Nv := vote_ne hvu
              have Sv := strL_ne (voteL_made (p := vp) hv) (voteL_made (p := up) hu) (fun e => hvu (vote_inj hv hu hv1 hv2 hu1 hu2 e))
              have Hv := Lib.hid hv; have Hu := Lib.hid hu
              clear hv hu hvu
              go_enter Try.func6, Try.ntmps6
              go_wp2_with fail
              have M0 := Lib.hid (HasCells.new w #[.int .i64 ms, .int .i64 mf, .int .u64 mp.1, .int .u64 mp.2, .int .u64 mt] 26 (w.heap.size) (by simp))
              have N0 := Lib.hid (HasCells.new (w.alloc (.cells #[.int .i64 ms, .int .i64 mf, .int .u64 mp.1, .int .u64 mp.2, .int .u64 mt] 26)) #[.int .i64 ns, .int .i64 nf, .int .u64 np.1, .int .u64 np.2, .int .u64 nt] 26 (w.heap.size + 1) (by simp))
              have M0 := Lib.hid (M0.out.alloc (.cells #[.int .i64 ns, .int .i64 nf, .int .u64 np.1, .int .u64 np.2, .int .u64 nt] 26))
              have V0 := Lib.hid (HasCells.new ((w.alloc (.cells #[.int .i64 ms, .int .i64 mf, .int .u64 mp.1, .int .u64 mp.2, .int .u64 mt] 26)).alloc (.cells #[.int .i64 ns, .int .i64 nf, .int .u64 np.1, .int .u64 np.2, .int .u64 nt] 26)) #[.int .i64 vf, .int .i64 vs, .int .u64 vp.1, .int .u64 vp.2] 28 (w.heap.size + 2) (by simp))
              have M0 := Lib.hid (M0.out.alloc (.cells #[.int .i64 vf, .int .i64 vs, .int .u64 vp.1, .int .u64 vp.2] 28))
              have N0 := Lib.hid (N0.out.alloc (.cells #[.int .i64 vf, .int .i64 vs, .int .u64 vp.1, .int .u64 vp.2] 28))
              have U0 := Lib.hid (HasCells.new (((w.alloc (.cells #[.int .i64 ms, .int .i64 mf, .int .u64 mp.1, .int .u64 mp.2, .int .u64 mt] 26)).alloc (.cells #[.int .i64 ns, .int .i64 nf, .int .u64 np.1, .int .u64 np.2, .int .u64 nt] 26)).alloc (.cells #[.int .i64 vf, .int .i64 vs, .int .u64 vp.1, .int .u64 vp.2] 28)) #[.int .i64 uf, .int .i64 us, .int .u64 up.1, .int .u64 up.2] 28 (w.heap.size + 3) (by simp))
              have M0 := Lib.hid (M0.out.alloc (.cells #[.int .i64 uf, .int .i64 us, .int .u64 up.1, .int .u64 up.2] 28))
              have N0 := Lib.hid (N0.out.alloc (.cells #[.int .i64 uf, .int .i64 us, .int .u64 up.1, .int .u64 up.2] 28))
              have V0 := Lib.hid (V0.out.alloc (.cells #[.int .i64 uf, .int .i64 us, .int .u64 up.1, .int .u64 up.2] 28))
              have K0 := Lib.hid (show Kept w ((((w.alloc (.cells #[.int .i64 ms, .int .i64 mf, .int .u64 mp.1, .int .u64 mp.2, .int .u64 mt] 26)).alloc (.cells #[.int .i64 ns, .int .i64 nf, .int .u64 np.1, .int .u64 np.2, .int .u64 nt] 26)).alloc (.cells #[.int .i64 vf, .int .i64 vs, .int .u64 vp.1, .int .u64 vp.2] 28)).alloc (.cells #[.int .i64 uf, .int .i64 us, .int .u64 up.1, .int .u64 up.2] 28)) from ((((Kept.refl w).alloc _).alloc _).alloc _).alloc _)
              generalize ((((w.alloc (.cells #[.int .i64 ms, .int .i64 mf, .int .u64 mp.1, .int .u64 mp.2, .int .u64 mt] 26)).alloc (.cells #[.int .i64 ns, .int .i64 nf, .int .u64 np.1, .int .u64 np.2, .int .u64 nt] 26)).alloc (.cells #[.int .i64 vf, .int .i64 vs, .int .u64 vp.1, .int .u64 vp.2] 28)).alloc (.cells #[.int .i64 uf, .int .i64 us, .int .u64 up.1, .int .u64 up.2] 28)) = W0 at *
              generalize w.heap.size = z at *
              have HZ := Lib.hid True.intro
              refine (awake_any _).mono ?_
              rintro e W1 ⟨rfl, k1⟩
              have K1 := Lib.hid (K0.out.trans k1)
              have M1 := Lib.hid (M0.out.kept k1)
              clear M0 
              obtain ⟨m1a, m1b, m1c, m1d, m1e⟩ := M1.out.five
              have N1 := Lib.hid (N0.out.kept k1)
              clear N0 
              obtain ⟨n1a, n1b, n1c, n1d, n1e⟩ := N1.out.five
              have V1 := Lib.hid (V0.out.kept k1)
              clear V0 
              obtain ⟨v1a, v1b, v1c, v1d⟩ := V1.out.four
              have U1 := Lib.hid (U0.out.kept k1)
              clear U0 
              obtain ⟨u1a, u1b, u1c, u1d⟩ := U1.out.four
              clear k1
              go_wp2_with fail
              refine (block_yes ms mf mp mt _ Hm.out).mono ?_
              rintro e W2 ⟨mg, mc, rfl, mr, k2⟩
              have K2 := Lib.hid (K1.out.trans k2)
              have M2 := Lib.hid (M1.out.kept k2)
              clear M1 m1a m1b m1c m1d m1e
              obtain ⟨m2a, m2b, m2c, m2d, m2e⟩ := M2.out.five
              have N2 := Lib.hid (N1.out.kept k2)
              clear N1 n1a n1b n1c n1d n1e
              obtain ⟨n2a, n2b, n2c, n2d, n2e⟩ := N2.out.five
              have V2 := Lib.hid (V1.out.kept k2)
              clear V1 v1a v1b v1c v1d
              obtain ⟨v2a, v2b, v2c, v2d⟩ := V2.out.four
              have U2 := Lib.hid (U1.out.kept k2)
              clear U1 u1a u1b u1c u1d
              obtain ⟨u2a, u2b, u2c, u2d⟩ := U2.out.four
              clear k2
              have P2 := Lib.hid mr
              clear mr
              go_wp2_with fail
              refine (block_yes ns nf np nt _ Hn.out).mono ?_
              rintro e W3 ⟨ng, nc, rfl, nr, k3⟩
              have K3 := Lib.hid (K2.out.trans k3)
              have M3 := Lib.hid (M2.out.kept k3)
              clear M2 m2a m2b m2c m2d m2e
              obtain ⟨m3a, m3b, m3c, m3d, m3e⟩ := M3.out.five
              have N3 := Lib.hid (N2.out.kept k3)
              clear N2 n2a n2b n2c n2d n2e
              obtain ⟨n3a, n3b, n3c, n3d, n3e⟩ := N3.out.five
              have V3 := Lib.hid (V2.out.kept k3)
              clear V2 v2a v2b v2c v2d
              obtain ⟨v3a, v3b, v3c, v3d⟩ := V3.out.four
              have U3 := Lib.hid (U2.out.kept k3)
              clear U2 u2a u2b u2c u2d
              obtain ⟨u3a, u3b, u3c, u3d⟩ := U3.out.four
              have P3 := Lib.hid (P2.out.kept k3)
              clear P2
              clear k3
              have Q3 := Lib.hid nr
              clear nr
              go_wp2_with fail
              refine (vote_yes vs vf vp _ Hv.out).mono ?_
              rintro e W4 ⟨vg, vc, rfl, vr, k4⟩
              have K4 := Lib.hid (K3.out.trans k4)
              have M4 := Lib.hid (M3.out.kept k4)
              clear M3 m3a m3b m3c m3d m3e
              obtain ⟨m4a, m4b, m4c, m4d, m4e⟩ := M4.out.five
              have N4 := Lib.hid (N3.out.kept k4)
              clear N3 n3a n3b n3c n3d n3e
              obtain ⟨n4a, n4b, n4c, n4d, n4e⟩ := N4.out.five
              have V4 := Lib.hid (V3.out.kept k4)
              clear V3 v3a v3b v3c v3d
              obtain ⟨v4a, v4b, v4c, v4d⟩ := V4.out.four
              have U4 := Lib.hid (U3.out.kept k4)
              clear U3 u3a u3b u3c u3d
              obtain ⟨u4a, u4b, u4c, u4d⟩ := U4.out.four
              have P4 := Lib.hid (P3.out.kept k4)
              clear P3
              have Q4 := Lib.hid (Q3.out.kept k4)
              clear Q3
              clear k4
              have R4 := Lib.hid vr
              clear vr
              go_wp2_with fail
              refine (vote_yes us uf up _ Hu.out).mono ?_
              rintro e W5 ⟨ug, uc, rfl, ur, k5⟩
              have K5 := Lib.hid (K4.out.trans k5)
              have M5 := Lib.hid (M4.out.kept k5)
              clear M4 m4a m4b m4c m4d m4e
              obtain ⟨m5a, m5b, m5c, m5d, m5e⟩ := M5.out.five
              have N5 := Lib.hid (N4.out.kept k5)
              clear N4 n4a n4b n4c n4d n4e
              obtain ⟨n5a, n5b, n5c, n5d, n5e⟩ := N5.out.five
              have V5 := Lib.hid (V4.out.kept k5)
              clear V4 v4a v4b v4c v4d
              obtain ⟨v5a, v5b, v5c, v5d⟩ := V5.out.four
              have U5 := Lib.hid (U4.out.kept k5)
              clear U4 u4a u4b u4c u4d
              obtain ⟨u5a, u5b, u5c, u5d⟩ := U5.out.four
              have P5 := Lib.hid (P4.out.kept k5)
              clear P4
              have Q5 := Lib.hid (Q4.out.kept k5)
              clear Q4
              have R5 := Lib.hid (R4.out.kept k5)
              clear R4
              clear k5
              have S5 := Lib.hid ur
              clear ur
              have strP := P5.out.strs
              have strQ := Q5.out.strs
              have strR := R5.out.strs
              have strS := S5.out.strs
              go_wp2_with fail
              go_quiet (fail)
              go_wp2_with fail
              go_quiet (fail)
              go_wp2_with fail
              go_ret
              exact ⟨rfl, (K5.out.drewN _).drewN _⟩

/-! ### The row's step -/
set_option maxRecDepth 100000 in
theorem lifted (os : Os) (started : os.Started) (H : Type) (enc : TypeId × Value → H) :
    ReturnsInHanded {} Try.checked os 6 .any (Rows.wireApartSpec.pre6 enc Try.prog Try.f6 Rows.wireApartRow.domain false) (Rows.wireApartSpec.post enc Try.prog Try.f6 false true false false) := by
  refine returnsInHanded_of_change (C := Try.checked) own started (by kernel_rfl) Try.func6
    (ChangeSpec.witness6 (enc := enc) (C := Try.checked) false ⟨#[], #[.agg #[.int .i64 0, .int .i64 0, .int .u64 0, .int .u64 0, .int .u64 0], .agg #[.int .i64 0, .int .i64 0, .int .u64 0, .int .u64 0, .int .u64 0], .agg #[.int .i64 0, .int .i64 0, .int .u64 0, .int .u64 0], .agg #[.int .i64 0, .int .i64 0, .int .u64 0, .int .u64 0]], []⟩ 8 (by kernel_rfl) (by kernel_rfl) (by kernel_rfl) (by kernel_rfl)) ?_
  intro W base args ds gs before hval0 hW hcnd _
  have hval : ∀ (j : Nat) t v, Try.f6.params[j]? = some t → args[j]? = some v → Value.okWide Try.prog W .any base t v := hval0
  have hW' := hW
  obtain ⟨p, q, hA0, hV, rfl, hfz, hnd⟩ := hW
  have hA : DataW.TrodAll enc Try.prog W 0 (fun _ => true) true Try.f6.params.toList args.toList ds p := hA0
  rw [Try.params6] at hA hval
  obtain ⟨v0, vs0, d0, ds0, p0, q0, hargs, rfl, rfl, h0, r0⟩ := trodAll_cons hA
  obtain ⟨v1, vs1, d1, ds1, p1, q1, rfl, rfl, rfl, h1, r1⟩ := trodAll_cons r0
  obtain ⟨v2, vs2, d2, ds2, p2, q2, rfl, rfl, rfl, h2, r2⟩ := trodAll_cons r1
  obtain ⟨v3, vs3, d3, ds3, p3, q3, rfl, rfl, rfl, h3, r3⟩ := trodAll_cons r2
  obtain ⟨rfl, rfl, rfl⟩ := trodAll_nil r3
  obtain rfl : args = #[v0, v1, v2, v3] := by cases args; simp_all
  obtain ⟨rfl, rfl⟩ := trodVars_none hV
  obtain ⟨ms, mf, mp, mt, rfl, hm1, hm2, hm3⟩ := open_block (hval 0 _ v0 rfl rfl) h0
  obtain ⟨ns, nf, np, nt, rfl, hn1, hn2, hn3⟩ := open_block (hval 1 _ v1 rfl rfl) h1
  obtain ⟨vf, vs, vp, rfl, hv1, hv2⟩ := open_vote (hval 2 _ v2 rfl rfl) h2
  obtain ⟨uf, us, up, rfl, hu1, hu2⟩ := open_vote (hval 3 _ v3 rfl rfl) h3
  clear hA0 hval0
  refine (walk W ms mf mp mt hm1 hm2 hm3 ns nf np nt hn1 hn2 hn3 vf vs vp hv1 hv2 uf us up hu1 hu2).mono fun e W' ⟨he, hb⟩ => ?_
  subst he
  exact ⟨_, rfl, law_post rfl (by kernel_rfl) rfl hW' rfl hb⟩

theorem over : Rows.wireApartRow.holds Try.pinned (OpenSpec.ofChange Rows.wireApartSpec) :=
  OpenClaim.holds_of_wide 6 Try.f6 rfl rfl rfl rfl rfl rfl rfl ⟨rfl, rfl, rfl, rfl, rfl⟩ rfl rfl rfl rfl rfl (by kernel_rfl) Try.func6 (by kernel_rfl)
    (of_decide_eq_true (by kernel_rfl)) (by unfold Func.isWrapper; first | (rw [if_pos (by decide +kernel)]; kernel_rfl) | (rw [if_neg (by decide +kernel)]; exact ⟨rfl, rfl⟩))
    (fun os started H enc _ => lifted os started H enc)

/-- The statement. -/
theorem proved : Rows.WireApartSaid :=
  over
#print axioms proved
end Go.Proofs.Ytfbjiepnhfgmfaa.wireApart
