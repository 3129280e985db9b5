/-
  The contract of the tally's call leavesBlock.
-/
import Derived.BigQuiet
import Derived.Test.YtacdiicnfoejoaaViewTally
import Derived.Test.YtacdiicnfoejoaaUntil
import Derived.Test.YtacdiicnfoejoaaTreeG
namespace Go.Proofs.Ytacdiicnfoejoaa
set_option maxRecDepth 100000
set_option linter.unusedVariables false
set_option linter.unusedSimpArgs false
set_option linter.unusedSimpArgs false
set_option linter.unusedVariables false
open Go.ChangeShapes Go.WideShapes Go.ChangeAt Go.RowKit

theorem outG_lost {α : Type} {lost pend : List α → α → Bool} {cap : Nat} {w : List α} {f : Bool} {x : α} (h : lost w x = true) : outG lost pend cap w f x = (false, w, f) := by unfold outG; rw [if_pos h]
theorem outG_pend {α : Type} {lost pend : List α → α → Bool} {cap : Nat} {w : List α} {f : Bool} {x : α} (h : lost w x = false) (h2 : pend w x = true) : outG lost pend cap w f x = (true, w, f) := by unfold outG; rw [if_neg (by rw [h]; simp), if_pos h2]
theorem outG_full {α : Type} {lost pend : List α → α → Bool} {cap : Nat} {w : List α} {f : Bool} {x : α} (h : lost w x = false) (h2 : pend w x = false) (h3 : cap ≤ w.length) : outG lost pend cap w f x = (true, w, true) := by unfold outG; rw [if_neg (by rw [h]; simp), if_neg (by rw [h2]; simp), if_pos h3]
theorem outG_counts {α : Type} {lost pend : List α → α → Bool} {cap : Nat} {w : List α} {f : Bool} {x : α} (h : lost w x = false) (h2 : pend w x = false) (h3 : w.length < cap) : outG lost pend cap w f x = (false, w ++ [x], f) := by unfold outG; rw [if_neg (by rw [h]; simp), if_neg (by rw [h2]; simp), if_neg (by omega)]
theorem sub_lies {z M C : Nat} {A A' B : Option Addr} {n n' c c' : Nat} {w V : World} (hs : w.heap.size ≤ V.heap.size) (lo : LiesAt V (.slice A n c) (.slice A' n' c')) : ∀ x, talS z M C A' B x → talS z M C A B x ∨ w.heap.size ≤ x := by
  rintro x (h | h | h | h | h)
  · exact Or.inl (Or.inl h)
  · exact Or.inl (Or.inr (Or.inl h))
  · exact Or.inl (Or.inr (Or.inr (Or.inl h)))
  · have e := own_slice (n := n') (c := c') h
    rcases lo with q | q
    · rw [q] at e; exact Or.inl (Or.inr (Or.inr (Or.inr (Or.inl (slice_own e)))))
    · rw [q] at e; injection e with e; exact Or.inr (by omega)
  · exact Or.inl (Or.inr (Or.inr (Or.inr (Or.inr h))))
theorem sub_liesV {z M C : Nat} {A B' B : Option Addr} {n n' c c' : Nat} {w V : World} (hs : w.heap.size ≤ V.heap.size) (lo : LiesAt V (.slice B n c) (.slice B' n' c')) : ∀ x, talS z M C A B' x → talS z M C A B x ∨ w.heap.size ≤ x := by
  rintro x (h | h | h | h | h)
  · exact Or.inl (Or.inl h)
  · exact Or.inl (Or.inr (Or.inl h))
  · exact Or.inl (Or.inr (Or.inr (Or.inl h)))
  · exact Or.inl (Or.inr (Or.inr (Or.inr (Or.inl h))))
  · have e := own_slice (n := n') (c := c') h
    rcases lo with q | q
    · rw [q] at e; exact Or.inl (Or.inr (Or.inr (Or.inr (Or.inr (slice_own e)))))
    · rw [q] at e; injection e with e; exact Or.inr (by omega)
def LvB (W : World) (z : Nat) (up : Int) (b : List Bk) (v : List Vt) (f : Bool) (A : Option Addr) (c : Nat) (B : Option Addr) (d : Nat) (M n C m : Nat) (y : Bk) (w : World) (e : Ending) (w' : World) : Prop := ∃ A' c' n', e = .returned (.bool (outG lostB (pendB up) 60 b f y).1) ∧ n' + b.length ≤ n + (outG lostB (pendB up) 60 b f y).2.1.length ∧ TalAt W z up (outG lostB (pendB up) 60 b f y).2.1 v (outG lostB (pendB up) 60 b f y).2.2 (slotsF (outG lostB (pendB up) 60 b f y).2.1) (standsB (outG lostB (pendB up) 60 b f y).2.1) v A' c' B d M n' C m w' ∧ Off (talS z M C A B) w w' ∧ ∀ x, talS z M C A' B x → talS z M C A B x ∨ w.heap.size ≤ x
theorem LvB.stay {W : World} {z : Nat} {up : Int} {b : List Bk} {v : List Vt} {f : Bool} {A : Option Addr} {c : Nat} {B : Option Addr} {d : Nat} {M n C m : Nat} {y : Bk} {w w' : World} {r : Bool} (HO : outG lostB (pendB up) 60 b f y = (r, b, f)) (hT : TalAt W z up b v f (slotsF b) (standsB b) v A c B d M n C m w') (k : Off (talS z M C A B) w w') : LvB W z up b v f A c B d M n C m y w (.returned (.bool r)) w' := by
  unfold LvB
  rw [HO]
  exact ⟨A, c, n, rfl, Nat.le_refl _, hT, k, fun x hx => Or.inl hx⟩
theorem LvB.toFull {W : World} {z : Nat} {up : Int} {b : List Bk} {v : List Vt} {f : Bool} {A : Option Addr} {c : Nat} {B : Option Addr} {d : Nat} {M n C m : Nat} {y : Bk} {w w' : World} (HO : outG lostB (pendB up) 60 b f y = (true, b, true)) (hT : TalAt W z up b v true (slotsF b) (standsB b) v A c B d M n C m w') (k : Off (talS z M C A B) w w') : LvB W z up b v f A c B d M n C m y w (.returned (.bool true)) w' := by
  unfold LvB
  rw [HO]
  exact ⟨A, c, n, rfl, Nat.le_refl _, hT, k, fun x hx => Or.inl hx⟩
theorem LvB.counts {W : World} {z : Nat} {up : Int} {b : List Bk} {v : List Vt} {f : Bool} {A : Option Addr} {c : Nat} {B : Option Addr} {d : Nat} {M n C m : Nat} {y : Bk} {w w' : World} {A2 : Option Addr} {c2 : Nat} (HO : outG lostB (pendB up) 60 b f y = (false, (b ++ [y]), f)) (hT : TalAt W z up (b ++ [y]) v f (slotsF (b ++ [y])) (standsB (b ++ [y])) v A2 c2 B d M (n + 1) C m w') (k : Off (talS z M C A B) w w') (h : ∀ x, talS z M C A2 B x → talS z M C A B x ∨ w.heap.size ≤ x) : LvB W z up b v f A c B d M n C m y w (.returned (.bool false)) w' := by
  unfold LvB
  rw [HO]
  exact ⟨A2, c2, _, rfl, by simp only [List.length_append, List.length_singleton]; omega, hT, k, h⟩
set_option maxRecDepth 100000 in
set_option maxHeartbeats 3200000 in
theorem leavesB_of (W : World) (z : Nat) (up : Int) (b : List Bk) (v : List Vt) (f : Bool) (A : Option Addr) (c : Nat) (B : Option Addr) (d : Nat) (M n C m : Nat) (y : Bk) (nm : Id2) (w : World) (hnm : nm = nameB y) (hwn : WfI nm) (hwy : WfB y) (h1 : 1 ≤ y.s) (hz : nm ≠ zid) (hb1 : ∀ x ∈ b, 1 ≤ x.s) (h60 : b.length ≤ 60) (hn : n ≤ 100) (hT : TalAt W z up b v f (slotsF b) (standsB b) v A c B d M n C m w)
    (hNm : ∀ w, Calls Try.prog 16 #[.agg #[.int .i64 y.s, .int .i64 y.f, .int .u64 y.p.1, .int .u64 y.p.2, .int .u64 y.t]] w fun e w' => e = .returned (.agg #[.int .u64 nm.1, .int .u64 nm.2]) ∧ Kept w w') :
    Calls Try.prog 51 #[.pointer (some ⟨z, 0, none⟩), .agg #[.int .i64 y.s, .int .i64 y.f, .int .u64 y.p.1, .int .u64 y.p.2, .int .u64 y.t]] w (LvB W z up b v f A c B d M n C m y w) := by
  have K0 := Lib.hid ((Kept.refl w).alloc (.cells #[.int .i64 y.s, .int .i64 y.f, .int .u64 y.p.1, .int .u64 y.p.2, .int .u64 y.t] 42))
  have HT0 := Lib.hid (hT.kept K0.out)
  have HY := Lib.hid (HasCells.new w #[.int .i64 y.s, .int .i64 y.f, .int .u64 y.p.1, .int .u64 y.p.2, .int .u64 y.t] 42 w.heap.size rfl)
  have HNm := Lib.hid hNm
  have HWn := Lib.hid hwn
  have HL := Lib.hid (show lostB b y = (standsB b nm || (standsB b y.p && decide (y.s ≤ slotsF b y.p))) from by rw [hnm]; exact lostB_is h1 (by rw [← hnm]; exact hz))
  have HP := Lib.hid (pendB_is (b := y) hb1 up)
  have HSz := Lib.hid (show ∀ x, talS z M C A B x → x < w.heap.size from hT.lt)
  have HPn := Lib.hid (show standsB b nm = false → posB b (nameB y) = none from fun h => by rw [← hnm]; unfold standsB at h; rw [Bool.or_eq_false_iff] at h; cases q : posB b nm with | none => rfl | some i => rw [q] at h; cases h.1)
  have HEq := Lib.hid hnm
  have HPw := Lib.hid hwy.1
  have hYs := HSz.out z (Or.inl rfl)
  have HYn := Lib.hid (show ∀ x, talS z M C A B x → x ≠ w.heap.size from fun x hx e => by have := HSz.out x hx; omega)
  clear hT hNm hwn hwy hz hb1 hnm hYs
  go_enter Try.func51, Try.ntmps51
  go_wp2_with fail
  generalize w.alloc (.cells #[.int .i64 y.s, .int .i64 y.f, .int .u64 y.p.1, .int .u64 y.p.2, .int .u64 y.t] 42) = W0 at *
  generalize hz3 : w.heap.size = z3 at *
  have HZ3 := Lib.hid hz3
  clear hz3
  obtain ⟨y0, y1, y2, y3, y4⟩ := HY.out.five
  have yz := HY.out.1
  go_wp2_with fail
  clear y0 y1 y2 y3 y4 yz
  refine (HNm.out W0).mono ?_
  rintro e W1 ⟨rfl, k1⟩
  have ka := k1.alloc (.cells #[.int .u64 nm.1, .int .u64 nm.2] 39)
  have K2 := Lib.hid (K0.out.trans ka)
  have HT2 := Lib.hid (HT0.out.kept ka)
  have HY2 := Lib.hid (HY.out.kept ka)
  have HI2 := Lib.hid (HasCells.new W1 #[.int .u64 nm.1, .int .u64 nm.2] 39 W1.heap.size rfl)
  have HIn := Lib.hid (show ∀ x, talS z M C A B x → x ≠ W1.heap.size from fun x hx e => by have := HSz.out x hx; have := K0.out.size_le; have := k1.size_le; have := HZ3.out; omega)
  clear ka k1 HT0 HY K0
  go_wp2_with fail
  generalize W1.alloc (.cells #[.int .u64 nm.1, .int .u64 nm.2] 39) = W2 at *
  generalize W1.heap.size = z5 at *
  obtain ⟨s1, hs1⟩ : ∃ s1, s1 = slotsF b nm := ⟨_, rfl⟩
  obtain ⟨g1, hg1⟩ : ∃ g1, g1 = standsB b nm := ⟨_, rfl⟩
  obtain ⟨s2, hs2⟩ : ∃ s2, s2 = slotsF b y.p := ⟨_, rfl⟩
  obtain ⟨g2, hg2⟩ : ∃ g2, g2 = standsB b y.p := ⟨_, rfl⟩
  have HLn := Lib.hid (show ∀ V, Kept W2 V → ∀ j, (Instr.lookup 61 (.map (some M)) (.agg #[.int .u64 nm.1, .int .u64 nm.2]) true).run Try.prog (V.drewN j) = .ok (.tuple #[.int .i64 (s1), .bool (g1)]) (V.drewN j) from fun V kV j => by rw [hs1, hg1]; exact OwnH.look_ok (K := idKey) (V := intV) (t := 61) Try.underlying61 ((HT2.out.sm).kept (kV.drewN j)) HWn.out)
  have HLp := Lib.hid (show ∀ V, Kept W2 V → ∀ j, (Instr.lookup 61 (.map (some M)) (.agg #[.int .u64 y.p.1, .int .u64 y.p.2]) true).run Try.prog (V.drewN j) = .ok (.tuple #[.int .i64 (s2), .bool (g2)]) (V.drewN j) from fun V kV j => by rw [hs2, hg2]; exact OwnH.look_ok (K := idKey) (V := intV) (t := 61) Try.underlying61 ((HT2.out.sm).kept (kV.drewN j)) HPw.out)
  rw [← hg1, ← hg2, ← hs2] at HL
  rw [← hg2] at HP
  rw [← hg1] at HPn
  clear hs1 hg1 hg2 hs2
  have KW := Lib.hid (Kept.refl W2)
  have hln := HLn.out W2 KW.out
  obtain ⟨t0, t1, t2, t3, t4, t5, tz⟩ := HT2.out.cells
  obtain ⟨y0, y1, y2, y3, y4⟩ := HY2.out.five
  have yz := HY2.out.1
  obtain ⟨i0, i1⟩ := HI2.out.two
  have iz := HI2.out.1
  go_quiet (fail)
  have kq := (Kept.refl W2).drewN nq
  replace HT2 := Lib.hid (HT2.out.kept kq)
  replace HY2 := Lib.hid (HY2.out.kept kq)
  replace HI2 := Lib.hid (HI2.out.kept kq)
  replace K2 := Lib.hid (K2.out.trans kq)
  replace KW := Lib.hid (KW.out.trans kq)
  clear kq t0 t1 t2 t3 t4 t5 tz y0 y1 y2 y3 y4 yz i0 i1 iz
  generalize W2.drewN nq = W3 at *
  clear nq
  clear hln
  try go_wp2_with fail
  have hlp := HLp.out W3 KW.out
  obtain ⟨t0, t1, t2, t3, t4, t5, tz⟩ := HT2.out.cells
  obtain ⟨y0, y1, y2, y3, y4⟩ := HY2.out.five
  have yz := HY2.out.1
  obtain ⟨i0, i1⟩ := HI2.out.two
  have iz := HI2.out.1
  go_quiet (fail)
  have kq := (Kept.refl W3).drewN nq
  replace HT2 := Lib.hid (HT2.out.kept kq)
  replace HY2 := Lib.hid (HY2.out.kept kq)
  replace HI2 := Lib.hid (HI2.out.kept kq)
  replace K2 := Lib.hid (K2.out.trans kq)
  replace KW := Lib.hid (KW.out.trans kq)
  clear kq t0 t1 t2 t3 t4 t5 tz y0 y1 y2 y3 y4 yz i0 i1 iz
  generalize W3.drewN nq = W4 at *
  clear nq
  clear hlp
  obtain ⟨t0, t1, t2, t3, t4, t5, tz⟩ := HT2.out.cells
  obtain ⟨y0, y1, y2, y3, y4⟩ := HY2.out.five
  have yz := HY2.out.1
  obtain ⟨i0, i1⟩ := HI2.out.two
  have iz := HI2.out.1
  cases g1 with
  | true =>
    have HO := Lib.hid (outG_lost (pend := pendB up) (cap := 60) (f := f) (show lostB b y = true by rw [HL.out]; simp))
    go_wp2_with fail
    go_ret
    exact LvB.stay HO.out HT2.out (Off.of_kept K2.out)
  | false =>
    cases g2 with
    | false =>
      have HLo := Lib.hid (show lostB b y = false by rw [HL.out]; simp)
      have HO := Lib.hid (outG_pend (cap := 60) (f := f) HLo.out (show pendB up b y = true by rw [HP.out]; simp))
      go_wp2_with fail
      go_quiet (fail)
      have kq := (Kept.refl W4).drewN nq
      replace HT2 := Lib.hid (HT2.out.kept kq)
      replace HY2 := Lib.hid (HY2.out.kept kq)
      replace HI2 := Lib.hid (HI2.out.kept kq)
      replace K2 := Lib.hid (K2.out.trans kq)
      replace KW := Lib.hid (KW.out.trans kq)
      clear kq t0 t1 t2 t3 t4 t5 tz y0 y1 y2 y3 y4 yz i0 i1 iz
      generalize W4.drewN nq = W5 at *
      clear nq
      go_wp2_with fail
      go_ret
      exact LvB.stay HO.out HT2.out (Off.of_kept K2.out)
    | true =>
      by_cases hle : y.s ≤ s2
      · have HO := Lib.hid (outG_lost (pend := pendB up) (cap := 60) (f := f) (show lostB b y = true by rw [HL.out, decide_eq_true hle]; simp))
        have gle : decide (y.s ≤ s2) = true := decide_eq_true hle
        clear hle
        go_wp2_with fail
        go_ret
        exact LvB.stay HO.out HT2.out (Off.of_kept K2.out)
      · have gle : decide (y.s ≤ s2) = false := decide_eq_false hle
        have HLo := Lib.hid (show lostB b y = false by rw [HL.out, gle]; simp)
        clear hle
        by_cases hlt : up < y.s
        · have glt : decide (up < y.s) = true := decide_eq_true hlt
          have HO := Lib.hid (outG_pend (cap := 60) (f := f) HLo.out (show pendB up b y = true by rw [HP.out, glt]; simp))
          clear hlt
          go_wp2_with fail
          go_quiet (fail)
          have kq := (Kept.refl W4).drewN nq
          replace HT2 := Lib.hid (HT2.out.kept kq)
          replace HY2 := Lib.hid (HY2.out.kept kq)
          replace HI2 := Lib.hid (HI2.out.kept kq)
          replace K2 := Lib.hid (K2.out.trans kq)
          replace KW := Lib.hid (KW.out.trans kq)
          clear kq t0 t1 t2 t3 t4 t5 tz y0 y1 y2 y3 y4 yz i0 i1 iz
          generalize W4.drewN nq = W5 at *
          clear nq
          go_wp2_with fail
          go_ret
          exact LvB.stay HO.out HT2.out (Off.of_kept K2.out)
        · have glt : decide (up < y.s) = false := decide_eq_false hlt
          have HPe := Lib.hid (show pendB up b y = false by rw [HP.out, glt]; simp)
          clear hlt
          go_wp2_with fail
          go_quiet (fail)
          have kq := (Kept.refl W4).drewN nq
          replace HT2 := Lib.hid (HT2.out.kept kq)
          replace HY2 := Lib.hid (HY2.out.kept kq)
          replace HI2 := Lib.hid (HI2.out.kept kq)
          replace K2 := Lib.hid (K2.out.trans kq)
          replace KW := Lib.hid (KW.out.trans kq)
          clear kq t0 t1 t2 t3 t4 t5 tz y0 y1 y2 y3 y4 yz i0 i1 iz
          generalize W4.drewN nq = W5 at *
          clear nq
          clear gle glt
          obtain ⟨t0, t1, t2, t3, t4, t5, tz⟩ := HT2.out.cells
          obtain ⟨y0, y1, y2, y3, y4⟩ := HY2.out.five
          have yz := HY2.out.1
          obtain ⟨i0, i1⟩ := HI2.out.two
          have iz := HI2.out.1
          by_cases hll : b.length = 60
          · have HO := Lib.hid (outG_full (f := f) HLo.out HPe.out (cap := 60) (by omega))
            have g6 : decide (b.length = 60) = true := decide_eq_true hll
            have f5 := HT2.out.box.fr 5
            go_wp2_with fail
            go_ret
            exact LvB.toFull HO.out HT2.out.putF ((Off.of_kept K2.out).same (off_set _ (Or.inl rfl) 5 _))
          · have h60b : b.length < 60 := by omega
            have HO := Lib.hid (outG_counts (f := f) HLo.out HPe.out h60b)
            have g6 : decide (b.length = 60) = false := decide_eq_false hll
            clear hll
            go_wp2_with fail
            clear g6 t0 t1 t2 t3 t4 t5 tz y0 y1 y2 y3 y4 yz i0 i1 iz
            have kd := (Kept.refl W5).drew
            have HTd := HT2.out.kept kd
            have HYd := HY2.out.kept kd
            have HId := HI2.out.kept kd
            have KD := Lib.hid (K2.out.trans kd)
            clear HT2 HY2 HI2 K2 KW kd
            have HTa := HTd.kept ((Kept.refl W5.drew).alloc (.cells #[.int .i64 y.s, .int .i64 y.f, .int .u64 y.p.1, .int .u64 y.p.2, .int .u64 y.t] 42))
            have HYa := HYd.kept ((Kept.refl W5.drew).alloc (.cells #[.int .i64 y.s, .int .i64 y.f, .int .u64 y.p.1, .int .u64 y.p.2, .int .u64 y.t] 42))
            have HIa := HId.kept ((Kept.refl W5.drew).alloc (.cells #[.int .i64 y.s, .int .i64 y.f, .int .u64 y.p.1, .int .u64 y.p.2, .int .u64 y.t] 42))
            have KA := Lib.hid (KD.out.alloc (.cells #[.int .i64 y.s, .int .i64 y.f, .int .u64 y.p.1, .int .u64 y.p.2, .int .u64 y.t] 42))
            have hol : b.length + 1 ≤ 1000000 := by omega
            obtain ⟨b2, hb2⟩ : ∃ b2, b ++ [y] = b2 := ⟨_, rfl⟩
            have c0 : W5.drew.cell? ⟨z, 1, none⟩ = some (.slice A b.length c) := HTd.box.cell
            have f1 := HTd.box.fr 1
            obtain ⟨y0, y1, y2, y3, y4⟩ := HYd.five
            refine wp_region_noPanic ?_
            refine wp_region_until 12 (fun w' => w'.cell? ⟨z, 1, none⟩ = some (.slice A b.length c) ∧ w'.cell? ⟨z3, 0, none⟩ = some (.int .i64 y.s) ∧ w'.cell? ⟨z3, 1, none⟩ = some (.int .i64 y.f) ∧ w'.cell? ⟨z3, 2, none⟩ = some (.int .u64 y.p.1) ∧ w'.cell? ⟨z3, 3, none⟩ = some (.int .u64 y.p.2) ∧ w'.cell? ⟨z3, 4, none⟩ = some (.int .u64 y.t)) (by kernel_rfl) ?_ (fun hHeld => ?_)
            · exact ⟨c0, y0, y1, y2, y3, y4⟩
            refine wpAnyU_take 0 ?_ (by simp only [List.getElem?_toArray, List.getElem?_cons_succ, List.getElem?_cons_zero]; rfl) (by kernel_rfl) (by kernel_rfl) (by kernel_rfl) (by kernel_rfl) (by kernel_rfl) (by kernel_rfl) (fun _ _ _ h => h) (Or.inl ⟨by rfl, ?_⟩) (by assumption) ?_
            rotate_left
            · intro w hSw
              (try dsimp only at hSw)
              go_simp
              (try with_reducible rfl)
            simp only [Act.put, List.setIfInBounds_toArray, List.set_cons_zero, List.set_cons_succ]
            refine wpAnyU_take 1 ?_ (by simp only [List.getElem?_toArray, List.getElem?_cons_succ, List.getElem?_cons_zero]; rfl) (by kernel_rfl) (by kernel_rfl) (by kernel_rfl) (by kernel_rfl) (by kernel_rfl) (by kernel_rfl) (fun _ _ _ h => h) (Or.inl ⟨by rfl, ?_⟩) (by assumption) ?_
            rotate_left
            · intro w hSw
              (try dsimp only at hSw)
              go_simp
              (try with_reducible rfl)
            simp only [Act.put, List.setIfInBounds_toArray, List.set_cons_zero, List.set_cons_succ]
            refine wpAnyU_take 2 ?_ (by simp only [List.getElem?_toArray, List.getElem?_cons_succ, List.getElem?_cons_zero]; rfl) (by kernel_rfl) (by kernel_rfl) (by kernel_rfl) (by kernel_rfl) (by kernel_rfl) (by kernel_rfl) (fun _ _ _ h => h) (Or.inl ⟨by rfl, ?_⟩) (by assumption) ?_
            rotate_left
            · intro w hSw
              (try dsimp only at hSw)
              go_simp
              (try with_reducible rfl)
            simp only [Act.put, List.setIfInBounds_toArray, List.set_cons_zero, List.set_cons_succ]
            refine wpAnyU_take 3 ?_ (by simp only [List.getElem?_toArray, List.getElem?_cons_succ, List.getElem?_cons_zero]; rfl) (by kernel_rfl) (by kernel_rfl) (by kernel_rfl) (by kernel_rfl) (by kernel_rfl) (by kernel_rfl) (fun _ _ _ h => h) (Or.inl ⟨by rfl, ?_⟩) (by assumption) ?_
            rotate_left
            · intro w hSw
              (try dsimp only at hSw)
              go_simp
              (try with_reducible rfl)
            simp only [Act.put, List.setIfInBounds_toArray, List.set_cons_zero, List.set_cons_succ]
            refine wpAnyU_take 4 ?_ (by simp only [List.getElem?_toArray, List.getElem?_cons_succ, List.getElem?_cons_zero]; rfl) (by kernel_rfl) (by kernel_rfl) (by kernel_rfl) (by kernel_rfl) (by kernel_rfl) (by kernel_rfl) (fun _ _ _ h => h) (Or.inl ⟨by rfl, ?_⟩) (by assumption) ?_
            rotate_left
            · intro w hSw
              (try dsimp only at hSw)
              go_simp
              (try with_reducible rfl)
            simp only [Act.put, List.setIfInBounds_toArray, List.set_cons_zero, List.set_cons_succ]
            refine wpAnyU_take 5 ?_ (by simp only [List.getElem?_toArray, List.getElem?_cons_succ, List.getElem?_cons_zero]; rfl) (by kernel_rfl) (by kernel_rfl) (by kernel_rfl) (by kernel_rfl) (by kernel_rfl) (by kernel_rfl) (fun _ _ _ h => h) (Or.inl ⟨by rfl, ?_⟩) (by assumption) ?_
            rotate_left
            · intro w hSw
              (try dsimp only at hSw)
              go_simp
              (try with_reducible rfl)
            simp only [Act.put, List.setIfInBounds_toArray, List.set_cons_zero, List.set_cons_succ]
            refine wpAnyU_take 6 ?_ (by simp only [List.getElem?_toArray, List.getElem?_cons_succ, List.getElem?_cons_zero]; rfl) (by kernel_rfl) (by kernel_rfl) (by kernel_rfl) (by kernel_rfl) (by kernel_rfl) (by kernel_rfl) (fun _ _ _ h => h) (Or.inl ⟨by rfl, ?_⟩) (by assumption) ?_
            rotate_left
            · intro w hSw
              (try dsimp only at hSw)
              go_simp
              (try with_reducible rfl)
            simp only [Act.put, List.setIfInBounds_toArray, List.set_cons_zero, List.set_cons_succ]
            refine wpAnyU_one 7 (by kernel_rfl) (by simp only [List.getElem?_toArray, List.getElem?_cons_succ, List.getElem?_cons_zero]; rfl) (fun K hK => ?_)
            go_simp
            refine hK.out _ _ ?_ (fun hHeld2 => ?_)
            · exact ⟨HTa.box.cell, HYa.at0, HYa.at1, HYa.at2, HYa.at3, HYa.at4⟩
            clear hK K hHeld
            have hHeld := hHeld2
            clear hHeld2
            try simp only [Act.put, List.setIfInBounds_toArray, List.set_cons_zero, List.set_cons_succ]
            refine wpAnyU_one 8 (by kernel_rfl) (by simp only [List.getElem?_toArray, List.getElem?_cons_succ, List.getElem?_cons_zero]; rfl) (fun K hK => ?_)
            refine step_bgrow2 _ (by rfl) (.tmp 70) (.tmp 72) (by rfl) W b _ (by rfl) HTa.wb _ _ 1 1 [y] (by rfl) rfl (blocks_one_at (HasCells.new _ _ _ _ rfl)) hol ?_; intro A2 c2 w' hx' g' lo'; rw [hb2] at hx' lo' ⊢; have HYg := has_grown HYa g' (fun e => HYn.out z3 (Or.inr (Or.inr (Or.inr (Or.inl (slice_own e.symm))))) rfl)
            refine hK.out _ _ ?_ (fun hHeld2 => ?_)
            · exact ⟨(HTa.box.grown g' (own_apart HTa.wb.1 HTa.box (by decide))).cell, HYg.at0, HYg.at1, HYg.at2, HYg.at3, HYg.at4⟩
            clear hK K hHeld
            have hHeld := hHeld2
            clear hHeld2
            try simp only [Act.put, List.setIfInBounds_toArray, List.set_cons_zero, List.set_cons_succ]
            refine wpAnyU_one 9 (by kernel_rfl) (by simp only [List.getElem?_toArray, List.getElem?_cons_succ, List.getElem?_cons_zero]; rfl) (fun K hK => ?_)
            go_simp
            refine hK.out _ _ ?_ (fun hHeld2 => ?_)
            · exact ⟨(HTa.box.grown g' (own_apart HTa.wb.1 HTa.box (by decide))).cell, HYg.at0, HYg.at1, HYg.at2, HYg.at3, HYg.at4⟩
            clear hK K hHeld
            have hHeld := hHeld2
            clear hHeld2
            try simp only [Act.put, List.setIfInBounds_toArray, List.set_cons_zero, List.set_cons_succ]
            refine wpAnyU_one 10 (by kernel_rfl) (by simp only [List.getElem?_toArray, List.getElem?_cons_succ, List.getElem?_cons_zero]; rfl) (fun K hK => ?_)
            go_simp
            refine hK.out _ _ ?_ (fun hHeld2 => ?_)
            · exact ⟨(HTa.box.grown g' (own_apart HTa.wb.1 HTa.box (by decide))).cell, HYg.at0, HYg.at1, HYg.at2, HYg.at3, HYg.at4⟩
            clear hK K hHeld
            have hHeld := hHeld2
            clear hHeld2
            try simp only [Act.put, List.setIfInBounds_toArray, List.set_cons_zero, List.set_cons_succ]
            refine wpAnyU_one 11 (by kernel_rfl) (by simp only [List.getElem?_toArray, List.getElem?_cons_succ, List.getElem?_cons_zero]; rfl) (fun K hK => ?_)
            go_simp
            refine hK.out _ _ ?_ (fun hHeld2 => ?_)
            · exact ⟨(HTa.box.grown g' (own_apart HTa.wb.1 HTa.box (by decide))).cell, HYg.at0, HYg.at1, HYg.at2, HYg.at3, HYg.at4⟩
            clear hK K hHeld
            have hHeld := hHeld2
            clear hHeld2
            try simp only [Act.put, List.setIfInBounds_toArray, List.set_cons_zero, List.set_cons_succ]
            refine wpAnyU_last (by kernel_rfl) (by simp only [List.getElem?_toArray, List.getElem?_cons_succ, List.getElem?_cons_zero]; rfl) (by kernel_rfl) (by kernel_rfl) (fun K hK => ?_)
            have fd := (HTa.box.grown g' (own_apart HTa.wb.1 HTa.box (by decide))).fr 1
            have d0' : w'.cell? ⟨z, 1, none⟩ = some (.slice A b.length c) := (HTa.box.grown g' (own_apart HTa.wb.1 HTa.box (by decide))).cell
            go_simp
            refine hK.out _ _ ?_
            clear hK K hHeld
            refine NoPanic.normal ?_
            have HT3 := Lib.hid (HTa.putB hx' g')
            have HO3 := Lib.hid (((Off.of_kept KA.out : Off (talS z M C A B) w _).same (off_grown g' fun x hx => Or.inr (Or.inr (Or.inr (Or.inl (slice_own hx)))))).same (off_set w' (Or.inl rfl) 1 (.slice A2 b2.length c2)))
            have HSub := Lib.hid (sub_lies (z := z) (M := M) (C := C) (B := B) KA.out.size_le lo')
            have hI3 := has_grown HIa g' (fun e => HIn.out z5 (Or.inr (Or.inr (Or.inr (Or.inl (slice_own e.symm))))) rfl)
            have HI3 := Lib.hid (hI3.off (S := talS z M C A B) (fun q => HIn.out z5 q rfl) (off_set w' (Or.inl rfl) 1 (.slice A2 b2.length c2)))
            have HY3 := Lib.hid (HYg.off (S := talS z M C A B) (fun q => HYn.out z3 q rfl) (off_set w' (Or.inl rfl) 1 (.slice A2 b2.length c2)))
            clear hI3 HYg HTa HYa HIa HTd HYd HId c0 f1 y0 y1 y2 y3 y4 fd d0' hx' g' lo'
            generalize w'.setCell ⟨z, 1, none⟩ (.slice A2 b2.length c2) = W6 at *
            obtain ⟨t0, t1, t2, t3, t4, t5, tz⟩ := HT3.out.cells
            obtain ⟨y0, y1, y2, y3, y4⟩ := HY3.out.five
            have yz := HY3.out.1
            obtain ⟨i0, i1⟩ := HI3.out.two
            have iz := HI3.out.1
            go_wp2_with fail
            clear t0 t1 t2 t3 t4 t5 tz y0 y1 y2 y3 y4 yz i0 i1 iz
            have kd := (Kept.refl W6).drew
            have HT4 := HT3.out.kept kd
            have HO4 := HO3.out.kept kd
            obtain ⟨W7, hrun0, hM4, g4⟩ := HT4.sm.update (t := 61) Try.underlying61 (by unfold maxLen; omega) HWn.out (y := y.s) trivial
            have hrun : (Instr.mapUpdate 61 (.map (some M)) (.agg #[.int .u64 nm.1, .int .u64 nm.2]) (.int .i64 y.s)).run Try.prog W6.drew = .ok () W7 := hrun0
            have HT5 := Lib.hid (show TalAt W z up b2 v f (slotsF b2) (standsB b2) v A2 c2 B d M (n + 1) C m W7 from by
              refine HT4.putM (hM4.congr (fun x _ => ?_) (fun x _ => ?_)) g4
              · rw [← hb2, slotsF_snoc (HPn.out trivial), ← HEq.out]; rfl
              · rw [← hb2, standsB_snoc, ← HEq.out]; rfl)
            have HO5 := Lib.hid (HO4.same (off_grown g4 fun x hx => by injection hx with hx; exact Or.inr (Or.inl hx.symm)))
            obtain ⟨y0, y1, y2, y3, y4⟩ := HY3.out.kept kd |>.five
            obtain ⟨i0, i1⟩ := HI3.out.kept kd |>.two
            have m3 : W6.drew.cell? ⟨z, 3, none⟩ = some (.map (some M)) := HT4.box.cell
            clear hrun0 hM4 g4 HT4 HO4 kd HT3 HO3 HI3 HY3
            refine wp_region_noPanic ?_
            refine wp_region_until 7 (fun w' => w'.cell? ⟨z, 3, none⟩ = some (.map (some M)) ∧ w'.cell? ⟨z5, 0, none⟩ = some (.int .u64 nm.1) ∧ w'.cell? ⟨z5, 1, none⟩ = some (.int .u64 nm.2) ∧ w'.cell? ⟨z3, 0, none⟩ = some (.int .i64 y.s)) (by kernel_rfl) ?_ (fun hHeld => ?_)
            · exact ⟨m3, i0, i1, y0⟩
            refine wpAnyU_take 0 ?_ (by simp only [List.getElem?_toArray, List.getElem?_cons_succ, List.getElem?_cons_zero]; rfl) (by kernel_rfl) (by kernel_rfl) (by kernel_rfl) (by kernel_rfl) (by kernel_rfl) (by kernel_rfl) (fun _ _ _ h => h) (Or.inl ⟨by rfl, ?_⟩) (by assumption) ?_
            rotate_left
            · intro w hSw
              (try dsimp only at hSw)
              go_simp
              (try with_reducible rfl)
            simp only [Act.put, List.setIfInBounds_toArray, List.set_cons_zero, List.set_cons_succ]
            refine wpAnyU_take 1 ?_ (by simp only [List.getElem?_toArray, List.getElem?_cons_succ, List.getElem?_cons_zero]; rfl) (by kernel_rfl) (by kernel_rfl) (by kernel_rfl) (by kernel_rfl) (by kernel_rfl) (by kernel_rfl) (fun _ _ _ h => h) (Or.inl ⟨by rfl, ?_⟩) (by assumption) ?_
            rotate_left
            · intro w hSw
              (try dsimp only at hSw)
              go_simp
              (try with_reducible rfl)
            simp only [Act.put, List.setIfInBounds_toArray, List.set_cons_zero, List.set_cons_succ]
            refine wpAnyU_take 2 ?_ (by simp only [List.getElem?_toArray, List.getElem?_cons_succ, List.getElem?_cons_zero]; rfl) (by kernel_rfl) (by kernel_rfl) (by kernel_rfl) (by kernel_rfl) (by kernel_rfl) (by kernel_rfl) (fun _ _ _ h => h) (Or.inl ⟨by rfl, ?_⟩) (by assumption) ?_
            rotate_left
            · intro w hSw
              (try dsimp only at hSw)
              go_simp
              (try with_reducible rfl)
            simp only [Act.put, List.setIfInBounds_toArray, List.set_cons_zero, List.set_cons_succ]
            refine wpAnyU_take 3 ?_ (by simp only [List.getElem?_toArray, List.getElem?_cons_succ, List.getElem?_cons_zero]; rfl) (by kernel_rfl) (by kernel_rfl) (by kernel_rfl) (by kernel_rfl) (by kernel_rfl) (by kernel_rfl) (fun _ _ _ h => h) (Or.inl ⟨by rfl, ?_⟩) (by assumption) ?_
            rotate_left
            · intro w hSw
              (try dsimp only at hSw)
              go_simp
              (try with_reducible rfl)
            simp only [Act.put, List.setIfInBounds_toArray, List.set_cons_zero, List.set_cons_succ]
            refine wpAnyU_take 4 ?_ (by simp only [List.getElem?_toArray, List.getElem?_cons_succ, List.getElem?_cons_zero]; rfl) (by kernel_rfl) (by kernel_rfl) (by kernel_rfl) (by kernel_rfl) (by kernel_rfl) (by kernel_rfl) (fun _ _ _ h => h) (Or.inl ⟨by rfl, ?_⟩) (by assumption) ?_
            rotate_left
            · intro w hSw
              (try dsimp only at hSw)
              go_simp
              (try with_reducible rfl)
            simp only [Act.put, List.setIfInBounds_toArray, List.set_cons_zero, List.set_cons_succ]
            refine wpAnyU_take 5 ?_ (by simp only [List.getElem?_toArray, List.getElem?_cons_succ, List.getElem?_cons_zero]; rfl) (by kernel_rfl) (by kernel_rfl) (by kernel_rfl) (by kernel_rfl) (by kernel_rfl) (by kernel_rfl) (fun _ _ _ h => h) (Or.inl ⟨by rfl, ?_⟩) (by assumption) ?_
            rotate_left
            · intro w hSw
              (try dsimp only at hSw)
              go_simp
              (try with_reducible rfl)
            simp only [Act.put, List.setIfInBounds_toArray, List.set_cons_zero, List.set_cons_succ]
            refine wpAnyU_take 6 ?_ (by simp only [List.getElem?_toArray, List.getElem?_cons_succ, List.getElem?_cons_zero]; rfl) (by kernel_rfl) (by kernel_rfl) (by kernel_rfl) (by kernel_rfl) (by kernel_rfl) (by kernel_rfl) (fun _ _ _ h => h) (Or.inl ⟨by rfl, ?_⟩) (by assumption) ?_
            rotate_left
            · intro w hSw
              (try dsimp only at hSw)
              go_simp
              (try with_reducible rfl)
            simp only [Act.put, List.setIfInBounds_toArray, List.set_cons_zero, List.set_cons_succ]
            refine wpAnyU_last (by kernel_rfl) (by simp only [List.getElem?_toArray, List.getElem?_cons_succ, List.getElem?_cons_zero]; rfl) (by kernel_rfl) (by kernel_rfl) (fun K hK => ?_)

            go_simp
            refine hK.out _ _ ?_
            clear hK K hHeld
            refine NoPanic.normal ?_
            clear m3 i0 i1 y0 y1 y2 y3 y4 hrun
            go_wp2_with fail
            go_ret
            exact LvB.counts HO.out (by rw [hb2]; exact HT5.out) HO5.out HSub.out

end Go.Proofs.Ytacdiicnfoejoaa
