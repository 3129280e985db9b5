/-
  The contracts of ffg's hasMiddle, isFinal, and their closures.
-/
import Derived.Test.YthaofomhlmajbaaGreatFfgIndex
import Derived.Test.YthaofomhlmajbaaGreatFfgEpoch
import Derived.Test.YthaofomhlmajbaaGreatFfgThrough
import Derived.Test.YthaofomhlmajbaaGreatFfgUnder
namespace Go.Proofs.YthaofomhlmajbaaGreat
set_option maxRecDepth 100000
set_option linter.unusedVariables false
set_option linter.unusedSimpArgs false
set_option linter.unusedSimpArgs false
set_option linter.unusedVariables false
open Go.ChangeShapes Go.WideShapes Go.ChangeAt Go.RowKit

theorem w64_wrap (a : Int) : W64 (IntKind.i64.wrap a) := by rw [IntKind.wrap_i64]; exact ⟨by omega, by omega⟩
def midQ (g : Id2 → Option (Nat × Nat)) (one t m : Ck) : Bool := underR g one.r m.r && underR g m.r t.r
def midsQ (g : Id2 → Option (Nat × Nat)) (R : List Ck) (one t : Ck) : Bool := (epoF R (IntKind.i64.wrap (one.e + 1))).any (midQ g one t)
def finQ (g : Id2 → Option (Nat × Nat)) (R : List Ck) (one t : Ck) : Bool := if IntKind.i64.wrap (t.e - one.e) = 1 then true else if IntKind.i64.wrap (t.e - one.e) = 2 then midsQ g R one t else false
def isFinQ (g : Id2 → Option (Nat × Nat)) (R : List Ck) (A : List (Ck × Ck)) (one : Ck) : Bool := sameK one firstK || (goesOf A one).any (finQ g R one)
/-- What Final asks about each checkpoint. -/
structure Stand (bo mo : Nat) (g : Id2 → Option (Nat × Nat)) (bg mg Bg : Nat) (A : List (Ck × Ck)) (bj mj Bj : Nat) (R : List Ck) (W : World) : Prop where
  on : ReachM bo mo g W
  goes : Group ckKey ckRow Bg (goesOf A) bg mg W
  just : Group epKey ckRow Bj (epoF R) bj mj W
  wa : ∀ x ∈ A, WfWay x
  wr : ∀ x ∈ R, WfK x
  la : A.length ≤ 10000
  lr : R.length ≤ 20000
theorem Stand.kept {bo mo : Nat} {g : Id2 → Option (Nat × Nat)} {bg mg Bg : Nat} {A : List (Ck × Ck)} {bj mj Bj : Nat} {R : List Ck} {W W' : World} (h : Stand bo mo g bg mg Bg A bj mj Bj R W) (k : Kept W W') : Stand bo mo g bg mg Bg A bj mj Bj R W' :=
  ⟨h.on.kept k, h.goes.kept k, h.just.kept k, h.wa, h.wr, h.la, h.lr⟩
theorem epoF_wf {R : List Ck} (h : ∀ x ∈ R, WfK x) (e : Int) : ∀ x ∈ epoF R e, WfK x := fun x hx => h x (List.mem_filter.1 hx).1
theorem goesOf_wf {A : List (Ck × Ck)} (h : ∀ x ∈ A, WfWay x) (s : Ck) : ∀ x ∈ goesOf A s, WfK x := fun x hx => (h _ (mem_goesOf.1 hx)).2

set_option maxRecDepth 100000 in
set_option maxHeartbeats 3200000 in
theorem mid1_any (bo mo : Nat) (g : Id2 → Option (Nat × Nat)) (bg bj zs z1 z2 : Nat) (one t m : Ck) (h1 : WfK one) (h2 : WfK t) (hm : WfK m) (W : World) (hS : HasCells W zs [.map (some bo), .map (some bg), .map (some bj)]) (hO : HasCells W z1 [.int .i64 one.e, .int .u64 one.r.1, .int .u64 one.r.2]) (hT : HasCells W z2 [.int .i64 t.e, .int .u64 t.r.1, .int .u64 t.r.2]) (hM : ReachM bo mo g W) :
    Calls Tryz.prog 63 #[.agg #[.int .i64 m.e, .int .u64 m.r.1, .int .u64 m.r.2], .pointer (some ⟨zs, 0, none⟩), .pointer (some ⟨z1, 0, none⟩), .pointer (some ⟨z2, 0, none⟩)] W fun e w' => e = .returned (.bool (midQ g one t m)) ∧ Kept W w' := by
  have K0 := Lib.hid ((Kept.refl W).alloc (.cells #[.int .i64 m.e, .int .u64 m.r.1, .int .u64 m.r.2] 38))
  have HS := Lib.hid (hS.kept K0.out)
  have HO := Lib.hid (hO.kept K0.out)
  have HT := Lib.hid (hT.kept K0.out)
  have HX := Lib.hid (HasCells.new W #[.int .i64 m.e, .int .u64 m.r.1, .int .u64 m.r.2] 38 W.heap.size rfl)
  have HU1 := Lib.hid (fun w' (kk : Kept (W.alloc (.cells #[.int .i64 m.e, .int .u64 m.r.1, .int .u64 m.r.2] 38)) w') => reachUnder_any bo mo g one.r m.r h1.2 hm.2 w' (hM.kept (K0.out.trans kk)))
  have HU2 := Lib.hid (fun w' (kk : Kept (W.alloc (.cells #[.int .i64 m.e, .int .u64 m.r.1, .int .u64 m.r.2] 38)) w') => reachUnder_any bo mo g m.r t.r hm.2 h2.2 w' (hM.kept (K0.out.trans kk)))
  have HQ : Hid (midQ g one t m = (underR g one.r m.r && underR g m.r t.r)) := Lib.hid rfl
  clear hS hO hT hM h1 h2 hm
  generalize midQ g one t m = res at *
  go_enter Tryz.func63, Tryz.ntmps63
  obtain ⟨s0, s1, s2⟩ := HS.out.three
  obtain ⟨o0, o1, o2⟩ := HO.out.three
  obtain ⟨t0, t1, t2⟩ := HT.out.three
  have lz := HS.out.1
  have l1 := HO.out.1
  have l2 := HT.out.1
  go_wp2_with fail
  clear s0 s1 s2 o0 o1 o2 t0 t1 t2
  generalize W.alloc (.cells #[.int .i64 m.e, .int .u64 m.r.1, .int .u64 m.r.2] 38) = W0 at *
  generalize W.heap.size = y at *
  refine (HU1.out W0 (Kept.refl _)).mono ?_
  rintro e V1 ⟨rfl, k1⟩
  have K1 := Lib.hid k1
  clear k1
  generalize underR g one.r m.r = u1 at *
  cases u1 with
  | false =>
    have HE := Lib.hid (show res = false by rw [HQ.out]; rfl)
    go_wp2_with fail
    go_ret
    exact ⟨by rw [HE.out]; rfl, K0.out.trans K1.out⟩
  | true =>
    have HE := Lib.hid (show res = underR g m.r t.r by rw [HQ.out]; rfl)
    obtain ⟨s0, s1, s2⟩ := (HS.out.kept K1.out).three
    obtain ⟨t0, t1, t2⟩ := (HT.out.kept K1.out).three
    obtain ⟨x0, x1, x2⟩ := (HX.out.kept K1.out).three
    have lx := (HX.out.kept K1.out).1
    go_wp2_with fail
    clear s0 s1 s2 t0 t1 t2 x0 x1 x2
    refine (HU2.out V1 K1.out).mono ?_
    rintro e V2 ⟨rfl, k2⟩
    have K2 := Lib.hid (K1.out.trans k2)
    clear k2
    generalize underR g m.r t.r = u2 at *
    go_wp2_with fail
    go_ret
    exact ⟨by rw [HE.out]; first | rfl | (simp; done), K0.out.trans K2.out⟩
set_option maxRecDepth 100000 in
set_option maxHeartbeats 3200000 in
theorem hasMiddle_any (bo mo : Nat) (g : Id2 → Option (Nat × Nat)) (bg mg Bg : Nat) (A : List (Ck × Ck)) (bj mj Bj : Nat) (R : List Ck) (one t : Ck) (h1 : WfK one) (h2 : WfK t) (W : World) (hS : Stand bo mo g bg mg Bg A bj mj Bj R W) :
    Calls Tryz.prog 42 #[.agg #[.map (some bo), .map (some bg), .map (some bj)], .agg #[.int .i64 one.e, .int .u64 one.r.1, .int .u64 one.r.2], .agg #[.int .i64 t.e, .int .u64 t.r.1, .int .u64 t.r.2]] W fun e w' => e = .returned (.bool (midsQ g R one t)) ∧ Kept W w' := by
  have K0 := Lib.hid ((((Kept.refl W).alloc (.cells #[.map (some bo), .map (some bg), .map (some bj)] 57)).alloc (.cells #[.int .i64 one.e, .int .u64 one.r.1, .int .u64 one.r.2] 38)).alloc (.cells #[.int .i64 t.e, .int .u64 t.r.1, .int .u64 t.r.2] 38))
  have HS := Lib.hid (((HasCells.new W #[.map (some bo), .map (some bg), .map (some bj)] 57 W.heap.size rfl).alloc (.cells #[.int .i64 one.e, .int .u64 one.r.1, .int .u64 one.r.2] 38)).alloc (.cells #[.int .i64 t.e, .int .u64 t.r.1, .int .u64 t.r.2] 38))
  have HO := Lib.hid ((HasCells.new (W.alloc (.cells #[.map (some bo), .map (some bg), .map (some bj)] 57)) #[.int .i64 one.e, .int .u64 one.r.1, .int .u64 one.r.2] 38 (W.heap.size + 1) (by simp)).alloc (.cells #[.int .i64 t.e, .int .u64 t.r.1, .int .u64 t.r.2] 38))
  have HT := Lib.hid (HasCells.new ((W.alloc (.cells #[.map (some bo), .map (some bg), .map (some bj)] 57)).alloc (.cells #[.int .i64 one.e, .int .u64 one.r.1, .int .u64 one.r.2] 38)) #[.int .i64 t.e, .int .u64 t.r.1, .int .u64 t.r.2] 38 (W.heap.size + 1 + 1) (by simp))
  have HSt := Lib.hid (hS.kept K0.out)
  have H1 := Lib.hid h1
  have H2 := Lib.hid h2
  clear hS h1 h2
  go_enter Tryz.func42, Tryz.ntmps42
  generalize hWg : ((W.alloc (.cells #[.map (some bo), .map (some bg), .map (some bj)] 57)).alloc (.cells #[.int .i64 one.e, .int .u64 one.r.1, .int .u64 one.r.2] 38)).alloc (.cells #[.int .i64 t.e, .int .u64 t.r.1, .int .u64 t.r.2] 38) = W0 at *
  have hl0 := fun V (k : Kept W0 V) => (HSt.out.just.kept k).look (t := 54) Tryz.underlying54 (x := IntKind.i64.wrap (one.e + 1)) (w64_wrap _)
  obtain ⟨E, el, hlk, hce⟩ := hl0 W0 (Kept.refl _)
  have hlk' : (Instr.lookup 54 (.map (some bj)) (.int .i64 (IntKind.i64.wrap (one.e + 1))) false).run Tryz.prog W0 = .ok (.slice E (epoF R (IntKind.i64.wrap (one.e + 1))).length el) W0 := hlk
  have HCe := Lib.hid (show CellsAt W0 W0.heap.size E (cksCells (epoF R (IntKind.i64.wrap (one.e + 1)))) from hce)
  have HQ : Hid (midsQ g R one t = (epoF R (IntKind.i64.wrap (one.e + 1))).any (midQ g one t)) := Lib.hid rfl
  have HWf := Lib.hid (epoF_wf HSt.out.wr (IntKind.i64.wrap (one.e + 1)))
  have HLn := Lib.hid (show (epoF R (IntKind.i64.wrap (one.e + 1))).length ≤ 1000000 from by have := epoF_length R (IntKind.i64.wrap (one.e + 1)); have := HSt.out.lr; omega)
  clear hl0 hlk hce
  generalize midsQ g R one t = res at *
  generalize epoF R (IntKind.i64.wrap (one.e + 1)) = P at *
  generalize hwe : IntKind.i64.wrap (one.e + 1) = we at *
  subst hWg
  go_wp2_with fail
  generalize ((W.alloc (.cells #[.map (some bo), .map (some bg), .map (some bj)] 57)).alloc (.cells #[.int .i64 one.e, .int .u64 one.r.1, .int .u64 one.r.2] 38)).alloc (.cells #[.int .i64 t.e, .int .u64 t.r.1, .int .u64 t.r.2] 38) = W0 at *
  generalize W.heap.size + 1 + 1 = z2 at *
  generalize W.heap.size + 1 = z1 at *
  generalize W.heap.size = zs at *
  refine (containsK_any E el P HLn.out HWf.out 63 #[.pointer (some ⟨zs, 0, none⟩), .pointer (some ⟨z1, 0, none⟩), .pointer (some ⟨z2, 0, none⟩)] (midQ g one t) (fun V => Kept W0 V) (fun V V' h k => h.trans k)
    (fun V k x hx => mid1_any bo mo g bg bj zs z1 z2 one t x H1.out H2.out hx V (HS.out.kept k) (HO.out.kept k) (HT.out.kept k) (HSt.out.on.kept k)) W0 (Kept.refl _) HCe.out (enters_of Tryz.func63 (by kernel_rfl) rfl)).mono ?_
  rintro e V1 ⟨rfl, k1⟩
  have K1 := Lib.hid k1
  clear k1
  go_wp2_with fail
  go_ret
  exact ⟨by rw [HQ.out]; rfl, K0.out.trans K1.out⟩
set_option maxRecDepth 100000 in
set_option maxHeartbeats 3200000 in
theorem fin1_any (bo mo : Nat) (g : Id2 → Option (Nat × Nat)) (bg mg Bg : Nat) (A : List (Ck × Ck)) (bj mj Bj : Nat) (R : List Ck) (z1 zs : Nat) (one t : Ck) (h1 : WfK one) (h2 : WfK t) (W : World) (hO : HasCells W z1 [.int .i64 one.e, .int .u64 one.r.1, .int .u64 one.r.2]) (hS : HasCells W zs [.map (some bo), .map (some bg), .map (some bj)]) (hSt : Stand bo mo g bg mg Bg A bj mj Bj R W) :
    Calls Tryz.prog 41 #[.agg #[.int .i64 t.e, .int .u64 t.r.1, .int .u64 t.r.2], .pointer (some ⟨z1, 0, none⟩), .pointer (some ⟨zs, 0, none⟩)] W fun e w' => e = .returned (.bool (finQ g R one t)) ∧ Kept W w' := by
  have K0 := Lib.hid ((Kept.refl W).alloc (.cells #[.int .i64 t.e, .int .u64 t.r.1, .int .u64 t.r.2] 38))
  have HS := Lib.hid (hS.kept K0.out)
  have HO := Lib.hid (hO.kept K0.out)
  have HT := Lib.hid (HasCells.new W #[.int .i64 t.e, .int .u64 t.r.1, .int .u64 t.r.2] 38 W.heap.size rfl)
  have HSt := Lib.hid (hSt.kept K0.out)
  have HQ : Hid (finQ g R one t = if IntKind.i64.wrap (t.e - one.e) = 1 then true else if IntKind.i64.wrap (t.e - one.e) = 2 then midsQ g R one t else false) := Lib.hid rfl
  have HM := Lib.hid (hasMiddle_any bo mo g bg mg Bg A bj mj Bj R one t h1 h2 (W.alloc (.cells #[.int .i64 t.e, .int .u64 t.r.1, .int .u64 t.r.2] 38)) HSt.out)
  clear hS hO hSt h1 h2
  generalize finQ g R one t = res at *
  generalize midsQ g R one t = md at *
  go_enter Tryz.func41, Tryz.ntmps41
  obtain ⟨s0, s1, s2⟩ := HS.out.three
  obtain ⟨o0, o1, o2⟩ := HO.out.three
  have lz := HS.out.1
  have l1 := HO.out.1
  obtain ⟨d, hd⟩ : ∃ d, IntKind.i64.wrap (t.e - one.e) = d := ⟨_, rfl⟩
  have hwd : wrap64 (t.e - one.e) = d := by rw [← hd]; first | exact (IntWalk.i64_left _).symm | exact (Go.IntWalk.i64_left _).symm | (rw [IntKind.wrap_i64]; unfold wrap64; rfl)
  rw [hd] at HQ
  clear hd
  by_cases e1 : d = 1
  · have HE := Lib.hid (show res = true by rw [HQ.out, if_pos e1])
    have q1 : (d == 1) = true := by rw [e1]; rfl
    clear HQ e1
    go_wp2_with fail
    go_ret
    exact ⟨by rw [HE.out]; first | rfl | (simp; done), K0.out⟩
  · have q1 : (d == 1) = false := beq_eq_false_iff_ne.2 e1
    by_cases e2 : d = 2
    · have HE := Lib.hid (show res = md by rw [HQ.out, if_neg e1, if_pos e2])
      have q2 : (d == 2) = true := by rw [e2]; rfl
      clear HQ e1 e2
      go_wp2_with fail
      refine HM.out.mono ?_
      rintro e V1 ⟨rfl, k1⟩
      have K1 := Lib.hid k1
      clear k1 s0 s1 s2 o0 o1 o2
      go_wp2_with fail
      go_ret
      exact ⟨by rw [HE.out]; first | rfl | (simp; done), K0.out.trans K1.out⟩
    · have HE := Lib.hid (show res = false by rw [HQ.out, if_neg e1, if_neg e2])
      have q2 : (d == 2) = false := beq_eq_false_iff_ne.2 e2
      clear HQ e1 e2
      go_wp2_with fail
      go_ret
      exact ⟨by rw [HE.out]; first | rfl | (simp; done), K0.out⟩
attribute [local go_sem high] eqKZ
set_option maxRecDepth 100000 in
set_option maxHeartbeats 3200000 in
theorem isFinal_any (bo mo : Nat) (g : Id2 → Option (Nat × Nat)) (bg mg Bg : Nat) (A : List (Ck × Ck)) (bj mj Bj : Nat) (R : List Ck) (one : Ck) (h1 : WfK one) (W : World) (hSt : Stand bo mo g bg mg Bg A bj mj Bj R W) :
    Calls Tryz.prog 20 #[.agg #[.map (some bo), .map (some bg), .map (some bj)], .agg #[.int .i64 one.e, .int .u64 one.r.1, .int .u64 one.r.2]] W fun e w' => e = .returned (.bool (isFinQ g R A one)) ∧ Kept W w' := by
  have K0 := Lib.hid (((Kept.refl W).alloc (.cells #[.map (some bo), .map (some bg), .map (some bj)] 57)).alloc (.cells #[.int .i64 one.e, .int .u64 one.r.1, .int .u64 one.r.2] 38))
  have HS := Lib.hid ((HasCells.new W #[.map (some bo), .map (some bg), .map (some bj)] 57 W.heap.size rfl).alloc (.cells #[.int .i64 one.e, .int .u64 one.r.1, .int .u64 one.r.2] 38))
  have HO := Lib.hid (HasCells.new (W.alloc (.cells #[.map (some bo), .map (some bg), .map (some bj)] 57)) #[.int .i64 one.e, .int .u64 one.r.1, .int .u64 one.r.2] 38 (W.heap.size + 1) (by simp))
  have HSt := Lib.hid (hSt.kept K0.out)
  have H1 := Lib.hid h1
  clear hSt h1
  have HQ : Hid (isFinQ g R A one = (sameK one firstK || (goesOf A one).any (finQ g R one))) := Lib.hid rfl
  generalize isFinQ g R A one = res at *
  cases hsf : sameK one firstK with
  | true =>
    have HE := Lib.hid (show res = true by rw [HQ.out, hsf]; rfl)
    clear HQ
    go_enter Tryz.func20, Tryz.ntmps20
    go_wp2_with fail
    go_ret
    exact ⟨by rw [HE.out]; rfl, K0.out⟩
  | false =>
    have HE := Lib.hid (show res = (goesOf A one).any (finQ g R one) by rw [HQ.out, hsf]; rfl)
    clear HQ
    obtain ⟨E, el, hlk, hce⟩ := HSt.out.goes.look (t := 48) Tryz.underlying48 (x := one) H1.out
    have hlk' : (Instr.lookup 48 (.map (some bg)) (.agg #[.int .i64 one.e, .int .u64 one.r.1, .int .u64 one.r.2]) false).run Tryz.prog ((W.alloc (.cells #[.map (some bo), .map (some bg), .map (some bj)] 57)).alloc (.cells #[.int .i64 one.e, .int .u64 one.r.1, .int .u64 one.r.2] 38)) = .ok (.slice E (goesOf A one).length el) ((W.alloc (.cells #[.map (some bo), .map (some bg), .map (some bj)] 57)).alloc (.cells #[.int .i64 one.e, .int .u64 one.r.1, .int .u64 one.r.2] 38)) := hlk
    have HCe := Lib.hid (show CellsAt ((W.alloc (.cells #[.map (some bo), .map (some bg), .map (some bj)] 57)).alloc (.cells #[.int .i64 one.e, .int .u64 one.r.1, .int .u64 one.r.2] 38)) ((W.alloc (.cells #[.map (some bo), .map (some bg), .map (some bj)] 57)).alloc (.cells #[.int .i64 one.e, .int .u64 one.r.1, .int .u64 one.r.2] 38)).heap.size E (cksCells (goesOf A one)) from hce)
    have HWf := Lib.hid (goesOf_wf HSt.out.wa one)
    have HLn := Lib.hid (show (goesOf A one).length ≤ 1000000 from by have := goesOf_length A one; have := HSt.out.la; omega)
    clear hlk hce
    generalize goesOf A one = P at *
    go_enter Tryz.func20, Tryz.ntmps20
    go_wp2_with fail
    generalize (W.alloc (.cells #[.map (some bo), .map (some bg), .map (some bj)] 57)).alloc (.cells #[.int .i64 one.e, .int .u64 one.r.1, .int .u64 one.r.2] 38) = W0 at *
    generalize W.heap.size + 1 = z1 at *
    generalize W.heap.size = zs at *
    refine (containsK_any E el P HLn.out HWf.out 41 #[.pointer (some ⟨z1, 0, none⟩), .pointer (some ⟨zs, 0, none⟩)] (finQ g R one) (fun V => Kept W0 V) (fun V V' h k => h.trans k)
      (fun V k x hx => fin1_any bo mo g bg mg Bg A bj mj Bj R z1 zs one x H1.out hx V (HO.out.kept k) (HS.out.kept k) (HSt.out.kept k)) W0 (Kept.refl _) HCe.out (enters_of Tryz.func41 (by kernel_rfl) rfl)).mono ?_
    rintro e V1 ⟨rfl, k1⟩
    have K1 := Lib.hid k1
    clear k1
    go_wp2_with fail
    go_ret
    exact ⟨by rw [HE.out]; first | rfl | (simp; done), K0.out.trans K1.out⟩
set_option maxRecDepth 100000 in
set_option maxHeartbeats 3200000 in
theorem fn1_any (bo mo : Nat) (g : Id2 → Option (Nat × Nat)) (bg mg Bg : Nat) (A : List (Ck × Ck)) (bj mj Bj : Nat) (R : List Ck) (zs : Nat) (one : Ck) (h1 : WfK one) (W : World) (hS : HasCells W zs [.map (some bo), .map (some bg), .map (some bj)]) (hSt : Stand bo mo g bg mg Bg A bj mj Bj R W) :
    Calls Tryz.prog 19 #[.agg #[.int .i64 one.e, .int .u64 one.r.1, .int .u64 one.r.2], .pointer (some ⟨zs, 0, none⟩)] W fun e w' => e = .returned (.bool (!isFinQ g R A one)) ∧ Kept W w' := by
  have K0 := Lib.hid ((Kept.refl W).alloc (.cells #[.int .i64 one.e, .int .u64 one.r.1, .int .u64 one.r.2] 38))
  have HS := Lib.hid (hS.kept K0.out)
  have HF := Lib.hid (isFinal_any bo mo g bg mg Bg A bj mj Bj R one h1 _ (hSt.kept K0.out))
  clear hS hSt h1
  generalize isFinQ g R A one = res at *
  obtain ⟨s0, s1, s2⟩ := HS.out.three
  have lz := HS.out.1
  go_enter Tryz.func19, Tryz.ntmps19
  go_wp2_with fail
  refine HF.out.mono ?_
  rintro e V1 ⟨rfl, k1⟩
  have K1 := Lib.hid k1
  clear k1 s0 s1 s2
  go_wp2_with fail
  go_ret
  exact ⟨by first | rfl | (simp; done), K0.out.trans K1.out⟩

end Go.Proofs.YthaofomhlmajbaaGreat
