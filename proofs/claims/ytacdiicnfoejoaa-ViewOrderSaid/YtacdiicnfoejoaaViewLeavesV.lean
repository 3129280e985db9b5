/-
  The contract of the tally's call leavesVote.
-/
import Derived.BigQuiet
import Derived.Test.YtacdiicnfoejoaaViewLeavesB
namespace Go.Proofs.Ytacdiicnfoejoaa
set_option maxRecDepth 100000
set_option linter.unusedVariables false
set_option linter.unusedSimpArgs false
set_option linter.unusedSimpArgs false
set_option linter.unusedVariables false
open Go.ChangeShapes Go.WideShapes Go.ChangeAt Go.RowKit

def LvV (W : World) (z : Nat) (up : Int) (b : List Bk) (v : List Vt) (f : Bool) (A : Option Addr) (c : Nat) (B : Option Addr) (d : Nat) (M n C m : Nat) (y : Vt) (w : World) (e : Ending) (w' : World) : Prop := ∃ A' c' n', e = .returned (.bool (outG (lostV b) (pendV b up) 240 v f y).1) ∧ n' + v.length ≤ m + (outG (lostV b) (pendV b up) 240 v f y).2.1.length ∧ TalAt W z up b (outG (lostV b) (pendV b up) 240 v f y).2.1 (outG (lostV b) (pendV b up) 240 v f y).2.2 (slotsF b) (standsB b) (outG (lostV b) (pendV b up) 240 v f y).2.1 A c A' c' M n C n' w' ∧ Off (talS z M C A B) w w' ∧ ∀ x, talS z M C A A' x → talS z M C A B x ∨ w.heap.size ≤ x
theorem LvV.stay {W : World} {z : Nat} {up : Int} {b : List Bk} {v : List Vt} {f : Bool} {A : Option Addr} {c : Nat} {B : Option Addr} {d : Nat} {M n C m : Nat} {y : Vt} {w w' : World} {r : Bool} (HO : outG (lostV b) (pendV b up) 240 v f y = (r, v, f)) (hT : TalAt W z up b v f (slotsF b) (standsB b) v A c B d M n C m w') (k : Off (talS z M C A B) w w') : LvV W z up b v f A c B d M n C m y w (.returned (.bool r)) w' := by
  unfold LvV
  rw [HO]
  exact ⟨B, d, m, rfl, Nat.le_refl _, hT, k, fun x hx => Or.inl hx⟩
theorem LvV.toFull {W : World} {z : Nat} {up : Int} {b : List Bk} {v : List Vt} {f : Bool} {A : Option Addr} {c : Nat} {B : Option Addr} {d : Nat} {M n C m : Nat} {y : Vt} {w w' : World} (HO : outG (lostV b) (pendV b up) 240 v f y = (true, v, true)) (hT : TalAt W z up b v true (slotsF b) (standsB b) v A c B d M n C m w') (k : Off (talS z M C A B) w w') : LvV W z up b v f A c B d M n C m y w (.returned (.bool true)) w' := by
  unfold LvV
  rw [HO]
  exact ⟨B, d, m, rfl, Nat.le_refl _, hT, k, fun x hx => Or.inl hx⟩
theorem LvV.counts {W : World} {z : Nat} {up : Int} {b : List Bk} {v : List Vt} {f : Bool} {A : Option Addr} {c : Nat} {B : Option Addr} {d : Nat} {M n C m : Nat} {y : Vt} {w w' : World} {A2 : Option Addr} {c2 : Nat} (HO : outG (lostV b) (pendV b up) 240 v f y = (false, (v ++ [y]), f)) (hT : TalAt W z up b (v ++ [y]) f (slotsF b) (standsB b) (v ++ [y]) A c A2 c2 M n C (m + 1) w') (k : Off (talS z M C A B) w w') (h : ∀ x, talS z M C A A2 x → talS z M C A B x ∨ w.heap.size ≤ x) : LvV W z up b v f A c B d M n C m y w (.returned (.bool false)) w' := by
  unfold LvV
  rw [HO]
  exact ⟨A2, c2, _, rfl, by simp only [List.length_append, List.length_singleton]; omega, hT, k, h⟩
set_option maxRecDepth 100000 in
set_option maxHeartbeats 3200000 in
theorem leavesV_any (W : World) (z : Nat) (up : Int) (b : List Bk) (v : List Vt) (f : Bool) (A : Option Addr) (c : Nat) (B : Option Addr) (d : Nat) (M n C m : Nat) (y : Vt) (w : World) (hwy : WfV y) (h1 : 1 ≤ y.s) (hb1 : ∀ x ∈ b, 1 ≤ x.s) (h240 : v.length ≤ 240) (hm : m ≤ 300) (hT : TalAt W z up b v f (slotsF b) (standsB b) v A c B d M n C m w) :
    Calls Try.prog 52 #[.pointer (some ⟨z, 0, none⟩), .agg #[.int .i64 y.f, .int .i64 y.s, .int .u64 y.p.1, .int .u64 y.p.2]] w (LvV W z up b v f A c B d M n C m y w) := by
  have K2 := Lib.hid ((Kept.refl w).alloc (.cells #[.int .i64 y.f, .int .i64 y.s, .int .u64 y.p.1, .int .u64 y.p.2] 45))
  have HT2 := Lib.hid (hT.kept K2.out)
  have HY2 := Lib.hid (HasCells.new w #[.int .i64 y.f, .int .i64 y.s, .int .u64 y.p.1, .int .u64 y.p.2] 45 w.heap.size rfl)
  have HL := Lib.hid (lostV_is (B := b) (w := v) h1)
  have HP := Lib.hid (pendV_is (B := b) (w := v) (v := y) hb1 up)
  have HYn := Lib.hid (show ∀ x, talS z M C A B x → x ≠ w.heap.size from fun x hx e => by have := hT.lt x hx; omega)
  have HPw := Lib.hid (show WfI y.p from ⟨hwy.2.2.1, hwy.2.2.2⟩)
  have HWy := Lib.hid hwy
  clear hT hwy hb1
  go_enter Try.func52, Try.ntmps52
  go_wp2_with fail
  generalize w.alloc (.cells #[.int .i64 y.f, .int .i64 y.s, .int .u64 y.p.1, .int .u64 y.p.2] 45) = W2 at *
  generalize w.heap.size = z3 at *
  obtain ⟨g1, hg1⟩ : ∃ g1, g1 = decide (y ∈ v) := ⟨_, rfl⟩
  obtain ⟨s2, hs2⟩ : ∃ s2, s2 = slotsF b y.p := ⟨_, rfl⟩
  obtain ⟨g2, hg2⟩ : ∃ g2, g2 = standsB b y.p := ⟨_, rfl⟩
  have HLc := Lib.hid (show ∀ V, Kept W2 V → (Instr.lookup 62 (.map (some C)) (.agg #[.int .i64 y.f, .int .i64 y.s, .int .u64 y.p.1, .int .u64 y.p.2]) true).run Try.prog V = .ok (.tuple #[.agg #[], .bool (g1)]) V from fun V kV => by rw [hg1]; exact SetK.look (K := vtKey) (t := 62) Try.underlying62 ((HT2.out.cm).kept kV) HWy.out)
  have HLp := Lib.hid (show ∀ V, Kept W2 V → ∀ j, (Instr.lookup 61 (.map (some M)) (.agg #[.int .u64 y.p.1, .int .u64 y.p.2]) true).run Try.prog (V.drewN j) = .ok (.tuple #[.int .i64 (s2), .bool (g2)]) (V.drewN j) from fun V kV j => by rw [hs2, hg2]; exact OwnH.look_ok (K := idKey) (V := intV) (t := 61) Try.underlying61 ((HT2.out.sm).kept (kV.drewN j)) HPw.out)
  rw [← hg1, ← hg2, ← hs2] at HL
  rw [← hg2] at HP
  clear hg1 hg2 hs2
  have KW := Lib.hid (Kept.refl W2)
  obtain ⟨t0, t1, t2, t3, t4, t5, tz⟩ := HT2.out.cells
  obtain ⟨y0, y1, y2, y3⟩ := HY2.out.four
  have yz := HY2.out.1
  go_wp2_with fail
  refine wp_region_noPanic ?_
  refine wp_region_held_drew (S := (fun w' => w'.cell? ⟨z, 4, none⟩ = some (.map (some C)) ∧ w'.cell? ⟨z3, 0, none⟩ = some (.int .i64 y.f) ∧ w'.cell? ⟨z3, 1, none⟩ = some (.int .i64 y.s) ∧ w'.cell? ⟨z3, 2, none⟩ = some (.int .u64 y.p.1) ∧ w'.cell? ⟨z3, 3, none⟩ = some (.int .u64 y.p.2) ∧ (Instr.lookup 62 (.map (some C)) (.agg #[.int .i64 y.f, .int .i64 y.s, .int .u64 y.p.1, .int .u64 y.p.2]) true).run Try.prog w' = .ok (.tuple #[.agg #[], .bool (g1)]) w' ∧ Kept W2 w')) (by kernel_rfl) ?_ (fun hHeld => ?_)
  · exact ⟨(((Kept.refl W2).drew).cell (p := ⟨z, 4, none⟩) tz).trans t4, (((Kept.refl W2).drew).cell (p := ⟨z3, 0, none⟩) yz).trans y0, (((Kept.refl W2).drew).cell (p := ⟨z3, 1, none⟩) yz).trans y1, (((Kept.refl W2).drew).cell (p := ⟨z3, 2, none⟩) yz).trans y2, (((Kept.refl W2).drew).cell (p := ⟨z3, 3, none⟩) yz).trans y3, HLc.out _ ((Kept.refl W2).drew), ((Kept.refl W2).drew)⟩
  generalize W2.drew = V0 at *
  refine wpAnyH_take (i := 0) (v := ?_) (by simp only [List.getElem?_toArray, List.getElem?_cons_succ, List.getElem?_cons_zero]; rfl) (by kernel_rfl) (by kernel_rfl) (by kernel_rfl) (fun _ _ _ h => h) (Or.inl ⟨by rfl, ?_⟩) (by assumption) ?_
  rotate_left
  · intro w hSw
    (try dsimp only at hSw)
    go_simp
    (try with_reducible rfl)
  simp only [Act.put, List.setIfInBounds_toArray, List.set_cons_zero, List.set_cons_succ]
  refine wpAnyH_take (i := 1) (v := ?_) (by simp only [List.getElem?_toArray, List.getElem?_cons_succ, List.getElem?_cons_zero]; rfl) (by kernel_rfl) (by kernel_rfl) (by kernel_rfl) (fun _ _ _ h => h) (Or.inl ⟨by rfl, ?_⟩) (by assumption) ?_
  rotate_left
  · intro w hSw
    (try dsimp only at hSw)
    go_simp
    (try with_reducible rfl)
  simp only [Act.put, List.setIfInBounds_toArray, List.set_cons_zero, List.set_cons_succ]
  refine wpAnyH_take (i := 2) (v := ?_) (by simp only [List.getElem?_toArray, List.getElem?_cons_succ, List.getElem?_cons_zero]; rfl) (by kernel_rfl) (by kernel_rfl) (by kernel_rfl) (fun _ _ _ h => h) (Or.inl ⟨by rfl, ?_⟩) (by assumption) ?_
  rotate_left
  · intro w hSw
    (try dsimp only at hSw)
    go_simp
    (try with_reducible rfl)
  simp only [Act.put, List.setIfInBounds_toArray, List.set_cons_zero, List.set_cons_succ]
  refine wpAnyH_take (i := 3) (v := ?_) (by simp only [List.getElem?_toArray, List.getElem?_cons_succ, List.getElem?_cons_zero]; rfl) (by kernel_rfl) (by kernel_rfl) (by kernel_rfl) (fun _ _ _ h => h) (Or.inl ⟨by rfl, ?_⟩) (by assumption) ?_
  rotate_left
  · intro w hSw
    (try dsimp only at hSw)
    go_simp
    (try with_reducible rfl)
  simp only [Act.put, List.setIfInBounds_toArray, List.set_cons_zero, List.set_cons_succ]
  refine wpAnyH_take (i := 4) (v := ?_) (by simp only [List.getElem?_toArray, List.getElem?_cons_succ, List.getElem?_cons_zero]; rfl) (by kernel_rfl) (by kernel_rfl) (by kernel_rfl) (fun _ _ _ h => h) (Or.inl ⟨by rfl, ?_⟩) (by assumption) ?_
  rotate_left
  · intro w hSw
    (try dsimp only at hSw)
    go_simp
    (try with_reducible rfl)
  simp only [Act.put, List.setIfInBounds_toArray, List.set_cons_zero, List.set_cons_succ]
  refine wpAnyH_take (i := 5) (v := ?_) (by simp only [List.getElem?_toArray, List.getElem?_cons_succ, List.getElem?_cons_zero]; rfl) (by kernel_rfl) (by kernel_rfl) (by kernel_rfl) (fun _ _ _ h => h) (Or.inl ⟨by rfl, ?_⟩) (by assumption) ?_
  rotate_left
  · intro w hSw
    (try dsimp only at hSw)
    go_simp
    (try with_reducible rfl)
  simp only [Act.put, List.setIfInBounds_toArray, List.set_cons_zero, List.set_cons_succ]
  refine wpAnyH_take (i := 6) (v := ?_) (by simp only [List.getElem?_toArray, List.getElem?_cons_succ, List.getElem?_cons_zero]; rfl) (by kernel_rfl) (by kernel_rfl) (by kernel_rfl) (fun _ _ _ h => h) (Or.inl ⟨by rfl, ?_⟩) (by assumption) ?_
  rotate_left
  · intro w hSw
    (try dsimp only at hSw)
    go_simp
    (try with_reducible rfl)
  simp only [Act.put, List.setIfInBounds_toArray, List.set_cons_zero, List.set_cons_succ]
  refine wpAnyH_take (i := 7) (v := ?_) (by simp only [List.getElem?_toArray, List.getElem?_cons_succ, List.getElem?_cons_zero]; rfl) (by kernel_rfl) (by kernel_rfl) (by kernel_rfl) (fun _ _ _ h => h) (Or.inl ⟨by rfl, ?_⟩) (by assumption) ?_
  rotate_left
  · intro w hSw
    (try dsimp only at hSw)
    go_simp
    (try with_reducible rfl)
  simp only [Act.put, List.setIfInBounds_toArray, List.set_cons_zero, List.set_cons_succ]
  refine wpAnyH_take (i := 8) (v := ?_) (by simp only [List.getElem?_toArray, List.getElem?_cons_succ, List.getElem?_cons_zero]; rfl) (by kernel_rfl) (by kernel_rfl) (by kernel_rfl) (fun _ _ _ h => h) (Or.inl ⟨by rfl, ?_⟩) (by assumption) ?_
  rotate_left
  · intro w hSw
    (try dsimp only at hSw)
    go_simp
    (try with_reducible rfl)
  simp only [Act.put, List.setIfInBounds_toArray, List.set_cons_zero, List.set_cons_succ]
  refine wpAnyH_ready (rs := [9]) (by kernel_rfl) (by simp) ?_
  refine AllReadyH.cons (by simp only [List.getElem?_toArray, List.getElem?_cons_succ, List.getElem?_cons_zero]; rfl) (fun K hK => ?_) (AllReadyH.nil)
  have kT := (hHeld.2.2.2.2.2.2).alloc (.cells #[] 89)
  go_simp
  generalize V0.alloc (.cells #[] 89) = V1 at *
  refine hK.out _ _ ?_ (fun hHeld2 => ?_)
  · exact ⟨(kT.cell (p := ⟨z, 4, none⟩) tz).trans t4, (kT.cell (p := ⟨z3, 0, none⟩) yz).trans y0, (kT.cell (p := ⟨z3, 1, none⟩) yz).trans y1, (kT.cell (p := ⟨z3, 2, none⟩) yz).trans y2, (kT.cell (p := ⟨z3, 3, none⟩) yz).trans y3, HLc.out _ kT, kT⟩
  clear hK K hHeld
  have hHeld := hHeld2
  clear hHeld2
  try simp only [Act.put, List.setIfInBounds_toArray, List.set_cons_zero, List.set_cons_succ]
  refine wpAnyH_ready (rs := [10]) (by kernel_rfl) (by simp) ?_
  refine AllReadyH.cons (by simp only [List.getElem?_toArray, List.getElem?_cons_succ, List.getElem?_cons_zero]; rfl) (fun K hK => ?_) (AllReadyH.nil)
  have kT := hHeld.2.2.2.2.2.2
  go_simp
  refine hK.out _ _ ?_ (fun hHeld2 => ?_)
  · exact ⟨(kT.cell (p := ⟨z, 4, none⟩) tz).trans t4, (kT.cell (p := ⟨z3, 0, none⟩) yz).trans y0, (kT.cell (p := ⟨z3, 1, none⟩) yz).trans y1, (kT.cell (p := ⟨z3, 2, none⟩) yz).trans y2, (kT.cell (p := ⟨z3, 3, none⟩) yz).trans y3, HLc.out _ kT, kT⟩
  clear hK K hHeld
  have hHeld := hHeld2
  clear hHeld2
  try simp only [Act.put, List.setIfInBounds_toArray, List.set_cons_zero, List.set_cons_succ]
  refine wpAnyH_take (i := 11) (v := ?_) (by simp only [List.getElem?_toArray, List.getElem?_cons_succ, List.getElem?_cons_zero]; rfl) (by kernel_rfl) (by kernel_rfl) (by kernel_rfl) (fun _ _ _ h => h) (Or.inl ⟨by rfl, ?_⟩) (by assumption) ?_
  rotate_left
  · intro w hSw
    (try dsimp only at hSw)
    go_simp
    (try with_reducible rfl)
  simp only [Act.put, List.setIfInBounds_toArray, List.set_cons_zero, List.set_cons_succ]
  refine wpAnyH_done (by kernel_rfl) ?_ _
  refine NoPanic.normal ?_
  have kq := hHeld.2.2.2.2.2.2
  clear hHeld
  clear t0 t1 t2 t3 t4 t5 tz y0 y1 y2 y3 yz
  replace HT2 := Lib.hid (HT2.out.kept kq)
  replace HY2 := Lib.hid (HY2.out.kept kq)
  replace K2 := Lib.hid (K2.out.trans kq)
  replace KW := Lib.hid (KW.out.trans kq)
  clear kq
  go_wp2_with fail
  have hlp := HLp.out V1 KW.out
  obtain ⟨t0, t1, t2, t3, t4, t5, tz⟩ := HT2.out.cells
  obtain ⟨y0, y1, y2, y3⟩ := HY2.out.four
  have yz := HY2.out.1
  go_quiet (fail)
  have kq := (Kept.refl V1).drewN nq
  replace HT2 := Lib.hid (HT2.out.kept kq)
  replace HY2 := Lib.hid (HY2.out.kept kq)
  replace K2 := Lib.hid (K2.out.trans kq)
  replace KW := Lib.hid (KW.out.trans kq)
  clear kq t0 t1 t2 t3 t4 t5 tz y0 y1 y2 y3 yz
  generalize V1.drewN nq = W4 at *
  clear nq
  clear hlp
  obtain ⟨t0, t1, t2, t3, t4, t5, tz⟩ := HT2.out.cells
  obtain ⟨y0, y1, y2, y3⟩ := HY2.out.four
  have yz := HY2.out.1
  cases g1 with
  | true =>
    have HO := Lib.hid (outG_lost (pend := pendV b up) (cap := 240) (f := f) (show lostV b v y = true by rw [HL.out]; simp))
    go_wp2_with fail
    go_ret
    exact LvV.stay HO.out HT2.out (Off.of_kept K2.out)
  | false =>
    cases g2 with
    | false =>
      have HLo := Lib.hid (show lostV b v y = false by rw [HL.out]; simp)
      have HO := Lib.hid (outG_pend (cap := 240) (f := f) HLo.out (show pendV b up v y = true by rw [HP.out]; simp))
      go_wp2_with fail
      go_quiet (fail)
      have kq := (Kept.refl W4).drewN nq
      replace HT2 := Lib.hid (HT2.out.kept kq)
      replace HY2 := Lib.hid (HY2.out.kept kq)
      replace K2 := Lib.hid (K2.out.trans kq)
      replace KW := Lib.hid (KW.out.trans kq)
      clear kq t0 t1 t2 t3 t4 t5 tz y0 y1 y2 y3 yz
      generalize W4.drewN nq = W5 at *
      clear nq
      go_wp2_with fail
      go_ret
      exact LvV.stay HO.out HT2.out (Off.of_kept K2.out)
    | true =>
      by_cases hle : y.s < s2
      · have HO := Lib.hid (outG_lost (pend := pendV b up) (cap := 240) (f := f) (show lostV b v y = true by rw [HL.out, decide_eq_true hle]; simp))
        have gle : decide (y.s < s2) = true := decide_eq_true hle
        clear hle
        go_wp2_with fail
        go_ret
        exact LvV.stay HO.out HT2.out (Off.of_kept K2.out)
      · have gle : decide (y.s < s2) = false := decide_eq_false hle
        have HLo := Lib.hid (show lostV b v y = false by rw [HL.out, gle]; simp)
        clear hle
        by_cases hlt : up < y.s
        · have glt : decide (up < y.s) = true := decide_eq_true hlt
          have HO := Lib.hid (outG_pend (cap := 240) (f := f) HLo.out (show pendV b up v y = true by rw [HP.out, glt]; simp))
          clear hlt
          go_wp2_with fail
          go_quiet (fail)
          have kq := (Kept.refl W4).drewN nq
          replace HT2 := Lib.hid (HT2.out.kept kq)
          replace HY2 := Lib.hid (HY2.out.kept kq)
          replace K2 := Lib.hid (K2.out.trans kq)
          replace KW := Lib.hid (KW.out.trans kq)
          clear kq t0 t1 t2 t3 t4 t5 tz y0 y1 y2 y3 yz
          generalize W4.drewN nq = W5 at *
          clear nq
          go_wp2_with fail
          go_ret
          exact LvV.stay HO.out HT2.out (Off.of_kept K2.out)
        · have glt : decide (up < y.s) = false := decide_eq_false hlt
          have HPe := Lib.hid (show pendV b up v y = false by rw [HP.out, glt]; simp)
          clear hlt
          go_wp2_with fail
          go_quiet (fail)
          have kq := (Kept.refl W4).drewN nq
          replace HT2 := Lib.hid (HT2.out.kept kq)
          replace HY2 := Lib.hid (HY2.out.kept kq)
          replace K2 := Lib.hid (K2.out.trans kq)
          replace KW := Lib.hid (KW.out.trans kq)
          clear kq t0 t1 t2 t3 t4 t5 tz y0 y1 y2 y3 yz
          generalize W4.drewN nq = W5 at *
          clear nq
          clear gle glt
          obtain ⟨t0, t1, t2, t3, t4, t5, tz⟩ := HT2.out.cells
          obtain ⟨y0, y1, y2, y3⟩ := HY2.out.four
          have yz := HY2.out.1
          by_cases hll : v.length = 240
          · have HO := Lib.hid (outG_full (f := f) HLo.out HPe.out (cap := 240) (by omega))
            have g6 : decide (v.length = 240) = true := decide_eq_true hll
            have f5 := HT2.out.box.fr 5
            go_wp2_with fail
            go_ret
            exact LvV.toFull HO.out HT2.out.putF ((Off.of_kept K2.out).same (off_set _ (Or.inl rfl) 5 _))
          · have h240b : v.length < 240 := by omega
            have HO := Lib.hid (outG_counts (f := f) HLo.out HPe.out h240b)
            have g6 : decide (v.length = 240) = false := decide_eq_false hll
            clear hll
            go_wp2_with fail
            clear g6 t0 t1 t2 t3 t4 t5 tz y0 y1 y2 y3 yz
            have kd := (Kept.refl W5).drew
            have HTd := HT2.out.kept kd
            have HYd := HY2.out.kept kd
            have KD := Lib.hid (K2.out.trans kd)
            clear HT2 HY2 K2 KW kd
            have HTa := HTd.kept ((Kept.refl W5.drew).alloc (.cells #[.int .i64 y.f, .int .i64 y.s, .int .u64 y.p.1, .int .u64 y.p.2] 45))
            have HYa := HYd.kept ((Kept.refl W5.drew).alloc (.cells #[.int .i64 y.f, .int .i64 y.s, .int .u64 y.p.1, .int .u64 y.p.2] 45))
            have KA := Lib.hid (KD.out.alloc (.cells #[.int .i64 y.f, .int .i64 y.s, .int .u64 y.p.1, .int .u64 y.p.2] 45))
            have hol : v.length + 1 ≤ 1000000 := by omega
            obtain ⟨b2, hb2⟩ : ∃ b2, v ++ [y] = b2 := ⟨_, rfl⟩
            have c0 : W5.drew.cell? ⟨z, 2, none⟩ = some (.slice B v.length d) := HTd.box.cell
            have f1 := HTd.box.fr 2
            obtain ⟨y0, y1, y2, y3⟩ := HYd.four
            refine wp_region_noPanic ?_
            refine wp_region_until 12 (fun w' => w'.cell? ⟨z, 2, none⟩ = some (.slice B v.length d) ∧ w'.cell? ⟨z3, 0, none⟩ = some (.int .i64 y.f) ∧ w'.cell? ⟨z3, 1, none⟩ = some (.int .i64 y.s) ∧ w'.cell? ⟨z3, 2, none⟩ = some (.int .u64 y.p.1) ∧ w'.cell? ⟨z3, 3, none⟩ = some (.int .u64 y.p.2)) (by kernel_rfl) ?_ (fun hHeld => ?_)
            · exact ⟨c0, y0, y1, y2, y3⟩
            refine wpAnyU_take 0 ?_ (by simp only [List.getElem?_toArray, List.getElem?_cons_succ, List.getElem?_cons_zero]; rfl) (by kernel_rfl) (by kernel_rfl) (by kernel_rfl) (by kernel_rfl) (by kernel_rfl) (by kernel_rfl) (fun _ _ _ h => h) (Or.inl ⟨by rfl, ?_⟩) (by assumption) ?_
            rotate_left
            · intro w hSw
              (try dsimp only at hSw)
              go_simp
              (try with_reducible rfl)
            simp only [Act.put, List.setIfInBounds_toArray, List.set_cons_zero, List.set_cons_succ]
            refine wpAnyU_take 1 ?_ (by simp only [List.getElem?_toArray, List.getElem?_cons_succ, List.getElem?_cons_zero]; rfl) (by kernel_rfl) (by kernel_rfl) (by kernel_rfl) (by kernel_rfl) (by kernel_rfl) (by kernel_rfl) (fun _ _ _ h => h) (Or.inl ⟨by rfl, ?_⟩) (by assumption) ?_
            rotate_left
            · intro w hSw
              (try dsimp only at hSw)
              go_simp
              (try with_reducible rfl)
            simp only [Act.put, List.setIfInBounds_toArray, List.set_cons_zero, List.set_cons_succ]
            refine wpAnyU_take 2 ?_ (by simp only [List.getElem?_toArray, List.getElem?_cons_succ, List.getElem?_cons_zero]; rfl) (by kernel_rfl) (by kernel_rfl) (by kernel_rfl) (by kernel_rfl) (by kernel_rfl) (by kernel_rfl) (fun _ _ _ h => h) (Or.inl ⟨by rfl, ?_⟩) (by assumption) ?_
            rotate_left
            · intro w hSw
              (try dsimp only at hSw)
              go_simp
              (try with_reducible rfl)
            simp only [Act.put, List.setIfInBounds_toArray, List.set_cons_zero, List.set_cons_succ]
            refine wpAnyU_take 3 ?_ (by simp only [List.getElem?_toArray, List.getElem?_cons_succ, List.getElem?_cons_zero]; rfl) (by kernel_rfl) (by kernel_rfl) (by kernel_rfl) (by kernel_rfl) (by kernel_rfl) (by kernel_rfl) (fun _ _ _ h => h) (Or.inl ⟨by rfl, ?_⟩) (by assumption) ?_
            rotate_left
            · intro w hSw
              (try dsimp only at hSw)
              go_simp
              (try with_reducible rfl)
            simp only [Act.put, List.setIfInBounds_toArray, List.set_cons_zero, List.set_cons_succ]
            refine wpAnyU_take 4 ?_ (by simp only [List.getElem?_toArray, List.getElem?_cons_succ, List.getElem?_cons_zero]; rfl) (by kernel_rfl) (by kernel_rfl) (by kernel_rfl) (by kernel_rfl) (by kernel_rfl) (by kernel_rfl) (fun _ _ _ h => h) (Or.inl ⟨by rfl, ?_⟩) (by assumption) ?_
            rotate_left
            · intro w hSw
              (try dsimp only at hSw)
              go_simp
              (try with_reducible rfl)
            simp only [Act.put, List.setIfInBounds_toArray, List.set_cons_zero, List.set_cons_succ]
            refine wpAnyU_take 5 ?_ (by simp only [List.getElem?_toArray, List.getElem?_cons_succ, List.getElem?_cons_zero]; rfl) (by kernel_rfl) (by kernel_rfl) (by kernel_rfl) (by kernel_rfl) (by kernel_rfl) (by kernel_rfl) (fun _ _ _ h => h) (Or.inl ⟨by rfl, ?_⟩) (by assumption) ?_
            rotate_left
            · intro w hSw
              (try dsimp only at hSw)
              go_simp
              (try with_reducible rfl)
            simp only [Act.put, List.setIfInBounds_toArray, List.set_cons_zero, List.set_cons_succ]
            refine wpAnyU_take 6 ?_ (by simp only [List.getElem?_toArray, List.getElem?_cons_succ, List.getElem?_cons_zero]; rfl) (by kernel_rfl) (by kernel_rfl) (by kernel_rfl) (by kernel_rfl) (by kernel_rfl) (by kernel_rfl) (fun _ _ _ h => h) (Or.inl ⟨by rfl, ?_⟩) (by assumption) ?_
            rotate_left
            · intro w hSw
              (try dsimp only at hSw)
              go_simp
              (try with_reducible rfl)
            simp only [Act.put, List.setIfInBounds_toArray, List.set_cons_zero, List.set_cons_succ]
            refine wpAnyU_one 7 (by kernel_rfl) (by simp only [List.getElem?_toArray, List.getElem?_cons_succ, List.getElem?_cons_zero]; rfl) (fun K hK => ?_)
            go_simp
            refine hK.out _ _ ?_ (fun hHeld2 => ?_)
            · exact ⟨HTa.box.cell, HYa.at0, HYa.at1, HYa.at2, HYa.at3⟩
            clear hK K hHeld
            have hHeld := hHeld2
            clear hHeld2
            try simp only [Act.put, List.setIfInBounds_toArray, List.set_cons_zero, List.set_cons_succ]
            refine wpAnyU_one 8 (by kernel_rfl) (by simp only [List.getElem?_toArray, List.getElem?_cons_succ, List.getElem?_cons_zero]; rfl) (fun K hK => ?_)
            refine step_vgrow2 _ (by rfl) (.tmp 67) (.tmp 69) (by rfl) W v _ (by rfl) HTa.wv _ _ 1 1 [y] (by rfl) rfl (votes_one_at (HasCells.new _ _ _ _ rfl)) hol ?_; intro A2 c2 w' hx' g' lo'; rw [hb2] at hx' lo' ⊢; have HYg := has_grown HYa g' (fun e => HYn.out z3 (Or.inr (Or.inr (Or.inr (Or.inr (slice_own e.symm))))) rfl)
            refine hK.out _ _ ?_ (fun hHeld2 => ?_)
            · exact ⟨(HTa.box.grown g' (own_apart HTa.wv.1 HTa.box (by decide))).cell, HYg.at0, HYg.at1, HYg.at2, HYg.at3⟩
            clear hK K hHeld
            have hHeld := hHeld2
            clear hHeld2
            try simp only [Act.put, List.setIfInBounds_toArray, List.set_cons_zero, List.set_cons_succ]
            refine wpAnyU_one 9 (by kernel_rfl) (by simp only [List.getElem?_toArray, List.getElem?_cons_succ, List.getElem?_cons_zero]; rfl) (fun K hK => ?_)
            go_simp
            refine hK.out _ _ ?_ (fun hHeld2 => ?_)
            · exact ⟨(HTa.box.grown g' (own_apart HTa.wv.1 HTa.box (by decide))).cell, HYg.at0, HYg.at1, HYg.at2, HYg.at3⟩
            clear hK K hHeld
            have hHeld := hHeld2
            clear hHeld2
            try simp only [Act.put, List.setIfInBounds_toArray, List.set_cons_zero, List.set_cons_succ]
            refine wpAnyU_one 10 (by kernel_rfl) (by simp only [List.getElem?_toArray, List.getElem?_cons_succ, List.getElem?_cons_zero]; rfl) (fun K hK => ?_)
            go_simp
            refine hK.out _ _ ?_ (fun hHeld2 => ?_)
            · exact ⟨(HTa.box.grown g' (own_apart HTa.wv.1 HTa.box (by decide))).cell, HYg.at0, HYg.at1, HYg.at2, HYg.at3⟩
            clear hK K hHeld
            have hHeld := hHeld2
            clear hHeld2
            try simp only [Act.put, List.setIfInBounds_toArray, List.set_cons_zero, List.set_cons_succ]
            refine wpAnyU_one 11 (by kernel_rfl) (by simp only [List.getElem?_toArray, List.getElem?_cons_succ, List.getElem?_cons_zero]; rfl) (fun K hK => ?_)
            go_simp
            refine hK.out _ _ ?_ (fun hHeld2 => ?_)
            · exact ⟨(HTa.box.grown g' (own_apart HTa.wv.1 HTa.box (by decide))).cell, HYg.at0, HYg.at1, HYg.at2, HYg.at3⟩
            clear hK K hHeld
            have hHeld := hHeld2
            clear hHeld2
            try simp only [Act.put, List.setIfInBounds_toArray, List.set_cons_zero, List.set_cons_succ]
            refine wpAnyU_last (by kernel_rfl) (by simp only [List.getElem?_toArray, List.getElem?_cons_succ, List.getElem?_cons_zero]; rfl) (by kernel_rfl) (by kernel_rfl) (fun K hK => ?_)
            have fd := (HTa.box.grown g' (own_apart HTa.wv.1 HTa.box (by decide))).fr 2
            have d0' : w'.cell? ⟨z, 2, none⟩ = some (.slice B v.length d) := (HTa.box.grown g' (own_apart HTa.wv.1 HTa.box (by decide))).cell
            go_simp
            refine hK.out _ _ ?_
            clear hK K hHeld
            refine NoPanic.normal ?_
            have HT3 := Lib.hid (HTa.putV hx' g')
            have HO3 := Lib.hid (((Off.of_kept KA.out : Off (talS z M C A B) w _).same (off_grown g' fun x hx => Or.inr (Or.inr (Or.inr (Or.inr (slice_own hx)))))).same (off_set w' (Or.inl rfl) 2 (.slice A2 b2.length c2)))
            have HSub := Lib.hid (sub_liesV (z := z) (M := M) (C := C) (A := A) KA.out.size_le lo')
            have HY3 := Lib.hid (HYg.off (S := talS z M C A B) (fun q => HYn.out z3 q rfl) (off_set w' (Or.inl rfl) 2 (.slice A2 b2.length c2)))
            clear HYg HTa HYa HTd HYd c0 f1 y0 y1 y2 y3 fd d0' hx' g' lo'
            generalize w'.setCell ⟨z, 2, none⟩ (.slice A2 b2.length c2) = W6 at *
            obtain ⟨t0, t1, t2, t3, t4, t5, tz⟩ := HT3.out.cells
            obtain ⟨y0, y1, y2, y3⟩ := HY3.out.four
            have yz := HY3.out.1
            go_wp2_with fail
            clear t0 t1 t2 t3 t4 t5 tz y0 y1 y2 y3 yz
            have kd := (Kept.refl W6).drew
            have HT4 := HT3.out.kept kd
            have HO4 := HO3.out.kept kd
            obtain ⟨W7, hrun0, hM4, g4⟩ := HT4.cm.put (t := 62) Try.underlying62 (by unfold maxLen; omega) HWy.out
            have hrun : (Instr.mapUpdate 62 (.map (some C)) (.agg #[.int .i64 y.f, .int .i64 y.s, .int .u64 y.p.1, .int .u64 y.p.2]) (.agg #[])).run Try.prog W6.drew = .ok () W7 := hrun0
            have HT5 := Lib.hid (show TalAt W z up b b2 f (slotsF b) (standsB b) b2 A c A2 c2 M n C (m + 1) W7 from by rw [← hb2] at HT4 ⊢; exact HT4.putC hM4 g4)
            have HO5 := Lib.hid (HO4.same (off_grown g4 fun x hx => by injection hx with hx; exact Or.inr (Or.inr (Or.inl hx.symm))))
            obtain ⟨y0, y1, y2, y3⟩ := HY3.out.kept kd |>.four
            have m3 : W6.drew.cell? ⟨z, 4, none⟩ = some (.map (some C)) := HT4.box.cell
            clear hrun0 hM4 g4 HT4 HO4 kd HT3 HO3 HY3
            refine wp_region_noPanic ?_
            refine wp_region_until 6 (fun w' => w'.cell? ⟨z, 4, none⟩ = some (.map (some C)) ∧ w'.cell? ⟨z3, 0, none⟩ = some (.int .i64 y.f) ∧ w'.cell? ⟨z3, 1, none⟩ = some (.int .i64 y.s) ∧ w'.cell? ⟨z3, 2, none⟩ = some (.int .u64 y.p.1) ∧ w'.cell? ⟨z3, 3, none⟩ = some (.int .u64 y.p.2)) (by kernel_rfl) ?_ (fun hHeld => ?_)
            · exact ⟨m3, y0, y1, y2, y3⟩
            refine wpAnyU_take 0 ?_ (by simp only [List.getElem?_toArray, List.getElem?_cons_succ, List.getElem?_cons_zero]; rfl) (by kernel_rfl) (by kernel_rfl) (by kernel_rfl) (by kernel_rfl) (by kernel_rfl) (by kernel_rfl) (fun _ _ _ h => h) (Or.inl ⟨by rfl, ?_⟩) (by assumption) ?_
            rotate_left
            · intro w hSw
              (try dsimp only at hSw)
              go_simp
              (try with_reducible rfl)
            simp only [Act.put, List.setIfInBounds_toArray, List.set_cons_zero, List.set_cons_succ]
            refine wpAnyU_take 1 ?_ (by simp only [List.getElem?_toArray, List.getElem?_cons_succ, List.getElem?_cons_zero]; rfl) (by kernel_rfl) (by kernel_rfl) (by kernel_rfl) (by kernel_rfl) (by kernel_rfl) (by kernel_rfl) (fun _ _ _ h => h) (Or.inl ⟨by rfl, ?_⟩) (by assumption) ?_
            rotate_left
            · intro w hSw
              (try dsimp only at hSw)
              go_simp
              (try with_reducible rfl)
            simp only [Act.put, List.setIfInBounds_toArray, List.set_cons_zero, List.set_cons_succ]
            refine wpAnyU_take 2 ?_ (by simp only [List.getElem?_toArray, List.getElem?_cons_succ, List.getElem?_cons_zero]; rfl) (by kernel_rfl) (by kernel_rfl) (by kernel_rfl) (by kernel_rfl) (by kernel_rfl) (by kernel_rfl) (fun _ _ _ h => h) (Or.inl ⟨by rfl, ?_⟩) (by assumption) ?_
            rotate_left
            · intro w hSw
              (try dsimp only at hSw)
              go_simp
              (try with_reducible rfl)
            simp only [Act.put, List.setIfInBounds_toArray, List.set_cons_zero, List.set_cons_succ]
            refine wpAnyU_take 3 ?_ (by simp only [List.getElem?_toArray, List.getElem?_cons_succ, List.getElem?_cons_zero]; rfl) (by kernel_rfl) (by kernel_rfl) (by kernel_rfl) (by kernel_rfl) (by kernel_rfl) (by kernel_rfl) (fun _ _ _ h => h) (Or.inl ⟨by rfl, ?_⟩) (by assumption) ?_
            rotate_left
            · intro w hSw
              (try dsimp only at hSw)
              go_simp
              (try with_reducible rfl)
            simp only [Act.put, List.setIfInBounds_toArray, List.set_cons_zero, List.set_cons_succ]
            refine wpAnyU_take 4 ?_ (by simp only [List.getElem?_toArray, List.getElem?_cons_succ, List.getElem?_cons_zero]; rfl) (by kernel_rfl) (by kernel_rfl) (by kernel_rfl) (by kernel_rfl) (by kernel_rfl) (by kernel_rfl) (fun _ _ _ h => h) (Or.inl ⟨by rfl, ?_⟩) (by assumption) ?_
            rotate_left
            · intro w hSw
              (try dsimp only at hSw)
              go_simp
              (try with_reducible rfl)
            simp only [Act.put, List.setIfInBounds_toArray, List.set_cons_zero, List.set_cons_succ]
            refine wpAnyU_take 5 ?_ (by simp only [List.getElem?_toArray, List.getElem?_cons_succ, List.getElem?_cons_zero]; rfl) (by kernel_rfl) (by kernel_rfl) (by kernel_rfl) (by kernel_rfl) (by kernel_rfl) (by kernel_rfl) (fun _ _ _ h => h) (Or.inl ⟨by rfl, ?_⟩) (by assumption) ?_
            rotate_left
            · intro w hSw
              (try dsimp only at hSw)
              go_simp
              (try with_reducible rfl)
            simp only [Act.put, List.setIfInBounds_toArray, List.set_cons_zero, List.set_cons_succ]
            refine wpAnyU_last (by kernel_rfl) (by simp only [List.getElem?_toArray, List.getElem?_cons_succ, List.getElem?_cons_zero]; rfl) (by kernel_rfl) (by kernel_rfl) (fun K hK => ?_)

            go_simp
            refine hK.out _ _ ?_
            clear hK K hHeld
            refine NoPanic.normal ?_
            clear m3 y0 y1 y2 y3 hrun
            go_wp2_with fail
            go_ret
            exact LvV.counts HO.out (by rw [hb2]; exact HT5.out) HO5.out HSub.out

end Go.Proofs.Ytacdiicnfoejoaa
