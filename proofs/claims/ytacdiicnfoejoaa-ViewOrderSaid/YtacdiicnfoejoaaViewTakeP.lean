/-
  The contract of package view's call Take.
-/
import Derived.Deep.Cut
import Derived.Test.YtacdiicnfoejoaaViewLoadP
import Derived.Test.YtacdiicnfoejoaaViewJoinP
namespace Go.Proofs.Ytacdiicnfoejoaa
set_option maxRecDepth 100000
set_option linter.unusedVariables false
set_option linter.unusedSimpArgs false
set_option linter.unusedSimpArgs false
set_option linter.unusedVariables false
open Go.ChangeShapes Go.WideShapes Go.ChangeAt Go.RowKit

theorem passL_len {α : Type} {lost pend : List α → α → Bool} {cap : Nat} (w : List α) (full : Bool) (l : List α) : (passG lost pend cap w full l).left.length ≤ l.length := by
  have h := pass_count (lost := lost) (pend := pend) (cap := cap) w full l
  have h1 : w.length ≤ (passG lost pend cap w full l).w.length := by
    cases q : (passG lost pend cap w full l).any with
    | false => rw [h.2.1 q]; exact Nat.le_refl _
    | true => exact Nat.le_of_lt (h.2.2 q)
  omega
/-- What is so of what Take has come to, and is left so by a round. -/
structure TkI (t : TSt) : Prop where
  ib : ∀ y ∈ t.i.b, WfB y ∧ 1 ≤ y.s ∧ nameB y ≠ zid
  iv : ∀ y ∈ t.i.v, WfV y ∧ 1 ≤ y.s
  lb : t.i.b.length ≤ 10000
  lv : t.i.v.length ≤ 10000
  b1 : ∀ x ∈ t.w.b, 1 ≤ x.s
  c60 : t.w.b.length ≤ 60
  c240 : t.w.v.length ≤ 240
theorem TkI.round {t : TSt} (up : Int) (h : TkI t) : TkI (roundT up t) where
  ib := fun y hy => h.ib y (pass_left _ _ _ y hy)
  iv := fun y hy => h.iv y (pass_left _ _ _ y hy)
  lb := Nat.le_trans (passL_len _ _ _) h.lb
  lv := Nat.le_trans (passL_len _ _ _) h.lv
  b1 := runB_one h.b1 (fun x hx => (h.ib x hx).2.1)
  c60 := pass_cap _ _ h.c60
  c240 := pass_cap _ _ h.c240
/-- How far Take has come: it goes on, and comes to T, or it is there. -/
def TkP (up : Int) (T : TSt) (n : Nat) (had : Int) (t : TSt) : Prop :=
  (had < (sizeT t : Int) ∧ (∃ N, takeN up N t = T ∧ t.i.b.length + t.i.v.length < N) ∧ t.i.b.length + t.i.v.length + 1 < n) ∨ (had = (sizeT t : Int) ∧ t = T)
theorem TkP.next {up : Int} {T : TSt} {n : Nat} {had : Int} {t : TSt} (h : TkP up T n had t) (hlt : had < (sizeT t : Int)) : ∃ n', n' < n ∧ TkP up T n' (sizeT t : Int) (roundT up t) := by
  rcases h with ⟨_, ⟨N, e, hN⟩, hn⟩ | ⟨e, _⟩
  · obtain ⟨N, rfl⟩ : ∃ M, N = M + 1 := ⟨N - 1, by omega⟩
    have hs := round_size up t
    cases q : anyT up t with
    | true =>
      have hr := round_less q
      refine ⟨t.i.b.length + t.i.v.length + 1, hn, Or.inl ⟨by have := hs.2.2 q; omega, ⟨N, ?_, by omega⟩, by omega⟩⟩
      rw [← e]; unfold takeN; rw [q]; cases N <;> rfl
    | false =>
      refine ⟨0, by omega, Or.inr ⟨?_, ?_⟩⟩
      · have h1 : ¬ sizeT t < sizeT (roundT up t) := fun h => by rw [hs.2.1 h] at q; cases q
        omega
      · rw [← e]; unfold takeN; rw [q]; simp
  · omega
theorem TkP.done {up : Int} {T : TSt} {n : Nat} {had : Int} {t : TSt} (h : TkP up T n had t) (hlt : ¬ had < (sizeT t : Int)) : t = T := by
  rcases h with ⟨h, _⟩ | ⟨_, h⟩
  · exact absurd h hlt
  · exact h
/-- What Take hands back, its rows new. -/
def TakeNew (t : TSt) (w : World) (e : Ending) (w' : World) : Prop := ∃ A c B d C a D b, e = .returned (.tuple #[.agg #[.slice A t.w.b.length c, .slice B t.w.v.length d], .agg #[.slice C t.i.b.length a, .slice D t.i.v.length b], .bool t.full]) ∧
  Bks w t.w.b (.slice A t.w.b.length c) w' ∧ Vts w t.w.v (.slice B t.w.v.length d) w' ∧ Bks w t.i.b (.slice C t.i.b.length a) w' ∧ Vts w t.i.v (.slice D t.i.v.length b) w'
theorem TakeNew.got {t : TSt} {w : World} {e : Ending} {w' : World} (h : TakeNew t w e w') : TakeGot t w e w' := by
  obtain ⟨A, c, B, d, C, a, D, b, e, h1, h2, h3, h4⟩ := h
  exact ⟨A, c, B, d, C, a, D, b, e, h1.cap, h2.cap, h3.cap, h4.cap, CellsAt.of_own h1.1, CellsAt.of_own h2.1, CellsAt.of_own h3.1, CellsAt.of_own h4.1, h1.2⟩
/-- The four rows stay as they are where the results' cells are written. -/
structure Rows4 (w : World) (b : List Bk) (v : List Vt) (ib : List Bk) (iv : List Vt) (A : Option Addr) (c : Nat) (B : Option Addr) (d : Nat) (C : Option Addr) (a : Nat) (D : Option Addr) (e : Nat) (w' : World) : Prop where
  wb : Bks w b (.slice A b.length c) w'
  wv : Vts w v (.slice B v.length d) w'
  ib : Bks w ib (.slice C ib.length a) w'
  iv : Vts w iv (.slice D iv.length e) w'
theorem Rows4.put {w w' : World} {b : List Bk} {v : List Vt} {ib : List Bk} {iv : List Vt} {A : Option Addr} {c : Nat} {B : Option Addr} {d : Nat} {C : Option Addr} {a : Nat} {D : Option Addr} {e : Nat} (h : Rows4 w b v ib iv A c B d C a D e w') {z : Nat} {x0 x1 : Value} (hz : AtB w' z #[x0, x1] 29) (hg : w.heap.size ≤ z) (u0 u1 : Value) : Rows4 w b v ib iv A c B d C a D e ((w'.setCell ⟨z, 0, none⟩ u0).setCell ⟨z, 1, none⟩ u1) :=
  ⟨bks_past_box (bks_past_box h.wb hz (by decide) hg 0 u0) (hz.set 0 u0) (by decide) hg 1 u1, vts_past_box (vts_past_box h.wv hz (by decide) hg 0 u0) (hz.set 0 u0) (by decide) hg 1 u1, bks_past_box (bks_past_box h.ib hz (by decide) hg 0 u0) (hz.set 0 u0) (by decide) hg 1 u1, vts_past_box (vts_past_box h.iv hz (by decide) hg 0 u0) (hz.set 0 u0) (by decide) hg 1 u1⟩
theorem HasCells.aside2 {w : World} {z z' : Nat} {xs : List Value} (h : HasCells w z xs) (hp : z' ≠ z) (u0 u1 : Value) : HasCells ((w.setCell ⟨z', 0, none⟩ u0).setCell ⟨z', 1, none⟩ u1) z xs :=
  ⟨by simpa using h.1, fun i y hy => by
    rw [World.cell?_setCell_other _ _ _ _ (fun q => hp (congrArg Addr.block q)), World.cell?_setCell_other _ _ _ _ (fun q => hp (congrArg Addr.block q))]
    exact h.2 i y hy⟩
theorem AtB.two {w : World} {z z' : Nat} {xs : Array Value} {t : TypeId} (h : AtB w z xs t) (hn : z' ≠ z) (u0 u1 : Value) : AtB ((w.setCell ⟨z', 0, none⟩ u0).setCell ⟨z', 1, none⟩ u1) z xs t := (h.other (p := ⟨z', 0, .none⟩) hn u0).other (p := ⟨z', 1, .none⟩) hn u1
set_option maxRecDepth 100000 in
set_option maxHeartbeats 6400000 in
theorem viewTakeN_any (kA : Option Addr) (kc : Nat) (k : Cf) (lA : Option Addr) (lc : Nat) (l : List Bk) (vA : Option Addr) (vc : Nat) (v : List Vt) (mA : Option Addr) (mc : Nat) (m : List Bk) (uA : Option Addr) (uc : Nat) (u : List Vt) (slot : Int) (w : World) (hk : k.ws.length ≤ 1000) (hsd : k.seed < 18446744073709551616) (hl : l.length ≤ 10000) (hv : v.length ≤ 10000) (hwl : WfL l) (hwv : WfVs v) (hm : m.length ≤ 10000) (hu : u.length ≤ 10000) (hwm : WfL m) (hwu : WfVs u) (hA : CellsAt w w.heap.size kA (intCells k.ws)) (hL : CellsAt w w.heap.size lA (blockCells l)) (hV : CellsAt w w.heap.size vA (votesCells v)) (hM : CellsAt w w.heap.size mA (blockCells m)) (hU : CellsAt w w.heap.size uA (votesCells u)) :
    Calls Try.prog 13 #[.agg #[.slice kA k.ws.length kc, .int .u64 k.seed, .int .i64 k.ep, .int .i64 k.nu, .int .i64 k.de], .agg #[.slice lA l.length lc, .slice vA v.length vc], .agg #[.slice mA m.length mc, .slice uA u.length uc], .int .i64 slot] w (TakeNew (takeC k ⟨l, v⟩ ⟨m, u⟩ slot) w) := by
  have ka := ((Kept.refl w).alloc (.cells #[.slice kA k.ws.length kc, .int .u64 k.seed, .int .i64 k.ep, .int .i64 k.nu, .int .i64 k.de] 25)).alloc (.cells #[.slice lA l.length lc, .slice vA v.length vc] 29) |>.alloc (.cells #[.slice mA m.length mc, .slice uA u.length uc] 29)
  have kb := (ka.alloc (.cells #[.slice none 0 0, .slice none 0 0] 29)).alloc (.cells #[.slice none 0 0, .slice none 0 0] 29)
  have K0 := Lib.hid kb
  have HA := Lib.hid (hA.kept kb)
  have HM := Lib.hid (hM.kept kb)
  have HU := Lib.hid (hU.kept kb)
  have HL := Lib.hid (hL.kept kb)
  have HV := Lib.hid (hV.kept kb)
  have HB0 := Lib.hid (((((HasCells.new w #[.slice kA k.ws.length kc, .int .u64 k.seed, .int .i64 k.ep, .int .i64 k.nu, .int .i64 k.de] 25 (w.heap.size) rfl).alloc (.cells #[.slice lA l.length lc, .slice vA v.length vc] 29)).alloc (.cells #[.slice mA m.length mc, .slice uA u.length uc] 29)).alloc (.cells #[.slice none 0 0, .slice none 0 0] 29)).alloc (.cells #[.slice none 0 0, .slice none 0 0] 29))
  have HB1 := Lib.hid ((((HasCells.new (w.alloc (.cells #[.slice kA k.ws.length kc, .int .u64 k.seed, .int .i64 k.ep, .int .i64 k.nu, .int .i64 k.de] 25)) #[.slice lA l.length lc, .slice vA v.length vc] 29 (w.heap.size + 1) (by simp)).alloc (.cells #[.slice mA m.length mc, .slice uA u.length uc] 29)).alloc (.cells #[.slice none 0 0, .slice none 0 0] 29)).alloc (.cells #[.slice none 0 0, .slice none 0 0] 29))
  have HB2 := Lib.hid (((HasCells.new ((w.alloc (.cells #[.slice kA k.ws.length kc, .int .u64 k.seed, .int .i64 k.ep, .int .i64 k.nu, .int .i64 k.de] 25)).alloc (.cells #[.slice lA l.length lc, .slice vA v.length vc] 29)) #[.slice mA m.length mc, .slice uA u.length uc] 29 (w.heap.size + 1 + 1) (by simp)).alloc (.cells #[.slice none 0 0, .slice none 0 0] 29)).alloc (.cells #[.slice none 0 0, .slice none 0 0] 29))
  have H8 := Lib.hid (show AtB (((((w.alloc (.cells #[.slice kA k.ws.length kc, .int .u64 k.seed, .int .i64 k.ep, .int .i64 k.nu, .int .i64 k.de] 25)).alloc (.cells #[.slice lA l.length lc, .slice vA v.length vc] 29)).alloc (.cells #[.slice mA m.length mc, .slice uA u.length uc] 29)).alloc (.cells #[.slice none 0 0, .slice none 0 0] 29)).alloc (.cells #[.slice none 0 0, .slice none 0 0] 29)) (w.heap.size + 1 + 1 + 1) #[.slice none 0 0, .slice none 0 0] 29 from by
    have h := AtB.new (((w.alloc (.cells #[.slice kA k.ws.length kc, .int .u64 k.seed, .int .i64 k.ep, .int .i64 k.nu, .int .i64 k.de] 25)).alloc (.cells #[.slice lA l.length lc, .slice vA v.length vc] 29)).alloc (.cells #[.slice mA m.length mc, .slice uA u.length uc] 29)) #[.slice none 0 0, .slice none 0 0] 29
    rw [show (((w.alloc (.cells #[.slice kA k.ws.length kc, .int .u64 k.seed, .int .i64 k.ep, .int .i64 k.nu, .int .i64 k.de] 25)).alloc (.cells #[.slice lA l.length lc, .slice vA v.length vc] 29)).alloc (.cells #[.slice mA m.length mc, .slice uA u.length uc] 29)).heap.size = w.heap.size + 1 + 1 + 1 by simp] at h
    exact h.kept ((Kept.refl _).alloc _))
  have H9 := Lib.hid (show AtB (((((w.alloc (.cells #[.slice kA k.ws.length kc, .int .u64 k.seed, .int .i64 k.ep, .int .i64 k.nu, .int .i64 k.de] 25)).alloc (.cells #[.slice lA l.length lc, .slice vA v.length vc] 29)).alloc (.cells #[.slice mA m.length mc, .slice uA u.length uc] 29)).alloc (.cells #[.slice none 0 0, .slice none 0 0] 29)).alloc (.cells #[.slice none 0 0, .slice none 0 0] 29)) (w.heap.size + 1 + 1 + 1 + 1) #[.slice none 0 0, .slice none 0 0] 29 from by
    have h := AtB.new ((((w.alloc (.cells #[.slice kA k.ws.length kc, .int .u64 k.seed, .int .i64 k.ep, .int .i64 k.nu, .int .i64 k.de] 25)).alloc (.cells #[.slice lA l.length lc, .slice vA v.length vc] 29)).alloc (.cells #[.slice mA m.length mc, .slice uA u.length uc] 29)).alloc (.cells #[.slice none 0 0, .slice none 0 0] 29)) #[.slice none 0 0, .slice none 0 0] 29
    rw [show ((((w.alloc (.cells #[.slice kA k.ws.length kc, .int .u64 k.seed, .int .i64 k.ep, .int .i64 k.nu, .int .i64 k.de] 25)).alloc (.cells #[.slice lA l.length lc, .slice vA v.length vc] 29)).alloc (.cells #[.slice mA m.length mc, .slice uA u.length uc] 29)).alloc (.cells #[.slice none 0 0, .slice none 0 0] 29)).heap.size = w.heap.size + 1 + 1 + 1 + 1 by simp] at h
    exact h)
  have HZ := Lib.hid (show w.heap.size + 1 + 1 + 1 ≠ w.heap.size + 1 + 1 + 1 + 1 ∧ w.heap.size ≤ w.heap.size + 1 + 1 + 1 ∧ w.heap.size ≤ w.heap.size + 1 + 1 + 1 + 1 from ⟨by omega, by omega, by omega⟩)
  have HWl := Lib.hid hwl
  have HWv := Lib.hid hwv
  have HWm := Lib.hid hwm
  have HWu := Lib.hid hwu
  clear hA hL hV hM hU ka kb hwl hwv hwm hwu
  go_enter Try.func13, Try.ntmps13
  have HN := Lib.hid (show (w.heap.size + 1 + 1 + 1 ≠ w.heap.size + 1) ∧ (w.heap.size + 1 + 1 + 1 ≠ w.heap.size + 1 + 1) ∧ (w.heap.size + 1 + 1 + 1 + 1 ≠ w.heap.size + 1) ∧ (w.heap.size + 1 + 1 + 1 + 1 ≠ w.heap.size + 1 + 1) from ⟨by omega, by omega, by omega, by omega⟩)
  go_upto_region 1 with (fail)
  generalize ((((w.alloc (.cells #[.slice kA k.ws.length kc, .int .u64 k.seed, .int .i64 k.ep, .int .i64 k.nu, .int .i64 k.de] 25)).alloc (.cells #[.slice lA l.length lc, .slice vA v.length vc] 29)).alloc (.cells #[.slice mA m.length mc, .slice uA u.length uc] 29)).alloc (.cells #[.slice none 0 0, .slice none 0 0] 29)).alloc (.cells #[.slice none 0 0, .slice none 0 0] 29) = Wm at *
  generalize w.heap.size + 1 + 1 + 1 + 1 = z9 at *
  generalize w.heap.size + 1 + 1 + 1 = z8 at *
  generalize w.heap.size + 1 + 1 = z2 at *
  generalize w.heap.size + 1 = z1 at *
  have HZ0 := Lib.hid (show ∃ q, q = w.heap.size from ⟨_, rfl⟩)
  generalize hz0 : w.heap.size = z0 at *
  have HZw := Lib.hid hz0
  clear hz0 HZ0
  obtain ⟨d0, d1, d2, d3, d4⟩ := HB0.out.five
  have dz := HB0.out.1
  obtain ⟨v0, v1⟩ := HB1.out.two
  have vz := HB1.out.1
  go_wp2_with fail
  clear d0 d1 d2 d3 d4 dz v0 v1 vz
  refine (load_any kA kc k lA lc l vA vc v Wm hk hsd hl hv HWl.out HWv.out HA.out HL.out HV.out).mono ?_
  rintro e W1 ⟨z, A, c, B, d, M, n, C, m1, rfl, hn, hm1, hT⟩
  have HZ8 := Lib.hid (show w.heap.size ≤ z8 from by have := HZw.out; have := HZ.out.2.1; omega)
  have HZ9 := Lib.hid (show w.heap.size ≤ z9 from by have := HZw.out; have := HZ.out.2.2; omega)
  cases hmay : mayW k ⟨l, v⟩ with
  | false =>
    have HE := Lib.hid (show takeC k ⟨l, v⟩ ⟨m, u⟩ slot = ⟨⟨l, v⟩, ⟨m, u⟩, false⟩ by unfold takeC; rw [hmay]; rfl)
    have K1 := Lib.hid hT.wb.2
    clear hT hn hm1 hmay
    obtain ⟨v0, v1⟩ := (HB1.out.kept K1.out).two
    have vz := (HB1.out.kept K1.out).1
    obtain ⟨u0, u1⟩ := (HB2.out.kept K1.out).two
    have uz := (HB2.out.kept K1.out).1
    go_wp2_with fail
    have h8 := H8.out.kept (K1.out.trans (Kept.refl _).drew)
    have h9 := H9.out.kept (K1.out.trans (Kept.refl _).drew)
    have k1 := K1.out.trans (Kept.refl _).drew
    have v0 : W1.drew.cell? ⟨z1, 0, none⟩ = _ := v0
    have v1 : W1.drew.cell? ⟨z1, 1, none⟩ = _ := v1
    have u0 : W1.drew.cell? ⟨z2, 0, none⟩ = _ := u0
    have u1 : W1.drew.cell? ⟨z2, 1, none⟩ = _ := u1
    have vz : z1 < W1.drew.heap.size := vz
    have uz : z2 < W1.drew.heap.size := uz
    refine wp_region_noPanic ?_
    refine wp_region_held_drew (S := (fun w' => w'.cell? ⟨z1, 0, none⟩ = some (.slice lA l.length lc) ∧ w'.cell? ⟨z1, 1, none⟩ = some (.slice vA v.length vc) ∧ w'.cell? ⟨z2, 0, none⟩ = some (.slice mA m.length mc) ∧ w'.cell? ⟨z2, 1, none⟩ = some (.slice uA u.length uc) ∧ Kept w w')) (by kernel_rfl) ?_ (fun hHeld => ?_)
    · exact ⟨v0, v1, u0, u1, K0.out.trans k1⟩
    generalize W1.drew = V0 at *
    refine wpAnyH_take (i := 0) (v := ?_) (by simp only [List.getElem?_toArray, List.getElem?_cons_succ, List.getElem?_cons_zero]; rfl) (by kernel_rfl) (by kernel_rfl) (by kernel_rfl) (fun _ _ _ h => h) (Or.inl ⟨by rfl, ?_⟩) (by assumption) ?_
    rotate_left
    · intro w hSw
      (try dsimp only at hSw)
      go_simp
      (try with_reducible rfl)
    simp only [Act.put, List.setIfInBounds_toArray, List.set_cons_zero, List.set_cons_succ]
    refine wpAnyH_take (i := 2) (v := ?_) (by simp only [List.getElem?_toArray, List.getElem?_cons_succ, List.getElem?_cons_zero]; rfl) (by kernel_rfl) (by kernel_rfl) (by kernel_rfl) (fun _ _ _ h => h) (Or.inl ⟨by rfl, ?_⟩) (by assumption) ?_
    rotate_left
    · intro w hSw
      (try dsimp only at hSw)
      go_simp
      (try with_reducible rfl)
    simp only [Act.put, List.setIfInBounds_toArray, List.set_cons_zero, List.set_cons_succ]
    refine wpAnyH_ready (rs := [1]) (by kernel_rfl) (by simp) ?_
    refine AllReadyH.cons (by simp only [List.getElem?_toArray, List.getElem?_cons_succ, List.getElem?_cons_zero]; rfl) (fun K hK => ?_) (AllReadyH.nil)
    go_simp
    go_at_call 28
    refine (copyOf_any lA lc l vA vc v V0 hl hv (HL.out.kept k1) (HV.out.kept k1)).mono ?_
    rintro e V1 ⟨A, c, B, d, rfl, hb, hv'⟩
    have kk := hb.2
    replace hb := hb.lower hHeld.2.2.2.2
    replace hv' := hv'.lower hHeld.2.2.2.2
    replace h8 := h8.kept kk
    replace h9 := h9.kept kk
    replace k1 := k1.trans kk
    have kw := hHeld.2.2.2.2.trans kk
    have kv := kk
    refine hK.out _ _ ?_ (fun hHeld2 => ?_)
    · exact ⟨(kv.cell (p := ⟨z1, 0, none⟩) vz).trans v0, (kv.cell (p := ⟨z1, 1, none⟩) vz).trans v1, (kv.cell (p := ⟨z2, 0, none⟩) uz).trans u0, (kv.cell (p := ⟨z2, 1, none⟩) uz).trans u1, kw⟩
    clear hK K hHeld
    have hHeld := hHeld2
    clear hHeld2
    try simp only [Act.put, List.setIfInBounds_toArray, List.set_cons_zero, List.set_cons_succ]
    refine wpAnyH_ready (rs := [3]) (by kernel_rfl) (by simp) ?_
    refine AllReadyH.cons (by simp only [List.getElem?_toArray, List.getElem?_cons_succ, List.getElem?_cons_zero]; rfl) (fun K hK => ?_) (AllReadyH.nil)
    go_simp
    go_at_call 28
    refine (copyOf_any mA mc m uA uc u V1 hm hu (HM.out.kept k1) (HU.out.kept k1)).mono ?_
    rintro e V2 ⟨C2, a2, D2, e2, rfl, hib, hiv⟩
    have kk := hib.2
    replace hib := hib.lower hHeld.2.2.2.2
    replace hiv := hiv.lower hHeld.2.2.2.2
    replace h8 := h8.kept kk
    replace h9 := h9.kept kk
    replace k1 := k1.trans kk
    replace hb := hb.kept kk
    replace hv' := hv'.kept kk
    replace kw := hHeld.2.2.2.2.trans kk
    replace kv := kv.trans kk
    have h4 : Rows4 w l v m u A c B d C2 a2 D2 e2 V2 := ⟨hb, hv', hib, hiv⟩
    clear hb hv' hib hiv kk
    refine hK.out _ _ ?_ (fun hHeld2 => ?_)
    · exact ⟨(kv.cell (p := ⟨z1, 0, none⟩) vz).trans v0, (kv.cell (p := ⟨z1, 1, none⟩) vz).trans v1, (kv.cell (p := ⟨z2, 0, none⟩) uz).trans u0, (kv.cell (p := ⟨z2, 1, none⟩) uz).trans u1, kw⟩
    clear hK K hHeld
    have hHeld := hHeld2
    clear hHeld2
    try simp only [Act.put, List.setIfInBounds_toArray, List.set_cons_zero, List.set_cons_succ]
    refine wpAnyH_ready (rs := [4]) (by kernel_rfl) (by simp) ?_
    refine AllReadyH.cons (by simp only [List.getElem?_toArray, List.getElem?_cons_succ, List.getElem?_cons_zero]; rfl) (fun K hK => ?_) (AllReadyH.nil)
    have c0 : V2.cell? ⟨z8, 0, none⟩ = some (.slice none 0 0) := h8.cell
    have c1 : V2.cell? ⟨z8, 1, none⟩ = some (.slice none 0 0) := h8.cell
    have f0 := h8.fr 0
    have f1 := h8.fr 1
    have lt := h8.lt
    replace h4 := h4.put h8 HZ8.out (.slice A l.length c) (.slice B v.length d)
    replace h9 := h9.two HZ.out.1 (.slice A l.length c) (.slice B v.length d)
    replace h8 := h8.set2 (.slice A l.length c) (.slice B v.length d)
    have b1 := ((HB1.out.kept k1).aside2 HN.out.1 (.slice A l.length c) (.slice B v.length d))
    have b2 := ((HB2.out.kept k1).aside2 HN.out.2.1 (.slice A l.length c) (.slice B v.length d))
    go_simp
    generalize (V2.setCell ⟨z8, 0, none⟩ (.slice A l.length c)).setCell ⟨z8, 1, none⟩ (.slice B v.length d) = V3 at *
    clear c0 c1 f0 f1 lt
    refine hK.out _ _ ?_ (fun hHeld2 => ?_)
    · exact ⟨b1.at0, b1.at1, b2.at0, b2.at1, h4.wb.2⟩
    clear hK K hHeld
    have hHeld := hHeld2
    clear hHeld2
    try simp only [Act.put, List.setIfInBounds_toArray, List.set_cons_zero, List.set_cons_succ]
    refine wpAnyH_ready (rs := [5]) (by kernel_rfl) (by simp) ?_
    refine AllReadyH.cons (by simp only [List.getElem?_toArray, List.getElem?_cons_succ, List.getElem?_cons_zero]; rfl) (fun K hK => ?_) (AllReadyH.nil)
    have c0 : V3.cell? ⟨z9, 0, none⟩ = some (.slice none 0 0) := h9.cell
    have c1 : V3.cell? ⟨z9, 1, none⟩ = some (.slice none 0 0) := h9.cell
    have f0 := h9.fr 0
    have f1 := h9.fr 1
    have lt := h9.lt
    replace h4 := h4.put h9 HZ9.out (.slice C2 m.length a2) (.slice D2 u.length e2)
    replace h8 := h8.two HZ.out.1.symm (.slice C2 m.length a2) (.slice D2 u.length e2)
    replace h9 := h9.set2 (.slice C2 m.length a2) (.slice D2 u.length e2)
    replace b1 := b1.aside2 HN.out.2.2.1 (.slice C2 m.length a2) (.slice D2 u.length e2)
    replace b2 := b2.aside2 HN.out.2.2.2 (.slice C2 m.length a2) (.slice D2 u.length e2)
    go_simp
    generalize (V3.setCell ⟨z9, 0, none⟩ (.slice C2 m.length a2)).setCell ⟨z9, 1, none⟩ (.slice D2 u.length e2) = V4 at *
    clear c0 c1 f0 f1 lt
    refine hK.out _ _ ?_ (fun hHeld2 => ?_)
    · exact ⟨b1.at0, b1.at1, b2.at0, b2.at1, h4.wb.2⟩
    clear hK K hHeld
    have hHeld := hHeld2
    clear hHeld2
    try simp only [Act.put, List.setIfInBounds_toArray, List.set_cons_zero, List.set_cons_succ]
    refine wpAnyH_take (i := 6) (v := ?_) (by simp only [List.getElem?_toArray, List.getElem?_cons_succ, List.getElem?_cons_zero]; rfl) (by kernel_rfl) (by kernel_rfl) (by kernel_rfl) (fun _ _ _ h => h) (Or.inl ⟨by rfl, ?_⟩) (by assumption) ?_
    rotate_left
    · intro w hSw
      (try dsimp only at hSw)
      go_simp
      (try with_reducible rfl)
    simp only [Act.put, List.setIfInBounds_toArray, List.set_cons_zero, List.set_cons_succ]
    refine wpAnyH_done (by kernel_rfl) ?_ _
    refine NoPanic.normal ?_
    have q30 : V4.cell? ⟨z8, 0, none⟩ = some (.slice A l.length c) := h8.cell
    have q31 : V4.cell? ⟨z8, 1, none⟩ = some (.slice B v.length d) := h8.cell
    have q40 : V4.cell? ⟨z9, 0, none⟩ = some (.slice C2 m.length a2) := h9.cell
    have q41 : V4.cell? ⟨z9, 1, none⟩ = some (.slice D2 u.length e2) := h9.cell
    clear hHeld b1 b2
    go_wp2_with fail
    refine bodyPost_ret (v := .tuple #[.agg #[.slice A l.length c, .slice B v.length d], .agg #[.slice C2 m.length a2, .slice D2 u.length e2], .bool false]) (by simp [results, Try.results13, go_sem, q30, q31, q40, q41]) rfl ?_
    rw [HE.out]
    exact ⟨A, c, B, d, C2, a2, D2, e2, rfl, h4.wb, h4.wv, h4.ib, h4.iv⟩
  | true =>
    obtain ⟨_, eT, eF⟩ := load_all (load_may hmay)
    rw [eT] at hn hm1 hT
    rw [eF] at hT
    have HTk := Lib.hid (show takeN slot (m.length + u.length + 1) ⟨⟨l, v⟩, onlyW k ⟨m, u⟩, false⟩ = takeC k ⟨l, v⟩ ⟨m, u⟩ slot by unfold takeC; rw [if_pos hmay])
    obtain ⟨T, hTT⟩ : ∃ T, T = takeC k ⟨l, v⟩ ⟨m, u⟩ slot := ⟨_, rfl⟩
    rw [← hTT] at HTk
    have HTT := Lib.hid hTT
    have HMy := Lib.hid (mayW_iff.1 hmay)
    have HT1 := Lib.hid (show TalAt Wm z 1048576 l v false (slotsF l) (standsB l) v A c B d M n C m1 W1 from hT)
    clear HN
    have HN := Lib.hid (show n ≤ l.length + 1 ∧ m1 ≤ v.length from ⟨hn, hm1⟩)
    clear hT eT eF hmay hTT hn hm1
    have f0 := HT1.out.box.fr 0
    obtain ⟨t0, t1, t2, t3, t4, t5, tz⟩ := HT1.out.cells
    go_upto_region 5 with (fail)
    clear f0 t0 t1 t2 t3 t4 t5 tz
    have HT2 := Lib.hid (HT1.out.putU slot)
    clear HT1
    generalize W1.setCell ⟨z, 0, none⟩ (.int .i64 slot) = W2 at *
    have K2 := Lib.hid HT2.out.wb.2
    obtain ⟨d0, d1, d2, d3, d4⟩ := (HB0.out.kept K2.out).five
    have dz := (HB0.out.kept K2.out).1
    obtain ⟨u0, u1⟩ := (HB2.out.kept K2.out).two
    have uz := (HB2.out.kept K2.out).1
    go_wp2_with fail
    clear d0 d1 d2 d3 d4 dz u0 u1 uz
    refine (viewOnlyN_any kA kc k mA mc m uA uc u W2 hk hsd hm hu HWm.out HWu.out (HA.out.kept K2.out) (HM.out.kept K2.out) (HU.out.kept K2.out)).mono ?_
    rintro e W3 ⟨I, i, J, j, rfl, hI, hJ⟩
    obtain ⟨ow, how⟩ : ∃ ow, ow = onlyW k ⟨m, u⟩ := ⟨_, rfl⟩
    rw [← how] at hI hJ HTk ⊢
    have hnI : ∀ ad, I = some ad → ¬ talS z M C A B ad.block := fun ad e q => by
      have := (hI.1.lt ad.block (by rw [e]; rfl)).1
      have := HT2.out.lt _ q; omega
    have hnJ : ∀ ad, J = some ad → ¬ talS z M C A B ad.block := fun ad e q => by
      have := (hJ.1.lt ad.block (by rw [e]; rfl)).1
      have := HT2.out.lt _ q; omega
    have HTi := Lib.hid (show TkI ⟨⟨l, v⟩, ow, false⟩ from ⟨fun y hy => by
        rw [show (⟨⟨l, v⟩, ow, false⟩ : TSt).i = onlyW k ⟨m, u⟩ from how] at hy
        obtain ⟨h1, h2⟩ := only_b.1 hy
        obtain ⟨_, g1, _, _, g4⟩ := blockC_yes h2
        exact ⟨HWm.out y h1, g1, g4⟩,
      fun y hy => by
        rw [show (⟨⟨l, v⟩, ow, false⟩ : TSt).i = onlyW k ⟨m, u⟩ from how] at hy
        obtain ⟨h1, h2⟩ := only_v.1 hy
        exact ⟨HWu.out y h1, (voteC_yes h2).1⟩,
      by rw [show (⟨⟨l, v⟩, ow, false⟩ : TSt).i = onlyW k ⟨m, u⟩ from how]; exact Nat.le_trans (List.length_filter_le _ _) hm,
      by rw [show (⟨⟨l, v⟩, ow, false⟩ : TSt).i = onlyW k ⟨m, u⟩ from how]; exact Nat.le_trans (List.length_filter_le _ _) hu,
      fun x hx => (blockC_yes (HMy.out.2.2.2.2.1 x hx)).2.1, HMy.out.2.2.1, HMy.out.2.2.2.1⟩)
    have HPr := Lib.hid (show TkP slot T (ow.b.length + ow.v.length + 2) (-1) ⟨⟨l, v⟩, ow, false⟩ from Or.inl ⟨by have := Int.natCast_nonneg (sizeT ⟨⟨l, v⟩, ow, false⟩); omega, ⟨_, HTk.out, by have := only_le k ⟨m, u⟩; rw [how]; exact this⟩, by show ow.b.length + ow.v.length + 1 < ow.b.length + ow.v.length + 2; omega⟩)
    have OVk := (Kept.refl W3).alloc (.cells #[.slice I ow.b.length i, .slice J ow.v.length j] 29)
    have HT4 := Lib.hid ((HT2.out.kept hI.2).kept OVk)
    have HI4 := Lib.hid ((hI.kept OVk).lower K2.out)
    have HJ4 := Lib.hid ((hJ.kept OVk).lower K2.out)
    have H13 := Lib.hid (AtB.new W3 #[.slice I ow.b.length i, .slice J ow.v.length j] 29)
    have HN13 := Lib.hid (show ¬ talS z M C A B W3.heap.size from fun q => by have := (HT2.out.kept hI.2).lt _ q; omega)
    have HG13 := Lib.hid (show Wm.heap.size ≤ W3.heap.size from (K2.out.trans hI.2).size_le)
    have HnI := Lib.hid hnI
    have HnJ := Lib.hid hnJ
    have HOw := Lib.hid how
    clear hI hJ hnI hnJ OVk HT2 K2 HTk how
    go_upto_region 6 with (fail)
    generalize W3.alloc (.cells #[.slice I ow.b.length i, .slice J ow.v.length j] 29) = W4 at *
    generalize W3.heap.size = z13 at *
    go_wp2_with fail
    go_loopg [14] (ow.b.length + ow.v.length + 2) (fun nn h wr => ∃ (had : Int) (t : TSt) (A : Option Addr) (c : Nat) (B : Option Addr) (d : Nat) (n m1 : Nat) (I : Option Addr) (i : Nat) (J : Option Addr) (j : Nat), h = .int .i64 had ∧ Hid (TkP slot T nn had t) ∧ Hid (TkI t) ∧ Hid (n ≤ t.w.b.length + 1 ∧ m1 ≤ t.w.v.length) ∧ Hid (TalAt Wm z slot t.w.b t.w.v t.full (slotsF t.w.b) (standsB t.w.b) t.w.v A c B d M n C m1 wr) ∧ Hid (Bks Wm t.i.b (.slice I t.i.b.length i) wr) ∧ Hid (Vts Wm t.i.v (.slice J t.i.v.length j) wr) ∧ Hid (AtB wr z13 #[.slice I t.i.b.length i, .slice J t.i.v.length j] 29) ∧ Hid (¬ talS z M C A B z13) ∧ Hid (∀ ad, I = some ad → ¬ talS z M C A B ad.block) ∧ Hid (∀ ad, J = some ad → ¬ talS z M C A B ad.block))
    case atStart => exact ⟨-1, ⟨⟨l, v⟩, ow, false⟩, A, c, B, d, n, m1, I, i, J, j, rfl, HPr, HTi, HN, HT4, HI4, HJ4, H13, HN13, HnI, HnJ⟩
    case round =>
      clear HPr HTi HN HT4 HI4 HJ4 H13 HN13 HnI HnJ
      obtain ⟨had, t, A, c, B, d, n, m1, I, i, J, j, rfl, HP, HTi, HN, HT, HI, HJ, H13, HN13, HnI, HnJ⟩ := hrel
      have HSz := Lib.hid (show ∀ V, Kept wr V → Calls Try.prog 29 #[.pointer (some ⟨z, 0, none⟩)] V fun e w' => e = .returned (.int .i64 (sizeT t : Int)) ∧ Kept V w' from fun V q => tallySize_any Wm z slot t.w.b t.w.v t.full A c B d M n C m1 V HTi.out.c60 HTi.out.c240 (HT.out.kept q))
      obtain ⟨X, hX⟩ : ∃ X : Int, X = (sizeT t : Int) := ⟨_, rfl⟩
      rw [← hX] at HSz
      have HX := Lib.hid hX
      clear hX
      go_wp2_with fail
      refine (HSz.out wr (Kept.refl wr)).mono ?_
      rintro e V1 ⟨rfl, k1⟩
      have K1 := Lib.hid k1
      clear k1
      by_cases hlt : had < X
      · have gl : decide (had < X) = true := decide_eq_true hlt
        obtain ⟨n', hn', hp'⟩ := HP.out.next (by rw [← HX.out]; exact hlt)
        have HP' := Lib.hid hp'
        clear hp' hlt
        go_wp2_with fail
        clear gl
        refine (HSz.out V1 K1.out).mono ?_
        rintro e V2 ⟨rfl, k2⟩
        have K2 := Lib.hid (K1.out.trans k2)
        clear k2 HSz
        obtain ⟨x0, x1⟩ := (H13.out.kept K2.out).has.two
        have xz := (H13.out.kept K2.out).lt
        go_wp2_with fail
        clear x0 x1 xz
        refine (tallyRound_any Wm z slot t.w.b t.w.v t.full A c B d M n C m1 I i t.i.b J j t.i.v V2 (HT.out.kept K2.out) HN.out.1 HN.out.2 (CellsAt.of_own (HI.out.kept K2.out).1) (CellsAt.of_own (HJ.out.kept K2.out).1) (fun _ => HnI.out) (fun _ => HnJ.out) HTi.out.ib HTi.out.iv HTi.out.lb HTi.out.lv HTi.out.b1 HTi.out.c60 HTi.out.c240).mono ?_
        rintro e V3 ⟨A', c', B', d', n2, m2, I', i', J', j', rfl, hn2, hm2, hT', hI', hJ', hnI', hnJ', hO', hS'⟩
        obtain ⟨t', ht'⟩ : ∃ t', t' = roundT slot t := ⟨_, rfl⟩
        rw [show roundT slot ⟨⟨t.w.b, t.w.v⟩, ⟨t.i.b, t.i.v⟩, t.full⟩ = t' from ht'.symm] at hn2 hm2 hT' hI' hJ' ⊢
        rw [← ht'] at HP'
        have HTi' := Lib.hid (show TkI t' from by rw [ht']; exact HTi.out.round slot)
        have h13 := ((H13.out.kept K2.out).off HN13.out hO')
        have hn13 : ¬ talS z M C A' B' z13 := fun q => (hS' z13 q).elim HN13.out (fun q => by have := (H13.out.kept K2.out).lt; omega)
        have c0 : V3.cell? ⟨z13, 0, none⟩ = some (.slice I t.i.b.length i) := h13.cell
        have c1 : V3.cell? ⟨z13, 1, none⟩ = some (.slice J t.i.v.length j) := h13.cell
        have f0 := h13.fr 0
        have f1 := h13.fr 1
        have lt := h13.lt
        have hg13 := HG13.out
        have HI2 := Lib.hid (bks_past_box (bks_past_box hI' h13 (by decide) hg13 0 (.slice I' t'.i.b.length i')) (h13.set 0 (.slice I' t'.i.b.length i')) (by decide) hg13 1 (.slice J' t'.i.v.length j'))
        have HJ2 := Lib.hid (vts_past_box (vts_past_box hJ' h13 (by decide) hg13 0 (.slice I' t'.i.b.length i')) (h13.set 0 (.slice I' t'.i.b.length i')) (by decide) hg13 1 (.slice J' t'.i.v.length j'))
        have H132 := Lib.hid (h13.set2 (.slice I' t'.i.b.length i') (.slice J' t'.i.v.length j'))
        have HT2 := Lib.hid (hT'.keep HI2.out.2 fun x hx => (heap_setCell_other _ _ x _ (fun e => hn13 (by have e' : x = z13 := e; rw [← e']; exact hx))).trans (heap_setCell_other _ _ x _ (fun e => hn13 (by have e' : x = z13 := e; rw [← e']; exact hx))))
        have HN2 := Lib.hid (⟨hn2, hm2⟩ : _ ∧ _)
        have HN132 := Lib.hid hn13
        have HnI2 := Lib.hid hnI'
        have HnJ2 := Lib.hid hnJ'
        clear hT' hI' hJ' hO' hS' h13 hn13 hn2 hm2 hnI' hnJ' hg13 ht' HT HI HJ H13 HN13 HnI HnJ HN HTi HP
        go_wp2_with fail
        clear c0 c1 f0 f1 lt
        generalize (V3.setCell ⟨z13, 0, none⟩ (.slice I' t'.i.b.length i')).setCell ⟨z13, 1, none⟩ (.slice J' t'.i.v.length j') = V4 at *
        go_roundg n'
        case measure => exact hn'
        case rel => exact ⟨X, t', A', c', B', d', n2, m2, I', i', J', j', rfl, by rw [HX.out]; exact HP', HTi', HN2, HT2, HI2, HJ2, H132, HN132, HnI2, HnJ2⟩
      · have gl : decide (had < X) = false := decide_eq_false hlt
        have HDn := Lib.hid (HP.out.done (by rw [← HX.out]; exact hlt))
        clear hlt HP HSz HTi HN HN13 HnI HnJ
        obtain ⟨t0, t1, t2, t3, t4, t5, tz⟩ := (HT.out.kept K1.out).cells
        obtain ⟨x0, x1⟩ := (H13.out.kept K1.out).has.two
        have xz := (H13.out.kept K1.out).lt
        go_wp2_with fail
        have kd := K1.out.trans (Kept.refl V1).drew
        have hz := HT.out.box.kept kd
        have h13 := H13.out.kept kd
        have km := HT.out.wb.2.trans kd
        have h8 := H8.out.kept km
        have h9 := H9.out.kept km
        have h4 : Rows4 w t.w.b t.w.v t.i.b t.i.v A c B d I i J j V1.drew := ⟨(HT.out.wb.kept kd).lower K0.out, (HT.out.wv.kept kd).lower K0.out, (HI.out.kept kd).lower K0.out, (HJ.out.kept kd).lower K0.out⟩
        have gez := HT.out.ge
        have n8 := H8.out.lt
        have n9 := H9.out.lt
        have hg13 := HG13.out
        clear t0 t1 t2 t3 t4 t5 tz x0 x1 xz gl HT HI HJ H13 kd km
        refine wp_region_noPanic ?_
        refine wp_region_held_drew (S := (fun w' => w'.cell? ⟨z, 1, none⟩ = some (.slice A t.w.b.length c) ∧ w'.cell? ⟨z, 2, none⟩ = some (.slice B t.w.v.length d) ∧ w'.cell? ⟨z, 5, none⟩ = some (.bool t.full) ∧ w'.cell? ⟨z13, 0, none⟩ = some (.slice I t.i.b.length i) ∧ w'.cell? ⟨z13, 1, none⟩ = some (.slice J t.i.v.length j))) (by kernel_rfl) ?_ (fun hHeld => ?_)
        · exact ⟨hz.cell, hz.cell, hz.cell, h13.cell, h13.cell⟩
        generalize V1.drew = V5 at *
        refine wpAnyH_take (i := 0) (v := ?_) (by simp only [List.getElem?_toArray, List.getElem?_cons_succ, List.getElem?_cons_zero]; rfl) (by kernel_rfl) (by kernel_rfl) (by kernel_rfl) (fun _ _ _ h => h) (Or.inl ⟨by rfl, ?_⟩) (by assumption) ?_
        rotate_left
        · intro w hSw
          (try dsimp only at hSw)
          go_simp
          (try with_reducible rfl)
        simp only [Act.put, List.setIfInBounds_toArray, List.set_cons_zero, List.set_cons_succ]
        refine wpAnyH_take (i := 1) (v := ?_) (by simp only [List.getElem?_toArray, List.getElem?_cons_succ, List.getElem?_cons_zero]; rfl) (by kernel_rfl) (by kernel_rfl) (by kernel_rfl) (fun _ _ _ h => h) (Or.inl ⟨by rfl, ?_⟩) (by assumption) ?_
        rotate_left
        · intro w hSw
          (try dsimp only at hSw)
          go_simp
          (try with_reducible rfl)
        simp only [Act.put, List.setIfInBounds_toArray, List.set_cons_zero, List.set_cons_succ]
        refine wpAnyH_take (i := 2) (v := ?_) (by simp only [List.getElem?_toArray, List.getElem?_cons_succ, List.getElem?_cons_zero]; rfl) (by kernel_rfl) (by kernel_rfl) (by kernel_rfl) (fun _ _ _ h => h) (Or.inl ⟨by rfl, ?_⟩) (by assumption) ?_
        rotate_left
        · intro w hSw
          (try dsimp only at hSw)
          go_simp
          (try with_reducible rfl)
        simp only [Act.put, List.setIfInBounds_toArray, List.set_cons_zero, List.set_cons_succ]
        refine wpAnyH_take (i := 3) (v := ?_) (by simp only [List.getElem?_toArray, List.getElem?_cons_succ, List.getElem?_cons_zero]; rfl) (by kernel_rfl) (by kernel_rfl) (by kernel_rfl) (fun _ _ _ h => h) (Or.inl ⟨by rfl, ?_⟩) (by assumption) ?_
        rotate_left
        · intro w hSw
          (try dsimp only at hSw)
          go_simp
          (try with_reducible rfl)
        simp only [Act.put, List.setIfInBounds_toArray, List.set_cons_zero, List.set_cons_succ]
        refine wpAnyH_take (i := 5) (v := ?_) (by simp only [List.getElem?_toArray, List.getElem?_cons_succ, List.getElem?_cons_zero]; rfl) (by kernel_rfl) (by kernel_rfl) (by kernel_rfl) (fun _ _ _ h => h) (Or.inl ⟨by rfl, ?_⟩) (by assumption) ?_
        rotate_left
        · intro w hSw
          (try dsimp only at hSw)
          go_simp
          (try with_reducible rfl)
        simp only [Act.put, List.setIfInBounds_toArray, List.set_cons_zero, List.set_cons_succ]
        refine wpAnyH_take (i := 6) (v := ?_) (by simp only [List.getElem?_toArray, List.getElem?_cons_succ, List.getElem?_cons_zero]; rfl) (by kernel_rfl) (by kernel_rfl) (by kernel_rfl) (fun _ _ _ h => h) (Or.inl ⟨by rfl, ?_⟩) (by assumption) ?_
        rotate_left
        · intro w hSw
          (try dsimp only at hSw)
          go_simp
          (try with_reducible rfl)
        simp only [Act.put, List.setIfInBounds_toArray, List.set_cons_zero, List.set_cons_succ]
        refine wpAnyH_take (i := 7) (v := ?_) (by simp only [List.getElem?_toArray, List.getElem?_cons_succ, List.getElem?_cons_zero]; rfl) (by kernel_rfl) (by kernel_rfl) (by kernel_rfl) (fun _ _ _ h => h) (Or.inl ⟨by rfl, ?_⟩) (by assumption) ?_
        rotate_left
        · intro w hSw
          (try dsimp only at hSw)
          go_simp
          (try with_reducible rfl)
        simp only [Act.put, List.setIfInBounds_toArray, List.set_cons_zero, List.set_cons_succ]
        refine wpAnyH_ready (rs := [4, 8, 9]) (by kernel_rfl) (by simp) ?_
        refine AllReadyH.cons (by simp only [List.getElem?_toArray, List.getElem?_cons_succ, List.getElem?_cons_zero]; rfl) (fun K hK => ?_) (AllReadyH.cons (by simp only [List.getElem?_toArray, List.getElem?_cons_succ, List.getElem?_cons_zero]; rfl) (fun K hK => ?_) (AllReadyH.cons (by simp only [List.getElem?_toArray, List.getElem?_cons_succ, List.getElem?_cons_zero]; rfl) (fun K hK => ?_) (AllReadyH.nil)))
        · go_simp
          refine hK.out _ _ ?_ (fun hHeld2 => ?_)
          · exact ⟨hz.cell, hz.cell, hz.cell, h13.cell, h13.cell⟩
          clear hK K hHeld
          have hHeld := hHeld2
          clear hHeld2
          try simp only [Act.put, List.setIfInBounds_toArray, List.set_cons_zero, List.set_cons_succ]
          refine wpAnyH_ready (rs := [8, 9]) (by kernel_rfl) (by simp) ?_
          refine AllReadyH.cons (by simp only [List.getElem?_toArray, List.getElem?_cons_succ, List.getElem?_cons_zero]; rfl) (fun K hK => ?_) (AllReadyH.cons (by simp only [List.getElem?_toArray, List.getElem?_cons_succ, List.getElem?_cons_zero]; rfl) (fun K hK => ?_) (AllReadyH.nil))
          · go_simp
            refine hK.out _ _ ?_ (fun hHeld2 => ?_)
            · exact ⟨hz.cell, hz.cell, hz.cell, h13.cell, h13.cell⟩
            clear hK K hHeld
            have hHeld := hHeld2
            clear hHeld2
            try simp only [Act.put, List.setIfInBounds_toArray, List.set_cons_zero, List.set_cons_succ]
            refine wpAnyH_ready (rs := [9]) (by kernel_rfl) (by simp) ?_
            refine AllReadyH.cons (by simp only [List.getElem?_toArray, List.getElem?_cons_succ, List.getElem?_cons_zero]; rfl) (fun K hK => ?_) (AllReadyH.nil)
            have c0 : V5.cell? ⟨z8, 0, none⟩ = some (.slice none 0 0) := h8.cell
            have c1 : V5.cell? ⟨z8, 1, none⟩ = some (.slice none 0 0) := h8.cell
            have f0 := h8.fr 0
            have f1 := h8.fr 1
            have lt := h8.lt
            replace h4 := h4.put h8 HZ8.out (.slice A t.w.b.length c) (.slice B t.w.v.length d)
            replace h9 := h9.two HZ.out.1 (.slice A t.w.b.length c) (.slice B t.w.v.length d)
            replace h8 := h8.set2 (.slice A t.w.b.length c) (.slice B t.w.v.length d)
            replace hz := hz.two (z' := z8) (by omega) (.slice A t.w.b.length c) (.slice B t.w.v.length d)
            replace h13 := h13.two (z' := z8) (by omega) (.slice A t.w.b.length c) (.slice B t.w.v.length d)
            go_simp
            generalize (V5.setCell ⟨z8, 0, none⟩ (.slice A t.w.b.length c)).setCell ⟨z8, 1, none⟩ (.slice B t.w.v.length d) = V6 at *
            clear c0 c1 f0 f1 lt
            refine hK.out _ _ ?_ (fun hHeld2 => ?_)
            · exact ⟨hz.cell, hz.cell, hz.cell, h13.cell, h13.cell⟩
            clear hK K hHeld
            have hHeld := hHeld2
            clear hHeld2
            try simp only [Act.put, List.setIfInBounds_toArray, List.set_cons_zero, List.set_cons_succ]
            refine wpAnyH_ready (rs := [10]) (by kernel_rfl) (by simp) ?_
            refine AllReadyH.cons (by simp only [List.getElem?_toArray, List.getElem?_cons_succ, List.getElem?_cons_zero]; rfl) (fun K hK => ?_) (AllReadyH.nil)
            have c0 : V6.cell? ⟨z9, 0, none⟩ = some (.slice none 0 0) := h9.cell
            have c1 : V6.cell? ⟨z9, 1, none⟩ = some (.slice none 0 0) := h9.cell
            have f0 := h9.fr 0
            have f1 := h9.fr 1
            have lt := h9.lt
            replace h4 := h4.put h9 HZ9.out (.slice I t.i.b.length i) (.slice J t.i.v.length j)
            replace h8 := h8.two HZ.out.1.symm (.slice I t.i.b.length i) (.slice J t.i.v.length j)
            replace h9 := h9.set2 (.slice I t.i.b.length i) (.slice J t.i.v.length j)
            replace hz := hz.two (z' := z9) (by omega) (.slice I t.i.b.length i) (.slice J t.i.v.length j)
            replace h13 := h13.two (z' := z9) (by omega) (.slice I t.i.b.length i) (.slice J t.i.v.length j)
            go_simp
            generalize (V6.setCell ⟨z9, 0, none⟩ (.slice I t.i.b.length i)).setCell ⟨z9, 1, none⟩ (.slice J t.i.v.length j) = V7 at *
            clear c0 c1 f0 f1 lt
            refine hK.out _ _ ?_ (fun hHeld2 => ?_)
            · exact ⟨hz.cell, hz.cell, hz.cell, h13.cell, h13.cell⟩
            clear hK K hHeld
            have hHeld := hHeld2
            clear hHeld2
            try simp only [Act.put, List.setIfInBounds_toArray, List.set_cons_zero, List.set_cons_succ]
            refine wpAnyH_take (i := 11) (v := ?_) (by simp only [List.getElem?_toArray, List.getElem?_cons_succ, List.getElem?_cons_zero]; rfl) (by kernel_rfl) (by kernel_rfl) (by kernel_rfl) (fun _ _ _ h => h) (Or.inl ⟨by rfl, ?_⟩) (by assumption) ?_
            rotate_left
            · intro w hSw
              (try dsimp only at hSw)
              go_simp
              (try with_reducible rfl)
            simp only [Act.put, List.setIfInBounds_toArray, List.set_cons_zero, List.set_cons_succ]
            refine wpAnyH_done (by kernel_rfl) ?_ _
            refine NoPanic.normal ?_
            have q30 : V7.cell? ⟨z8, 0, none⟩ = some (.slice A t.w.b.length c) := h8.cell
            have q31 : V7.cell? ⟨z8, 1, none⟩ = some (.slice B t.w.v.length d) := h8.cell
            have q40 : V7.cell? ⟨z9, 0, none⟩ = some (.slice I t.i.b.length i) := h9.cell
            have q41 : V7.cell? ⟨z9, 1, none⟩ = some (.slice J t.i.v.length j) := h9.cell
            clear hHeld
            go_wp2_with fail
            refine bodyPost_ret (v := .tuple #[.agg #[.slice A t.w.b.length c, .slice B t.w.v.length d], .agg #[.slice I t.i.b.length i, .slice J t.i.v.length j], .bool t.full]) (by simp [results, Try.results13, go_sem, q30, q31, q40, q41]) rfl ?_
            rw [← HTT.out, ← HDn.out]
            exact ⟨A, c, B, d, I, i, J, j, rfl, h4.wb, h4.wv, h4.ib, h4.iv⟩
          · have c0 : V5.cell? ⟨z8, 0, none⟩ = some (.slice none 0 0) := h8.cell
            have c1 : V5.cell? ⟨z8, 1, none⟩ = some (.slice none 0 0) := h8.cell
            have f0 := h8.fr 0
            have f1 := h8.fr 1
            have lt := h8.lt
            replace h4 := h4.put h8 HZ8.out (.slice A t.w.b.length c) (.slice B t.w.v.length d)
            replace h9 := h9.two HZ.out.1 (.slice A t.w.b.length c) (.slice B t.w.v.length d)
            replace h8 := h8.set2 (.slice A t.w.b.length c) (.slice B t.w.v.length d)
            replace hz := hz.two (z' := z8) (by omega) (.slice A t.w.b.length c) (.slice B t.w.v.length d)
            replace h13 := h13.two (z' := z8) (by omega) (.slice A t.w.b.length c) (.slice B t.w.v.length d)
            go_simp
            generalize (V5.setCell ⟨z8, 0, none⟩ (.slice A t.w.b.length c)).setCell ⟨z8, 1, none⟩ (.slice B t.w.v.length d) = V6 at *
            clear c0 c1 f0 f1 lt
            refine hK.out _ _ ?_ (fun hHeld2 => ?_)
            · exact ⟨hz.cell, hz.cell, hz.cell, h13.cell, h13.cell⟩
            clear hK K hHeld
            have hHeld := hHeld2
            clear hHeld2
            try simp only [Act.put, List.setIfInBounds_toArray, List.set_cons_zero, List.set_cons_succ]
            refine wpAnyH_ready (rs := [8, 10]) (by kernel_rfl) (by simp) ?_
            refine AllReadyH.cons (by simp only [List.getElem?_toArray, List.getElem?_cons_succ, List.getElem?_cons_zero]; rfl) (fun K hK => ?_) (AllReadyH.cons (by simp only [List.getElem?_toArray, List.getElem?_cons_succ, List.getElem?_cons_zero]; rfl) (fun K hK => ?_) (AllReadyH.nil))
            · go_simp
              refine hK.out _ _ ?_ (fun hHeld2 => ?_)
              · exact ⟨hz.cell, hz.cell, hz.cell, h13.cell, h13.cell⟩
              clear hK K hHeld
              have hHeld := hHeld2
              clear hHeld2
              try simp only [Act.put, List.setIfInBounds_toArray, List.set_cons_zero, List.set_cons_succ]
              refine wpAnyH_ready (rs := [10]) (by kernel_rfl) (by simp) ?_
              refine AllReadyH.cons (by simp only [List.getElem?_toArray, List.getElem?_cons_succ, List.getElem?_cons_zero]; rfl) (fun K hK => ?_) (AllReadyH.nil)
              have c0 : V6.cell? ⟨z9, 0, none⟩ = some (.slice none 0 0) := h9.cell
              have c1 : V6.cell? ⟨z9, 1, none⟩ = some (.slice none 0 0) := h9.cell
              have f0 := h9.fr 0
              have f1 := h9.fr 1
              have lt := h9.lt
              replace h4 := h4.put h9 HZ9.out (.slice I t.i.b.length i) (.slice J t.i.v.length j)
              replace h8 := h8.two HZ.out.1.symm (.slice I t.i.b.length i) (.slice J t.i.v.length j)
              replace h9 := h9.set2 (.slice I t.i.b.length i) (.slice J t.i.v.length j)
              replace hz := hz.two (z' := z9) (by omega) (.slice I t.i.b.length i) (.slice J t.i.v.length j)
              replace h13 := h13.two (z' := z9) (by omega) (.slice I t.i.b.length i) (.slice J t.i.v.length j)
              go_simp
              generalize (V6.setCell ⟨z9, 0, none⟩ (.slice I t.i.b.length i)).setCell ⟨z9, 1, none⟩ (.slice J t.i.v.length j) = V7 at *
              clear c0 c1 f0 f1 lt
              refine hK.out _ _ ?_ (fun hHeld2 => ?_)
              · exact ⟨hz.cell, hz.cell, hz.cell, h13.cell, h13.cell⟩
              clear hK K hHeld
              have hHeld := hHeld2
              clear hHeld2
              try simp only [Act.put, List.setIfInBounds_toArray, List.set_cons_zero, List.set_cons_succ]
              refine wpAnyH_take (i := 11) (v := ?_) (by simp only [List.getElem?_toArray, List.getElem?_cons_succ, List.getElem?_cons_zero]; rfl) (by kernel_rfl) (by kernel_rfl) (by kernel_rfl) (fun _ _ _ h => h) (Or.inl ⟨by rfl, ?_⟩) (by assumption) ?_
              rotate_left
              · intro w hSw
                (try dsimp only at hSw)
                go_simp
                (try with_reducible rfl)
              simp only [Act.put, List.setIfInBounds_toArray, List.set_cons_zero, List.set_cons_succ]
              refine wpAnyH_done (by kernel_rfl) ?_ _
              refine NoPanic.normal ?_
              have q30 : V7.cell? ⟨z8, 0, none⟩ = some (.slice A t.w.b.length c) := h8.cell
              have q31 : V7.cell? ⟨z8, 1, none⟩ = some (.slice B t.w.v.length d) := h8.cell
              have q40 : V7.cell? ⟨z9, 0, none⟩ = some (.slice I t.i.b.length i) := h9.cell
              have q41 : V7.cell? ⟨z9, 1, none⟩ = some (.slice J t.i.v.length j) := h9.cell
              clear hHeld
              go_wp2_with fail
              refine bodyPost_ret (v := .tuple #[.agg #[.slice A t.w.b.length c, .slice B t.w.v.length d], .agg #[.slice I t.i.b.length i, .slice J t.i.v.length j], .bool t.full]) (by simp [results, Try.results13, go_sem, q30, q31, q40, q41]) rfl ?_
              rw [← HTT.out, ← HDn.out]
              exact ⟨A, c, B, d, I, i, J, j, rfl, h4.wb, h4.wv, h4.ib, h4.iv⟩
            · have c0 : V6.cell? ⟨z9, 0, none⟩ = some (.slice none 0 0) := h9.cell
              have c1 : V6.cell? ⟨z9, 1, none⟩ = some (.slice none 0 0) := h9.cell
              have f0 := h9.fr 0
              have f1 := h9.fr 1
              have lt := h9.lt
              replace h4 := h4.put h9 HZ9.out (.slice I t.i.b.length i) (.slice J t.i.v.length j)
              replace h8 := h8.two HZ.out.1.symm (.slice I t.i.b.length i) (.slice J t.i.v.length j)
              replace h9 := h9.set2 (.slice I t.i.b.length i) (.slice J t.i.v.length j)
              replace hz := hz.two (z' := z9) (by omega) (.slice I t.i.b.length i) (.slice J t.i.v.length j)
              replace h13 := h13.two (z' := z9) (by omega) (.slice I t.i.b.length i) (.slice J t.i.v.length j)
              go_simp
              generalize (V6.setCell ⟨z9, 0, none⟩ (.slice I t.i.b.length i)).setCell ⟨z9, 1, none⟩ (.slice J t.i.v.length j) = V7 at *
              clear c0 c1 f0 f1 lt
              refine hK.out _ _ ?_ (fun hHeld2 => ?_)
              · exact ⟨hz.cell, hz.cell, hz.cell, h13.cell, h13.cell⟩
              clear hK K hHeld
              have hHeld := hHeld2
              clear hHeld2
              try simp only [Act.put, List.setIfInBounds_toArray, List.set_cons_zero, List.set_cons_succ]
              refine wpAnyH_ready (rs := [8]) (by kernel_rfl) (by simp) ?_
              refine AllReadyH.cons (by simp only [List.getElem?_toArray, List.getElem?_cons_succ, List.getElem?_cons_zero]; rfl) (fun K hK => ?_) (AllReadyH.nil)
              go_simp
              refine hK.out _ _ ?_ (fun hHeld2 => ?_)
              · exact ⟨hz.cell, hz.cell, hz.cell, h13.cell, h13.cell⟩
              clear hK K hHeld
              have hHeld := hHeld2
              clear hHeld2
              try simp only [Act.put, List.setIfInBounds_toArray, List.set_cons_zero, List.set_cons_succ]
              refine wpAnyH_take (i := 11) (v := ?_) (by simp only [List.getElem?_toArray, List.getElem?_cons_succ, List.getElem?_cons_zero]; rfl) (by kernel_rfl) (by kernel_rfl) (by kernel_rfl) (fun _ _ _ h => h) (Or.inl ⟨by rfl, ?_⟩) (by assumption) ?_
              rotate_left
              · intro w hSw
                (try dsimp only at hSw)
                go_simp
                (try with_reducible rfl)
              simp only [Act.put, List.setIfInBounds_toArray, List.set_cons_zero, List.set_cons_succ]
              refine wpAnyH_done (by kernel_rfl) ?_ _
              refine NoPanic.normal ?_
              have q30 : V7.cell? ⟨z8, 0, none⟩ = some (.slice A t.w.b.length c) := h8.cell
              have q31 : V7.cell? ⟨z8, 1, none⟩ = some (.slice B t.w.v.length d) := h8.cell
              have q40 : V7.cell? ⟨z9, 0, none⟩ = some (.slice I t.i.b.length i) := h9.cell
              have q41 : V7.cell? ⟨z9, 1, none⟩ = some (.slice J t.i.v.length j) := h9.cell
              clear hHeld
              go_wp2_with fail
              refine bodyPost_ret (v := .tuple #[.agg #[.slice A t.w.b.length c, .slice B t.w.v.length d], .agg #[.slice I t.i.b.length i, .slice J t.i.v.length j], .bool t.full]) (by simp [results, Try.results13, go_sem, q30, q31, q40, q41]) rfl ?_
              rw [← HTT.out, ← HDn.out]
              exact ⟨A, c, B, d, I, i, J, j, rfl, h4.wb, h4.wv, h4.ib, h4.iv⟩
        · go_simp
          refine hK.out _ _ ?_ (fun hHeld2 => ?_)
          · exact ⟨hz.cell, hz.cell, hz.cell, h13.cell, h13.cell⟩
          clear hK K hHeld
          have hHeld := hHeld2
          clear hHeld2
          try simp only [Act.put, List.setIfInBounds_toArray, List.set_cons_zero, List.set_cons_succ]
          refine wpAnyH_ready (rs := [4, 9]) (by kernel_rfl) (by simp) ?_
          refine AllReadyH.cons (by simp only [List.getElem?_toArray, List.getElem?_cons_succ, List.getElem?_cons_zero]; rfl) (fun K hK => ?_) (AllReadyH.cons (by simp only [List.getElem?_toArray, List.getElem?_cons_succ, List.getElem?_cons_zero]; rfl) (fun K hK => ?_) (AllReadyH.nil))
          · go_simp
            refine hK.out _ _ ?_ (fun hHeld2 => ?_)
            · exact ⟨hz.cell, hz.cell, hz.cell, h13.cell, h13.cell⟩
            clear hK K hHeld
            have hHeld := hHeld2
            clear hHeld2
            try simp only [Act.put, List.setIfInBounds_toArray, List.set_cons_zero, List.set_cons_succ]
            refine wpAnyH_ready (rs := [9]) (by kernel_rfl) (by simp) ?_
            refine AllReadyH.cons (by simp only [List.getElem?_toArray, List.getElem?_cons_succ, List.getElem?_cons_zero]; rfl) (fun K hK => ?_) (AllReadyH.nil)
            have c0 : V5.cell? ⟨z8, 0, none⟩ = some (.slice none 0 0) := h8.cell
            have c1 : V5.cell? ⟨z8, 1, none⟩ = some (.slice none 0 0) := h8.cell
            have f0 := h8.fr 0
            have f1 := h8.fr 1
            have lt := h8.lt
            replace h4 := h4.put h8 HZ8.out (.slice A t.w.b.length c) (.slice B t.w.v.length d)
            replace h9 := h9.two HZ.out.1 (.slice A t.w.b.length c) (.slice B t.w.v.length d)
            replace h8 := h8.set2 (.slice A t.w.b.length c) (.slice B t.w.v.length d)
            replace hz := hz.two (z' := z8) (by omega) (.slice A t.w.b.length c) (.slice B t.w.v.length d)
            replace h13 := h13.two (z' := z8) (by omega) (.slice A t.w.b.length c) (.slice B t.w.v.length d)
            go_simp
            generalize (V5.setCell ⟨z8, 0, none⟩ (.slice A t.w.b.length c)).setCell ⟨z8, 1, none⟩ (.slice B t.w.v.length d) = V6 at *
            clear c0 c1 f0 f1 lt
            refine hK.out _ _ ?_ (fun hHeld2 => ?_)
            · exact ⟨hz.cell, hz.cell, hz.cell, h13.cell, h13.cell⟩
            clear hK K hHeld
            have hHeld := hHeld2
            clear hHeld2
            try simp only [Act.put, List.setIfInBounds_toArray, List.set_cons_zero, List.set_cons_succ]
            refine wpAnyH_ready (rs := [10]) (by kernel_rfl) (by simp) ?_
            refine AllReadyH.cons (by simp only [List.getElem?_toArray, List.getElem?_cons_succ, List.getElem?_cons_zero]; rfl) (fun K hK => ?_) (AllReadyH.nil)
            have c0 : V6.cell? ⟨z9, 0, none⟩ = some (.slice none 0 0) := h9.cell
            have c1 : V6.cell? ⟨z9, 1, none⟩ = some (.slice none 0 0) := h9.cell
            have f0 := h9.fr 0
            have f1 := h9.fr 1
            have lt := h9.lt
            replace h4 := h4.put h9 HZ9.out (.slice I t.i.b.length i) (.slice J t.i.v.length j)
            replace h8 := h8.two HZ.out.1.symm (.slice I t.i.b.length i) (.slice J t.i.v.length j)
            replace h9 := h9.set2 (.slice I t.i.b.length i) (.slice J t.i.v.length j)
            replace hz := hz.two (z' := z9) (by omega) (.slice I t.i.b.length i) (.slice J t.i.v.length j)
            replace h13 := h13.two (z' := z9) (by omega) (.slice I t.i.b.length i) (.slice J t.i.v.length j)
            go_simp
            generalize (V6.setCell ⟨z9, 0, none⟩ (.slice I t.i.b.length i)).setCell ⟨z9, 1, none⟩ (.slice J t.i.v.length j) = V7 at *
            clear c0 c1 f0 f1 lt
            refine hK.out _ _ ?_ (fun hHeld2 => ?_)
            · exact ⟨hz.cell, hz.cell, hz.cell, h13.cell, h13.cell⟩
            clear hK K hHeld
            have hHeld := hHeld2
            clear hHeld2
            try simp only [Act.put, List.setIfInBounds_toArray, List.set_cons_zero, List.set_cons_succ]
            refine wpAnyH_take (i := 11) (v := ?_) (by simp only [List.getElem?_toArray, List.getElem?_cons_succ, List.getElem?_cons_zero]; rfl) (by kernel_rfl) (by kernel_rfl) (by kernel_rfl) (fun _ _ _ h => h) (Or.inl ⟨by rfl, ?_⟩) (by assumption) ?_
            rotate_left
            · intro w hSw
              (try dsimp only at hSw)
              go_simp
              (try with_reducible rfl)
            simp only [Act.put, List.setIfInBounds_toArray, List.set_cons_zero, List.set_cons_succ]
            refine wpAnyH_done (by kernel_rfl) ?_ _
            refine NoPanic.normal ?_
            have q30 : V7.cell? ⟨z8, 0, none⟩ = some (.slice A t.w.b.length c) := h8.cell
            have q31 : V7.cell? ⟨z8, 1, none⟩ = some (.slice B t.w.v.length d) := h8.cell
            have q40 : V7.cell? ⟨z9, 0, none⟩ = some (.slice I t.i.b.length i) := h9.cell
            have q41 : V7.cell? ⟨z9, 1, none⟩ = some (.slice J t.i.v.length j) := h9.cell
            clear hHeld
            go_wp2_with fail
            refine bodyPost_ret (v := .tuple #[.agg #[.slice A t.w.b.length c, .slice B t.w.v.length d], .agg #[.slice I t.i.b.length i, .slice J t.i.v.length j], .bool t.full]) (by simp [results, Try.results13, go_sem, q30, q31, q40, q41]) rfl ?_
            rw [← HTT.out, ← HDn.out]
            exact ⟨A, c, B, d, I, i, J, j, rfl, h4.wb, h4.wv, h4.ib, h4.iv⟩
          · have c0 : V5.cell? ⟨z8, 0, none⟩ = some (.slice none 0 0) := h8.cell
            have c1 : V5.cell? ⟨z8, 1, none⟩ = some (.slice none 0 0) := h8.cell
            have f0 := h8.fr 0
            have f1 := h8.fr 1
            have lt := h8.lt
            replace h4 := h4.put h8 HZ8.out (.slice A t.w.b.length c) (.slice B t.w.v.length d)
            replace h9 := h9.two HZ.out.1 (.slice A t.w.b.length c) (.slice B t.w.v.length d)
            replace h8 := h8.set2 (.slice A t.w.b.length c) (.slice B t.w.v.length d)
            replace hz := hz.two (z' := z8) (by omega) (.slice A t.w.b.length c) (.slice B t.w.v.length d)
            replace h13 := h13.two (z' := z8) (by omega) (.slice A t.w.b.length c) (.slice B t.w.v.length d)
            go_simp
            generalize (V5.setCell ⟨z8, 0, none⟩ (.slice A t.w.b.length c)).setCell ⟨z8, 1, none⟩ (.slice B t.w.v.length d) = V6 at *
            clear c0 c1 f0 f1 lt
            refine hK.out _ _ ?_ (fun hHeld2 => ?_)
            · exact ⟨hz.cell, hz.cell, hz.cell, h13.cell, h13.cell⟩
            clear hK K hHeld
            have hHeld := hHeld2
            clear hHeld2
            try simp only [Act.put, List.setIfInBounds_toArray, List.set_cons_zero, List.set_cons_succ]
            refine wpAnyH_ready (rs := [4]) (by kernel_rfl) (by simp) ?_
            refine AllReadyH.cons (by simp only [List.getElem?_toArray, List.getElem?_cons_succ, List.getElem?_cons_zero]; rfl) (fun K hK => ?_) (AllReadyH.nil)
            go_simp
            refine hK.out _ _ ?_ (fun hHeld2 => ?_)
            · exact ⟨hz.cell, hz.cell, hz.cell, h13.cell, h13.cell⟩
            clear hK K hHeld
            have hHeld := hHeld2
            clear hHeld2
            try simp only [Act.put, List.setIfInBounds_toArray, List.set_cons_zero, List.set_cons_succ]
            refine wpAnyH_ready (rs := [10]) (by kernel_rfl) (by simp) ?_
            refine AllReadyH.cons (by simp only [List.getElem?_toArray, List.getElem?_cons_succ, List.getElem?_cons_zero]; rfl) (fun K hK => ?_) (AllReadyH.nil)
            have c0 : V6.cell? ⟨z9, 0, none⟩ = some (.slice none 0 0) := h9.cell
            have c1 : V6.cell? ⟨z9, 1, none⟩ = some (.slice none 0 0) := h9.cell
            have f0 := h9.fr 0
            have f1 := h9.fr 1
            have lt := h9.lt
            replace h4 := h4.put h9 HZ9.out (.slice I t.i.b.length i) (.slice J t.i.v.length j)
            replace h8 := h8.two HZ.out.1.symm (.slice I t.i.b.length i) (.slice J t.i.v.length j)
            replace h9 := h9.set2 (.slice I t.i.b.length i) (.slice J t.i.v.length j)
            replace hz := hz.two (z' := z9) (by omega) (.slice I t.i.b.length i) (.slice J t.i.v.length j)
            replace h13 := h13.two (z' := z9) (by omega) (.slice I t.i.b.length i) (.slice J t.i.v.length j)
            go_simp
            generalize (V6.setCell ⟨z9, 0, none⟩ (.slice I t.i.b.length i)).setCell ⟨z9, 1, none⟩ (.slice J t.i.v.length j) = V7 at *
            clear c0 c1 f0 f1 lt
            refine hK.out _ _ ?_ (fun hHeld2 => ?_)
            · exact ⟨hz.cell, hz.cell, hz.cell, h13.cell, h13.cell⟩
            clear hK K hHeld
            have hHeld := hHeld2
            clear hHeld2
            try simp only [Act.put, List.setIfInBounds_toArray, List.set_cons_zero, List.set_cons_succ]
            refine wpAnyH_take (i := 11) (v := ?_) (by simp only [List.getElem?_toArray, List.getElem?_cons_succ, List.getElem?_cons_zero]; rfl) (by kernel_rfl) (by kernel_rfl) (by kernel_rfl) (fun _ _ _ h => h) (Or.inl ⟨by rfl, ?_⟩) (by assumption) ?_
            rotate_left
            · intro w hSw
              (try dsimp only at hSw)
              go_simp
              (try with_reducible rfl)
            simp only [Act.put, List.setIfInBounds_toArray, List.set_cons_zero, List.set_cons_succ]
            refine wpAnyH_done (by kernel_rfl) ?_ _
            refine NoPanic.normal ?_
            have q30 : V7.cell? ⟨z8, 0, none⟩ = some (.slice A t.w.b.length c) := h8.cell
            have q31 : V7.cell? ⟨z8, 1, none⟩ = some (.slice B t.w.v.length d) := h8.cell
            have q40 : V7.cell? ⟨z9, 0, none⟩ = some (.slice I t.i.b.length i) := h9.cell
            have q41 : V7.cell? ⟨z9, 1, none⟩ = some (.slice J t.i.v.length j) := h9.cell
            clear hHeld
            go_wp2_with fail
            refine bodyPost_ret (v := .tuple #[.agg #[.slice A t.w.b.length c, .slice B t.w.v.length d], .agg #[.slice I t.i.b.length i, .slice J t.i.v.length j], .bool t.full]) (by simp [results, Try.results13, go_sem, q30, q31, q40, q41]) rfl ?_
            rw [← HTT.out, ← HDn.out]
            exact ⟨A, c, B, d, I, i, J, j, rfl, h4.wb, h4.wv, h4.ib, h4.iv⟩
        · have c0 : V5.cell? ⟨z8, 0, none⟩ = some (.slice none 0 0) := h8.cell
          have c1 : V5.cell? ⟨z8, 1, none⟩ = some (.slice none 0 0) := h8.cell
          have f0 := h8.fr 0
          have f1 := h8.fr 1
          have lt := h8.lt
          replace h4 := h4.put h8 HZ8.out (.slice A t.w.b.length c) (.slice B t.w.v.length d)
          replace h9 := h9.two HZ.out.1 (.slice A t.w.b.length c) (.slice B t.w.v.length d)
          replace h8 := h8.set2 (.slice A t.w.b.length c) (.slice B t.w.v.length d)
          replace hz := hz.two (z' := z8) (by omega) (.slice A t.w.b.length c) (.slice B t.w.v.length d)
          replace h13 := h13.two (z' := z8) (by omega) (.slice A t.w.b.length c) (.slice B t.w.v.length d)
          go_simp
          generalize (V5.setCell ⟨z8, 0, none⟩ (.slice A t.w.b.length c)).setCell ⟨z8, 1, none⟩ (.slice B t.w.v.length d) = V6 at *
          clear c0 c1 f0 f1 lt
          refine hK.out _ _ ?_ (fun hHeld2 => ?_)
          · exact ⟨hz.cell, hz.cell, hz.cell, h13.cell, h13.cell⟩
          clear hK K hHeld
          have hHeld := hHeld2
          clear hHeld2
          try simp only [Act.put, List.setIfInBounds_toArray, List.set_cons_zero, List.set_cons_succ]
          refine wpAnyH_ready (rs := [4, 8]) (by kernel_rfl) (by simp) ?_
          refine AllReadyH.cons (by simp only [List.getElem?_toArray, List.getElem?_cons_succ, List.getElem?_cons_zero]; rfl) (fun K hK => ?_) (AllReadyH.cons (by simp only [List.getElem?_toArray, List.getElem?_cons_succ, List.getElem?_cons_zero]; rfl) (fun K hK => ?_) (AllReadyH.nil))
          · go_simp
            refine hK.out _ _ ?_ (fun hHeld2 => ?_)
            · exact ⟨hz.cell, hz.cell, hz.cell, h13.cell, h13.cell⟩
            clear hK K hHeld
            have hHeld := hHeld2
            clear hHeld2
            try simp only [Act.put, List.setIfInBounds_toArray, List.set_cons_zero, List.set_cons_succ]
            refine wpAnyH_ready (rs := [8, 10]) (by kernel_rfl) (by simp) ?_
            refine AllReadyH.cons (by simp only [List.getElem?_toArray, List.getElem?_cons_succ, List.getElem?_cons_zero]; rfl) (fun K hK => ?_) (AllReadyH.cons (by simp only [List.getElem?_toArray, List.getElem?_cons_succ, List.getElem?_cons_zero]; rfl) (fun K hK => ?_) (AllReadyH.nil))
            · go_simp
              refine hK.out _ _ ?_ (fun hHeld2 => ?_)
              · exact ⟨hz.cell, hz.cell, hz.cell, h13.cell, h13.cell⟩
              clear hK K hHeld
              have hHeld := hHeld2
              clear hHeld2
              try simp only [Act.put, List.setIfInBounds_toArray, List.set_cons_zero, List.set_cons_succ]
              refine wpAnyH_ready (rs := [10]) (by kernel_rfl) (by simp) ?_
              refine AllReadyH.cons (by simp only [List.getElem?_toArray, List.getElem?_cons_succ, List.getElem?_cons_zero]; rfl) (fun K hK => ?_) (AllReadyH.nil)
              have c0 : V6.cell? ⟨z9, 0, none⟩ = some (.slice none 0 0) := h9.cell
              have c1 : V6.cell? ⟨z9, 1, none⟩ = some (.slice none 0 0) := h9.cell
              have f0 := h9.fr 0
              have f1 := h9.fr 1
              have lt := h9.lt
              replace h4 := h4.put h9 HZ9.out (.slice I t.i.b.length i) (.slice J t.i.v.length j)
              replace h8 := h8.two HZ.out.1.symm (.slice I t.i.b.length i) (.slice J t.i.v.length j)
              replace h9 := h9.set2 (.slice I t.i.b.length i) (.slice J t.i.v.length j)
              replace hz := hz.two (z' := z9) (by omega) (.slice I t.i.b.length i) (.slice J t.i.v.length j)
              replace h13 := h13.two (z' := z9) (by omega) (.slice I t.i.b.length i) (.slice J t.i.v.length j)
              go_simp
              generalize (V6.setCell ⟨z9, 0, none⟩ (.slice I t.i.b.length i)).setCell ⟨z9, 1, none⟩ (.slice J t.i.v.length j) = V7 at *
              clear c0 c1 f0 f1 lt
              refine hK.out _ _ ?_ (fun hHeld2 => ?_)
              · exact ⟨hz.cell, hz.cell, hz.cell, h13.cell, h13.cell⟩
              clear hK K hHeld
              have hHeld := hHeld2
              clear hHeld2
              try simp only [Act.put, List.setIfInBounds_toArray, List.set_cons_zero, List.set_cons_succ]
              refine wpAnyH_take (i := 11) (v := ?_) (by simp only [List.getElem?_toArray, List.getElem?_cons_succ, List.getElem?_cons_zero]; rfl) (by kernel_rfl) (by kernel_rfl) (by kernel_rfl) (fun _ _ _ h => h) (Or.inl ⟨by rfl, ?_⟩) (by assumption) ?_
              rotate_left
              · intro w hSw
                (try dsimp only at hSw)
                go_simp
                (try with_reducible rfl)
              simp only [Act.put, List.setIfInBounds_toArray, List.set_cons_zero, List.set_cons_succ]
              refine wpAnyH_done (by kernel_rfl) ?_ _
              refine NoPanic.normal ?_
              have q30 : V7.cell? ⟨z8, 0, none⟩ = some (.slice A t.w.b.length c) := h8.cell
              have q31 : V7.cell? ⟨z8, 1, none⟩ = some (.slice B t.w.v.length d) := h8.cell
              have q40 : V7.cell? ⟨z9, 0, none⟩ = some (.slice I t.i.b.length i) := h9.cell
              have q41 : V7.cell? ⟨z9, 1, none⟩ = some (.slice J t.i.v.length j) := h9.cell
              clear hHeld
              go_wp2_with fail
              refine bodyPost_ret (v := .tuple #[.agg #[.slice A t.w.b.length c, .slice B t.w.v.length d], .agg #[.slice I t.i.b.length i, .slice J t.i.v.length j], .bool t.full]) (by simp [results, Try.results13, go_sem, q30, q31, q40, q41]) rfl ?_
              rw [← HTT.out, ← HDn.out]
              exact ⟨A, c, B, d, I, i, J, j, rfl, h4.wb, h4.wv, h4.ib, h4.iv⟩
            · have c0 : V6.cell? ⟨z9, 0, none⟩ = some (.slice none 0 0) := h9.cell
              have c1 : V6.cell? ⟨z9, 1, none⟩ = some (.slice none 0 0) := h9.cell
              have f0 := h9.fr 0
              have f1 := h9.fr 1
              have lt := h9.lt
              replace h4 := h4.put h9 HZ9.out (.slice I t.i.b.length i) (.slice J t.i.v.length j)
              replace h8 := h8.two HZ.out.1.symm (.slice I t.i.b.length i) (.slice J t.i.v.length j)
              replace h9 := h9.set2 (.slice I t.i.b.length i) (.slice J t.i.v.length j)
              replace hz := hz.two (z' := z9) (by omega) (.slice I t.i.b.length i) (.slice J t.i.v.length j)
              replace h13 := h13.two (z' := z9) (by omega) (.slice I t.i.b.length i) (.slice J t.i.v.length j)
              go_simp
              generalize (V6.setCell ⟨z9, 0, none⟩ (.slice I t.i.b.length i)).setCell ⟨z9, 1, none⟩ (.slice J t.i.v.length j) = V7 at *
              clear c0 c1 f0 f1 lt
              refine hK.out _ _ ?_ (fun hHeld2 => ?_)
              · exact ⟨hz.cell, hz.cell, hz.cell, h13.cell, h13.cell⟩
              clear hK K hHeld
              have hHeld := hHeld2
              clear hHeld2
              try simp only [Act.put, List.setIfInBounds_toArray, List.set_cons_zero, List.set_cons_succ]
              refine wpAnyH_ready (rs := [8]) (by kernel_rfl) (by simp) ?_
              refine AllReadyH.cons (by simp only [List.getElem?_toArray, List.getElem?_cons_succ, List.getElem?_cons_zero]; rfl) (fun K hK => ?_) (AllReadyH.nil)
              go_simp
              refine hK.out _ _ ?_ (fun hHeld2 => ?_)
              · exact ⟨hz.cell, hz.cell, hz.cell, h13.cell, h13.cell⟩
              clear hK K hHeld
              have hHeld := hHeld2
              clear hHeld2
              try simp only [Act.put, List.setIfInBounds_toArray, List.set_cons_zero, List.set_cons_succ]
              refine wpAnyH_take (i := 11) (v := ?_) (by simp only [List.getElem?_toArray, List.getElem?_cons_succ, List.getElem?_cons_zero]; rfl) (by kernel_rfl) (by kernel_rfl) (by kernel_rfl) (fun _ _ _ h => h) (Or.inl ⟨by rfl, ?_⟩) (by assumption) ?_
              rotate_left
              · intro w hSw
                (try dsimp only at hSw)
                go_simp
                (try with_reducible rfl)
              simp only [Act.put, List.setIfInBounds_toArray, List.set_cons_zero, List.set_cons_succ]
              refine wpAnyH_done (by kernel_rfl) ?_ _
              refine NoPanic.normal ?_
              have q30 : V7.cell? ⟨z8, 0, none⟩ = some (.slice A t.w.b.length c) := h8.cell
              have q31 : V7.cell? ⟨z8, 1, none⟩ = some (.slice B t.w.v.length d) := h8.cell
              have q40 : V7.cell? ⟨z9, 0, none⟩ = some (.slice I t.i.b.length i) := h9.cell
              have q41 : V7.cell? ⟨z9, 1, none⟩ = some (.slice J t.i.v.length j) := h9.cell
              clear hHeld
              go_wp2_with fail
              refine bodyPost_ret (v := .tuple #[.agg #[.slice A t.w.b.length c, .slice B t.w.v.length d], .agg #[.slice I t.i.b.length i, .slice J t.i.v.length j], .bool t.full]) (by simp [results, Try.results13, go_sem, q30, q31, q40, q41]) rfl ?_
              rw [← HTT.out, ← HDn.out]
              exact ⟨A, c, B, d, I, i, J, j, rfl, h4.wb, h4.wv, h4.ib, h4.iv⟩
          · go_simp
            refine hK.out _ _ ?_ (fun hHeld2 => ?_)
            · exact ⟨hz.cell, hz.cell, hz.cell, h13.cell, h13.cell⟩
            clear hK K hHeld
            have hHeld := hHeld2
            clear hHeld2
            try simp only [Act.put, List.setIfInBounds_toArray, List.set_cons_zero, List.set_cons_succ]
            refine wpAnyH_ready (rs := [4]) (by kernel_rfl) (by simp) ?_
            refine AllReadyH.cons (by simp only [List.getElem?_toArray, List.getElem?_cons_succ, List.getElem?_cons_zero]; rfl) (fun K hK => ?_) (AllReadyH.nil)
            go_simp
            refine hK.out _ _ ?_ (fun hHeld2 => ?_)
            · exact ⟨hz.cell, hz.cell, hz.cell, h13.cell, h13.cell⟩
            clear hK K hHeld
            have hHeld := hHeld2
            clear hHeld2
            try simp only [Act.put, List.setIfInBounds_toArray, List.set_cons_zero, List.set_cons_succ]
            refine wpAnyH_ready (rs := [10]) (by kernel_rfl) (by simp) ?_
            refine AllReadyH.cons (by simp only [List.getElem?_toArray, List.getElem?_cons_succ, List.getElem?_cons_zero]; rfl) (fun K hK => ?_) (AllReadyH.nil)
            have c0 : V6.cell? ⟨z9, 0, none⟩ = some (.slice none 0 0) := h9.cell
            have c1 : V6.cell? ⟨z9, 1, none⟩ = some (.slice none 0 0) := h9.cell
            have f0 := h9.fr 0
            have f1 := h9.fr 1
            have lt := h9.lt
            replace h4 := h4.put h9 HZ9.out (.slice I t.i.b.length i) (.slice J t.i.v.length j)
            replace h8 := h8.two HZ.out.1.symm (.slice I t.i.b.length i) (.slice J t.i.v.length j)
            replace h9 := h9.set2 (.slice I t.i.b.length i) (.slice J t.i.v.length j)
            replace hz := hz.two (z' := z9) (by omega) (.slice I t.i.b.length i) (.slice J t.i.v.length j)
            replace h13 := h13.two (z' := z9) (by omega) (.slice I t.i.b.length i) (.slice J t.i.v.length j)
            go_simp
            generalize (V6.setCell ⟨z9, 0, none⟩ (.slice I t.i.b.length i)).setCell ⟨z9, 1, none⟩ (.slice J t.i.v.length j) = V7 at *
            clear c0 c1 f0 f1 lt
            refine hK.out _ _ ?_ (fun hHeld2 => ?_)
            · exact ⟨hz.cell, hz.cell, hz.cell, h13.cell, h13.cell⟩
            clear hK K hHeld
            have hHeld := hHeld2
            clear hHeld2
            try simp only [Act.put, List.setIfInBounds_toArray, List.set_cons_zero, List.set_cons_succ]
            refine wpAnyH_take (i := 11) (v := ?_) (by simp only [List.getElem?_toArray, List.getElem?_cons_succ, List.getElem?_cons_zero]; rfl) (by kernel_rfl) (by kernel_rfl) (by kernel_rfl) (fun _ _ _ h => h) (Or.inl ⟨by rfl, ?_⟩) (by assumption) ?_
            rotate_left
            · intro w hSw
              (try dsimp only at hSw)
              go_simp
              (try with_reducible rfl)
            simp only [Act.put, List.setIfInBounds_toArray, List.set_cons_zero, List.set_cons_succ]
            refine wpAnyH_done (by kernel_rfl) ?_ _
            refine NoPanic.normal ?_
            have q30 : V7.cell? ⟨z8, 0, none⟩ = some (.slice A t.w.b.length c) := h8.cell
            have q31 : V7.cell? ⟨z8, 1, none⟩ = some (.slice B t.w.v.length d) := h8.cell
            have q40 : V7.cell? ⟨z9, 0, none⟩ = some (.slice I t.i.b.length i) := h9.cell
            have q41 : V7.cell? ⟨z9, 1, none⟩ = some (.slice J t.i.v.length j) := h9.cell
            clear hHeld
            go_wp2_with fail
            refine bodyPost_ret (v := .tuple #[.agg #[.slice A t.w.b.length c, .slice B t.w.v.length d], .agg #[.slice I t.i.b.length i, .slice J t.i.v.length j], .bool t.full]) (by simp [results, Try.results13, go_sem, q30, q31, q40, q41]) rfl ?_
            rw [← HTT.out, ← HDn.out]
            exact ⟨A, c, B, d, I, i, J, j, rfl, h4.wb, h4.wv, h4.ib, h4.iv⟩

end Go.Proofs.Ytacdiicnfoejoaa
