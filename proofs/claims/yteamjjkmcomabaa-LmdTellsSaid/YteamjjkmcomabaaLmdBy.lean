/-
  The contracts of package lmd's calls onBy and On.
-/
import Derived.Test.YteamjjkmcomabaaLmdOn
import Derived.Test.YteamjjkmcomabaaVoteOfG
import Derived.Test.YteamjjkmcomabaaKeepS
namespace Go.Proofs.Yteamjjkmcomabaa
set_option maxRecDepth 100000
set_option linter.unusedVariables false
set_option linter.unusedSimpArgs false
set_option linter.unusedSimpArgs false
set_option linter.unusedVariables false
open Go.ChangeShapes Go.WideShapes Go.ChangeAt Go.RowKit

/-- A block of its own that holds the cells xs. -/
def AtB (w : World) (z : Nat) (xs : Array Value) (t : TypeId) : Prop := w.heap[z]? = some (.cells xs t (0, 0))
theorem AtB.lt {w : World} {z : Nat} {xs : Array Value} {t : TypeId} (h : AtB w z xs t) : z < w.heap.size := (Array.getElem?_eq_some_iff.1 h).1
theorem AtB.cell {w : World} {z j : Nat} {xs : Array Value} {t : TypeId} (h : AtB w z xs t) : w.cell? ⟨z, j, none⟩ = xs[j]? := by rw [cell_of_row w z j _ _ _ h]
theorem AtB.fr {w : World} {z : Nat} {xs : Array Value} {t : TypeId} (h : AtB w z xs t) (j : Nat) : w.frozen? ⟨z, j, none⟩ = false := frozen_of_row w z j _ _ h
theorem AtB.new (w : World) (xs : Array Value) (t : TypeId) : AtB (w.alloc (.cells xs t)) w.heap.size xs t := heap_alloc_new w _
theorem AtB.kept {w w' : World} {z : Nat} {xs : Array Value} {t : TypeId} (h : AtB w z xs t) (k : Kept w w') : AtB w' z xs t := (k.heap h.lt).trans h
theorem AtB.other {w : World} {z : Nat} {xs : Array Value} {t : TypeId} (h : AtB w z xs t) {p : Addr} (hp : p.block ≠ z) (u : Value) : AtB (w.setCell p u) z xs t := by
  unfold AtB
  rw [heap_setCell_other w p z u (fun e => hp e.symm)]
  exact h
theorem AtB.set1 {w : World} {z : Nat} {x : Value} {t : TypeId} (h : AtB w z #[x] t) (y : Value) : AtB (w.setCell ⟨z, 0, none⟩ y) z #[y] t := heap_setCell_same w z 0 _ _ y h
theorem AtB.has {w : World} {z : Nat} {xs : Array Value} {t : TypeId} (h : AtB w z xs t) : HasCells w z xs.toList := ⟨h.lt, fun j u hu => by rw [h.cell]; simpa using hu⟩
/-- A row of others than what lies in the cell that is written stays as it is. -/
theorem CellsAt.past {w : World} {A : Option Addr} {xs : List Value} (h : CellsAt w w.heap.size A xs) {p : Addr} {u : Value} (hp : w.cell? p = some u) (hu : u ∉ xs) (v : Value) : CellsAt (w.setCell p v) (w.setCell p v).heap.size A xs := fun j y hy => by
  obtain ⟨ad, e, hb, hc⟩ := h j y hy
  refine ⟨ad, e, by simpa using hb, ?_⟩
  rw [World.cell?_setCell_other _ _ _ _ (fun q => ?_)]
  · exact hc
  · rw [← q, hp] at hc
    injection hc with hc
    exact hu (by rw [hc]; exact List.mem_of_getElem? hy)
theorem votes_ints (l : List Vt) (A : Option Addr) (n c : Nat) : Value.slice A n c ∉ votesCells l := by
  intro h
  unfold votesCells at h
  obtain ⟨v, _, hv⟩ := List.mem_flatMap.1 h
  simp [vtCells] at hv
/-- A function value that tells g of an id. -/
def OnFn (f : Nat) (cb : Array Value) (g : Id2 → Int) (w : World) : Prop := ∀ W, Kept w W → ∀ x, WfI x → Calls Try.prog f (#[.agg #[.int .u64 x.1, .int .u64 x.2]] ++ cb) W fun e w' => e = .returned (.int .i64 (g x)) ∧ Kept W w'
theorem OnFn.kept {f : Nat} {cb : Array Value} {g : Id2 → Int} {w w' : World} (h : OnFn f cb g w) (k : Kept w w') : OnFn f cb g w' := fun W hW => h W (k.trans hW)
def OnIs (k : Cf) (l : List Bk) (bo : Id2) (pct B : Int) : Prop := ∀ R x, onB k l R bo pct x = onC k l R x + liftC l bo B x
def Enters (f : Nat) : Prop := ∀ args w, (callFunc f args).run Try.prog w = .ok (.enter f args) w
theorem votes_past (l : List Vt) {w : World} {A : Option Addr} {z : Nat} {x : Value} {t : TypeId} (h : CellsAt w w.heap.size A (votesCells l)) (hz : AtB w z #[x] t) (y : Value) : CellsAt (w.setCell ⟨z, 0, none⟩ y) (w.setCell ⟨z, 0, none⟩ y).heap.size A (votesCells l) := by
  by_cases h0 : l = []
  · subst h0; exact fun j u hu => by cases hu
  · have hlen : 0 < l.length := List.length_pos_iff.2 h0
    obtain ⟨z', o, e, hb, c0, c1, c2, c3⟩ := vote_at h hlen
    refine fun j u hu => ?_
    obtain ⟨ad, e2, hb2, hc⟩ := h j u hu
    refine ⟨ad, e2, by simpa using hb2, ?_⟩
    rw [World.cell?_setCell_other _ _ _ _ (fun q => ?_)]
    · exact hc
    · rw [e] at e2
      injection e2 with e2
      have hzz : z' = z := by
        have := congrArg Addr.block q
        rw [block_add, ← e2] at this
        exact this.symm
      subst hzz
      rw [hz.cell] at c1
      simp at c1
theorem onBy_end (kA : Option Addr) (kc : Nat) (k : Cf) (lA : Option Addr) (lc : Nat) (l : List Bk) (rA : Option Addr) (rc : Nat) (r : List Vt) (bo : Id2) (B : Int) (z1 z2 z4 z3 z5 : Nat) {v : List Vt} {q : Int → Bool} {pct : Int} {w w' : World} (hl : l.length ≤ 10000) (hr : r.length ≤ 10000) (hwl : WfL l) (hwr : WfVs r) (hbo : WfI bo) (hB : 0 ≤ B ∧ B ≤ totalC k) (hC : Cnts v q r)
    (h1 : HasCells w' z1 [.slice kA k.ws.length kc, .int .u64 k.seed, .int .i64 k.ep, .int .i64 k.nu, .int .i64 k.de]) (h2 : HasCells w' z2 [.slice lA l.length lc]) (h4 : HasCells w' z4 [.int .u64 bo.1, .int .u64 bo.2]) (h3 : HasCells w' z3 [.slice rA r.length rc]) (h5 : HasCells w' z5 [.int .i64 B]) (hA : CellsAt w' w'.heap.size kA (intCells k.ws)) (hL : CellsAt w' w'.heap.size lA (blockCells l)) (hR : CellsAt w' w'.heap.size rA (votesCells r)) (hON : OnIs k l bo pct B) (hk : Kept w w') :
    ∃ R f cb, Cnts v q R ∧ (Ending.returned (.func (.func 55) #[] #[.pointer (some ⟨z1, 0, none⟩), .pointer (some ⟨z2, 0, none⟩), .pointer (some ⟨z3, 0, none⟩), .pointer (some ⟨z4, 0, none⟩), .pointer (some ⟨z5, 0, none⟩)])) = .returned (.func (.func f) #[] cb) ∧ Enters f ∧ OnFn f cb (onB k l R bo pct) w' ∧ Kept w w' :=
  ⟨r, _, _, hC, rfl, enters_of Try.func55 (by kernel_rfl) rfl, fun W hW x hx => by
    rw [hON r x]
    exact onBy1_any kA kc k lA lc l rA rc r bo B x z1 z2 z3 z4 z5 W hl hr hwl hwr hbo hx hB (h1.kept hW) (h2.kept hW) (h3.kept hW) (h4.kept hW) (h5.kept hW) (hA.kept hW) (hL.kept hW) (hR.kept hW), hk⟩
set_option maxRecDepth 100000 in
set_option maxHeartbeats 12800000 in
theorem onBy_any (kA : Option Addr) (kc : Nat) (k : Cf) (lA : Option Addr) (lc : Nat) (l : List Bk) (vA : Option Addr) (vc : Nat) (v : List Vt) (upto : Int) (bo : Id2) (pct : Int) (w : World)
    (hk : k.ws.length ≤ 1000) (hl : l.length ≤ 10000) (hv : v.length ≤ 10000) (hwl : WfL l) (hwv : WfVs v) (hbo : WfI bo) (hA : CellsAt w w.heap.size kA (intCells k.ws)) (hL : CellsAt w w.heap.size lA (blockCells l)) (hV : CellsAt w w.heap.size vA (votesCells v)) :
    Calls Try.prog 33 #[.agg #[.slice kA k.ws.length kc, .int .u64 k.seed, .int .i64 k.ep, .int .i64 k.nu, .int .i64 k.de], .slice lA l.length lc, .slice vA v.length vc, .int .i64 upto, .agg #[.int .u64 bo.1, .int .u64 bo.2], .int .i64 pct] w fun e w' => ∃ R f cb, Cnts v (upQ upto) R ∧ e = .returned (.func (.func f) #[] cb) ∧ Enters f ∧ OnFn f cb (onB k l R bo pct) w' ∧ Kept w w' := by
  go_enter Try.func33, Try.ntmps33
  go_wp2_with fail
  have K0 := Lib.hid ((((Kept.refl w).alloc (.cells #[.slice kA k.ws.length kc, .int .u64 k.seed, .int .i64 k.ep, .int .i64 k.nu, .int .i64 k.de] 25)).alloc (.cells #[.slice lA l.length lc] 26)).alloc (.cells #[.int .u64 bo.1, .int .u64 bo.2] 29))
  have HA := Lib.hid (hA.kept K0.out)
  clear hA
  have HL := Lib.hid (hL.kept K0.out)
  clear hL
  have HV := Lib.hid (hV.kept K0.out)
  clear hV
  have HB0 := Lib.hid (((HasCells.new w #[.slice kA k.ws.length kc, .int .u64 k.seed, .int .i64 k.ep, .int .i64 k.nu, .int .i64 k.de] 25 (w.heap.size) (by simp)).alloc (.cells #[.slice lA l.length lc] 26)).alloc (.cells #[.int .u64 bo.1, .int .u64 bo.2] 29))
  have HB1 := Lib.hid ((HasCells.new (w.alloc (.cells #[.slice kA k.ws.length kc, .int .u64 k.seed, .int .i64 k.ep, .int .i64 k.nu, .int .i64 k.de] 25)) #[.slice lA l.length lc] 26 (w.heap.size + 1) (by simp)).alloc (.cells #[.int .u64 bo.1, .int .u64 bo.2] 29))
  have HB2 := Lib.hid (HasCells.new ((w.alloc (.cells #[.slice kA k.ws.length kc, .int .u64 k.seed, .int .i64 k.ep, .int .i64 k.nu, .int .i64 k.de] 25)).alloc (.cells #[.slice lA l.length lc] 26)) #[.int .u64 bo.1, .int .u64 bo.2] 29 (w.heap.size + 1 + 1) (by simp))
  generalize (((w.alloc (.cells #[.slice kA k.ws.length kc, .int .u64 k.seed, .int .i64 k.ep, .int .i64 k.nu, .int .i64 k.de] 25)).alloc (.cells #[.slice lA l.length lc] 26)).alloc (.cells #[.int .u64 bo.1, .int .u64 bo.2] 29)) = W0 at *
  generalize w.heap.size + 1 + 1 = z2 at *
  generalize w.heap.size + 1 = z1 at *
  generalize w.heap.size = z0 at *
  have KB0 := Lib.hid (Kept.refl W0)
  have HLa := Lib.hid (fun w' (kk : Kept W0 w') => last_any vA vc v (by omega) hwv upto w' (HV.out.kept kk))
  have HBo := Lib.hid (fun w' (kk : Kept W0 w') => lmdBoost_any kA kc k pct w' hk (HA.out.kept kk))
  have HBB := Lib.hid (boost_bounds k pct)
  have HON := Lib.hid (show OnIs k l bo pct (boostC k pct) from fun _ _ => rfl)
  generalize hB : boostC k pct = B at *
  have HBE := Lib.hid hB
  clear hB
  obtain ⟨b00, b01, b02, b03, b04⟩ := (HB0.out.kept KB0.out).five
  have bz0 := (HB0.out.kept KB0.out).1
  go_wp2_with fail
  refine wp_region_noPanic ?_
  refine wp_region_held_drew (S := (fun w' => w'.cell? ⟨z0, 0, none⟩ = some (.slice kA k.ws.length kc) ∧ w'.cell? ⟨z0, 1, none⟩ = some (.int .u64 k.seed) ∧ w'.cell? ⟨z0, 2, none⟩ = some (.int .i64 k.ep) ∧ w'.cell? ⟨z0, 3, none⟩ = some (.int .i64 k.nu) ∧ w'.cell? ⟨z0, 4, none⟩ = some (.int .i64 k.de) ∧ Kept W0 w')) (by kernel_rfl) ?_ (fun hHeld => ?_)
  · exact ⟨b00, b01, b02, b03, b04, (Kept.refl _).drew⟩
  generalize W0.drew = V0 at *
  refine wpAnyH_take (i := 0) (v := ?_) (by simp only [List.getElem?_toArray, List.getElem?_cons_succ, List.getElem?_cons_zero]; rfl) (by kernel_rfl) (by kernel_rfl) (by kernel_rfl) (fun _ _ _ h => h) (Or.inl ⟨by rfl, ?_⟩) (by assumption) ?_
  rotate_left
  · intro w hSw
    (try dsimp only at hSw)
    go_simp
    (try with_reducible rfl)
  simp only [Act.put, List.setIfInBounds_toArray, List.set_cons_zero, List.set_cons_succ]
  refine wpAnyH_take (i := 1) (v := ?_) (by simp only [List.getElem?_toArray, List.getElem?_cons_succ, List.getElem?_cons_zero]; rfl) (by kernel_rfl) (by kernel_rfl) (by kernel_rfl) (fun _ _ _ h => h) (Or.inl ⟨by rfl, ?_⟩) (by assumption) ?_
  rotate_left
  · intro w hSw
    (try dsimp only at hSw)
    go_simp
    (try with_reducible rfl)
  simp only [Act.put, List.setIfInBounds_toArray, List.set_cons_zero, List.set_cons_succ]
  refine wpAnyH_take (i := 3) (v := ?_) (by simp only [List.getElem?_toArray, List.getElem?_cons_succ, List.getElem?_cons_zero]; rfl) (by kernel_rfl) (by kernel_rfl) (by kernel_rfl) (fun _ _ _ h => h) (Or.inl ⟨by rfl, ?_⟩) (by assumption) ?_
  rotate_left
  · intro w hSw
    (try dsimp only at hSw)
    go_simp
    (try with_reducible rfl)
  simp only [Act.put, List.setIfInBounds_toArray, List.set_cons_zero, List.set_cons_succ]
  refine wpAnyH_take (i := 4) (v := ?_) (by simp only [List.getElem?_toArray, List.getElem?_cons_succ, List.getElem?_cons_zero]; rfl) (by kernel_rfl) (by kernel_rfl) (by kernel_rfl) (fun _ _ _ h => h) (Or.inl ⟨by rfl, ?_⟩) (by assumption) ?_
  rotate_left
  · intro w hSw
    (try dsimp only at hSw)
    go_simp
    (try with_reducible rfl)
  simp only [Act.put, List.setIfInBounds_toArray, List.set_cons_zero, List.set_cons_succ]
  refine wpAnyH_ready (rs := [2, 6, 7]) (by kernel_rfl) (by simp) ?_
  refine AllReadyH.cons (by simp only [List.getElem?_toArray, List.getElem?_cons_succ, List.getElem?_cons_zero]; rfl) (fun K hK => ?_) (AllReadyH.cons (by simp only [List.getElem?_toArray, List.getElem?_cons_succ, List.getElem?_cons_zero]; rfl) (fun K hK => ?_) (AllReadyH.cons (by simp only [List.getElem?_toArray, List.getElem?_cons_succ, List.getElem?_cons_zero]; rfl) (fun K hK => ?_) (AllReadyH.nil)))
  · go_simp
    go_at_call 19; with_reducible refine (HLa.out _ (hHeld.2.2.2.2.2)).mono ?_
    rintro e V1 ⟨R, hR, hRl, rA, rc, rfl, hC, kk⟩
    try go_wp2_with fail
    refine hK.out _ _ ?_ (fun hHeld2 => ?_)
    · exact keepP5 bz0 bz0 bz0 bz0 bz0 hHeld kk
    clear hK K hHeld
    have hHeld := hHeld2
    clear hHeld2
    try simp only [Act.put, List.setIfInBounds_toArray, List.set_cons_zero, List.set_cons_succ]
    refine wpAnyH_ready (rs := [5, 6, 7]) (by kernel_rfl) (by simp) ?_
    refine AllReadyH.cons (by simp only [List.getElem?_toArray, List.getElem?_cons_succ, List.getElem?_cons_zero]; rfl) (fun K hK => ?_) (AllReadyH.cons (by simp only [List.getElem?_toArray, List.getElem?_cons_succ, List.getElem?_cons_zero]; rfl) (fun K hK => ?_) (AllReadyH.cons (by simp only [List.getElem?_toArray, List.getElem?_cons_succ, List.getElem?_cons_zero]; rfl) (fun K hK => ?_) (AllReadyH.nil)))
    · go_simp
      go_at_call 14; with_reducible refine (HBo.out _ (hHeld.2.2.2.2.2)).mono ?_
      rintro e V2 ⟨rfl, kk⟩
      replace hC := hC.kept kk
      try go_wp2_with fail
      refine hK.out _ _ ?_ (fun hHeld2 => ?_)
      · exact keepP5 bz0 bz0 bz0 bz0 bz0 hHeld kk
      clear hK K hHeld
      have hHeld := hHeld2
      clear hHeld2
      try simp only [Act.put, List.setIfInBounds_toArray, List.set_cons_zero, List.set_cons_succ]
      refine wpAnyH_ready (rs := [6, 7]) (by kernel_rfl) (by simp) ?_
      refine AllReadyH.cons (by simp only [List.getElem?_toArray, List.getElem?_cons_succ, List.getElem?_cons_zero]; rfl) (fun K hK => ?_) (AllReadyH.cons (by simp only [List.getElem?_toArray, List.getElem?_cons_succ, List.getElem?_cons_zero]; rfl) (fun K hK => ?_) (AllReadyH.nil))
      · have h13 := AtB.new V2 #[.slice none 0 0] 27
        have kk := (Kept.refl V2).alloc (.cells #[.slice none 0 0] 27)
        have hzh13 := (hHeld.2.2.2.2.2).size_le
        replace hC := hC.kept kk
        go_simp
        generalize V2.alloc (.cells #[.slice none 0 0] 27) = V3 at *
        generalize V2.heap.size = z13 at *
        refine hK.out _ _ ?_ (fun hHeld2 => ?_)
        · exact keepP5 bz0 bz0 bz0 bz0 bz0 hHeld kk
        clear hK K hHeld
        have hHeld := hHeld2
        clear hHeld2
        try simp only [Act.put, List.setIfInBounds_toArray, List.set_cons_zero, List.set_cons_succ]
        refine wpAnyH_ready (rs := [7]) (by kernel_rfl) (by simp) ?_
        refine AllReadyH.cons (by simp only [List.getElem?_toArray, List.getElem?_cons_succ, List.getElem?_cons_zero]; rfl) (fun K hK => ?_) (AllReadyH.nil)
        have hne : z13 ≠ V3.heap.size := Nat.ne_of_lt h13.lt
        have h14 := AtB.new V3 #[.int .i64 0] 3
        have kk := (Kept.refl V3).alloc (.cells #[.int .i64 0] 3)
        have hzh14 := (hHeld.2.2.2.2.2).size_le
        replace hC := hC.kept kk
        replace h13 := h13.kept kk
        go_simp
        generalize V3.alloc (.cells #[.int .i64 0] 3) = V4 at *
        generalize V3.heap.size = z14 at *
        refine hK.out _ _ ?_ (fun hHeld2 => ?_)
        · exact keepP5 bz0 bz0 bz0 bz0 bz0 hHeld kk
        clear hK K hHeld
        have hHeld := hHeld2
        clear hHeld2
        try simp only [Act.put, List.setIfInBounds_toArray, List.set_cons_zero, List.set_cons_succ]
        refine wpAnyH_ready (rs := [8]) (by kernel_rfl) (by simp) ?_
        refine AllReadyH.cons (by simp only [List.getElem?_toArray, List.getElem?_cons_succ, List.getElem?_cons_zero]; rfl) (fun K hK => ?_) (AllReadyH.nil)
        have c := h13.cell (j := 0)
        have fr := h13.fr 0
        have lt := h13.lt
        have hBl := Below.setCell (Below.refl W0.heap.size V4) (p := ⟨z13, 0, none⟩) hzh13 (.slice rA R.length rc)
        replace hC := hC.past (p := ⟨z13, 0, none⟩) (h13.cell (j := 0)) (votes_ints R _ _ _) (.slice rA R.length rc)
        replace h14 := h14.other (p := ⟨z13, 0, none⟩) (hne) (.slice rA R.length rc)
        replace h13 := h13.set1 (.slice rA R.length rc)
        simp only [List.getElem?_toArray, List.getElem?_cons_zero] at c
        go_simp
        generalize V4.setCell ⟨z13, 0, none⟩ (.slice rA R.length rc) = V5 at *
        clear c fr lt
        refine hK.out _ _ ?_ (fun hHeld2 => ?_)
        · exact keepS5 bz0 bz0 bz0 bz0 bz0 hHeld hBl
        clear hK K hHeld
        have hHeld := hHeld2
        clear hHeld2
        try simp only [Act.put, List.setIfInBounds_toArray, List.set_cons_zero, List.set_cons_succ]
        refine wpAnyH_ready (rs := [9]) (by kernel_rfl) (by simp) ?_
        refine AllReadyH.cons (by simp only [List.getElem?_toArray, List.getElem?_cons_succ, List.getElem?_cons_zero]; rfl) (fun K hK => ?_) (AllReadyH.nil)
        have c := h14.cell (j := 0)
        have fr := h14.fr 0
        have lt := h14.lt
        have hBl := Below.setCell (Below.refl W0.heap.size V5) (p := ⟨z14, 0, none⟩) hzh14 (.int .i64 B)
        have hCk := hC
        replace hC : CellsAt (V5.setCell ⟨z14, 0, none⟩ (.int .i64 B)) (V5.setCell ⟨z14, 0, none⟩ (.int .i64 B)).heap.size rA (votesCells R) := votes_past R hC h14 _
        clear hCk
        replace h13 := h13.other (p := ⟨z14, 0, none⟩) (hne.symm) (.int .i64 B)
        replace h14 := h14.set1 (.int .i64 B)
        simp only [List.getElem?_toArray, List.getElem?_cons_zero] at c
        go_simp
        generalize V5.setCell ⟨z14, 0, none⟩ (.int .i64 B) = V6 at *
        clear c fr lt
        refine hK.out _ _ ?_ (fun hHeld2 => ?_)
        · exact keepS5 bz0 bz0 bz0 bz0 bz0 hHeld hBl
        clear hK K hHeld
        have hHeld := hHeld2
        clear hHeld2
        try simp only [Act.put, List.setIfInBounds_toArray, List.set_cons_zero, List.set_cons_succ]
        refine wpAnyH_done (by kernel_rfl) ?_ _
        refine NoPanic.normal ?_
        have k := hHeld.2.2.2.2.2
        clear hHeld
        clear bz0 b00 b01 b02 b03 b04
        have KB1 := Lib.hid (KB0.out.trans k)
        clear k
        go_wp2_with fail
        go_ret
        exact onBy_end kA kc k lA lc l rA rc R bo B z0 z1 z2 z13 z14 hl (by omega) hwl (fun a ha => hwv a (cnts_mem hR a ha)) hbo HBB.out hR (HB0.out.kept KB1.out) (HB1.out.kept KB1.out) (HB2.out.kept KB1.out) h13.has h14.has (HA.out.kept KB1.out) (HL.out.kept KB1.out) hC HON.out (K0.out.trans KB1.out)
      · have h14 := AtB.new V2 #[.int .i64 0] 3
        have kk := (Kept.refl V2).alloc (.cells #[.int .i64 0] 3)
        have hzh14 := (hHeld.2.2.2.2.2).size_le
        replace hC := hC.kept kk
        go_simp
        generalize V2.alloc (.cells #[.int .i64 0] 3) = V3 at *
        generalize V2.heap.size = z14 at *
        refine hK.out _ _ ?_ (fun hHeld2 => ?_)
        · exact keepP5 bz0 bz0 bz0 bz0 bz0 hHeld kk
        clear hK K hHeld
        have hHeld := hHeld2
        clear hHeld2
        try simp only [Act.put, List.setIfInBounds_toArray, List.set_cons_zero, List.set_cons_succ]
        refine wpAnyH_ready (rs := [6]) (by kernel_rfl) (by simp) ?_
        refine AllReadyH.cons (by simp only [List.getElem?_toArray, List.getElem?_cons_succ, List.getElem?_cons_zero]; rfl) (fun K hK => ?_) (AllReadyH.nil)
        have hne : V3.heap.size ≠ z14 := Nat.ne_of_gt h14.lt
        have h13 := AtB.new V3 #[.slice none 0 0] 27
        have kk := (Kept.refl V3).alloc (.cells #[.slice none 0 0] 27)
        have hzh13 := (hHeld.2.2.2.2.2).size_le
        replace hC := hC.kept kk
        replace h14 := h14.kept kk
        go_simp
        generalize V3.alloc (.cells #[.slice none 0 0] 27) = V4 at *
        generalize V3.heap.size = z13 at *
        refine hK.out _ _ ?_ (fun hHeld2 => ?_)
        · exact keepP5 bz0 bz0 bz0 bz0 bz0 hHeld kk
        clear hK K hHeld
        have hHeld := hHeld2
        clear hHeld2
        try simp only [Act.put, List.setIfInBounds_toArray, List.set_cons_zero, List.set_cons_succ]
        refine wpAnyH_ready (rs := [8]) (by kernel_rfl) (by simp) ?_
        refine AllReadyH.cons (by simp only [List.getElem?_toArray, List.getElem?_cons_succ, List.getElem?_cons_zero]; rfl) (fun K hK => ?_) (AllReadyH.nil)
        have c := h13.cell (j := 0)
        have fr := h13.fr 0
        have lt := h13.lt
        have hBl := Below.setCell (Below.refl W0.heap.size V4) (p := ⟨z13, 0, none⟩) hzh13 (.slice rA R.length rc)
        replace hC := hC.past (p := ⟨z13, 0, none⟩) (h13.cell (j := 0)) (votes_ints R _ _ _) (.slice rA R.length rc)
        replace h14 := h14.other (p := ⟨z13, 0, none⟩) (hne) (.slice rA R.length rc)
        replace h13 := h13.set1 (.slice rA R.length rc)
        simp only [List.getElem?_toArray, List.getElem?_cons_zero] at c
        go_simp
        generalize V4.setCell ⟨z13, 0, none⟩ (.slice rA R.length rc) = V5 at *
        clear c fr lt
        refine hK.out _ _ ?_ (fun hHeld2 => ?_)
        · exact keepS5 bz0 bz0 bz0 bz0 bz0 hHeld hBl
        clear hK K hHeld
        have hHeld := hHeld2
        clear hHeld2
        try simp only [Act.put, List.setIfInBounds_toArray, List.set_cons_zero, List.set_cons_succ]
        refine wpAnyH_ready (rs := [9]) (by kernel_rfl) (by simp) ?_
        refine AllReadyH.cons (by simp only [List.getElem?_toArray, List.getElem?_cons_succ, List.getElem?_cons_zero]; rfl) (fun K hK => ?_) (AllReadyH.nil)
        have c := h14.cell (j := 0)
        have fr := h14.fr 0
        have lt := h14.lt
        have hBl := Below.setCell (Below.refl W0.heap.size V5) (p := ⟨z14, 0, none⟩) hzh14 (.int .i64 B)
        have hCk := hC
        replace hC : CellsAt (V5.setCell ⟨z14, 0, none⟩ (.int .i64 B)) (V5.setCell ⟨z14, 0, none⟩ (.int .i64 B)).heap.size rA (votesCells R) := votes_past R hC h14 _
        clear hCk
        replace h13 := h13.other (p := ⟨z14, 0, none⟩) (hne.symm) (.int .i64 B)
        replace h14 := h14.set1 (.int .i64 B)
        simp only [List.getElem?_toArray, List.getElem?_cons_zero] at c
        go_simp
        generalize V5.setCell ⟨z14, 0, none⟩ (.int .i64 B) = V6 at *
        clear c fr lt
        refine hK.out _ _ ?_ (fun hHeld2 => ?_)
        · exact keepS5 bz0 bz0 bz0 bz0 bz0 hHeld hBl
        clear hK K hHeld
        have hHeld := hHeld2
        clear hHeld2
        try simp only [Act.put, List.setIfInBounds_toArray, List.set_cons_zero, List.set_cons_succ]
        refine wpAnyH_done (by kernel_rfl) ?_ _
        refine NoPanic.normal ?_
        have k := hHeld.2.2.2.2.2
        clear hHeld
        clear bz0 b00 b01 b02 b03 b04
        have KB1 := Lib.hid (KB0.out.trans k)
        clear k
        go_wp2_with fail
        go_ret
        exact onBy_end kA kc k lA lc l rA rc R bo B z0 z1 z2 z13 z14 hl (by omega) hwl (fun a ha => hwv a (cnts_mem hR a ha)) hbo HBB.out hR (HB0.out.kept KB1.out) (HB1.out.kept KB1.out) (HB2.out.kept KB1.out) h13.has h14.has (HA.out.kept KB1.out) (HL.out.kept KB1.out) hC HON.out (K0.out.trans KB1.out)
    · have h13 := AtB.new V1 #[.slice none 0 0] 27
      have kk := (Kept.refl V1).alloc (.cells #[.slice none 0 0] 27)
      have hzh13 := (hHeld.2.2.2.2.2).size_le
      replace hC := hC.kept kk
      go_simp
      generalize V1.alloc (.cells #[.slice none 0 0] 27) = V2 at *
      generalize V1.heap.size = z13 at *
      refine hK.out _ _ ?_ (fun hHeld2 => ?_)
      · exact keepP5 bz0 bz0 bz0 bz0 bz0 hHeld kk
      clear hK K hHeld
      have hHeld := hHeld2
      clear hHeld2
      try simp only [Act.put, List.setIfInBounds_toArray, List.set_cons_zero, List.set_cons_succ]
      refine wpAnyH_ready (rs := [5, 7]) (by kernel_rfl) (by simp) ?_
      refine AllReadyH.cons (by simp only [List.getElem?_toArray, List.getElem?_cons_succ, List.getElem?_cons_zero]; rfl) (fun K hK => ?_) (AllReadyH.cons (by simp only [List.getElem?_toArray, List.getElem?_cons_succ, List.getElem?_cons_zero]; rfl) (fun K hK => ?_) (AllReadyH.nil))
      · go_simp
        go_at_call 14; with_reducible refine (HBo.out _ (hHeld.2.2.2.2.2)).mono ?_
        rintro e V3 ⟨rfl, kk⟩
        replace hC := hC.kept kk
        replace h13 := h13.kept kk
        try go_wp2_with fail
        refine hK.out _ _ ?_ (fun hHeld2 => ?_)
        · exact keepP5 bz0 bz0 bz0 bz0 bz0 hHeld kk
        clear hK K hHeld
        have hHeld := hHeld2
        clear hHeld2
        try simp only [Act.put, List.setIfInBounds_toArray, List.set_cons_zero, List.set_cons_succ]
        refine wpAnyH_ready (rs := [7]) (by kernel_rfl) (by simp) ?_
        refine AllReadyH.cons (by simp only [List.getElem?_toArray, List.getElem?_cons_succ, List.getElem?_cons_zero]; rfl) (fun K hK => ?_) (AllReadyH.nil)
        have hne : z13 ≠ V3.heap.size := Nat.ne_of_lt h13.lt
        have h14 := AtB.new V3 #[.int .i64 0] 3
        have kk := (Kept.refl V3).alloc (.cells #[.int .i64 0] 3)
        have hzh14 := (hHeld.2.2.2.2.2).size_le
        replace hC := hC.kept kk
        replace h13 := h13.kept kk
        go_simp
        generalize V3.alloc (.cells #[.int .i64 0] 3) = V4 at *
        generalize V3.heap.size = z14 at *
        refine hK.out _ _ ?_ (fun hHeld2 => ?_)
        · exact keepP5 bz0 bz0 bz0 bz0 bz0 hHeld kk
        clear hK K hHeld
        have hHeld := hHeld2
        clear hHeld2
        try simp only [Act.put, List.setIfInBounds_toArray, List.set_cons_zero, List.set_cons_succ]
        refine wpAnyH_ready (rs := [8]) (by kernel_rfl) (by simp) ?_
        refine AllReadyH.cons (by simp only [List.getElem?_toArray, List.getElem?_cons_succ, List.getElem?_cons_zero]; rfl) (fun K hK => ?_) (AllReadyH.nil)
        have c := h13.cell (j := 0)
        have fr := h13.fr 0
        have lt := h13.lt
        have hBl := Below.setCell (Below.refl W0.heap.size V4) (p := ⟨z13, 0, none⟩) hzh13 (.slice rA R.length rc)
        replace hC := hC.past (p := ⟨z13, 0, none⟩) (h13.cell (j := 0)) (votes_ints R _ _ _) (.slice rA R.length rc)
        replace h14 := h14.other (p := ⟨z13, 0, none⟩) (hne) (.slice rA R.length rc)
        replace h13 := h13.set1 (.slice rA R.length rc)
        simp only [List.getElem?_toArray, List.getElem?_cons_zero] at c
        go_simp
        generalize V4.setCell ⟨z13, 0, none⟩ (.slice rA R.length rc) = V5 at *
        clear c fr lt
        refine hK.out _ _ ?_ (fun hHeld2 => ?_)
        · exact keepS5 bz0 bz0 bz0 bz0 bz0 hHeld hBl
        clear hK K hHeld
        have hHeld := hHeld2
        clear hHeld2
        try simp only [Act.put, List.setIfInBounds_toArray, List.set_cons_zero, List.set_cons_succ]
        refine wpAnyH_ready (rs := [9]) (by kernel_rfl) (by simp) ?_
        refine AllReadyH.cons (by simp only [List.getElem?_toArray, List.getElem?_cons_succ, List.getElem?_cons_zero]; rfl) (fun K hK => ?_) (AllReadyH.nil)
        have c := h14.cell (j := 0)
        have fr := h14.fr 0
        have lt := h14.lt
        have hBl := Below.setCell (Below.refl W0.heap.size V5) (p := ⟨z14, 0, none⟩) hzh14 (.int .i64 B)
        have hCk := hC
        replace hC : CellsAt (V5.setCell ⟨z14, 0, none⟩ (.int .i64 B)) (V5.setCell ⟨z14, 0, none⟩ (.int .i64 B)).heap.size rA (votesCells R) := votes_past R hC h14 _
        clear hCk
        replace h13 := h13.other (p := ⟨z14, 0, none⟩) (hne.symm) (.int .i64 B)
        replace h14 := h14.set1 (.int .i64 B)
        simp only [List.getElem?_toArray, List.getElem?_cons_zero] at c
        go_simp
        generalize V5.setCell ⟨z14, 0, none⟩ (.int .i64 B) = V6 at *
        clear c fr lt
        refine hK.out _ _ ?_ (fun hHeld2 => ?_)
        · exact keepS5 bz0 bz0 bz0 bz0 bz0 hHeld hBl
        clear hK K hHeld
        have hHeld := hHeld2
        clear hHeld2
        try simp only [Act.put, List.setIfInBounds_toArray, List.set_cons_zero, List.set_cons_succ]
        refine wpAnyH_done (by kernel_rfl) ?_ _
        refine NoPanic.normal ?_
        have k := hHeld.2.2.2.2.2
        clear hHeld
        clear bz0 b00 b01 b02 b03 b04
        have KB1 := Lib.hid (KB0.out.trans k)
        clear k
        go_wp2_with fail
        go_ret
        exact onBy_end kA kc k lA lc l rA rc R bo B z0 z1 z2 z13 z14 hl (by omega) hwl (fun a ha => hwv a (cnts_mem hR a ha)) hbo HBB.out hR (HB0.out.kept KB1.out) (HB1.out.kept KB1.out) (HB2.out.kept KB1.out) h13.has h14.has (HA.out.kept KB1.out) (HL.out.kept KB1.out) hC HON.out (K0.out.trans KB1.out)
      · have hne : z13 ≠ V2.heap.size := Nat.ne_of_lt h13.lt
        have h14 := AtB.new V2 #[.int .i64 0] 3
        have kk := (Kept.refl V2).alloc (.cells #[.int .i64 0] 3)
        have hzh14 := (hHeld.2.2.2.2.2).size_le
        replace hC := hC.kept kk
        replace h13 := h13.kept kk
        go_simp
        generalize V2.alloc (.cells #[.int .i64 0] 3) = V3 at *
        generalize V2.heap.size = z14 at *
        refine hK.out _ _ ?_ (fun hHeld2 => ?_)
        · exact keepP5 bz0 bz0 bz0 bz0 bz0 hHeld kk
        clear hK K hHeld
        have hHeld := hHeld2
        clear hHeld2
        try simp only [Act.put, List.setIfInBounds_toArray, List.set_cons_zero, List.set_cons_succ]
        refine wpAnyH_ready (rs := [5]) (by kernel_rfl) (by simp) ?_
        refine AllReadyH.cons (by simp only [List.getElem?_toArray, List.getElem?_cons_succ, List.getElem?_cons_zero]; rfl) (fun K hK => ?_) (AllReadyH.nil)
        go_simp
        go_at_call 14; with_reducible refine (HBo.out _ (hHeld.2.2.2.2.2)).mono ?_
        rintro e V4 ⟨rfl, kk⟩
        replace hC := hC.kept kk
        replace h13 := h13.kept kk
        replace h14 := h14.kept kk
        try go_wp2_with fail
        refine hK.out _ _ ?_ (fun hHeld2 => ?_)
        · exact keepP5 bz0 bz0 bz0 bz0 bz0 hHeld kk
        clear hK K hHeld
        have hHeld := hHeld2
        clear hHeld2
        try simp only [Act.put, List.setIfInBounds_toArray, List.set_cons_zero, List.set_cons_succ]
        refine wpAnyH_ready (rs := [8]) (by kernel_rfl) (by simp) ?_
        refine AllReadyH.cons (by simp only [List.getElem?_toArray, List.getElem?_cons_succ, List.getElem?_cons_zero]; rfl) (fun K hK => ?_) (AllReadyH.nil)
        have c := h13.cell (j := 0)
        have fr := h13.fr 0
        have lt := h13.lt
        have hBl := Below.setCell (Below.refl W0.heap.size V4) (p := ⟨z13, 0, none⟩) hzh13 (.slice rA R.length rc)
        replace hC := hC.past (p := ⟨z13, 0, none⟩) (h13.cell (j := 0)) (votes_ints R _ _ _) (.slice rA R.length rc)
        replace h14 := h14.other (p := ⟨z13, 0, none⟩) (hne) (.slice rA R.length rc)
        replace h13 := h13.set1 (.slice rA R.length rc)
        simp only [List.getElem?_toArray, List.getElem?_cons_zero] at c
        go_simp
        generalize V4.setCell ⟨z13, 0, none⟩ (.slice rA R.length rc) = V5 at *
        clear c fr lt
        refine hK.out _ _ ?_ (fun hHeld2 => ?_)
        · exact keepS5 bz0 bz0 bz0 bz0 bz0 hHeld hBl
        clear hK K hHeld
        have hHeld := hHeld2
        clear hHeld2
        try simp only [Act.put, List.setIfInBounds_toArray, List.set_cons_zero, List.set_cons_succ]
        refine wpAnyH_ready (rs := [9]) (by kernel_rfl) (by simp) ?_
        refine AllReadyH.cons (by simp only [List.getElem?_toArray, List.getElem?_cons_succ, List.getElem?_cons_zero]; rfl) (fun K hK => ?_) (AllReadyH.nil)
        have c := h14.cell (j := 0)
        have fr := h14.fr 0
        have lt := h14.lt
        have hBl := Below.setCell (Below.refl W0.heap.size V5) (p := ⟨z14, 0, none⟩) hzh14 (.int .i64 B)
        have hCk := hC
        replace hC : CellsAt (V5.setCell ⟨z14, 0, none⟩ (.int .i64 B)) (V5.setCell ⟨z14, 0, none⟩ (.int .i64 B)).heap.size rA (votesCells R) := votes_past R hC h14 _
        clear hCk
        replace h13 := h13.other (p := ⟨z14, 0, none⟩) (hne.symm) (.int .i64 B)
        replace h14 := h14.set1 (.int .i64 B)
        simp only [List.getElem?_toArray, List.getElem?_cons_zero] at c
        go_simp
        generalize V5.setCell ⟨z14, 0, none⟩ (.int .i64 B) = V6 at *
        clear c fr lt
        refine hK.out _ _ ?_ (fun hHeld2 => ?_)
        · exact keepS5 bz0 bz0 bz0 bz0 bz0 hHeld hBl
        clear hK K hHeld
        have hHeld := hHeld2
        clear hHeld2
        try simp only [Act.put, List.setIfInBounds_toArray, List.set_cons_zero, List.set_cons_succ]
        refine wpAnyH_done (by kernel_rfl) ?_ _
        refine NoPanic.normal ?_
        have k := hHeld.2.2.2.2.2
        clear hHeld
        clear bz0 b00 b01 b02 b03 b04
        have KB1 := Lib.hid (KB0.out.trans k)
        clear k
        go_wp2_with fail
        go_ret
        exact onBy_end kA kc k lA lc l rA rc R bo B z0 z1 z2 z13 z14 hl (by omega) hwl (fun a ha => hwv a (cnts_mem hR a ha)) hbo HBB.out hR (HB0.out.kept KB1.out) (HB1.out.kept KB1.out) (HB2.out.kept KB1.out) h13.has h14.has (HA.out.kept KB1.out) (HL.out.kept KB1.out) hC HON.out (K0.out.trans KB1.out)
    · have h14 := AtB.new V1 #[.int .i64 0] 3
      have kk := (Kept.refl V1).alloc (.cells #[.int .i64 0] 3)
      have hzh14 := (hHeld.2.2.2.2.2).size_le
      replace hC := hC.kept kk
      go_simp
      generalize V1.alloc (.cells #[.int .i64 0] 3) = V2 at *
      generalize V1.heap.size = z14 at *
      refine hK.out _ _ ?_ (fun hHeld2 => ?_)
      · exact keepP5 bz0 bz0 bz0 bz0 bz0 hHeld kk
      clear hK K hHeld
      have hHeld := hHeld2
      clear hHeld2
      try simp only [Act.put, List.setIfInBounds_toArray, List.set_cons_zero, List.set_cons_succ]
      refine wpAnyH_ready (rs := [5, 6]) (by kernel_rfl) (by simp) ?_
      refine AllReadyH.cons (by simp only [List.getElem?_toArray, List.getElem?_cons_succ, List.getElem?_cons_zero]; rfl) (fun K hK => ?_) (AllReadyH.cons (by simp only [List.getElem?_toArray, List.getElem?_cons_succ, List.getElem?_cons_zero]; rfl) (fun K hK => ?_) (AllReadyH.nil))
      · go_simp
        go_at_call 14; with_reducible refine (HBo.out _ (hHeld.2.2.2.2.2)).mono ?_
        rintro e V3 ⟨rfl, kk⟩
        replace hC := hC.kept kk
        replace h14 := h14.kept kk
        try go_wp2_with fail
        refine hK.out _ _ ?_ (fun hHeld2 => ?_)
        · exact keepP5 bz0 bz0 bz0 bz0 bz0 hHeld kk
        clear hK K hHeld
        have hHeld := hHeld2
        clear hHeld2
        try simp only [Act.put, List.setIfInBounds_toArray, List.set_cons_zero, List.set_cons_succ]
        refine wpAnyH_ready (rs := [6]) (by kernel_rfl) (by simp) ?_
        refine AllReadyH.cons (by simp only [List.getElem?_toArray, List.getElem?_cons_succ, List.getElem?_cons_zero]; rfl) (fun K hK => ?_) (AllReadyH.nil)
        have hne : V3.heap.size ≠ z14 := Nat.ne_of_gt h14.lt
        have h13 := AtB.new V3 #[.slice none 0 0] 27
        have kk := (Kept.refl V3).alloc (.cells #[.slice none 0 0] 27)
        have hzh13 := (hHeld.2.2.2.2.2).size_le
        replace hC := hC.kept kk
        replace h14 := h14.kept kk
        go_simp
        generalize V3.alloc (.cells #[.slice none 0 0] 27) = V4 at *
        generalize V3.heap.size = z13 at *
        refine hK.out _ _ ?_ (fun hHeld2 => ?_)
        · exact keepP5 bz0 bz0 bz0 bz0 bz0 hHeld kk
        clear hK K hHeld
        have hHeld := hHeld2
        clear hHeld2
        try simp only [Act.put, List.setIfInBounds_toArray, List.set_cons_zero, List.set_cons_succ]
        refine wpAnyH_ready (rs := [8]) (by kernel_rfl) (by simp) ?_
        refine AllReadyH.cons (by simp only [List.getElem?_toArray, List.getElem?_cons_succ, List.getElem?_cons_zero]; rfl) (fun K hK => ?_) (AllReadyH.nil)
        have c := h13.cell (j := 0)
        have fr := h13.fr 0
        have lt := h13.lt
        have hBl := Below.setCell (Below.refl W0.heap.size V4) (p := ⟨z13, 0, none⟩) hzh13 (.slice rA R.length rc)
        replace hC := hC.past (p := ⟨z13, 0, none⟩) (h13.cell (j := 0)) (votes_ints R _ _ _) (.slice rA R.length rc)
        replace h14 := h14.other (p := ⟨z13, 0, none⟩) (hne) (.slice rA R.length rc)
        replace h13 := h13.set1 (.slice rA R.length rc)
        simp only [List.getElem?_toArray, List.getElem?_cons_zero] at c
        go_simp
        generalize V4.setCell ⟨z13, 0, none⟩ (.slice rA R.length rc) = V5 at *
        clear c fr lt
        refine hK.out _ _ ?_ (fun hHeld2 => ?_)
        · exact keepS5 bz0 bz0 bz0 bz0 bz0 hHeld hBl
        clear hK K hHeld
        have hHeld := hHeld2
        clear hHeld2
        try simp only [Act.put, List.setIfInBounds_toArray, List.set_cons_zero, List.set_cons_succ]
        refine wpAnyH_ready (rs := [9]) (by kernel_rfl) (by simp) ?_
        refine AllReadyH.cons (by simp only [List.getElem?_toArray, List.getElem?_cons_succ, List.getElem?_cons_zero]; rfl) (fun K hK => ?_) (AllReadyH.nil)
        have c := h14.cell (j := 0)
        have fr := h14.fr 0
        have lt := h14.lt
        have hBl := Below.setCell (Below.refl W0.heap.size V5) (p := ⟨z14, 0, none⟩) hzh14 (.int .i64 B)
        have hCk := hC
        replace hC : CellsAt (V5.setCell ⟨z14, 0, none⟩ (.int .i64 B)) (V5.setCell ⟨z14, 0, none⟩ (.int .i64 B)).heap.size rA (votesCells R) := votes_past R hC h14 _
        clear hCk
        replace h13 := h13.other (p := ⟨z14, 0, none⟩) (hne.symm) (.int .i64 B)
        replace h14 := h14.set1 (.int .i64 B)
        simp only [List.getElem?_toArray, List.getElem?_cons_zero] at c
        go_simp
        generalize V5.setCell ⟨z14, 0, none⟩ (.int .i64 B) = V6 at *
        clear c fr lt
        refine hK.out _ _ ?_ (fun hHeld2 => ?_)
        · exact keepS5 bz0 bz0 bz0 bz0 bz0 hHeld hBl
        clear hK K hHeld
        have hHeld := hHeld2
        clear hHeld2
        try simp only [Act.put, List.setIfInBounds_toArray, List.set_cons_zero, List.set_cons_succ]
        refine wpAnyH_done (by kernel_rfl) ?_ _
        refine NoPanic.normal ?_
        have k := hHeld.2.2.2.2.2
        clear hHeld
        clear bz0 b00 b01 b02 b03 b04
        have KB1 := Lib.hid (KB0.out.trans k)
        clear k
        go_wp2_with fail
        go_ret
        exact onBy_end kA kc k lA lc l rA rc R bo B z0 z1 z2 z13 z14 hl (by omega) hwl (fun a ha => hwv a (cnts_mem hR a ha)) hbo HBB.out hR (HB0.out.kept KB1.out) (HB1.out.kept KB1.out) (HB2.out.kept KB1.out) h13.has h14.has (HA.out.kept KB1.out) (HL.out.kept KB1.out) hC HON.out (K0.out.trans KB1.out)
      · have hne : V2.heap.size ≠ z14 := Nat.ne_of_gt h14.lt
        have h13 := AtB.new V2 #[.slice none 0 0] 27
        have kk := (Kept.refl V2).alloc (.cells #[.slice none 0 0] 27)
        have hzh13 := (hHeld.2.2.2.2.2).size_le
        replace hC := hC.kept kk
        replace h14 := h14.kept kk
        go_simp
        generalize V2.alloc (.cells #[.slice none 0 0] 27) = V3 at *
        generalize V2.heap.size = z13 at *
        refine hK.out _ _ ?_ (fun hHeld2 => ?_)
        · exact keepP5 bz0 bz0 bz0 bz0 bz0 hHeld kk
        clear hK K hHeld
        have hHeld := hHeld2
        clear hHeld2
        try simp only [Act.put, List.setIfInBounds_toArray, List.set_cons_zero, List.set_cons_succ]
        refine wpAnyH_ready (rs := [5]) (by kernel_rfl) (by simp) ?_
        refine AllReadyH.cons (by simp only [List.getElem?_toArray, List.getElem?_cons_succ, List.getElem?_cons_zero]; rfl) (fun K hK => ?_) (AllReadyH.nil)
        go_simp
        go_at_call 14; with_reducible refine (HBo.out _ (hHeld.2.2.2.2.2)).mono ?_
        rintro e V4 ⟨rfl, kk⟩
        replace hC := hC.kept kk
        replace h13 := h13.kept kk
        replace h14 := h14.kept kk
        try go_wp2_with fail
        refine hK.out _ _ ?_ (fun hHeld2 => ?_)
        · exact keepP5 bz0 bz0 bz0 bz0 bz0 hHeld kk
        clear hK K hHeld
        have hHeld := hHeld2
        clear hHeld2
        try simp only [Act.put, List.setIfInBounds_toArray, List.set_cons_zero, List.set_cons_succ]
        refine wpAnyH_ready (rs := [8]) (by kernel_rfl) (by simp) ?_
        refine AllReadyH.cons (by simp only [List.getElem?_toArray, List.getElem?_cons_succ, List.getElem?_cons_zero]; rfl) (fun K hK => ?_) (AllReadyH.nil)
        have c := h13.cell (j := 0)
        have fr := h13.fr 0
        have lt := h13.lt
        have hBl := Below.setCell (Below.refl W0.heap.size V4) (p := ⟨z13, 0, none⟩) hzh13 (.slice rA R.length rc)
        replace hC := hC.past (p := ⟨z13, 0, none⟩) (h13.cell (j := 0)) (votes_ints R _ _ _) (.slice rA R.length rc)
        replace h14 := h14.other (p := ⟨z13, 0, none⟩) (hne) (.slice rA R.length rc)
        replace h13 := h13.set1 (.slice rA R.length rc)
        simp only [List.getElem?_toArray, List.getElem?_cons_zero] at c
        go_simp
        generalize V4.setCell ⟨z13, 0, none⟩ (.slice rA R.length rc) = V5 at *
        clear c fr lt
        refine hK.out _ _ ?_ (fun hHeld2 => ?_)
        · exact keepS5 bz0 bz0 bz0 bz0 bz0 hHeld hBl
        clear hK K hHeld
        have hHeld := hHeld2
        clear hHeld2
        try simp only [Act.put, List.setIfInBounds_toArray, List.set_cons_zero, List.set_cons_succ]
        refine wpAnyH_ready (rs := [9]) (by kernel_rfl) (by simp) ?_
        refine AllReadyH.cons (by simp only [List.getElem?_toArray, List.getElem?_cons_succ, List.getElem?_cons_zero]; rfl) (fun K hK => ?_) (AllReadyH.nil)
        have c := h14.cell (j := 0)
        have fr := h14.fr 0
        have lt := h14.lt
        have hBl := Below.setCell (Below.refl W0.heap.size V5) (p := ⟨z14, 0, none⟩) hzh14 (.int .i64 B)
        have hCk := hC
        replace hC : CellsAt (V5.setCell ⟨z14, 0, none⟩ (.int .i64 B)) (V5.setCell ⟨z14, 0, none⟩ (.int .i64 B)).heap.size rA (votesCells R) := votes_past R hC h14 _
        clear hCk
        replace h13 := h13.other (p := ⟨z14, 0, none⟩) (hne.symm) (.int .i64 B)
        replace h14 := h14.set1 (.int .i64 B)
        simp only [List.getElem?_toArray, List.getElem?_cons_zero] at c
        go_simp
        generalize V5.setCell ⟨z14, 0, none⟩ (.int .i64 B) = V6 at *
        clear c fr lt
        refine hK.out _ _ ?_ (fun hHeld2 => ?_)
        · exact keepS5 bz0 bz0 bz0 bz0 bz0 hHeld hBl
        clear hK K hHeld
        have hHeld := hHeld2
        clear hHeld2
        try simp only [Act.put, List.setIfInBounds_toArray, List.set_cons_zero, List.set_cons_succ]
        refine wpAnyH_done (by kernel_rfl) ?_ _
        refine NoPanic.normal ?_
        have k := hHeld.2.2.2.2.2
        clear hHeld
        clear bz0 b00 b01 b02 b03 b04
        have KB1 := Lib.hid (KB0.out.trans k)
        clear k
        go_wp2_with fail
        go_ret
        exact onBy_end kA kc k lA lc l rA rc R bo B z0 z1 z2 z13 z14 hl (by omega) hwl (fun a ha => hwv a (cnts_mem hR a ha)) hbo HBB.out hR (HB0.out.kept KB1.out) (HB1.out.kept KB1.out) (HB2.out.kept KB1.out) h13.has h14.has (HA.out.kept KB1.out) (HL.out.kept KB1.out) hC HON.out (K0.out.trans KB1.out)
  · have h13 := AtB.new V0 #[.slice none 0 0] 27
    have kk := (Kept.refl V0).alloc (.cells #[.slice none 0 0] 27)
    have hzh13 := (hHeld.2.2.2.2.2).size_le
    go_simp
    generalize V0.alloc (.cells #[.slice none 0 0] 27) = V1 at *
    generalize V0.heap.size = z13 at *
    refine hK.out _ _ ?_ (fun hHeld2 => ?_)
    · exact keepP5 bz0 bz0 bz0 bz0 bz0 hHeld kk
    clear hK K hHeld
    have hHeld := hHeld2
    clear hHeld2
    try simp only [Act.put, List.setIfInBounds_toArray, List.set_cons_zero, List.set_cons_succ]
    refine wpAnyH_ready (rs := [2, 7]) (by kernel_rfl) (by simp) ?_
    refine AllReadyH.cons (by simp only [List.getElem?_toArray, List.getElem?_cons_succ, List.getElem?_cons_zero]; rfl) (fun K hK => ?_) (AllReadyH.cons (by simp only [List.getElem?_toArray, List.getElem?_cons_succ, List.getElem?_cons_zero]; rfl) (fun K hK => ?_) (AllReadyH.nil))
    · go_simp
      go_at_call 19; with_reducible refine (HLa.out _ (hHeld.2.2.2.2.2)).mono ?_
      rintro e V2 ⟨R, hR, hRl, rA, rc, rfl, hC, kk⟩
      replace h13 := h13.kept kk
      try go_wp2_with fail
      refine hK.out _ _ ?_ (fun hHeld2 => ?_)
      · exact keepP5 bz0 bz0 bz0 bz0 bz0 hHeld kk
      clear hK K hHeld
      have hHeld := hHeld2
      clear hHeld2
      try simp only [Act.put, List.setIfInBounds_toArray, List.set_cons_zero, List.set_cons_succ]
      refine wpAnyH_ready (rs := [5, 7]) (by kernel_rfl) (by simp) ?_
      refine AllReadyH.cons (by simp only [List.getElem?_toArray, List.getElem?_cons_succ, List.getElem?_cons_zero]; rfl) (fun K hK => ?_) (AllReadyH.cons (by simp only [List.getElem?_toArray, List.getElem?_cons_succ, List.getElem?_cons_zero]; rfl) (fun K hK => ?_) (AllReadyH.nil))
      · go_simp
        go_at_call 14; with_reducible refine (HBo.out _ (hHeld.2.2.2.2.2)).mono ?_
        rintro e V3 ⟨rfl, kk⟩
        replace hC := hC.kept kk
        replace h13 := h13.kept kk
        try go_wp2_with fail
        refine hK.out _ _ ?_ (fun hHeld2 => ?_)
        · exact keepP5 bz0 bz0 bz0 bz0 bz0 hHeld kk
        clear hK K hHeld
        have hHeld := hHeld2
        clear hHeld2
        try simp only [Act.put, List.setIfInBounds_toArray, List.set_cons_zero, List.set_cons_succ]
        refine wpAnyH_ready (rs := [7]) (by kernel_rfl) (by simp) ?_
        refine AllReadyH.cons (by simp only [List.getElem?_toArray, List.getElem?_cons_succ, List.getElem?_cons_zero]; rfl) (fun K hK => ?_) (AllReadyH.nil)
        have hne : z13 ≠ V3.heap.size := Nat.ne_of_lt h13.lt
        have h14 := AtB.new V3 #[.int .i64 0] 3
        have kk := (Kept.refl V3).alloc (.cells #[.int .i64 0] 3)
        have hzh14 := (hHeld.2.2.2.2.2).size_le
        replace hC := hC.kept kk
        replace h13 := h13.kept kk
        go_simp
        generalize V3.alloc (.cells #[.int .i64 0] 3) = V4 at *
        generalize V3.heap.size = z14 at *
        refine hK.out _ _ ?_ (fun hHeld2 => ?_)
        · exact keepP5 bz0 bz0 bz0 bz0 bz0 hHeld kk
        clear hK K hHeld
        have hHeld := hHeld2
        clear hHeld2
        try simp only [Act.put, List.setIfInBounds_toArray, List.set_cons_zero, List.set_cons_succ]
        refine wpAnyH_ready (rs := [8]) (by kernel_rfl) (by simp) ?_
        refine AllReadyH.cons (by simp only [List.getElem?_toArray, List.getElem?_cons_succ, List.getElem?_cons_zero]; rfl) (fun K hK => ?_) (AllReadyH.nil)
        have c := h13.cell (j := 0)
        have fr := h13.fr 0
        have lt := h13.lt
        have hBl := Below.setCell (Below.refl W0.heap.size V4) (p := ⟨z13, 0, none⟩) hzh13 (.slice rA R.length rc)
        replace hC := hC.past (p := ⟨z13, 0, none⟩) (h13.cell (j := 0)) (votes_ints R _ _ _) (.slice rA R.length rc)
        replace h14 := h14.other (p := ⟨z13, 0, none⟩) (hne) (.slice rA R.length rc)
        replace h13 := h13.set1 (.slice rA R.length rc)
        simp only [List.getElem?_toArray, List.getElem?_cons_zero] at c
        go_simp
        generalize V4.setCell ⟨z13, 0, none⟩ (.slice rA R.length rc) = V5 at *
        clear c fr lt
        refine hK.out _ _ ?_ (fun hHeld2 => ?_)
        · exact keepS5 bz0 bz0 bz0 bz0 bz0 hHeld hBl
        clear hK K hHeld
        have hHeld := hHeld2
        clear hHeld2
        try simp only [Act.put, List.setIfInBounds_toArray, List.set_cons_zero, List.set_cons_succ]
        refine wpAnyH_ready (rs := [9]) (by kernel_rfl) (by simp) ?_
        refine AllReadyH.cons (by simp only [List.getElem?_toArray, List.getElem?_cons_succ, List.getElem?_cons_zero]; rfl) (fun K hK => ?_) (AllReadyH.nil)
        have c := h14.cell (j := 0)
        have fr := h14.fr 0
        have lt := h14.lt
        have hBl := Below.setCell (Below.refl W0.heap.size V5) (p := ⟨z14, 0, none⟩) hzh14 (.int .i64 B)
        have hCk := hC
        replace hC : CellsAt (V5.setCell ⟨z14, 0, none⟩ (.int .i64 B)) (V5.setCell ⟨z14, 0, none⟩ (.int .i64 B)).heap.size rA (votesCells R) := votes_past R hC h14 _
        clear hCk
        replace h13 := h13.other (p := ⟨z14, 0, none⟩) (hne.symm) (.int .i64 B)
        replace h14 := h14.set1 (.int .i64 B)
        simp only [List.getElem?_toArray, List.getElem?_cons_zero] at c
        go_simp
        generalize V5.setCell ⟨z14, 0, none⟩ (.int .i64 B) = V6 at *
        clear c fr lt
        refine hK.out _ _ ?_ (fun hHeld2 => ?_)
        · exact keepS5 bz0 bz0 bz0 bz0 bz0 hHeld hBl
        clear hK K hHeld
        have hHeld := hHeld2
        clear hHeld2
        try simp only [Act.put, List.setIfInBounds_toArray, List.set_cons_zero, List.set_cons_succ]
        refine wpAnyH_done (by kernel_rfl) ?_ _
        refine NoPanic.normal ?_
        have k := hHeld.2.2.2.2.2
        clear hHeld
        clear bz0 b00 b01 b02 b03 b04
        have KB1 := Lib.hid (KB0.out.trans k)
        clear k
        go_wp2_with fail
        go_ret
        exact onBy_end kA kc k lA lc l rA rc R bo B z0 z1 z2 z13 z14 hl (by omega) hwl (fun a ha => hwv a (cnts_mem hR a ha)) hbo HBB.out hR (HB0.out.kept KB1.out) (HB1.out.kept KB1.out) (HB2.out.kept KB1.out) h13.has h14.has (HA.out.kept KB1.out) (HL.out.kept KB1.out) hC HON.out (K0.out.trans KB1.out)
      · have hne : z13 ≠ V2.heap.size := Nat.ne_of_lt h13.lt
        have h14 := AtB.new V2 #[.int .i64 0] 3
        have kk := (Kept.refl V2).alloc (.cells #[.int .i64 0] 3)
        have hzh14 := (hHeld.2.2.2.2.2).size_le
        replace hC := hC.kept kk
        replace h13 := h13.kept kk
        go_simp
        generalize V2.alloc (.cells #[.int .i64 0] 3) = V3 at *
        generalize V2.heap.size = z14 at *
        refine hK.out _ _ ?_ (fun hHeld2 => ?_)
        · exact keepP5 bz0 bz0 bz0 bz0 bz0 hHeld kk
        clear hK K hHeld
        have hHeld := hHeld2
        clear hHeld2
        try simp only [Act.put, List.setIfInBounds_toArray, List.set_cons_zero, List.set_cons_succ]
        refine wpAnyH_ready (rs := [5]) (by kernel_rfl) (by simp) ?_
        refine AllReadyH.cons (by simp only [List.getElem?_toArray, List.getElem?_cons_succ, List.getElem?_cons_zero]; rfl) (fun K hK => ?_) (AllReadyH.nil)
        go_simp
        go_at_call 14; with_reducible refine (HBo.out _ (hHeld.2.2.2.2.2)).mono ?_
        rintro e V4 ⟨rfl, kk⟩
        replace hC := hC.kept kk
        replace h13 := h13.kept kk
        replace h14 := h14.kept kk
        try go_wp2_with fail
        refine hK.out _ _ ?_ (fun hHeld2 => ?_)
        · exact keepP5 bz0 bz0 bz0 bz0 bz0 hHeld kk
        clear hK K hHeld
        have hHeld := hHeld2
        clear hHeld2
        try simp only [Act.put, List.setIfInBounds_toArray, List.set_cons_zero, List.set_cons_succ]
        refine wpAnyH_ready (rs := [8]) (by kernel_rfl) (by simp) ?_
        refine AllReadyH.cons (by simp only [List.getElem?_toArray, List.getElem?_cons_succ, List.getElem?_cons_zero]; rfl) (fun K hK => ?_) (AllReadyH.nil)
        have c := h13.cell (j := 0)
        have fr := h13.fr 0
        have lt := h13.lt
        have hBl := Below.setCell (Below.refl W0.heap.size V4) (p := ⟨z13, 0, none⟩) hzh13 (.slice rA R.length rc)
        replace hC := hC.past (p := ⟨z13, 0, none⟩) (h13.cell (j := 0)) (votes_ints R _ _ _) (.slice rA R.length rc)
        replace h14 := h14.other (p := ⟨z13, 0, none⟩) (hne) (.slice rA R.length rc)
        replace h13 := h13.set1 (.slice rA R.length rc)
        simp only [List.getElem?_toArray, List.getElem?_cons_zero] at c
        go_simp
        generalize V4.setCell ⟨z13, 0, none⟩ (.slice rA R.length rc) = V5 at *
        clear c fr lt
        refine hK.out _ _ ?_ (fun hHeld2 => ?_)
        · exact keepS5 bz0 bz0 bz0 bz0 bz0 hHeld hBl
        clear hK K hHeld
        have hHeld := hHeld2
        clear hHeld2
        try simp only [Act.put, List.setIfInBounds_toArray, List.set_cons_zero, List.set_cons_succ]
        refine wpAnyH_ready (rs := [9]) (by kernel_rfl) (by simp) ?_
        refine AllReadyH.cons (by simp only [List.getElem?_toArray, List.getElem?_cons_succ, List.getElem?_cons_zero]; rfl) (fun K hK => ?_) (AllReadyH.nil)
        have c := h14.cell (j := 0)
        have fr := h14.fr 0
        have lt := h14.lt
        have hBl := Below.setCell (Below.refl W0.heap.size V5) (p := ⟨z14, 0, none⟩) hzh14 (.int .i64 B)
        have hCk := hC
        replace hC : CellsAt (V5.setCell ⟨z14, 0, none⟩ (.int .i64 B)) (V5.setCell ⟨z14, 0, none⟩ (.int .i64 B)).heap.size rA (votesCells R) := votes_past R hC h14 _
        clear hCk
        replace h13 := h13.other (p := ⟨z14, 0, none⟩) (hne.symm) (.int .i64 B)
        replace h14 := h14.set1 (.int .i64 B)
        simp only [List.getElem?_toArray, List.getElem?_cons_zero] at c
        go_simp
        generalize V5.setCell ⟨z14, 0, none⟩ (.int .i64 B) = V6 at *
        clear c fr lt
        refine hK.out _ _ ?_ (fun hHeld2 => ?_)
        · exact keepS5 bz0 bz0 bz0 bz0 bz0 hHeld hBl
        clear hK K hHeld
        have hHeld := hHeld2
        clear hHeld2
        try simp only [Act.put, List.setIfInBounds_toArray, List.set_cons_zero, List.set_cons_succ]
        refine wpAnyH_done (by kernel_rfl) ?_ _
        refine NoPanic.normal ?_
        have k := hHeld.2.2.2.2.2
        clear hHeld
        clear bz0 b00 b01 b02 b03 b04
        have KB1 := Lib.hid (KB0.out.trans k)
        clear k
        go_wp2_with fail
        go_ret
        exact onBy_end kA kc k lA lc l rA rc R bo B z0 z1 z2 z13 z14 hl (by omega) hwl (fun a ha => hwv a (cnts_mem hR a ha)) hbo HBB.out hR (HB0.out.kept KB1.out) (HB1.out.kept KB1.out) (HB2.out.kept KB1.out) h13.has h14.has (HA.out.kept KB1.out) (HL.out.kept KB1.out) hC HON.out (K0.out.trans KB1.out)
    · have hne : z13 ≠ V1.heap.size := Nat.ne_of_lt h13.lt
      have h14 := AtB.new V1 #[.int .i64 0] 3
      have kk := (Kept.refl V1).alloc (.cells #[.int .i64 0] 3)
      have hzh14 := (hHeld.2.2.2.2.2).size_le
      replace h13 := h13.kept kk
      go_simp
      generalize V1.alloc (.cells #[.int .i64 0] 3) = V2 at *
      generalize V1.heap.size = z14 at *
      refine hK.out _ _ ?_ (fun hHeld2 => ?_)
      · exact keepP5 bz0 bz0 bz0 bz0 bz0 hHeld kk
      clear hK K hHeld
      have hHeld := hHeld2
      clear hHeld2
      try simp only [Act.put, List.setIfInBounds_toArray, List.set_cons_zero, List.set_cons_succ]
      refine wpAnyH_ready (rs := [2]) (by kernel_rfl) (by simp) ?_
      refine AllReadyH.cons (by simp only [List.getElem?_toArray, List.getElem?_cons_succ, List.getElem?_cons_zero]; rfl) (fun K hK => ?_) (AllReadyH.nil)
      go_simp
      go_at_call 19; with_reducible refine (HLa.out _ (hHeld.2.2.2.2.2)).mono ?_
      rintro e V3 ⟨R, hR, hRl, rA, rc, rfl, hC, kk⟩
      replace h13 := h13.kept kk
      replace h14 := h14.kept kk
      try go_wp2_with fail
      refine hK.out _ _ ?_ (fun hHeld2 => ?_)
      · exact keepP5 bz0 bz0 bz0 bz0 bz0 hHeld kk
      clear hK K hHeld
      have hHeld := hHeld2
      clear hHeld2
      try simp only [Act.put, List.setIfInBounds_toArray, List.set_cons_zero, List.set_cons_succ]
      refine wpAnyH_ready (rs := [5]) (by kernel_rfl) (by simp) ?_
      refine AllReadyH.cons (by simp only [List.getElem?_toArray, List.getElem?_cons_succ, List.getElem?_cons_zero]; rfl) (fun K hK => ?_) (AllReadyH.nil)
      go_simp
      go_at_call 14; with_reducible refine (HBo.out _ (hHeld.2.2.2.2.2)).mono ?_
      rintro e V4 ⟨rfl, kk⟩
      replace hC := hC.kept kk
      replace h13 := h13.kept kk
      replace h14 := h14.kept kk
      try go_wp2_with fail
      refine hK.out _ _ ?_ (fun hHeld2 => ?_)
      · exact keepP5 bz0 bz0 bz0 bz0 bz0 hHeld kk
      clear hK K hHeld
      have hHeld := hHeld2
      clear hHeld2
      try simp only [Act.put, List.setIfInBounds_toArray, List.set_cons_zero, List.set_cons_succ]
      refine wpAnyH_ready (rs := [8]) (by kernel_rfl) (by simp) ?_
      refine AllReadyH.cons (by simp only [List.getElem?_toArray, List.getElem?_cons_succ, List.getElem?_cons_zero]; rfl) (fun K hK => ?_) (AllReadyH.nil)
      have c := h13.cell (j := 0)
      have fr := h13.fr 0
      have lt := h13.lt
      have hBl := Below.setCell (Below.refl W0.heap.size V4) (p := ⟨z13, 0, none⟩) hzh13 (.slice rA R.length rc)
      replace hC := hC.past (p := ⟨z13, 0, none⟩) (h13.cell (j := 0)) (votes_ints R _ _ _) (.slice rA R.length rc)
      replace h14 := h14.other (p := ⟨z13, 0, none⟩) (hne) (.slice rA R.length rc)
      replace h13 := h13.set1 (.slice rA R.length rc)
      simp only [List.getElem?_toArray, List.getElem?_cons_zero] at c
      go_simp
      generalize V4.setCell ⟨z13, 0, none⟩ (.slice rA R.length rc) = V5 at *
      clear c fr lt
      refine hK.out _ _ ?_ (fun hHeld2 => ?_)
      · exact keepS5 bz0 bz0 bz0 bz0 bz0 hHeld hBl
      clear hK K hHeld
      have hHeld := hHeld2
      clear hHeld2
      try simp only [Act.put, List.setIfInBounds_toArray, List.set_cons_zero, List.set_cons_succ]
      refine wpAnyH_ready (rs := [9]) (by kernel_rfl) (by simp) ?_
      refine AllReadyH.cons (by simp only [List.getElem?_toArray, List.getElem?_cons_succ, List.getElem?_cons_zero]; rfl) (fun K hK => ?_) (AllReadyH.nil)
      have c := h14.cell (j := 0)
      have fr := h14.fr 0
      have lt := h14.lt
      have hBl := Below.setCell (Below.refl W0.heap.size V5) (p := ⟨z14, 0, none⟩) hzh14 (.int .i64 B)
      have hCk := hC
      replace hC : CellsAt (V5.setCell ⟨z14, 0, none⟩ (.int .i64 B)) (V5.setCell ⟨z14, 0, none⟩ (.int .i64 B)).heap.size rA (votesCells R) := votes_past R hC h14 _
      clear hCk
      replace h13 := h13.other (p := ⟨z14, 0, none⟩) (hne.symm) (.int .i64 B)
      replace h14 := h14.set1 (.int .i64 B)
      simp only [List.getElem?_toArray, List.getElem?_cons_zero] at c
      go_simp
      generalize V5.setCell ⟨z14, 0, none⟩ (.int .i64 B) = V6 at *
      clear c fr lt
      refine hK.out _ _ ?_ (fun hHeld2 => ?_)
      · exact keepS5 bz0 bz0 bz0 bz0 bz0 hHeld hBl
      clear hK K hHeld
      have hHeld := hHeld2
      clear hHeld2
      try simp only [Act.put, List.setIfInBounds_toArray, List.set_cons_zero, List.set_cons_succ]
      refine wpAnyH_done (by kernel_rfl) ?_ _
      refine NoPanic.normal ?_
      have k := hHeld.2.2.2.2.2
      clear hHeld
      clear bz0 b00 b01 b02 b03 b04
      have KB1 := Lib.hid (KB0.out.trans k)
      clear k
      go_wp2_with fail
      go_ret
      exact onBy_end kA kc k lA lc l rA rc R bo B z0 z1 z2 z13 z14 hl (by omega) hwl (fun a ha => hwv a (cnts_mem hR a ha)) hbo HBB.out hR (HB0.out.kept KB1.out) (HB1.out.kept KB1.out) (HB2.out.kept KB1.out) h13.has h14.has (HA.out.kept KB1.out) (HL.out.kept KB1.out) hC HON.out (K0.out.trans KB1.out)
  · have h14 := AtB.new V0 #[.int .i64 0] 3
    have kk := (Kept.refl V0).alloc (.cells #[.int .i64 0] 3)
    have hzh14 := (hHeld.2.2.2.2.2).size_le
    go_simp
    generalize V0.alloc (.cells #[.int .i64 0] 3) = V1 at *
    generalize V0.heap.size = z14 at *
    refine hK.out _ _ ?_ (fun hHeld2 => ?_)
    · exact keepP5 bz0 bz0 bz0 bz0 bz0 hHeld kk
    clear hK K hHeld
    have hHeld := hHeld2
    clear hHeld2
    try simp only [Act.put, List.setIfInBounds_toArray, List.set_cons_zero, List.set_cons_succ]
    refine wpAnyH_ready (rs := [2, 6]) (by kernel_rfl) (by simp) ?_
    refine AllReadyH.cons (by simp only [List.getElem?_toArray, List.getElem?_cons_succ, List.getElem?_cons_zero]; rfl) (fun K hK => ?_) (AllReadyH.cons (by simp only [List.getElem?_toArray, List.getElem?_cons_succ, List.getElem?_cons_zero]; rfl) (fun K hK => ?_) (AllReadyH.nil))
    · go_simp
      go_at_call 19; with_reducible refine (HLa.out _ (hHeld.2.2.2.2.2)).mono ?_
      rintro e V2 ⟨R, hR, hRl, rA, rc, rfl, hC, kk⟩
      replace h14 := h14.kept kk
      try go_wp2_with fail
      refine hK.out _ _ ?_ (fun hHeld2 => ?_)
      · exact keepP5 bz0 bz0 bz0 bz0 bz0 hHeld kk
      clear hK K hHeld
      have hHeld := hHeld2
      clear hHeld2
      try simp only [Act.put, List.setIfInBounds_toArray, List.set_cons_zero, List.set_cons_succ]
      refine wpAnyH_ready (rs := [5, 6]) (by kernel_rfl) (by simp) ?_
      refine AllReadyH.cons (by simp only [List.getElem?_toArray, List.getElem?_cons_succ, List.getElem?_cons_zero]; rfl) (fun K hK => ?_) (AllReadyH.cons (by simp only [List.getElem?_toArray, List.getElem?_cons_succ, List.getElem?_cons_zero]; rfl) (fun K hK => ?_) (AllReadyH.nil))
      · go_simp
        go_at_call 14; with_reducible refine (HBo.out _ (hHeld.2.2.2.2.2)).mono ?_
        rintro e V3 ⟨rfl, kk⟩
        replace hC := hC.kept kk
        replace h14 := h14.kept kk
        try go_wp2_with fail
        refine hK.out _ _ ?_ (fun hHeld2 => ?_)
        · exact keepP5 bz0 bz0 bz0 bz0 bz0 hHeld kk
        clear hK K hHeld
        have hHeld := hHeld2
        clear hHeld2
        try simp only [Act.put, List.setIfInBounds_toArray, List.set_cons_zero, List.set_cons_succ]
        refine wpAnyH_ready (rs := [6]) (by kernel_rfl) (by simp) ?_
        refine AllReadyH.cons (by simp only [List.getElem?_toArray, List.getElem?_cons_succ, List.getElem?_cons_zero]; rfl) (fun K hK => ?_) (AllReadyH.nil)
        have hne : V3.heap.size ≠ z14 := Nat.ne_of_gt h14.lt
        have h13 := AtB.new V3 #[.slice none 0 0] 27
        have kk := (Kept.refl V3).alloc (.cells #[.slice none 0 0] 27)
        have hzh13 := (hHeld.2.2.2.2.2).size_le
        replace hC := hC.kept kk
        replace h14 := h14.kept kk
        go_simp
        generalize V3.alloc (.cells #[.slice none 0 0] 27) = V4 at *
        generalize V3.heap.size = z13 at *
        refine hK.out _ _ ?_ (fun hHeld2 => ?_)
        · exact keepP5 bz0 bz0 bz0 bz0 bz0 hHeld kk
        clear hK K hHeld
        have hHeld := hHeld2
        clear hHeld2
        try simp only [Act.put, List.setIfInBounds_toArray, List.set_cons_zero, List.set_cons_succ]
        refine wpAnyH_ready (rs := [8]) (by kernel_rfl) (by simp) ?_
        refine AllReadyH.cons (by simp only [List.getElem?_toArray, List.getElem?_cons_succ, List.getElem?_cons_zero]; rfl) (fun K hK => ?_) (AllReadyH.nil)
        have c := h13.cell (j := 0)
        have fr := h13.fr 0
        have lt := h13.lt
        have hBl := Below.setCell (Below.refl W0.heap.size V4) (p := ⟨z13, 0, none⟩) hzh13 (.slice rA R.length rc)
        replace hC := hC.past (p := ⟨z13, 0, none⟩) (h13.cell (j := 0)) (votes_ints R _ _ _) (.slice rA R.length rc)
        replace h14 := h14.other (p := ⟨z13, 0, none⟩) (hne) (.slice rA R.length rc)
        replace h13 := h13.set1 (.slice rA R.length rc)
        simp only [List.getElem?_toArray, List.getElem?_cons_zero] at c
        go_simp
        generalize V4.setCell ⟨z13, 0, none⟩ (.slice rA R.length rc) = V5 at *
        clear c fr lt
        refine hK.out _ _ ?_ (fun hHeld2 => ?_)
        · exact keepS5 bz0 bz0 bz0 bz0 bz0 hHeld hBl
        clear hK K hHeld
        have hHeld := hHeld2
        clear hHeld2
        try simp only [Act.put, List.setIfInBounds_toArray, List.set_cons_zero, List.set_cons_succ]
        refine wpAnyH_ready (rs := [9]) (by kernel_rfl) (by simp) ?_
        refine AllReadyH.cons (by simp only [List.getElem?_toArray, List.getElem?_cons_succ, List.getElem?_cons_zero]; rfl) (fun K hK => ?_) (AllReadyH.nil)
        have c := h14.cell (j := 0)
        have fr := h14.fr 0
        have lt := h14.lt
        have hBl := Below.setCell (Below.refl W0.heap.size V5) (p := ⟨z14, 0, none⟩) hzh14 (.int .i64 B)
        have hCk := hC
        replace hC : CellsAt (V5.setCell ⟨z14, 0, none⟩ (.int .i64 B)) (V5.setCell ⟨z14, 0, none⟩ (.int .i64 B)).heap.size rA (votesCells R) := votes_past R hC h14 _
        clear hCk
        replace h13 := h13.other (p := ⟨z14, 0, none⟩) (hne.symm) (.int .i64 B)
        replace h14 := h14.set1 (.int .i64 B)
        simp only [List.getElem?_toArray, List.getElem?_cons_zero] at c
        go_simp
        generalize V5.setCell ⟨z14, 0, none⟩ (.int .i64 B) = V6 at *
        clear c fr lt
        refine hK.out _ _ ?_ (fun hHeld2 => ?_)
        · exact keepS5 bz0 bz0 bz0 bz0 bz0 hHeld hBl
        clear hK K hHeld
        have hHeld := hHeld2
        clear hHeld2
        try simp only [Act.put, List.setIfInBounds_toArray, List.set_cons_zero, List.set_cons_succ]
        refine wpAnyH_done (by kernel_rfl) ?_ _
        refine NoPanic.normal ?_
        have k := hHeld.2.2.2.2.2
        clear hHeld
        clear bz0 b00 b01 b02 b03 b04
        have KB1 := Lib.hid (KB0.out.trans k)
        clear k
        go_wp2_with fail
        go_ret
        exact onBy_end kA kc k lA lc l rA rc R bo B z0 z1 z2 z13 z14 hl (by omega) hwl (fun a ha => hwv a (cnts_mem hR a ha)) hbo HBB.out hR (HB0.out.kept KB1.out) (HB1.out.kept KB1.out) (HB2.out.kept KB1.out) h13.has h14.has (HA.out.kept KB1.out) (HL.out.kept KB1.out) hC HON.out (K0.out.trans KB1.out)
      · have hne : V2.heap.size ≠ z14 := Nat.ne_of_gt h14.lt
        have h13 := AtB.new V2 #[.slice none 0 0] 27
        have kk := (Kept.refl V2).alloc (.cells #[.slice none 0 0] 27)
        have hzh13 := (hHeld.2.2.2.2.2).size_le
        replace hC := hC.kept kk
        replace h14 := h14.kept kk
        go_simp
        generalize V2.alloc (.cells #[.slice none 0 0] 27) = V3 at *
        generalize V2.heap.size = z13 at *
        refine hK.out _ _ ?_ (fun hHeld2 => ?_)
        · exact keepP5 bz0 bz0 bz0 bz0 bz0 hHeld kk
        clear hK K hHeld
        have hHeld := hHeld2
        clear hHeld2
        try simp only [Act.put, List.setIfInBounds_toArray, List.set_cons_zero, List.set_cons_succ]
        refine wpAnyH_ready (rs := [5]) (by kernel_rfl) (by simp) ?_
        refine AllReadyH.cons (by simp only [List.getElem?_toArray, List.getElem?_cons_succ, List.getElem?_cons_zero]; rfl) (fun K hK => ?_) (AllReadyH.nil)
        go_simp
        go_at_call 14; with_reducible refine (HBo.out _ (hHeld.2.2.2.2.2)).mono ?_
        rintro e V4 ⟨rfl, kk⟩
        replace hC := hC.kept kk
        replace h13 := h13.kept kk
        replace h14 := h14.kept kk
        try go_wp2_with fail
        refine hK.out _ _ ?_ (fun hHeld2 => ?_)
        · exact keepP5 bz0 bz0 bz0 bz0 bz0 hHeld kk
        clear hK K hHeld
        have hHeld := hHeld2
        clear hHeld2
        try simp only [Act.put, List.setIfInBounds_toArray, List.set_cons_zero, List.set_cons_succ]
        refine wpAnyH_ready (rs := [8]) (by kernel_rfl) (by simp) ?_
        refine AllReadyH.cons (by simp only [List.getElem?_toArray, List.getElem?_cons_succ, List.getElem?_cons_zero]; rfl) (fun K hK => ?_) (AllReadyH.nil)
        have c := h13.cell (j := 0)
        have fr := h13.fr 0
        have lt := h13.lt
        have hBl := Below.setCell (Below.refl W0.heap.size V4) (p := ⟨z13, 0, none⟩) hzh13 (.slice rA R.length rc)
        replace hC := hC.past (p := ⟨z13, 0, none⟩) (h13.cell (j := 0)) (votes_ints R _ _ _) (.slice rA R.length rc)
        replace h14 := h14.other (p := ⟨z13, 0, none⟩) (hne) (.slice rA R.length rc)
        replace h13 := h13.set1 (.slice rA R.length rc)
        simp only [List.getElem?_toArray, List.getElem?_cons_zero] at c
        go_simp
        generalize V4.setCell ⟨z13, 0, none⟩ (.slice rA R.length rc) = V5 at *
        clear c fr lt
        refine hK.out _ _ ?_ (fun hHeld2 => ?_)
        · exact keepS5 bz0 bz0 bz0 bz0 bz0 hHeld hBl
        clear hK K hHeld
        have hHeld := hHeld2
        clear hHeld2
        try simp only [Act.put, List.setIfInBounds_toArray, List.set_cons_zero, List.set_cons_succ]
        refine wpAnyH_ready (rs := [9]) (by kernel_rfl) (by simp) ?_
        refine AllReadyH.cons (by simp only [List.getElem?_toArray, List.getElem?_cons_succ, List.getElem?_cons_zero]; rfl) (fun K hK => ?_) (AllReadyH.nil)
        have c := h14.cell (j := 0)
        have fr := h14.fr 0
        have lt := h14.lt
        have hBl := Below.setCell (Below.refl W0.heap.size V5) (p := ⟨z14, 0, none⟩) hzh14 (.int .i64 B)
        have hCk := hC
        replace hC : CellsAt (V5.setCell ⟨z14, 0, none⟩ (.int .i64 B)) (V5.setCell ⟨z14, 0, none⟩ (.int .i64 B)).heap.size rA (votesCells R) := votes_past R hC h14 _
        clear hCk
        replace h13 := h13.other (p := ⟨z14, 0, none⟩) (hne.symm) (.int .i64 B)
        replace h14 := h14.set1 (.int .i64 B)
        simp only [List.getElem?_toArray, List.getElem?_cons_zero] at c
        go_simp
        generalize V5.setCell ⟨z14, 0, none⟩ (.int .i64 B) = V6 at *
        clear c fr lt
        refine hK.out _ _ ?_ (fun hHeld2 => ?_)
        · exact keepS5 bz0 bz0 bz0 bz0 bz0 hHeld hBl
        clear hK K hHeld
        have hHeld := hHeld2
        clear hHeld2
        try simp only [Act.put, List.setIfInBounds_toArray, List.set_cons_zero, List.set_cons_succ]
        refine wpAnyH_done (by kernel_rfl) ?_ _
        refine NoPanic.normal ?_
        have k := hHeld.2.2.2.2.2
        clear hHeld
        clear bz0 b00 b01 b02 b03 b04
        have KB1 := Lib.hid (KB0.out.trans k)
        clear k
        go_wp2_with fail
        go_ret
        exact onBy_end kA kc k lA lc l rA rc R bo B z0 z1 z2 z13 z14 hl (by omega) hwl (fun a ha => hwv a (cnts_mem hR a ha)) hbo HBB.out hR (HB0.out.kept KB1.out) (HB1.out.kept KB1.out) (HB2.out.kept KB1.out) h13.has h14.has (HA.out.kept KB1.out) (HL.out.kept KB1.out) hC HON.out (K0.out.trans KB1.out)
    · have hne : V1.heap.size ≠ z14 := Nat.ne_of_gt h14.lt
      have h13 := AtB.new V1 #[.slice none 0 0] 27
      have kk := (Kept.refl V1).alloc (.cells #[.slice none 0 0] 27)
      have hzh13 := (hHeld.2.2.2.2.2).size_le
      replace h14 := h14.kept kk
      go_simp
      generalize V1.alloc (.cells #[.slice none 0 0] 27) = V2 at *
      generalize V1.heap.size = z13 at *
      refine hK.out _ _ ?_ (fun hHeld2 => ?_)
      · exact keepP5 bz0 bz0 bz0 bz0 bz0 hHeld kk
      clear hK K hHeld
      have hHeld := hHeld2
      clear hHeld2
      try simp only [Act.put, List.setIfInBounds_toArray, List.set_cons_zero, List.set_cons_succ]
      refine wpAnyH_ready (rs := [2]) (by kernel_rfl) (by simp) ?_
      refine AllReadyH.cons (by simp only [List.getElem?_toArray, List.getElem?_cons_succ, List.getElem?_cons_zero]; rfl) (fun K hK => ?_) (AllReadyH.nil)
      go_simp
      go_at_call 19; with_reducible refine (HLa.out _ (hHeld.2.2.2.2.2)).mono ?_
      rintro e V3 ⟨R, hR, hRl, rA, rc, rfl, hC, kk⟩
      replace h13 := h13.kept kk
      replace h14 := h14.kept kk
      try go_wp2_with fail
      refine hK.out _ _ ?_ (fun hHeld2 => ?_)
      · exact keepP5 bz0 bz0 bz0 bz0 bz0 hHeld kk
      clear hK K hHeld
      have hHeld := hHeld2
      clear hHeld2
      try simp only [Act.put, List.setIfInBounds_toArray, List.set_cons_zero, List.set_cons_succ]
      refine wpAnyH_ready (rs := [5]) (by kernel_rfl) (by simp) ?_
      refine AllReadyH.cons (by simp only [List.getElem?_toArray, List.getElem?_cons_succ, List.getElem?_cons_zero]; rfl) (fun K hK => ?_) (AllReadyH.nil)
      go_simp
      go_at_call 14; with_reducible refine (HBo.out _ (hHeld.2.2.2.2.2)).mono ?_
      rintro e V4 ⟨rfl, kk⟩
      replace hC := hC.kept kk
      replace h13 := h13.kept kk
      replace h14 := h14.kept kk
      try go_wp2_with fail
      refine hK.out _ _ ?_ (fun hHeld2 => ?_)
      · exact keepP5 bz0 bz0 bz0 bz0 bz0 hHeld kk
      clear hK K hHeld
      have hHeld := hHeld2
      clear hHeld2
      try simp only [Act.put, List.setIfInBounds_toArray, List.set_cons_zero, List.set_cons_succ]
      refine wpAnyH_ready (rs := [8]) (by kernel_rfl) (by simp) ?_
      refine AllReadyH.cons (by simp only [List.getElem?_toArray, List.getElem?_cons_succ, List.getElem?_cons_zero]; rfl) (fun K hK => ?_) (AllReadyH.nil)
      have c := h13.cell (j := 0)
      have fr := h13.fr 0
      have lt := h13.lt
      have hBl := Below.setCell (Below.refl W0.heap.size V4) (p := ⟨z13, 0, none⟩) hzh13 (.slice rA R.length rc)
      replace hC := hC.past (p := ⟨z13, 0, none⟩) (h13.cell (j := 0)) (votes_ints R _ _ _) (.slice rA R.length rc)
      replace h14 := h14.other (p := ⟨z13, 0, none⟩) (hne) (.slice rA R.length rc)
      replace h13 := h13.set1 (.slice rA R.length rc)
      simp only [List.getElem?_toArray, List.getElem?_cons_zero] at c
      go_simp
      generalize V4.setCell ⟨z13, 0, none⟩ (.slice rA R.length rc) = V5 at *
      clear c fr lt
      refine hK.out _ _ ?_ (fun hHeld2 => ?_)
      · exact keepS5 bz0 bz0 bz0 bz0 bz0 hHeld hBl
      clear hK K hHeld
      have hHeld := hHeld2
      clear hHeld2
      try simp only [Act.put, List.setIfInBounds_toArray, List.set_cons_zero, List.set_cons_succ]
      refine wpAnyH_ready (rs := [9]) (by kernel_rfl) (by simp) ?_
      refine AllReadyH.cons (by simp only [List.getElem?_toArray, List.getElem?_cons_succ, List.getElem?_cons_zero]; rfl) (fun K hK => ?_) (AllReadyH.nil)
      have c := h14.cell (j := 0)
      have fr := h14.fr 0
      have lt := h14.lt
      have hBl := Below.setCell (Below.refl W0.heap.size V5) (p := ⟨z14, 0, none⟩) hzh14 (.int .i64 B)
      have hCk := hC
      replace hC : CellsAt (V5.setCell ⟨z14, 0, none⟩ (.int .i64 B)) (V5.setCell ⟨z14, 0, none⟩ (.int .i64 B)).heap.size rA (votesCells R) := votes_past R hC h14 _
      clear hCk
      replace h13 := h13.other (p := ⟨z14, 0, none⟩) (hne.symm) (.int .i64 B)
      replace h14 := h14.set1 (.int .i64 B)
      simp only [List.getElem?_toArray, List.getElem?_cons_zero] at c
      go_simp
      generalize V5.setCell ⟨z14, 0, none⟩ (.int .i64 B) = V6 at *
      clear c fr lt
      refine hK.out _ _ ?_ (fun hHeld2 => ?_)
      · exact keepS5 bz0 bz0 bz0 bz0 bz0 hHeld hBl
      clear hK K hHeld
      have hHeld := hHeld2
      clear hHeld2
      try simp only [Act.put, List.setIfInBounds_toArray, List.set_cons_zero, List.set_cons_succ]
      refine wpAnyH_done (by kernel_rfl) ?_ _
      refine NoPanic.normal ?_
      have k := hHeld.2.2.2.2.2
      clear hHeld
      clear bz0 b00 b01 b02 b03 b04
      have KB1 := Lib.hid (KB0.out.trans k)
      clear k
      go_wp2_with fail
      go_ret
      exact onBy_end kA kc k lA lc l rA rc R bo B z0 z1 z2 z13 z14 hl (by omega) hwl (fun a ha => hwv a (cnts_mem hR a ha)) hbo HBB.out hR (HB0.out.kept KB1.out) (HB1.out.kept KB1.out) (HB2.out.kept KB1.out) h13.has h14.has (HA.out.kept KB1.out) (HL.out.kept KB1.out) hC HON.out (K0.out.trans KB1.out)
set_option maxRecDepth 100000 in
set_option maxHeartbeats 3200000 in
theorem lmdOn_any (kA : Option Addr) (kc : Nat) (k : Cf) (lA : Option Addr) (lc : Nat) (l : List Bk) (vA : Option Addr) (vc : Nat) (v : List Vt) (upto : Int) (bo : Id2) (pct : Int) (x : Id2) (w : World)
    (hk : k.ws.length ≤ 1000) (hl : l.length ≤ 10000) (hv : v.length ≤ 10000) (hwl : WfL l) (hwv : WfVs v) (hbo : WfI bo) (hx : WfI x) (hA : CellsAt w w.heap.size kA (intCells k.ws)) (hL : CellsAt w w.heap.size lA (blockCells l)) (hV : CellsAt w w.heap.size vA (votesCells v)) :
    Calls Try.prog 16 #[.agg #[.slice kA k.ws.length kc, .int .u64 k.seed, .int .i64 k.ep, .int .i64 k.nu, .int .i64 k.de], .slice lA l.length lc, .slice vA v.length vc, .int .i64 upto, .agg #[.int .u64 bo.1, .int .u64 bo.2], .int .i64 pct, .agg #[.int .u64 x.1, .int .u64 x.2]] w fun e w' => ∃ R, Cnts v (upQ upto) R ∧ e = .returned (.int .i64 (onB k l R bo pct x)) ∧ Kept w w' := by
  go_enter Try.func16, Try.ntmps16
  go_wp2_with fail
  have K0 := Lib.hid ((((Kept.refl w).alloc (.cells #[.slice kA k.ws.length kc, .int .u64 k.seed, .int .i64 k.ep, .int .i64 k.nu, .int .i64 k.de] 25)).alloc (.cells #[.int .u64 bo.1, .int .u64 bo.2] 29)).alloc (.cells #[.int .u64 x.1, .int .u64 x.2] 29))
  have HA := Lib.hid (hA.kept K0.out)
  clear hA
  have HL := Lib.hid (hL.kept K0.out)
  clear hL
  have HV := Lib.hid (hV.kept K0.out)
  clear hV
  have HB0 := Lib.hid (((HasCells.new w #[.slice kA k.ws.length kc, .int .u64 k.seed, .int .i64 k.ep, .int .i64 k.nu, .int .i64 k.de] 25 (w.heap.size) (by simp)).alloc (.cells #[.int .u64 bo.1, .int .u64 bo.2] 29)).alloc (.cells #[.int .u64 x.1, .int .u64 x.2] 29))
  have HB1 := Lib.hid ((HasCells.new (w.alloc (.cells #[.slice kA k.ws.length kc, .int .u64 k.seed, .int .i64 k.ep, .int .i64 k.nu, .int .i64 k.de] 25)) #[.int .u64 bo.1, .int .u64 bo.2] 29 (w.heap.size + 1) (by simp)).alloc (.cells #[.int .u64 x.1, .int .u64 x.2] 29))
  have HB2 := Lib.hid (HasCells.new ((w.alloc (.cells #[.slice kA k.ws.length kc, .int .u64 k.seed, .int .i64 k.ep, .int .i64 k.nu, .int .i64 k.de] 25)).alloc (.cells #[.int .u64 bo.1, .int .u64 bo.2] 29)) #[.int .u64 x.1, .int .u64 x.2] 29 (w.heap.size + 1 + 1) (by simp))
  generalize (((w.alloc (.cells #[.slice kA k.ws.length kc, .int .u64 k.seed, .int .i64 k.ep, .int .i64 k.nu, .int .i64 k.de] 25)).alloc (.cells #[.int .u64 bo.1, .int .u64 bo.2] 29)).alloc (.cells #[.int .u64 x.1, .int .u64 x.2] 29)) = W0 at *
  generalize w.heap.size + 1 + 1 = z2 at *
  generalize w.heap.size + 1 = z1 at *
  generalize w.heap.size = z0 at *
  have KB0 := Lib.hid (Kept.refl W0)
  obtain ⟨b00, b01, b02, b03, b04⟩ := (HB0.out.kept KB0.out).five
  have bz0 := (HB0.out.kept KB0.out).1
  obtain ⟨b10, b11⟩ := (HB1.out.kept KB0.out).two
  have bz1 := (HB1.out.kept KB0.out).1
  obtain ⟨b20, b21⟩ := (HB2.out.kept KB0.out).two
  have bz2 := (HB2.out.kept KB0.out).1
  go_wp2_with fail
  clear b00 b01 b02 b03 b04 bz0 b10 b11 bz1 b20 b21 bz2
  refine (onBy_any kA kc k lA lc l vA vc v upto bo pct W0 hk hl hv hwl hwv hbo (HA.out.kept KB0.out) (HL.out.kept KB0.out) (HV.out.kept KB0.out)).mono ?_
  rintro e W1 ⟨R, f, cb, hR, rfl, eg, hF, k⟩
  have KB1 := Lib.hid (KB0.out.trans k)
  clear k
  have HR := Lib.hid hR
  have HFn := Lib.hid hF
  clear hR hF
  unfold Enters at eg
  obtain ⟨b00, b01, b02, b03, b04⟩ := (HB0.out.kept KB1.out).five
  have bz0 := (HB0.out.kept KB1.out).1
  obtain ⟨b10, b11⟩ := (HB1.out.kept KB1.out).two
  have bz1 := (HB1.out.kept KB1.out).1
  obtain ⟨b20, b21⟩ := (HB2.out.kept KB1.out).two
  have bz2 := (HB2.out.kept KB1.out).1
  go_wp2_with fail
  clear b00 b01 b02 b03 b04 bz0 b10 b11 bz1 b20 b21 bz2
  refine (HFn.out W1 (Kept.refl _) x hx).mono ?_
  rintro e W2 ⟨rfl, k⟩
  have KB2 := Lib.hid (KB1.out.trans k)
  clear k
  go_wp2_with fail
  go_ret
  exact ⟨R, HR.out, by first | rfl | (simp; done), K0.out.trans KB2.out⟩

end Go.Proofs.Yteamjjkmcomabaa
