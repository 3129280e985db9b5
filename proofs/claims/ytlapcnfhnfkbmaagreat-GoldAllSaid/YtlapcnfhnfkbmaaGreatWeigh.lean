/-
  The contracts of package weigh's calls standingOn, voterFor (and its closure), gather, weights (and its closure), On and All.
-/
import Derived.Test.YtlapcnfhnfkbmaaGreatWeighMath
import Derived.Test.YtlapcnfhnfkbmaaGreatDutyG
import Derived.Test.YtlapcnfhnfkbmaaGreatTreeG
import Derived.Test.YtlapcnfhnfkbmaaGreatVoteG
namespace Go.Proofs.YtlapcnfhnfkbmaaGreat
set_option maxRecDepth 100000
set_option linter.unusedVariables false
set_option linter.unusedSimpArgs false
open Go.ChangeShapes Go.WideShapes Go.ChangeAt Go.RowKit

/-! ### Sets of ids -/
/-- v is a set of ids: those of which p is so. -/
def SetI (p : Id2 → Bool) (v : Value) (w : World) : Prop :=
  (v = .map none ∧ ∀ y, WfI y → p y = false) ∨ ∃ b m D, v = .map (some b) ∧ w.ownsMap (H := Unit) Tryz.prog 35 unitElem b m D ∧ ∀ y, WfI y → Maps.has D (keyI y) = p y
theorem SetI.kept {p : Id2 → Bool} {v : Value} {w w' : World} (h : SetI p v w) (k : Kept w w') : SetI p v w' := by
  rcases h with h | ⟨b, m, D, e, ⟨es, clock, hb, r⟩, hh⟩
  · exact Or.inl h
  · exact Or.inr ⟨b, m, D, e, ⟨es, clock, (k.heap (Array.getElem?_eq_some_iff.1 hb).1).trans hb, r⟩, hh⟩
theorem set_kept {b m : Nat} {D : DataW Unit} {w w' : World} (h : w.ownsMap Tryz.prog 35 unitElem b m D) (k : Kept w w') : w'.ownsMap Tryz.prog 35 unitElem b m D := by
  obtain ⟨es, clock, hb, r⟩ := h
  exact ⟨es, clock, (k.heap (Array.getElem?_eq_some_iff.1 hb).1).trans hb, r⟩
theorem hasI_put {D : DataW Unit} (hD : Maps.IsMap D) {p : Id2 → Bool} (h : ∀ y, WfI y → Maps.has D (keyI y) = p y) {n : Id2} (hn : WfI n) (d : DataW Unit) (y : Id2) (hy : WfI y) :
    Maps.has (D.put (keyI n) d) (keyI y) = (p y || decide (y = n)) := by
  have hk : WideAt.IsKeyLit (keyI n) := Tryz.keyedID.key (key_of hn)
  by_cases e : y = n
  · subst e
    rw [Maps.has_put_same hD hk]
    simp
  · rw [Maps.has_put_other (fun q => e (keyI_inj hy hn q)), h y hy, decide_eq_false e]
    simp
theorem look_nilS {x : Id2} (hx : WfI x) (w : World) : (Instr.lookup 104 (.map none) (.agg #[.int .u64 x.1, .int .u64 x.2]) true).run Tryz.prog w = .ok (.tuple #[.agg #[], .bool false]) w := by
  have h1 : (Instr.checkKey true 10000 35 (.agg #[.int .u64 x.1, .int .u64 x.2])).run Tryz.prog w = .ok () w := Tryz.keyedID.check w true (key_of hx)
  have h2 : (Instr.findKey 35 (.agg #[.int .u64 x.1, .int .u64 x.2]) []).run Tryz.prog w = .ok none w := by
    rcases Tryz.keyedID.find w (key_of hx) [] (fun _ h => by cases h) with ⟨h, _⟩ | ⟨j, e, _, h, _⟩
    · exact h
    · simp at h
  have h3 : (zeroValue 76).run Tryz.prog w = .ok (.agg #[]) w := Tryz.zeroValue76 w
  simp [Instr.lookup, run_underlying Tryz.underlying104, h1, h2, h3, Result.andThen]
/-- A literal's entry. -/
theorem wpList_insert_own {H : Type} {P : Program} (w : World) {ops : Array Oper} {rest : List Oper} {o : Oper} {a : Act} {Q : Exit → Act → World → Prop}
    (hg : o.guard = none) (m x v : Operand) (t : TypeId) (hop : o.op = Op.insert t m x v)
    (k e : TypeId) (K : Maps.Keyed P k) (ht : P.underlying t = some (.map k e)) (R : Value → Option (DataW H × List MemPlace)) (b n : Nat) (D : DataW H)
    (hm : a.eval m = .map (some b)) (hown : w.ownsMap P k R b n D) (hn : n < maxLen) (key val : Value) (kl : Lit) (hx : a.eval x = key) (hv : a.eval v = val) (hkey : keyOf P k key = some kl)
    (d : DataW H) (ps : List MemPlace) (hval : R val = some (d, ps))
    (hK : ∀ w', w'.ownsMap P k R b (n + 1) (D.put kl d) → w.grownBy w' (some b) → wpList P ops Q rest (a.put o.dst undef) w') :
    wpList P ops Q (o :: rest) a w := by
  refine wpList_plain hg fun K' hK' => ?_
  obtain ⟨w', hrun, r1, r2⟩ := hown.update K ht hn hkey hval
  unfold Oper.wp
  simp [execOp, hop, hm, hx, hv, hrun, Result.andThen]
  exact hK' _ _ (hK w' r1 r2)

/-! ### standingOn -/
theorem slotC_snd {l : List Bk} (x : Id2) : (slotC l x).2 = (mayB l && standsB l x) := by
  unfold slotC
  cases h : mayB l with
  | false => rfl
  | true =>
    have := slotB_isSome l x
    rw [if_pos rfl, ← this]
    cases slotB l x <;> rfl

set_option maxRecDepth 100000 in
set_option maxHeartbeats 1600000 in
theorem standing_any (A : Option Addr) (c : Nat) (l : List Bk) (hl : l.length ≤ 1000000) (hw : WfL l) (x : Id2) (hx : WfI x) (w : World) (hA : CellsAt w w.heap.size A (blockCells l)) :
    Calls Tryz.prog 64 #[.slice A l.length c, .agg #[.int .u64 x.1, .int .u64 x.2]] w fun e w' => ∃ v, e = .returned v ∧ SetI (fun y => underC l x y) v w' ∧ Kept w w' := by
  have HS := Lib.hid (slot_any A c l hl hw x hx _ (hA.kept ((Kept.refl w).alloc (.cells #[.int .u64 x.1, .int .u64 x.2] 35))))
  have HX := Lib.hid hx
  have HA := Lib.hid (hA.kept ((Kept.refl w).alloc (.cells #[.int .u64 x.1, .int .u64 x.2] 35)))
  have HC := Lib.hid (HasCells.new w #[.int .u64 x.1, .int .u64 x.2] 35 w.heap.size rfl)
  have HK := Lib.hid ((Kept.refl w).alloc (.cells #[.int .u64 x.1, .int .u64 x.2] 35))
  have HW := Lib.hid hw
  have HSS := Lib.hid (slotC_snd (l := l) x)
  have hmm := @run_makeMap Tryz.prog
  clear hA hx hw
  go_enter Tryz.func64, Tryz.ntmps64
  go_wp2_with fail
  refine HS.out.mono ?_
  rintro e W ⟨rfl, k1⟩
  unfold slotPV
  rw [HSS.out]
  have HK1 := Lib.hid (HK.out.trans k1)
  have HA1 := Lib.hid (HA.out.kept k1)
  have HC1 := Lib.hid (HC.out.kept k1)
  clear k1 HK HA HC HS HSS
  generalize (slotC l x).1 = s at *
  cases hm : mayB l && standsB l x with
  | false =>
    have HN := Lib.hid (show ∀ y, underC l x y = false from fun y => by
      rw [Bool.and_eq_false_iff] at hm
      rcases hm with h | h
      · exact under_no h x y
      · exact under_unknown h y)
    clear hm
    go_wp2_with fail
    go_ret
    exact ⟨.map none, rfl, Or.inl ⟨rfl, fun y _ => HN.out y⟩, HK1.out⟩
  | true =>
    rw [Bool.and_eq_true] at hm
    have HM := Lib.hid hm.1
    have HT := Lib.hid hm.2
    obtain ⟨c0, c1⟩ := HC1.out.two
    have hlz := HC1.out.1
    have HMade := Lib.hid (World.ownsMap_made W Tryz.prog 35 (unitElem (H := Unit)))
    have hown := HMade.out
    have hkx := key_of HX.out
    have hmx : (0 : Nat) < maxLen := by unfold maxLen; omega
    clear hm
    go_wp2_with (refine wpList_insert_own _ rfl _ _ _ 104 rfl 35 76 Tryz.keyedID Tryz.underlying104 _ _ _ _ rfl hown hmx _ _ _ rfl rfl hkx (.agg []) [] unitElem_mk ?_; intro w1 hown1 hgrow1)
    have HK2 := Lib.hid ((HK1.out.alloc (.map #[] 0)).grown hgrow1 (fun i hi => by cases hi; exact HK1.out.size_le))
    have HA2 := Lib.hid (HA1.out.kept (((Kept.refl W).alloc (.map #[] 0)).grown hgrow1 (fun i hi => by cases hi; exact Nat.le_refl _)))
    have HO := Lib.hid hown1
    have HH := Lib.hid (show ∀ y, WfI y → Maps.has ((DataW.map []).put (keyI x) (.agg [])) (keyI y) = setC l 0 x y from fun y hy => by
      rw [hasI_put hown.isMap (p := fun _ => false) (fun _ _ => rfl) HX.out (.agg []) y hy, setC_zero, Bool.false_or])
    have HKW := Lib.hid (((Kept.refl W).alloc (.map #[] 0)).grown hgrow1 (fun i hi => by cases hi; exact Nat.le_refl _))
    clear hown hown1 hgrow1 hmx hkx c0 c1 HMade HA2
    go_loopw [26] (fun i w' => ∃ k m D, k ≤ l.length ∧ m ≤ k + 1 ∧ i = .int .i64 (k : Nat) ∧ w'.ownsMap Tryz.prog 35 (unitElem (H := Unit)) W.heap.size m D ∧ (∀ y, WfI y → Maps.has D (keyI y) = setC l k x y) ∧ Kept W w') (fun i _ => l.length - (intOf i).toNat)
    case atStart => exact ⟨0, 1, (DataW.map []).put (keyI x) (.agg []), by omega, by omega, rfl, HO.out, HH.out, HKW.out⟩
    case round =>
      obtain ⟨k, m, D, hk, hmk, rfl, hO, hH, hKr⟩ := hrel
      have HR := Lib.hid hKr
      have HP := Lib.hid hH
      have HOr := Lib.hid hO
      clear hO hH hKr HO HH
      by_cases hlt : k < l.length
      · obtain ⟨z, o, rfl, hb, c0, c1, c2, c3, c4⟩ := block_at (HA1.out.kept HR.out) hlt
        have HXB := Lib.hid (HW.out l[k] (List.getElem_mem hlt))
        have HPar := Lib.hid ((HP.out l[k].p (HW.out l[k] (List.getElem_mem hlt)).1).trans (setC_parent HM.out hlt HT.out))
        cases hu : underC l x l[k].p with
        | true =>
          have HNx := Lib.hid (fun y => setC_hit HM.out hlt hu y)
          rw [hu] at HPar
          clear hu
          generalize l[k] = b at *
          have hown := set_kept HOr.out ((Kept.refl wr).alloc (.cells #[.int .i64 b.s, .int .i64 b.f, .int .u64 b.p.1, .int .u64 b.p.2, .int .u64 b.t] 56))
          have hkey := key_of HXB.out.1
          go_wp2_with (at_lookup; refine wpList_lookup_own_unit _ rfl _ _ 104 rfl 35 76 Tryz.keyedID Tryz.underlying104 (Tryz.zeroValue76 _) W.heap.size m D rfl hown _ _ rfl hkey ?_; rw [HPar.out])
          refine (name_any b HXB.out _).mono ?_
          rintro e W1 ⟨rfl, k1⟩
          have HR1 := Lib.hid (((HR.out.alloc (.cells #[.int .i64 b.s, .int .i64 b.f, .int .u64 b.p.1, .int .u64 b.p.2, .int .u64 b.t] 56)).alloc (.cells #[] 76)).trans k1)
          have hown1 := set_kept (set_kept hown ((Kept.refl _).alloc (.cells #[] 76))) k1
          have hn := nameB_lt b
          have hkn := key_of hn
          have HPut := Lib.hid (fun y hy => (hasI_put hown1.isMap HP.out hn (.agg []) y hy).trans (HNx.out y).symm)
          have hmx : m < maxLen := by unfold maxLen; omega
          clear hown hkey k1 c0 c1 c2 c3 c4 HR HNx HPar
          generalize nameB b = n at *
          go_wp2_with (at_mapUpdate; refine wpList_mapUpdate_own _ rfl _ _ _ 104 rfl 35 76 Tryz.keyedID Tryz.underlying104 _ _ _ _ rfl hown1 hmx _ _ _ rfl rfl hkn (.agg []) [] unitElem_mk ?_; intro w2 hown2 hgrow2)
          go_roundw
          case rel => exact ⟨k + 1, m + 1, D.put (keyI n) (.agg []), by omega, by omega, by go_num, hown2, HPut.out, HR1.out.grown hgrow2 (fun i hi => by cases hi; exact Nat.le_refl _)⟩
          case measure => simp [intOf]; omega
        | false =>
          have HNx := Lib.hid (fun y => setC_miss HM.out hlt hu y)
          rw [hu] at HPar
          clear hu
          generalize l[k] = b at *
          have hown := set_kept HOr.out ((Kept.refl wr).alloc (.cells #[.int .i64 b.s, .int .i64 b.f, .int .u64 b.p.1, .int .u64 b.p.2, .int .u64 b.t] 56))
          have hkey := key_of HXB.out.1
          go_wp2_with (at_lookup; refine wpList_lookup_own_unit _ rfl _ _ 104 rfl 35 76 Tryz.keyedID Tryz.underlying104 (Tryz.zeroValue76 _) W.heap.size m D rfl hown _ _ rfl hkey ?_; rw [HPar.out])
          have HR1 := Lib.hid ((HR.out.alloc (.cells #[.int .i64 b.s, .int .i64 b.f, .int .u64 b.p.1, .int .u64 b.p.2, .int .u64 b.t] 56)).alloc (.cells #[] 76))
          have HO1 := Lib.hid (set_kept hown ((Kept.refl _).alloc (.cells #[] 76)))
          clear hown hkey
          go_roundw
          case rel => exact ⟨k + 1, m, D, by omega, by omega, by go_num, HO1.out, fun y hy => (HP.out y hy).trans (HNx.out y).symm, HR1.out⟩
          case measure => simp [intOf]; omega
      · have hkl : k = l.length := by omega
        subst hkl
        have HE := Lib.hid (fun y => setC_end HM.out HT.out y)
        go_wp2_with fail
        go_ret
        exact ⟨.map (some W.heap.size), rfl, Or.inr ⟨W.heap.size, m, D, rfl, HOr.out, fun y hy => (HP.out y hy).trans (HE.out y)⟩, HK1.out.trans HR.out⟩

/-! ### voterFor -/
set_option maxHeartbeats 800000 in
theorem voterFor_any (A : Option Addr) (c : Nat) (l : List Bk) (hl : l.length ≤ 1000000) (hw : WfL l) (x : Id2) (hx : WfI x) (w : World) (hA : CellsAt w w.heap.size A (blockCells l)) :
    Calls Tryz.prog 39 #[.slice A l.length c, .agg #[.int .u64 x.1, .int .u64 x.2]] w fun e w' => ∃ z v, e = .returned (.func (.func 65) #[] #[.pointer (some ⟨z, 0, none⟩)]) ∧ HasCells w' z [v] ∧ SetI (fun y => underC l x y) v w' ∧ Kept w w' := by
  have HS := Lib.hid (standing_any A c l hl hw x hx _ (hA.kept ((Kept.refl w).alloc (.cells #[.int .u64 x.1, .int .u64 x.2] 35))))
  have HK := Lib.hid ((Kept.refl w).alloc (.cells #[.int .u64 x.1, .int .u64 x.2] 35))
  clear hA hx hw
  go_enter Tryz.func39, Tryz.ntmps39
  go_wp2_with fail
  refine HS.out.mono ?_
  rintro e W ⟨v, rfl, hS, k1⟩
  have HK1 := Lib.hid (HK.out.trans k1)
  have HSI := Lib.hid hS
  have hv : v.oneCell' = true := by
    rcases hS with ⟨rfl, _⟩ | ⟨b, m, D, rfl, _⟩ <;> rfl
  clear k1 hS HK HS
  rcases HSI.out with ⟨hv0, _⟩ | ⟨b, m, D, hv0, _⟩
  all_goals
    rw [hv0] at HSI ⊢
    clear hv0 hv
    go_wp2_with fail
    go_ret
    exact ⟨_, _, rfl, HasCells.new W _ 104 W.heap.size rfl, HSI.out.kept ((Kept.refl W).alloc _), HK1.out.alloc _⟩

set_option maxHeartbeats 800000 in
theorem voter_any (z : Nat) (v : Value) (p : Id2 → Bool) (y : Vt) (hy : WfI y.p) (w : World) (hz : HasCells w z [v]) (hS : SetI p v w) :
    Calls Tryz.prog 65 #[.agg #[.int .i64 y.f, .int .i64 y.s, .int .u64 y.p.1, .int .u64 y.p.2], .pointer (some ⟨z, 0, none⟩)] w fun e w' => e = .returned (.tuple #[.int .i64 y.f, .bool (p y.p)]) ∧ Kept w w' := by
  have HK := Lib.hid ((Kept.refl w).alloc (.cells #[.int .i64 y.f, .int .i64 y.s, .int .u64 y.p.1, .int .u64 y.p.2] 39))
  have c0 := (hz.kept HK.out).at0
  have hzl := (hz.kept HK.out).1
  have hzw := hz.1
  have HSI := Lib.hid (hS.kept HK.out)
  have HY := Lib.hid hy
  clear hz hS hy
  rcases HSI.out with ⟨rfl, hn⟩ | ⟨b, m, D, rfl, hown, hh⟩
  · have HP := Lib.hid (hn _ HY.out)
    have hnil := fun w' => look_nilS HY.out w'
    clear hn HSI
    go_enter Tryz.func65, Tryz.ntmps65
    go_wp2_with fail
    go_ret2
    exact ⟨by rw [HP.out]; rfl, HK.out.alloc _⟩
  · have HP := Lib.hid (hh _ HY.out)
    have hkey := key_of HY.out
    clear hh HSI
    go_enter Tryz.func65, Tryz.ntmps65
    go_wp2_with (at_lookup; refine wpList_lookup_own_unit _ rfl _ _ 104 rfl 35 76 Tryz.keyedID Tryz.underlying104 (Tryz.zeroValue76 _) b m D rfl hown _ _ rfl hkey ?_; rw [HP.out])
    go_ret2
    exact ⟨rfl, HK.out.alloc _⟩

end Go.Proofs.YtlapcnfhnfkbmaaGreat
