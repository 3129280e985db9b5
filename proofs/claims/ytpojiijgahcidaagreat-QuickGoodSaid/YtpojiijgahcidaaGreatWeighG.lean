/-
  The contracts of package weigh's calls standingOn, voterFor (and its closure), gather, weights (and its closure), On and All.
  The contracts of package weigh's calls gather, weights (and its closure), On and All.
  Boxes of ids of one's own, that are written.
  A map of lists of ids of one's own, filled by append: block b holds, of each id x, the list f x, each in a row of its own.
  Plain mathematics of package ghost: the best one as it is gathered, one id behind the other.
  The contract of package mix's call Less.
  The contracts of package ghost's calls isBetter, bestOf and Best.
  The contract of package ghost's call bestOf.
  The contract of package ghost's call allKids.
-/
import Derived.Maps.OwnSet
import Derived.WideKeyEntry
import Derived.Deep.RegionHeld3
import Derived.Test.YtpojiijgahcidaaGreatPlainG
import Derived.Test.YtpojiijgahcidaaGreatDutyG
import Derived.Test.YtpojiijgahcidaaGreatTreeG
import Derived.Test.YtpojiijgahcidaaGreatVoteG
import Derived.Test.YtpojiijgahcidaaGreatMixG
import Derived.Test.YtpojiijgahcidaaGreatGround
namespace Go.Proofs.YtpojiijgahcidaaGreat
set_option maxRecDepth 100000
set_option linter.unusedVariables false
set_option linter.unusedSimpArgs false
section
open Go.ChangeShapes Go.WideShapes Go.ChangeAt Go.RowKit

/-! ### Sets of ids -/
/-- v is a set of ids: those of which p is so. -/
def SetI (p : Id2 → Bool) (v : Value) (w : World) : Prop :=
  (v = .map none ∧ ∀ y, WfI y → p y = false) ∨ ∃ b m D, v = .map (some b) ∧ w.ownsMap (H := Unit) Tryz.prog 31 unitElem b m D ∧ ∀ y, WfI y → Maps.has D (keyI y) = p y
theorem SetI.kept {p : Id2 → Bool} {v : Value} {w w' : World} (h : SetI p v w) (k : Kept w w') : SetI p v w' := by
  rcases h with h | ⟨b, m, D, e, ⟨es, clock, hb, r⟩, hh⟩
  · exact Or.inl h
  · exact Or.inr ⟨b, m, D, e, ⟨es, clock, (k.heap (Array.getElem?_eq_some_iff.1 hb).1).trans hb, r⟩, hh⟩
theorem set_kept {b m : Nat} {D : DataW Unit} {w w' : World} (h : w.ownsMap Tryz.prog 31 unitElem b m D) (k : Kept w w') : w'.ownsMap Tryz.prog 31 unitElem b m D := by
  obtain ⟨es, clock, hb, r⟩ := h
  exact ⟨es, clock, (k.heap (Array.getElem?_eq_some_iff.1 hb).1).trans hb, r⟩
theorem hasI_put {D : DataW Unit} (hD : Maps.IsMap D) {p : Id2 → Bool} (h : ∀ y, WfI y → Maps.has D (keyI y) = p y) {n : Id2} (hn : WfI n) (d : DataW Unit) (y : Id2) (hy : WfI y) :
    Maps.has (D.put (keyI n) d) (keyI y) = (p y || decide (y = n)) := by
  have hk : WideAt.IsKeyLit (keyI n) := Tryz.keyedID.key (key_of hn)
  by_cases e : y = n
  · subst e
    rw [Maps.has_put_same hD hk]
    simp
  · rw [Maps.has_put_other (fun q => e (keyI_inj hy hn q)), h y hy, decide_eq_false e]
    simp
theorem look_nilS {x : Id2} (hx : WfI x) (w : World) : (Instr.lookup 153 (.map none) (.agg #[.int .u64 x.1, .int .u64 x.2]) true).run Tryz.prog w = .ok (.tuple #[.agg #[], .bool false]) w := by
  have h1 : (Instr.checkKey true 10000 31 (.agg #[.int .u64 x.1, .int .u64 x.2])).run Tryz.prog w = .ok () w := Tryz.keyedID.check w true (key_of hx)
  have h2 : (Instr.findKey 31 (.agg #[.int .u64 x.1, .int .u64 x.2]) []).run Tryz.prog w = .ok none w := by
    rcases Tryz.keyedID.find w (key_of hx) [] (fun _ h => by cases h) with ⟨h, _⟩ | ⟨j, e, _, h, _⟩
    · exact h
    · simp at h
  have h3 : (zeroValue 75).run Tryz.prog w = .ok (.agg #[]) w := Tryz.zeroValue75 w
  simp [Instr.lookup, run_underlying Tryz.underlying153, h1, h2, h3, Result.andThen]
/-- A literal's entry. -/
theorem wpList_insert_own {H : Type} {P : Program} (w : World) {ops : Array Oper} {rest : List Oper} {o : Oper} {a : Act} {Q : Exit → Act → World → Prop}
    (hg : o.guard = none) (m x v : Operand) (t : TypeId) (hop : o.op = Op.insert t m x v)
    (k e : TypeId) (K : Maps.Keyed P k) (ht : P.underlying t = some (.map k e)) (R : Value → Option (DataW H × List MemPlace)) (b n : Nat) (D : DataW H)
    (hm : a.eval m = .map (some b)) (hown : w.ownsMap P k R b n D) (hn : n < maxLen) (key val : Value) (kl : Lit) (hx : a.eval x = key) (hv : a.eval v = val) (hkey : keyOf P k key = some kl)
    (d : DataW H) (ps : List MemPlace) (hval : R val = some (d, ps))
    (hK : ∀ w', w'.ownsMap P k R b (n + 1) (D.put kl d) → w.grownBy w' (some b) → wpList P ops Q rest (a.put o.dst undef) w') :
    wpList P ops Q (o :: rest) a w := by
  refine wpList_plain hg fun K' hK' => ?_
  obtain ⟨w', hrun, r1, r2⟩ := hown.update K ht hn hkey hval
  unfold Oper.wp
  simp [execOp, hop, hm, hx, hv, hrun, Result.andThen]
  exact hK' _ _ (hK w' r1 r2)

/-! ### standingOn -/
theorem slotC_snd {l : List Bk} (x : Id2) : (slotC l x).2 = (mayB l && standsB l x) := by
  unfold slotC
  cases h : mayB l with
  | false => rfl
  | true =>
    have := slotB_isSome l x
    rw [if_pos rfl, ← this]
    cases slotB l x <;> rfl

set_option maxRecDepth 100000 in
set_option maxHeartbeats 1600000 in
theorem standing_any (A : Option Addr) (c : Nat) (l : List Bk) (hl : l.length ≤ 1000000) (hw : WfL l) (x : Id2) (hx : WfI x) (w : World) (hA : CellsAt w w.heap.size A (blockCells l)) :
    Calls Tryz.prog 105 #[.slice A l.length c, .agg #[.int .u64 x.1, .int .u64 x.2]] w fun e w' => ∃ v, e = .returned v ∧ SetI (fun y => underC l x y) v w' ∧ Kept w w' := by
  have HS := Lib.hid (slot_any A c l hl hw x hx _ (hA.kept ((Kept.refl w).alloc (.cells #[.int .u64 x.1, .int .u64 x.2] 31))))
  have HX := Lib.hid hx
  have HA := Lib.hid (hA.kept ((Kept.refl w).alloc (.cells #[.int .u64 x.1, .int .u64 x.2] 31)))
  have HC := Lib.hid (HasCells.new w #[.int .u64 x.1, .int .u64 x.2] 31 w.heap.size rfl)
  have HK := Lib.hid ((Kept.refl w).alloc (.cells #[.int .u64 x.1, .int .u64 x.2] 31))
  have HW := Lib.hid hw
  have HSS := Lib.hid (slotC_snd (l := l) x)
  have hmm := @run_makeMap Tryz.prog
  clear hA hx hw
  go_enter Tryz.func105, Tryz.ntmps105
  go_wp2_with fail
  refine HS.out.mono ?_
  rintro e W ⟨rfl, k1⟩
  unfold slotPV
  rw [HSS.out]
  have HK1 := Lib.hid (HK.out.trans k1)
  have HA1 := Lib.hid (HA.out.kept k1)
  have HC1 := Lib.hid (HC.out.kept k1)
  clear k1 HK HA HC HS HSS
  generalize (slotC l x).1 = s at *
  cases hm : mayB l && standsB l x with
  | false =>
    have HN := Lib.hid (show ∀ y, underC l x y = false from fun y => by
      rw [Bool.and_eq_false_iff] at hm
      rcases hm with h | h
      · exact under_no h x y
      · exact under_unknown h y)
    clear hm
    go_wp2_with fail
    go_ret
    exact ⟨.map none, rfl, Or.inl ⟨rfl, fun y _ => HN.out y⟩, HK1.out⟩
  | true =>
    rw [Bool.and_eq_true] at hm
    have HM := Lib.hid hm.1
    have HT := Lib.hid hm.2
    obtain ⟨c0, c1⟩ := HC1.out.two
    have hlz := HC1.out.1
    have HMade := Lib.hid (World.ownsMap_made W Tryz.prog 31 (unitElem (H := Unit)))
    have hown := HMade.out
    have hkx := key_of HX.out
    have hmx : (0 : Nat) < maxLen := by unfold maxLen; omega
    clear hm
    go_wp2_with (refine wpList_insert_own _ rfl _ _ _ 153 rfl 31 75 Tryz.keyedID Tryz.underlying153 _ _ _ _ rfl hown hmx _ _ _ rfl rfl hkx (.agg []) [] unitElem_mk ?_; intro w1 hown1 hgrow1)
    have HK2 := Lib.hid ((HK1.out.alloc (.map #[] 0)).grown hgrow1 (fun i hi => by cases hi; exact HK1.out.size_le))
    have HA2 := Lib.hid (HA1.out.kept (((Kept.refl W).alloc (.map #[] 0)).grown hgrow1 (fun i hi => by cases hi; exact Nat.le_refl _)))
    have HO := Lib.hid hown1
    have HH := Lib.hid (show ∀ y, WfI y → Maps.has ((DataW.map []).put (keyI x) (.agg [])) (keyI y) = setC l 0 x y from fun y hy => by
      rw [hasI_put hown.isMap (p := fun _ => false) (fun _ _ => rfl) HX.out (.agg []) y hy, setC_zero, Bool.false_or])
    have HKW := Lib.hid (((Kept.refl W).alloc (.map #[] 0)).grown hgrow1 (fun i hi => by cases hi; exact Nat.le_refl _))
    clear hown hown1 hgrow1 hmx hkx c0 c1 HMade HA2
    go_loopw [26] (fun i w' => ∃ k m D, k ≤ l.length ∧ m ≤ k + 1 ∧ i = .int .i64 (k : Nat) ∧ w'.ownsMap Tryz.prog 31 (unitElem (H := Unit)) W.heap.size m D ∧ (∀ y, WfI y → Maps.has D (keyI y) = setC l k x y) ∧ Kept W w') (fun i _ => l.length - (intOf i).toNat)
    case atStart => exact ⟨0, 1, (DataW.map []).put (keyI x) (.agg []), by omega, by omega, rfl, HO.out, HH.out, HKW.out⟩
    case round =>
      obtain ⟨k, m, D, hk, hmk, rfl, hO, hH, hKr⟩ := hrel
      have HR := Lib.hid hKr
      have HP := Lib.hid hH
      have HOr := Lib.hid hO
      clear hO hH hKr HO HH
      by_cases hlt : k < l.length
      · obtain ⟨z, o, rfl, hb, c0, c1, c2, c3, c4⟩ := block_at (HA1.out.kept HR.out) hlt
        have HXB := Lib.hid (HW.out l[k] (List.getElem_mem hlt))
        have HPar := Lib.hid ((HP.out l[k].p (HW.out l[k] (List.getElem_mem hlt)).1).trans (setC_parent HM.out hlt HT.out))
        cases hu : underC l x l[k].p with
        | true =>
          have HNx := Lib.hid (fun y => setC_hit HM.out hlt hu y)
          rw [hu] at HPar
          clear hu
          generalize l[k] = b at *
          have hown := set_kept HOr.out ((Kept.refl wr).alloc (.cells #[.int .i64 b.s, .int .i64 b.f, .int .u64 b.p.1, .int .u64 b.p.2, .int .u64 b.t] 54))
          have hkey := key_of HXB.out.1
          go_wp2_with (at_lookup; refine wpList_lookup_own_unit _ rfl _ _ 153 rfl 31 75 Tryz.keyedID Tryz.underlying153 (Tryz.zeroValue75 _) W.heap.size m D rfl hown _ _ rfl hkey ?_; rw [HPar.out])
          refine (name_any b HXB.out _).mono ?_
          rintro e W1 ⟨rfl, k1⟩
          have HR1 := Lib.hid (((HR.out.alloc (.cells #[.int .i64 b.s, .int .i64 b.f, .int .u64 b.p.1, .int .u64 b.p.2, .int .u64 b.t] 54)).alloc (.cells #[] 75)).trans k1)
          have hown1 := set_kept (set_kept hown ((Kept.refl _).alloc (.cells #[] 75))) k1
          have hn := nameB_lt b
          have hkn := key_of hn
          have HPut := Lib.hid (fun y hy => (hasI_put hown1.isMap HP.out hn (.agg []) y hy).trans (HNx.out y).symm)
          have hmx : m < maxLen := by unfold maxLen; omega
          clear hown hkey k1 c0 c1 c2 c3 c4 HR HNx HPar
          generalize nameB b = n at *
          go_wp2_with (at_mapUpdate; refine wpList_mapUpdate_own _ rfl _ _ _ 153 rfl 31 75 Tryz.keyedID Tryz.underlying153 _ _ _ _ rfl hown1 hmx _ _ _ rfl rfl hkn (.agg []) [] unitElem_mk ?_; intro w2 hown2 hgrow2)
          go_roundw
          case rel => exact ⟨k + 1, m + 1, D.put (keyI n) (.agg []), by omega, by omega, by go_num, hown2, HPut.out, HR1.out.grown hgrow2 (fun i hi => by cases hi; exact Nat.le_refl _)⟩
          case measure => simp [intOf]; omega
        | false =>
          have HNx := Lib.hid (fun y => setC_miss HM.out hlt hu y)
          rw [hu] at HPar
          clear hu
          generalize l[k] = b at *
          have hown := set_kept HOr.out ((Kept.refl wr).alloc (.cells #[.int .i64 b.s, .int .i64 b.f, .int .u64 b.p.1, .int .u64 b.p.2, .int .u64 b.t] 54))
          have hkey := key_of HXB.out.1
          go_wp2_with (at_lookup; refine wpList_lookup_own_unit _ rfl _ _ 153 rfl 31 75 Tryz.keyedID Tryz.underlying153 (Tryz.zeroValue75 _) W.heap.size m D rfl hown _ _ rfl hkey ?_; rw [HPar.out])
          have HR1 := Lib.hid ((HR.out.alloc (.cells #[.int .i64 b.s, .int .i64 b.f, .int .u64 b.p.1, .int .u64 b.p.2, .int .u64 b.t] 54)).alloc (.cells #[] 75))
          have HO1 := Lib.hid (set_kept hown ((Kept.refl _).alloc (.cells #[] 75)))
          clear hown hkey
          go_roundw
          case rel => exact ⟨k + 1, m, D, by omega, by omega, by go_num, HO1.out, fun y hy => (HP.out y hy).trans (HNx.out y).symm, HR1.out⟩
          case measure => simp [intOf]; omega
      · have hkl : k = l.length := by omega
        subst hkl
        have HE := Lib.hid (fun y => setC_end HM.out HT.out y)
        go_wp2_with fail
        go_ret
        exact ⟨.map (some W.heap.size), rfl, Or.inr ⟨W.heap.size, m, D, rfl, HOr.out, fun y hy => (HP.out y hy).trans (HE.out y)⟩, HK1.out.trans HR.out⟩

/-! ### voterFor -/
set_option maxHeartbeats 800000 in
theorem voterFor_any (A : Option Addr) (c : Nat) (l : List Bk) (hl : l.length ≤ 1000000) (hw : WfL l) (x : Id2) (hx : WfI x) (w : World) (hA : CellsAt w w.heap.size A (blockCells l)) :
    Calls Tryz.prog 83 #[.slice A l.length c, .agg #[.int .u64 x.1, .int .u64 x.2]] w fun e w' => ∃ z v, e = .returned (.func (.func 106) #[] #[.pointer (some ⟨z, 0, none⟩)]) ∧ HasCells w' z [v] ∧ SetI (fun y => underC l x y) v w' ∧ Kept w w' := by
  have HS := Lib.hid (standing_any A c l hl hw x hx _ (hA.kept ((Kept.refl w).alloc (.cells #[.int .u64 x.1, .int .u64 x.2] 31))))
  have HK := Lib.hid ((Kept.refl w).alloc (.cells #[.int .u64 x.1, .int .u64 x.2] 31))
  clear hA hx hw
  go_enter Tryz.func83, Tryz.ntmps83
  go_wp2_with fail
  refine HS.out.mono ?_
  rintro e W ⟨v, rfl, hS, k1⟩
  have HK1 := Lib.hid (HK.out.trans k1)
  have HSI := Lib.hid hS
  have hv : v.oneCell' = true := by
    rcases hS with ⟨rfl, _⟩ | ⟨b, m, D, rfl, _⟩ <;> rfl
  clear k1 hS HK HS
  rcases HSI.out with ⟨hv0, _⟩ | ⟨b, m, D, hv0, _⟩
  all_goals
    rw [hv0] at HSI ⊢
    clear hv0 hv
    go_wp2_with fail
    go_ret
    exact ⟨_, _, rfl, HasCells.new W _ 153 W.heap.size rfl, HSI.out.kept ((Kept.refl W).alloc _), HK1.out.alloc _⟩

set_option maxHeartbeats 800000 in
theorem voter_any (z : Nat) (v : Value) (p : Id2 → Bool) (y : Vt) (hy : WfI y.p) (w : World) (hz : HasCells w z [v]) (hS : SetI p v w) :
    Calls Tryz.prog 106 #[.agg #[.int .i64 y.f, .int .i64 y.s, .int .u64 y.p.1, .int .u64 y.p.2], .pointer (some ⟨z, 0, none⟩)] w fun e w' => e = .returned (.tuple #[.int .i64 y.f, .bool (p y.p)]) ∧ Kept w w' := by
  have HK := Lib.hid ((Kept.refl w).alloc (.cells #[.int .i64 y.f, .int .i64 y.s, .int .u64 y.p.1, .int .u64 y.p.2] 47))
  have c0 := (hz.kept HK.out).at0
  have hzl := (hz.kept HK.out).1
  have hzw := hz.1
  have HSI := Lib.hid (hS.kept HK.out)
  have HY := Lib.hid hy
  clear hz hS hy
  rcases HSI.out with ⟨rfl, hn⟩ | ⟨b, m, D, rfl, hown, hh⟩
  · have HP := Lib.hid (hn _ HY.out)
    have hnil := fun w' => look_nilS HY.out w'
    clear hn HSI
    go_enter Tryz.func106, Tryz.ntmps106
    go_wp2_with fail
    go_ret2
    exact ⟨by rw [HP.out]; rfl, HK.out.alloc _⟩
  · have HP := Lib.hid (hh _ HY.out)
    have hkey := key_of HY.out
    clear hh HSI
    go_enter Tryz.func106, Tryz.ntmps106
    go_wp2_with (at_lookup; refine wpList_lookup_own_unit _ rfl _ _ 153 rfl 31 75 Tryz.keyedID Tryz.underlying153 (Tryz.zeroValue75 _) b m D rfl hown _ _ rfl hkey ?_; rw [HP.out])
    go_ret2
    exact ⟨rfl, HK.out.alloc _⟩
end

section
open Go.ChangeShapes Go.WideShapes Go.ChangeAt Go.RowKit

theorem Ints.slice {W w : World} {l : List Int} {v : Value} (h : Ints W l v w) : ∃ A c, v = .slice A l.length c := row_slice h.1
theorem take_vote {L : List Vt} {k : Nat} (hk : k < L.length) : L.take (k + 1) = L.take k ++ [L[k]] := List.take_succ_eq_append_getElem hk
theorem who_hit {l : List Bk} {v : List Vt} {x : Id2} {k : Nat} (hk : k < v.length) (h : underC l x v[k].p = true) : whoC l (v.take (k + 1)) x = whoC l (v.take k) x ++ [v[k].f] := by rw [take_vote hk, whoC_hit _ h]
theorem who_miss {l : List Bk} {v : List Vt} {x : Id2} {k : Nat} (hk : k < v.length) (h : underC l x v[k].p = false) : whoC l (v.take (k + 1)) x = whoC l (v.take k) x := by rw [take_vote hk, whoC_miss _ h]
theorem who_le (l : List Bk) (v : List Vt) (x : Id2) (k : Nat) : (whoC l (v.take k) x).length ≤ k := by
  have := whoC_length l (v.take k) x
  rw [List.length_take] at this
  omega

set_option maxRecDepth 100000 in
set_option maxHeartbeats 1600000 in
theorem gatherW_any (V : Option Addr) (c : Nat) (v : List Vt) (hl : v.length ≤ 100000) (hw : WfVs v) (z : Nat) (s : Value) (l : List Bk) (x : Id2) (w : World) (hV : CellsAt w w.heap.size V (votesCells v)) (hz : HasCells w z [s]) (hS : SetI (fun y => underC l x y) s w) :
    Calls Tryz.prog 82 #[.slice V v.length c, .func (.func 106) #[] #[.pointer (some ⟨z, 0, none⟩)]] w
      fun e w' => ∃ A' c', e = .returned (.slice A' (whoC l v x).length c') ∧ CellsAt w' w'.heap.size A' (intCells (whoC l v x)) ∧ Kept w w' := by
  have HV := Lib.hid hV
  have HW := Lib.hid hw
  have HZ := Lib.hid hz
  have HS := Lib.hid hS
  clear hV hw hz hS
  go_enter Tryz.func82, Tryz.ntmps82
  go_wp2_with fail
  go_loopw [5, 12] (fun u i w' => ∃ k : Nat, k ≤ v.length ∧ i = .int .i64 k ∧ Ints w (whoC l (v.take k) x) u w') (fun _ i _ => v.length - (intOf i).toNat)
  case atStart => exact ⟨0, by omega, rfl, Ints.nil w⟩
  case round =>
    obtain ⟨k, hk, rfl, hI⟩ := hrel
    have HI := Lib.hid hI
    clear hI
    by_cases hlt : k < v.length
    · obtain ⟨z1, o1, rfl, hb, c0, c1, c2, c3⟩ := vote_at (HV.out.kept HI.out.2) hlt
      have HX := Lib.hid (HW.out v[k] (List.getElem_mem hlt))
      have HL := Lib.hid (who_le l v x k)
      cases hu : underC l x v[k].p with
      | true =>
        have HN := Lib.hid (who_hit hlt hu)
        have HU := Lib.hid hu
        clear hu
        generalize v[k] = y at *
        go_wp2_with fail
        refine (voter_any z s _ y HX.out.2.2 _ ((HZ.out.kept HI.out.2).alloc _) ((HS.out.kept HI.out.2).kept ((Kept.refl _).alloc _))).mono ?_
        rintro e W1 ⟨rfl, k1⟩
        rw [HU.out]
        have HI1 := Lib.hid ((HI.out.alloc (.cells #[.int .i64 y.f, .int .i64 y.s, .int .u64 y.p.1, .int .u64 y.p.2] 47)).kept k1)
        have hll : (whoC l (v.take k) x).length + 1 ≤ 1000000 := by have := HL.out; omega
        clear c0 c1 c2 c3 k1
        go_wp2_with (refine wpList_ints _ rfl _ _ rfl w (whoC l (v.take k) x) _ rfl (HI1.out.alloc _) _ _ 1 1 [y.f] rfl rfl (CellsAt.new _ _ _ _ rfl) hll ?_; intro v' w' HI'; rw [← HN.out] at HI')
        go_roundw
        case rel => exact ⟨k + 1, by omega, by go_num, HI'⟩
        case measure => simp [intOf]; omega
      | false =>
        have HN := Lib.hid (who_miss hlt hu)
        have HU := Lib.hid hu
        clear hu
        generalize v[k] = y at *
        go_wp2_with fail
        refine (voter_any z s _ y HX.out.2.2 _ ((HZ.out.kept HI.out.2).alloc _) ((HS.out.kept HI.out.2).kept ((Kept.refl _).alloc _))).mono ?_
        rintro e W1 ⟨rfl, k1⟩
        rw [HU.out]
        have HI1 := Lib.hid ((HI.out.alloc (.cells #[.int .i64 y.f, .int .i64 y.s, .int .u64 y.p.1, .int .u64 y.p.2] 47)).kept k1)
        clear c0 c1 c2 c3 k1
        go_wp2_with fail
        go_roundw
        case rel => exact ⟨k + 1, by omega, by go_num, by rw [HN.out]; exact HI1.out⟩
        case measure => simp [intOf]; omega
    · have hkl : k = v.length := by omega
      subst hkl
      have HT := Lib.hid (show v.take v.length = v from List.take_length)
      rw [HT.out] at HI
      obtain ⟨A', c', rfl⟩ := HI.out.slice
      go_wp2_with fail
      go_ret
      exact ⟨A', c', rfl, HI.out.cells rfl, HI.out.2⟩

/-! ### weights -/
theorem weights_any (A : Option Addr) (c : Nat) (k : Cf) (w : World) :
    Calls Tryz.prog 81 #[.agg #[.slice A k.ws.length c, .int .u64 k.seed, .int .i64 k.ep, .int .i64 k.nu, .int .i64 k.de]] w fun e w' => ∃ z, e = .returned (.func (.func 104) #[] #[.pointer (some ⟨z, 0, none⟩)]) ∧ HasCells w' z [.slice A k.ws.length c, .int .u64 k.seed, .int .i64 k.ep, .int .i64 k.nu, .int .i64 k.de] ∧ Kept w w' := by
  go_enter Tryz.func81, Tryz.ntmps81
  go_wp2_with fail
  go_ret
  exact ⟨w.heap.size, rfl, HasCells.new w #[.slice A k.ws.length c, .int .u64 k.seed, .int .i64 k.ep, .int .i64 k.nu, .int .i64 k.de] 25 w.heap.size rfl, (Kept.refl w).alloc _⟩
set_option maxHeartbeats 800000 in
theorem weights1_any (A : Option Addr) (c : Nat) (k : Cf) (z : Nat) (B : Option Addr) (l : List Int) (n cb : Nat) (hn : n = l.length) (w : World) (hz : HasCells w z [.slice A k.ws.length c, .int .u64 k.seed, .int .i64 k.ep, .int .i64 k.nu, .int .i64 k.de]) (hA : CellsAt w w.heap.size A (intCells k.ws)) (hl : n ≤ 1000000) (hB : CellsAt w w.heap.size B (intCells l)) :
    Calls Tryz.prog 104 #[.slice B n cb, .pointer (some ⟨z, 0, none⟩)] w fun e w' => e = .returned (.int .i64 (weightC k l)) ∧ Kept w w' := by
  obtain ⟨c0, c1, c2, c3, c4⟩ := hz.five
  have HW := Lib.hid (weight_len A c k B l n cb w hA hl hB hn)
  clear hz hA hB hl hn
  go_enter Tryz.func104, Tryz.ntmps104
  go_wp2_with fail
  refine HW.out.mono ?_
  rintro e W ⟨rfl, k1⟩
  have K1 := Lib.hid k1
  clear k1 c0 c1 c2 c3 c4
  go_wp2_with fail
  go_ret
  exact ⟨rfl, K1.out⟩

/-! ### On and All -/
set_option maxHeartbeats 1600000 in
theorem on_any (A : Option Addr) (c : Nat) (k : Cf) (L : Option Addr) (cl : Nat) (l : List Bk) (V : Option Addr) (cv : Nat) (v : List Vt) (x : Id2) (w : World)
    (hl : l.length ≤ 1000000) (hv : v.length ≤ 100000) (hwl : WfL l) (hwv : WfVs v) (hx : WfI x) (hA : CellsAt w w.heap.size A (intCells k.ws)) (hL : CellsAt w w.heap.size L (blockCells l)) (hV : CellsAt w w.heap.size V (votesCells v)) :
    Calls Tryz.prog 56 #[.agg #[.slice A k.ws.length c, .int .u64 k.seed, .int .i64 k.ep, .int .i64 k.nu, .int .i64 k.de], .slice L l.length cl, .slice V v.length cv, .agg #[.int .u64 x.1, .int .u64 x.2]] w fun e w' => e = .returned (.int .i64 (onC k l v x)) ∧ Kept w w' := by
  have HK := Lib.hid (((Kept.refl w).alloc (.cells #[.slice A k.ws.length c, .int .u64 k.seed, .int .i64 k.ep, .int .i64 k.nu, .int .i64 k.de] 25)).alloc (.cells #[.int .u64 x.1, .int .u64 x.2] 31))
  have HC := Lib.hid ((HasCells.new w #[.slice A k.ws.length c, .int .u64 k.seed, .int .i64 k.ep, .int .i64 k.nu, .int .i64 k.de] 25 w.heap.size rfl).alloc (.cells #[.int .u64 x.1, .int .u64 x.2] 31))
  have HI := Lib.hid (HasCells.new (w.alloc (.cells #[.slice A k.ws.length c, .int .u64 k.seed, .int .i64 k.ep, .int .i64 k.nu, .int .i64 k.de] 25)) #[.int .u64 x.1, .int .u64 x.2] 31 (w.heap.size + 1) (by simp))
  have HA := Lib.hid (hA.kept HK.out)
  have HL := Lib.hid (hL.kept HK.out)
  have HV := Lib.hid (hV.kept HK.out)
  have HWL := Lib.hid hwl
  have HWV := Lib.hid hwv
  have HX := Lib.hid hx
  have HLen := Lib.hid (whoC_length l v x)
  have HOn := Lib.hid (show onC k l v x = weightC k (whoC l v x) from rfl)
  clear hA hL hV hwl hwv hx
  go_enter Tryz.func56, Tryz.ntmps56
  go_wp2_with fail
  generalize (w.alloc (.cells #[.slice A k.ws.length c, .int .u64 k.seed, .int .i64 k.ep, .int .i64 k.nu, .int .i64 k.de] 25)).alloc (.cells #[.int .u64 x.1, .int .u64 x.2] 31) = W at *
  generalize w.heap.size + 1 = y at *
  generalize w.heap.size = z at *
  refine (weights_any A c k _).mono ?_
  rintro e W1 ⟨zc, rfl, hzc, k1⟩
  have HZ := Lib.hid hzc
  have HK1 := Lib.hid (HK.out.trans k1)
  have HL1 := Lib.hid (HL.out.kept k1)
  have HV1 := Lib.hid (HV.out.kept k1)
  have HA1 := Lib.hid (HA.out.kept k1)
  obtain ⟨d0, d1⟩ := (HI.out.kept k1).two
  clear hzc k1 HK HL HV HA HI HC
  go_wp2_with fail
  refine (voterFor_any L cl l hl HWL.out x HX.out W1 HL1.out).mono ?_
  rintro e W2 ⟨zs, s, rfl, hzs, hS, k2⟩
  have HZS := Lib.hid hzs
  have HS := Lib.hid hS
  have HK2 := Lib.hid (HK1.out.trans k2)
  have HV2 := Lib.hid (HV1.out.kept k2)
  have HA2 := Lib.hid (HA1.out.kept k2)
  have HZ2 := Lib.hid (HZ.out.kept k2)
  clear hzs hS k2 HK1 HL1 HV1 HA1 HZ d0 d1
  go_wp2_with fail
  refine (gatherW_any V cv v hv HWV.out zs s l x W2 HV2.out HZS.out HS.out).mono ?_
  rintro e W3 ⟨G, cg, rfl, hG, k3⟩
  have HG := Lib.hid hG
  have HK3 := Lib.hid (HK2.out.trans k3)
  have HA3 := Lib.hid (HA2.out.kept k3)
  have HZ3 := Lib.hid (HZ2.out.kept k3)
  have hgl : (whoC l v x).length ≤ 1000000 := by have := HLen.out; omega
  clear hG k3 HK2 HV2 HA2 HZ2 HZS HS HLen
  generalize whoC l v x = q at *
  have HQ := Lib.hid (fun w' (h1 : HasCells w' zc [.slice A k.ws.length c, .int .u64 k.seed, .int .i64 k.ep, .int .i64 k.nu, .int .i64 k.de]) (h2 : CellsAt w' w'.heap.size A (intCells k.ws)) (h3 : CellsAt w' w'.heap.size G (intCells q)) => weights1_any A c k zc G q q.length cg rfl w' h1 h2 hgl h3)
  generalize q.length = n at *
  go_wp2_with fail
  refine (HQ.out W3 HZ3.out HA3.out HG.out).mono ?_
  rintro e W4 ⟨rfl, k4⟩
  have HK4 := Lib.hid (HK3.out.trans k4)
  clear k4
  go_wp2_with fail
  go_ret
  exact ⟨by rw [HOn.out]; rfl, HK4.out⟩

theorem on_zero (A : Option Addr) (c : Nat) (k : Cf) (L : Option Addr) (cl : Nat) (l : List Bk) (V : Option Addr) (cv : Nat) (v : List Vt) (w : World)
    (hl : l.length ≤ 1000000) (hv : v.length ≤ 100000) (hwl : WfL l) (hwv : WfVs v) (hA : CellsAt w w.heap.size A (intCells k.ws)) (hL : CellsAt w w.heap.size L (blockCells l)) (hV : CellsAt w w.heap.size V (votesCells v)) :
    Calls Tryz.prog 56 #[.agg #[.slice A k.ws.length c, .int .u64 k.seed, .int .i64 k.ep, .int .i64 k.nu, .int .i64 k.de], .slice L l.length cl, .slice V v.length cv, .agg #[.int .u64 0, .int .u64 0]] w fun e w' => e = .returned (.int .i64 (onC k l v zid)) ∧ Kept w w' :=
  on_any A c k L cl l V cv v zid w hl hv hwl hwv WfI.zid hA hL hV
end

section
set_option linter.unusedSimpArgs false
set_option linter.unusedVariables false
open Go.ChangeShapes Go.WideShapes Go.ChangeAt Go.RowKit

/-- Block z is a box that holds id x. -/
def AtI (w : World) (z : Nat) (x : Id2) : Prop := w.heap[z]? = some (.cells #[.int .u64 x.1, .int .u64 x.2] 31 (0, 0))
theorem AtI.lt {w : World} {z : Nat} {x : Id2} (h : AtI w z x) : z < w.heap.size := (Array.getElem?_eq_some_iff.1 h).1
theorem AtI.c0 {w : World} {z : Nat} {x : Id2} (h : AtI w z x) : w.cell? ⟨z, 0, none⟩ = some (.int .u64 x.1) := by rw [cell_of_row w z 0 _ _ _ h]; rfl
theorem AtI.c1 {w : World} {z : Nat} {x : Id2} (h : AtI w z x) : w.cell? ⟨z, 1, none⟩ = some (.int .u64 x.2) := by rw [cell_of_row w z 1 _ _ _ h]; rfl
theorem AtI.fr {w : World} {z : Nat} {x : Id2} (h : AtI w z x) (j : Nat) : w.frozen? ⟨z, j, none⟩ = false := frozen_of_row w z j _ _ h
theorem AtI.new (w : World) (x : Id2) (z : Nat) (hz : z = w.heap.size) : AtI (w.alloc (.cells #[.int .u64 x.1, .int .u64 x.2] 31)) z x := by subst hz; exact heap_alloc_new w _
theorem AtI.alloc {w : World} {z : Nat} {x : Id2} (h : AtI w z x) (o : Obj) : AtI (w.alloc o) z x := by
  have := h.lt
  unfold AtI
  rw [← h]
  exact ((Kept.refl w).alloc o).heap this
theorem AtI.kept {w w' : World} {z : Nat} {x : Id2} (h : AtI w z x) (k : Kept w w') : AtI w' z x := (k.heap h.lt).trans h
theorem AtI.other {w : World} {z : Nat} {x : Id2} (h : AtI w z x) {p : Addr} (hp : p.block ≠ z) (u : Value) : AtI (w.setCell p u) z x := by
  unfold AtI
  rw [heap_setCell_other w p z u (fun e => hp e.symm)]
  exact h
theorem AtI.set2 {w : World} {z : Nat} {x y : Id2} (h : AtI w z x) : AtI ((w.setCell ⟨z, 0, none⟩ (.int .u64 y.1)).setCell ⟨z, 1, none⟩ (.int .u64 y.2)) z y := by
  have h1 := heap_setCell_same w z 0 _ _ (.int .u64 y.1) h
  have h2 := heap_setCell_same _ z 1 _ _ (.int .u64 y.2) h1
  exact h2
theorem kids_len (l : List Bk) (x : Id2) : (kidsC l x).length ≤ l.length := by
  unfold kidsC
  cases mayB l with
  | false => exact Nat.zero_le _
  | true => exact kidsB_le l x
theorem bestI_one {g : Id2 → Int} {q : List Id2} (h : 0 < q.length) : bestTo g (q.take 1) = some q[0] := by
  rcases q with _ | ⟨x, r⟩
  · simp at h
  · rfl
theorem bestI_hit {g : Id2 → Int} {q : List Id2} {m : Nat} (hm : m < q.length) {y : Id2} (h : bestTo g (q.take m) = some y) (b : beats g y q[m] = true) : bestTo g (q.take (m + 1)) = some q[m] := by
  rw [List.take_succ_eq_append_getElem hm]; exact bestTo_hit h b
theorem bestI_miss {g : Id2 → Int} {q : List Id2} {m : Nat} (hm : m < q.length) {y : Id2} (h : bestTo g (q.take m) = some y) (b : beats g y q[m] = false) : bestTo g (q.take (m + 1)) = some y := by
  rw [List.take_succ_eq_append_getElem hm]; exact bestTo_miss h b
theorem beats_more {g : Id2 → Int} {x y : Id2} (h : g x < g y) : beats g x y = true := beats_iff.2 (Or.inl h)
theorem beats_even {g : Id2 → Int} {x y : Id2} {b : Bool} (h : g y = g x) (hl : lessN x y = b) : beats g x y = b := by
  unfold beats
  rw [decide_eq_false (by omega), decide_eq_true h.symm, hl]
  simp
theorem beats_never {g : Id2 → Int} {x y : Id2} (h1 : ¬ g x < g y) (h2 : ¬ g y = g x) : beats g x y = false := beats_no.2 (by omega)
end

section
set_option linter.unusedSimpArgs false
set_option linter.unusedVariables false
open Go.ChangeShapes Go.WideShapes Go.ChangeAt Go.RowKit

/-- A slice's own words, as what a map holds: no two slices have the same. -/
def sliceD : Value → Option (DataW Unit × List MemPlace)
  | .slice none 0 0 => some (.nil, [])
  | .slice (some ⟨g, 0, none⟩) n c => some (.slice [.lit (.int .i64 g), .lit (.int .i64 n), .lit (.int .i64 c)] [], [])
  | _ => none
theorem sliceD_nil : sliceD (.slice none 0 0) = some (.nil, []) := rfl
theorem sliceD_some (g n c : Nat) : sliceD (.slice (some ⟨g, 0, none⟩) n c) = some (.slice [.lit (.int .i64 g), .lit (.int .i64 n), .lit (.int .i64 c)] [], []) := rfl
theorem sliceD_own {w : World} {B : Nat} {e : TypeId} {s n : Nat} {v : Value} {xs : List Value} (h : w.ownsRow B e s v n xs) : (v = .slice none 0 0) ∨ ∃ g c, v = .slice (some ⟨g, 0, none⟩) n c := by
  rcases h.2 with ⟨rfl, _⟩ | ⟨g, cap, cur, rfl, _⟩
  · exact Or.inl rfl
  · exact Or.inr ⟨g, cap, rfl⟩
theorem sliceD_inj {u : Value} {d : DataW Unit} {ps : List MemPlace} (hu : sliceD u = some (d, ps)) : ∀ {v : Value}, (v = .slice none 0 0 ∨ ∃ g n c, v = .slice (some ⟨g, 0, none⟩) n c) → sliceD v = some (d, []) → u = v := by
  intro v hv k
  unfold sliceD at hu
  split at hu
  · cases hu
    rcases hv with rfl | ⟨g, n, c, rfl⟩
    · rfl
    · rw [sliceD_some] at k; cases k
  · cases hu
    rcases hv with rfl | ⟨g, n, c, rfl⟩
    · rw [sliceD_nil] at k; cases k
    · rw [sliceD_some] at k
      simp only [Option.some.injEq, Prod.mk.injEq, DataW.slice.injEq, List.cons.injEq, DataW.lit.injEq, Lit.int.injEq, true_and, and_true] at k
      obtain ⟨h1, h2, h3⟩ := k
      have e1 : g = _ := Int.ofNat.inj h1
      have e2 : n = _ := Int.ofNat.inj h2
      have e3 : c = _ := Int.ofNat.inj h3
      rw [e1, e2, e3]
  · cases hu

/-- Block b is such a map; the rows lie from block B on. -/
def Groups (B : Nat) (f : Id2 → List Id2) (b m : Nat) (w : World) : Prop :=
  ∃ (D : DataW Unit) (V : Id2 → Value), w.ownsMap Tryz.prog 31 sliceD b m D ∧ b < B ∧ B ≤ w.heap.size ∧
    (∀ x, WfI x → sliceD (V x) = some (D.atKey (keyI x) .nil, [])) ∧
    (∀ x, WfI x → w.ownsRow B 31 2 (V x) (f x).length (idsCells (f x))) ∧
    (∀ x y, WfI x → WfI y → x ≠ y → (V x).ownBlock = none ∨ (V x).ownBlock ≠ (V y).ownBlock)
theorem Groups.made (w : World) : Groups (w.heap.size + 1) (fun _ => []) w.heap.size 0 (w.alloc (.map #[] 0)) :=
  ⟨.map [], fun _ => .slice none 0 0, World.ownsMap_made w _ _ _, by omega, by simp, fun _ _ => rfl, fun _ _ => World.ownsRow_nil _ _ _ _, fun _ _ _ _ _ => Or.inl rfl⟩
theorem idrow_kept {w w' : World} {B : Nat} {e : TypeId} {s n : Nat} {v : Value} {xs : List Value} (h : w.ownsRow B e s v n xs) (k : Kept w w') : w'.ownsRow B e s v n xs := by
  refine ⟨h.1, ?_⟩
  rcases h.2 with h2 | ⟨g, cap, cur, hv, hg, hh, r⟩
  · exact Or.inl h2
  · exact Or.inr ⟨g, cap, cur, hv, hg, by rw [k.heap (h.lt g (by rw [hv]; rfl)).2]; exact hh, r⟩
theorem Groups.kept {B : Nat} {f : Id2 → List Id2} {b m : Nat} {w w' : World} (h : Groups B f b m w) (k : Kept w w') : Groups B f b m w' := by
  obtain ⟨D, V, ⟨es, clock, hb, r⟩, h0, hB, h1, h2, h3⟩ := h
  exact ⟨D, V, ⟨es, clock, (k.heap (Array.getElem?_eq_some_iff.1 hb).1).trans hb, r⟩, h0, Nat.le_trans hB k.size_le, h1, fun x hx => idrow_kept (h2 x hx) k, h3⟩
theorem Groups.congr {B : Nat} {f g : Id2 → List Id2} {b m : Nat} {w : World} (h : Groups B f b m w) (k : ∀ x, WfI x → g x = f x) : Groups B g b m w := by
  obtain ⟨D, V, h0, h1, hB, h2, h3, h4⟩ := h
  exact ⟨D, V, h0, h1, hB, h2, fun x hx => by rw [k x hx]; exact h3 x hx, h4⟩

/-- v is the list at x. -/
def GroupAt (B : Nat) (f : Id2 → List Id2) (b m : Nat) (x : Id2) (v : Value) (w : World) : Prop :=
  ∃ (D : DataW Unit) (V : Id2 → Value), w.ownsMap Tryz.prog 31 sliceD b m D ∧ b < B ∧ B ≤ w.heap.size ∧ v = V x ∧
    (∀ x, WfI x → sliceD (V x) = some (D.atKey (keyI x) .nil, [])) ∧
    (∀ x, WfI x → w.ownsRow B 31 2 (V x) (f x).length (idsCells (f x))) ∧
    (∀ x y, WfI x → WfI y → x ≠ y → (V x).ownBlock = none ∨ (V x).ownBlock ≠ (V y).ownBlock)
theorem GroupAt.kept {B : Nat} {f : Id2 → List Id2} {b m : Nat} {x : Id2} {v : Value} {w w' : World} (h : GroupAt B f b m x v w) (k : Kept w w') : GroupAt B f b m x v w' := by
  obtain ⟨D, V, ⟨es, clock, hb, r⟩, h0, hB, e, h1, h2, h3⟩ := h
  exact ⟨D, V, ⟨es, clock, (k.heap (Array.getElem?_eq_some_iff.1 hb).1).trans hb, r⟩, h0, Nat.le_trans hB k.size_le, e, h1, fun x hx => idrow_kept (h2 x hx) k, h3⟩
theorem GroupAt.row {B : Nat} {f : Id2 → List Id2} {b m : Nat} {x : Id2} {v : Value} {w : World} (h : GroupAt B f b m x v w) (hx : WfI x) : w.ownsRow B 31 2 v (f x).length (idsCells (f x)) := by
  obtain ⟨D, V, _, _, _, rfl, _, h2, _⟩ := h
  exact h2 x hx
theorem GroupAt.slice {B : Nat} {f : Id2 → List Id2} {b m : Nat} {x : Id2} {v : Value} {w : World} (h : GroupAt B f b m x v w) (hx : WfI x) : ∃ A c, v = .slice A (f x).length c := by
  rcases (h.row hx).2 with ⟨hv, h0⟩ | ⟨g, cap, cur, hv, _⟩
  · rw [h0]; exact ⟨_, _, hv⟩
  · exact ⟨_, _, hv⟩
theorem GroupAt.cells {B : Nat} {f : Id2 → List Id2} {b m : Nat} {x : Id2} {A : Option Addr} {c : Nat} {w : World} (h : GroupAt B f b m x (.slice A (f x).length c) w) (hx : WfI x) : CellsAt w w.heap.size A (idsCells (f x)) := CellsAt.of_own (h.row hx)
theorem GroupAt.map {B : Nat} {f : Id2 → List Id2} {b m : Nat} {x : Id2} {v : Value} {w : World} (h : GroupAt B f b m x v w) : Groups B f b m w := by
  obtain ⟨D, V, h0, h1, hB, _, r⟩ := h
  exact ⟨D, V, h0, h1, hB, r⟩

/-- 'm[x]'. -/
theorem group_look {B : Nat} {f : Id2 → List Id2} {b m : Nat} {w : World} (h : Groups B f b m w) {x : Id2} (hx : WfI x) :
    ∃ v, (Instr.lookup 99 (.map (some b)) (.agg #[.int .u64 x.1, .int .u64 x.2]) false).run Tryz.prog w = .ok v w ∧ GroupAt B f b m x v w := by
  obtain ⟨D, V, h0, h1, hB, h2, h3, h4⟩ := h
  obtain ⟨v, ps, hrun, hv⟩ := h0.lookup Tryz.keyedID Tryz.underlying99 (Tryz.zeroValue49 w) sliceD_nil (key_of hx)
  refine ⟨v, hrun, D, V, h0, h1, hB, ?_, h2, h3, h4⟩
  refine sliceD_inj hv ?_ (h2 x hx)
  rcases sliceD_own (h3 x hx) with e | ⟨g, c, e⟩
  · exact Or.inl e
  · exact Or.inr ⟨g, _, c, e⟩
/-- A nil map. -/
theorem group_nil {x : Id2} (hx : WfI x) (w : World) : (Instr.lookup 99 (.map none) (.agg #[.int .u64 x.1, .int .u64 x.2]) false).run Tryz.prog w = .ok (.slice none 0 0) w := by
  have h1 : (Instr.checkKey true 10000 31 (.agg #[.int .u64 x.1, .int .u64 x.2])).run Tryz.prog w = .ok () w := Tryz.keyedID.check w true (key_of hx)
  have h2 : (Instr.findKey 31 (.agg #[.int .u64 x.1, .int .u64 x.2]) []).run Tryz.prog w = .ok none w := by
    rcases Tryz.keyedID.find w (key_of hx) [] (fun _ h => by cases h) with ⟨h, _⟩ | ⟨j, e, _, h, _⟩
    · exact h
    · simp at h
  have h3 : (zeroValue 49).run Tryz.prog w = .ok (.slice none 0 0) w := Tryz.zeroValue49 w
  simp [Instr.lookup, run_underlying Tryz.underlying99, h1, h2, h3, Result.andThen]

/-! ### 'm[x] = append(m[x], n)' -/
/-- The list of x with n behind it. -/
def growF (f : Id2 → List Id2) (x n : Id2) : Id2 → List Id2 := fun y => if y = x then f x ++ [n] else f y
/-- What 'entryStore' will do, as long as the map's block stays as it is. -/
def Stores (b m : Nat) (x : Id2) (D : DataW Unit) (st : Nat) (es : Array MapEntry) (clock : Nat) : Prop :=
  ∀ (w2 : World) (val : Value) (d : DataW Unit), sliceD val = some (d, []) → w2.heap[b]? = some (.map es clock) →
    ∃ w3, (Instr.entryStore 99 (.map (some b)) (goInt st) val).run Tryz.prog w2 = .ok () w3 ∧ w3.ownsMap Tryz.prog 31 sliceD b (m + 1) (D.put (keyI x) d) ∧ w2.grownBy w3 (some b)
/-- The entry of x is there; v is the list at x. -/
def Pend (B : Nat) (f : Id2 → List Id2) (b m : Nat) (x : Id2) (v : Value) (st : Nat) (w : World) : Prop :=
  b < B ∧ B ≤ w.heap.size ∧ ∃ (D : DataW Unit) (V : Id2 → Value) (es : Array MapEntry) (clock : Nat), w.heap[b]? = some (.map es clock) ∧ Stores b m x D st es clock ∧ Maps.IsMap D ∧ v = V x ∧
    (∀ y, WfI y → sliceD (V y) = some (D.atKey (keyI y) .nil, [])) ∧
    (∀ y, WfI y → w.ownsRow B 31 2 (V y) (f y).length (idsCells (f y))) ∧
    (∀ y z, WfI y → WfI z → y ≠ z → (V y).ownBlock = none ∨ (V y).ownBlock ≠ (V z).ownBlock)
theorem Pend.slice {B : Nat} {f : Id2 → List Id2} {b m : Nat} {x : Id2} {v : Value} {st : Nat} {w : World} (h : Pend B f b m x v st w) (hx : WfI x) : ∃ A c, v = .slice A (f x).length c := by
  obtain ⟨_, _, D, V, es, clock, _, _, _, rfl, _, h2, _⟩ := h
  rcases (h2 x hx).2 with ⟨hv, h0⟩ | ⟨g, cap, cur, hv, _⟩
  · rw [h0]; exact ⟨_, _, hv⟩
  · exact ⟨_, _, hv⟩
theorem entry_val {D : DataW Unit} {w : World} {b m : Nat} (h : w.ownsMap Tryz.prog 31 sliceD b m D) {x : Id2} (hx : WfI x) (hm : m < maxLen) :
    ∃ (v : Value) (ps : List MemPlace) (st : Nat) (es : Array MapEntry) (clock : Nat) (w1 : World), (Instr.mapEntry 99 (.map (some b)) (.agg #[.int .u64 x.1, .int .u64 x.2])).run Tryz.prog w = .ok (.tuple #[v, goInt st]) w1 ∧
      sliceD v = some (D.atKey (keyI x) .nil, ps) ∧ w1.heap[b]? = some (.map es clock) ∧ w.grownBy w1 (some b) ∧ Stores b m x D st es clock := by
  have h0 := h
  obtain ⟨es, clock, hb, F, hs, hD⟩ := h
  obtain ⟨v, st, es1, clock1, hrun, hwho, hstore⟩ := WideElems.entry_then_store (R := sliceD) Tryz.arrID.law Tryz.underlying99 (fun u => Tryz.zeroValue49 u) hb F (key_of hx)
  have hat := WideShapes.atKey_sorted (es.toList.map (WideElems.rg Tryz.prog 31 sliceD)) (Maps.fit_rising Tryz.keyedID F) (keyI x) (Tryz.keyedID.key (key_of hx))
  have hval : ∃ ps, sliceD v = some (D.atKey (keyI x) .nil, ps) := by
    rw [hD]
    rcases hwho with ⟨e0, he0, hk, rfl⟩ | ⟨hno, rfl⟩
    · obtain ⟨y0, hy0⟩ := F.reads e0 he0
      obtain ⟨zv, hzv, hd⟩ := WideElems.rd_val hy0
      have m0 := WideElems.rd_key hy0
      rw [hk, key_of hx] at m0
      refine ⟨zv.2, ?_⟩
      rw [hat.2 (WideElems.rg Tryz.prog 31 sliceD e0) (List.mem_map.2 ⟨e0, he0, rfl⟩) (by rw [WideElems.rg_of hy0]; exact (Option.some.inj m0).symm), WideElems.rg_of hy0, hzv, hd]
    · refine ⟨[], ?_⟩
      rw [hat.1 (fun p hp e1 => ?_)]
      · rfl
      · obtain ⟨e0, he0, rfl⟩ := List.mem_map.1 hp
        obtain ⟨y0, hy0⟩ := F.reads e0 he0
        have m1 := WideElems.rd_key hy0
        rw [WideElems.rg_of hy0] at e1
        rw [e1] at m1
        exact hno e0 he0 (Tryz.keyedID.inj m1 (key_of hx))
  obtain ⟨ps, hps⟩ := hval
  refine ⟨v, ps, st, es1, clock1, _, hrun, hps, ChangeMaps.heap_setBlock_same hb _, ⟨rfl, rfl, rfl, by simp [ChangeMaps.setBlock], fun i _ hi => ChangeMaps.heap_setBlock_other hb _ (fun e1 => hi (by rw [e1]))⟩, ?_⟩
  intro w2 val d hd hw2
  obtain ⟨es', clock', hr2, hup⟩ := hstore w2 val hw2
  obtain ⟨w', hup', hown, _⟩ := h0.update Tryz.keyedID Tryz.underlying99 hm (key_of hx) hd
  rw [hup] at hup'
  injection hup' with _ hup'
  subst hup'
  obtain ⟨es2, clock2, hb2, F2, hs2, hD2⟩ := hown
  rw [ChangeMaps.heap_setBlock_same hb] at hb2
  injection hb2 with hb2
  injection hb2 with hb3 hb4
  subst hb3 hb4
  exact ⟨_, hr2, ⟨es', clock', ChangeMaps.heap_setBlock_same hw2 _, F2, hs2, hD2⟩, ⟨rfl, rfl, rfl, by simp [ChangeMaps.setBlock], fun i _ hi => ChangeMaps.heap_setBlock_other hw2 _ (fun e1 => hi (by rw [e1]))⟩⟩
theorem group_entry {B : Nat} {f : Id2 → List Id2} {b m : Nat} {w : World} (h : Groups B f b m w) {x : Id2} (hx : WfI x) (hm : m < maxLen) :
    ∃ (v : Value) (st : Nat) (w1 : World), (Instr.mapEntry 99 (.map (some b)) (.agg #[.int .u64 x.1, .int .u64 x.2])).run Tryz.prog w = .ok (.tuple #[v, goInt st]) w1 ∧ Pend B f b m x v st w1 ∧ w.grownBy w1 (some b) := by
  obtain ⟨D, V, h0, h1, hB, h2, h3, h4⟩ := h
  obtain ⟨v, ps, st, es, clock, w1, hrun, hv, hb1, hg, hst⟩ := entry_val h0 hx hm
  refine ⟨v, st, w1, hrun, ⟨h1, Nat.le_trans hB hg.size, D, V, es, clock, hb1, hst, h0.isMap, ?_, h2, fun y hy => (h3 y hy).kept hg ?_, h4⟩, hg⟩
  · refine sliceD_inj hv ?_ (h2 x hx)
    rcases sliceD_own (h3 x hx) with e | ⟨g, c, e⟩
    · exact Or.inl e
    · exact Or.inr ⟨g, _, c, e⟩
  · cases q : (V y).ownBlock with
    | none => exact Or.inl rfl
    | some j =>
      have := ((h3 y hy).lt j q).1
      refine Or.inr fun e => ?_
      injection e with e
      omega
/-- Behind the append: the longer list. -/
def Grew (B : Nat) (f : Id2 → List Id2) (b m : Nat) (x n : Id2) (st : Nat) (v' : Value) (w : World) : Prop :=
  b < B ∧ B ≤ w.heap.size ∧ w.ownsRow B 31 2 v' (f x ++ [n]).length (idsCells (f x ++ [n])) ∧ ∃ (D : DataW Unit) (V : Id2 → Value) (es : Array MapEntry) (clock : Nat), w.heap[b]? = some (.map es clock) ∧ Stores b m x D st es clock ∧ Maps.IsMap D ∧
    (∀ y, WfI y → sliceD (V y) = some (D.atKey (keyI y) .nil, [])) ∧
    (∀ y, WfI y → y ≠ x → w.ownsRow B 31 2 (V y) (f y).length (idsCells (f y)) ∧ ((V y).ownBlock = none ∨ (V y).ownBlock ≠ v'.ownBlock)) ∧
    (∀ y z, WfI y → WfI z → y ≠ z → (V y).ownBlock = none ∨ (V y).ownBlock ≠ (V z).ownBlock)
theorem group_store {B : Nat} {f : Id2 → List Id2} {b m : Nat} {x n : Id2} {st : Nat} {v' : Value} {w : World} (h : Grew B f b m x n st v' w) (hx : WfI x) :
    ∃ w', (Instr.entryStore 99 (.map (some b)) (goInt st) v').run Tryz.prog w = .ok () w' ∧ Groups B (growF f x n) b (m + 1) w' ∧ w.grownBy w' (some b) := by
  obtain ⟨h0, hB, hrow, D, V, es, clock, hb, hst, hD, h1, h2, h3⟩ := h
  obtain ⟨d, hd⟩ : ∃ d, sliceD v' = some (d, []) := by
    rcases sliceD_own hrow with rfl | ⟨g, c, rfl⟩
    · exact ⟨_, rfl⟩
    · exact ⟨_, rfl⟩
  obtain ⟨w', hrun, hmap', hgr⟩ := hst w v' d hd hb
  have hown : ∀ {u : Value} {l : List Id2}, w.ownsRow B 31 2 u l.length (idsCells l) → w'.ownsRow B 31 2 u l.length (idsCells l) := fun {u l} h => h.kept hgr (by
    cases q : u.ownBlock with
    | none => exact Or.inl rfl
    | some j =>
      have := (h.lt j q).1
      refine Or.inr fun e => ?_
      injection e with e
      omega)
  refine ⟨w', hrun, ⟨_, fun y => if y = x then v' else V y, hmap', h0, Nat.le_trans hB hgr.size, fun y hy => ?_, fun y hy => ?_, fun y z hy hz hne => ?_⟩, hgr⟩
  · dsimp only
    by_cases e : y = x
    · subst e
      rw [if_pos rfl, Maps.atKey_put_same hD (Tryz.keyedID.key (key_of hx))]
      exact hd
    · rw [if_neg e, Maps.atKey_put_other (fun q => e (keyI_inj hy hx q))]
      exact h1 y hy
  · unfold growF
    dsimp only
    by_cases e : y = x
    · subst e
      rw [if_pos rfl, if_pos rfl]
      exact hown hrow
    · rw [if_neg e, if_neg e]
      exact hown (h2 y hy e).1
  · dsimp only
    by_cases e : y = x
    · subst e
      rw [if_pos rfl, if_neg (fun q => hne q.symm)]
      rcases (h2 z hz (fun q => hne q.symm)).2 with q | q
      · rw [q]
        cases v'.ownBlock with
        | none => exact Or.inl rfl
        | some j => exact Or.inr (by simp)
      · cases r : v'.ownBlock with
        | none => exact Or.inl rfl
        | some j => exact Or.inr (by rw [← r]; exact fun e => q e.symm)
    · rw [if_neg e]
      by_cases e2 : z = x
      · subst e2
        rw [if_pos rfl]
        exact (h2 y hy e).2
      · rw [if_neg e2]
        exact h3 y z hy hz hne

/-! ### .. at the steps of a region -/
section
variable {ops : Array Oper} {o : Oper} {a : Act} {K : Act → World → Prop} {Q : Exit → Act → World → Prop} {E : Prop} (w : World)
theorem step_entry (hgd : Region.wanted o (yielded ops a.tmps) = true) (m x : Operand) (ho : o.op = .mapEntry 99 m x) (B : Nat) (f : Id2 → List Id2) (b k : Nat) (hm : a.eval m = .map (some b)) (HG : Groups B f b k w) (hk : k < maxLen) (i : Id2) (hx : a.eval x = .agg #[.int .u64 i.1, .int .u64 i.2]) (hi : WfI i)
    (h : ∀ A c st w', Pend B f b k i (.slice A (f i).length c) st w' → w.grownBy w' (some b) → K (a.put o.dst (.tuple #[.slice A (f i).length c, .int .i64 (st : Nat)])) w') :
    if Region.wanted o (yielded ops a.tmps) = true then Oper.wp Tryz.prog o a w K Q else E := by
  rw [if_pos hgd]
  obtain ⟨v, st, w1, hrun, hp, hg⟩ := group_entry HG hi hk
  obtain ⟨A, c, rfl⟩ := hp.slice hi
  unfold Oper.wp
  simp only [execOp, ho, hm, hx, hrun, Sem.run_bind, Result.andThen]
  exact h A c st w1 hp hg
theorem step_grew (hgd : Region.wanted o (yielded ops a.tmps) = true) (s y : Operand)
    (ho : o.op = .call { callee := .builtin .append, args := #[s, y], argTypes := #[49, 49] })
    (B : Nat) (f : Id2 → List Id2) (b m : Nat) (x : Id2) (hx : WfI x) (v : Value) (hs : a.eval s = v) (st : Nat) (HP : Pend B f b m x v st w) (B2 : Nat) (A : Option Addr) (c : Nat) (n : Id2) (hy : a.eval y = .slice A 1 c)
    (hr : CellsAt w B2 A (idsCells [n])) (hlen : (f x).length + 1 ≤ 10000000)
    (h : ∀ A' c' w', Grew B f b m x n st (.slice A' ((f x).length + 1) c') w' → w.grownBy w' v.ownBlock → (∀ g, v.ownBlock = some g → B ≤ g) → K (a.put o.dst (.slice A' ((f x).length + 1) c')) w') :
    if Region.wanted o (yielded ops a.tmps) = true then Oper.wp Tryz.prog o a w K Q else E := by
  rw [if_pos hgd]
  obtain ⟨i0, hi0, hz0, hz1, hz2⟩ := info_of Tryz.infoID
  obtain ⟨hbB, hB, D, V, es, clock, hb, hst, hD, rfl, h1, h2, h3⟩ := HP
  have hrow := h2 x hx
  refine wp_app w s y _ ho B 31 i0 _ 2 16 Tryz.underlying49 hi0 hz0 hz1 hz2 rfl (by omega) (V x) (f x).length (idsCells (f x)) hs hrow B2 A 1 c (idsCells [n]) hy (by rw [idsCells_length]; rfl) hr (idsCells_one _)
    (by unfold maxLen; omega) (by omega) hB ?_
  intro v' w' own g hat
  have hle := g.size
  rw [idsCells_append] at own
  have own' : w'.ownsRow B 31 2 v' (f x ++ [n]).length (idsCells (f x ++ [n])) := by rw [List.length_append]; exact own
  obtain ⟨A', c', rfl⟩ : ∃ A' c', v' = .slice A' ((f x).length + 1) c' := by
    rcases own.2 with ⟨_, h0⟩ | ⟨g, cap, cur, hv, _⟩
    · omega
    · exact ⟨_, _, hv⟩
  refine h A' c' w' ⟨hbB, Nat.le_trans hB hle, own', D, V, es, clock, (g.block b (Array.getElem?_eq_some_iff.1 hb).1 fun e => ?_).trans hb, hst, hD, h1, fun z hz hne => ?_, h3⟩ g (fun j hj => (hrow.lt j hj).1)
  · have := (hrow.lt b e.symm).1
    omega
  · refine ⟨(h2 z hz).kept g (h3 z x hz hx hne), ?_⟩
    rcases hat with e | e
    · rw [e]; exact h3 z x hz hx hne
    · rw [e]
      cases q : (V z).ownBlock with
      | none => exact Or.inl rfl
      | some j =>
        have := ((h2 z hz).lt j q).2
        refine Or.inr fun k => ?_
        injection k with k
        omega
theorem step_store (hgd : Region.wanted o (yielded ops a.tmps) = true) (m s x : Operand) (ho : o.op = .entryStore 99 m s x) (B : Nat) (f : Id2 → List Id2) (b k : Nat) (hm : a.eval m = .map (some b)) (i n : Id2) (hi : WfI i) (st : Nat) (hs : a.eval s = .int .i64 (st : Nat)) (v' : Value) (hx : a.eval x = v') (HG : Grew B f b k i n st v' w)
    (h : ∀ w', Groups B (growF f i n) b (k + 1) w' → w.grownBy w' (some b) → K (a.put o.dst undef) w') :
    if Region.wanted o (yielded ops a.tmps) = true then Oper.wp Tryz.prog o a w K Q else E := by
  rw [if_pos hgd]
  obtain ⟨w', hrun, hg, hgr⟩ := group_store HG hi
  unfold Oper.wp
  have hs' : a.eval s = goInt st := hs
  simp only [execOp, ho, hm, hx, hs', hrun, Sem.run_bind, Sem.run_pure, Result.andThen]
  exact h w' hg hgr
end
end

section
set_option linter.unusedSimpArgs false
set_option linter.unusedVariables false
open Go.ChangeShapes Go.WideShapes Go.ChangeAt Go.RowKit

/-- More, or as much and a greater name. -/
def betterB (n m : Int) (x y : Id2) : Bool := decide (m < n) || (decide (n = m) && lessN y x)
/-- What is gathered of the best one: how much is on it, and its name; noughts at the start. -/
def candOf (g : Id2 → Int) : Option Id2 → Int × Id2
  | none => (0, zid)
  | some y => (g y, y)
theorem cand_id (g : Id2 → Int) (o : Option Id2) : (candOf g o).2 = bestId o := by cases o <;> rfl
theorem zid_less {x : Id2} (h : x ≠ zid) : lessN zid x = true := by
  obtain ⟨a, b⟩ := x
  refine decide_eq_true ?_
  by_cases h0 : a = 0
  · subst h0
    refine Or.inr ⟨rfl, ?_⟩
    rcases Nat.eq_zero_or_pos b with e | e
    · subst e; exact absurd rfl h
    · exact e
  · exact Or.inl (Nat.pos_of_ne_zero h0)
theorem better_first {g : Id2 → Int} {x : Id2} (hx : x ≠ zid) (h0 : 0 ≤ g x) : betterB (g x) 0 x zid = true := by
  unfold betterB
  rw [zid_less hx]
  by_cases e : 0 < g x
  · rw [decide_eq_true e]; rfl
  · rw [decide_eq_true (show g x = 0 by omega)]; simp
theorem better_beats (g : Id2 → Int) (x y : Id2) : betterB (g x) (g y) x y = beats g y x := by
  unfold betterB beats
  rw [show decide (g x = g y) = decide (g y = g x) from by rw [decide_eq_decide]; exact ⟨fun e => e.symm, fun e => e.symm⟩]
theorem cand_hit {g : Id2 → Int} {q : List Id2} {x : Id2} (h : betterB (g x) (candOf g (bestTo g q)).1 x (candOf g (bestTo g q)).2 = true) : candOf g (bestTo g (q ++ [x])) = (g x, x) := by
  cases e : bestTo g q with
  | none => rw [bestTo_first e]; rfl
  | some y =>
    rw [e] at h
    have h' : beats g y x = true := (better_beats g x y).symm.trans h
    rw [bestTo_hit e h']; rfl
theorem cand_miss {g : Id2 → Int} {q : List Id2} {x : Id2} (hx : x ≠ zid) (h0 : 0 ≤ g x) (h : betterB (g x) (candOf g (bestTo g q)).1 x (candOf g (bestTo g q)).2 = false) : candOf g (bestTo g (q ++ [x])) = candOf g (bestTo g q) := by
  cases e : bestTo g q with
  | none =>
    rw [e] at h
    have h' : betterB (g x) 0 x zid = false := h
    rw [better_first hx h0] at h'; cases h'
  | some y =>
    rw [e] at h
    have h' : beats g y x = false := (better_beats g x y).symm.trans h
    rw [bestTo_miss e h']
theorem cand_hit_take {g : Id2 → Int} {q : List Id2} {k : Nat} (hk : k < q.length) (h : betterB (g q[k]) (candOf g (bestTo g (q.take k))).1 q[k] (candOf g (bestTo g (q.take k))).2 = true) : candOf g (bestTo g (q.take (k + 1))) = (g q[k], q[k]) := by
  rw [List.take_succ_eq_append_getElem hk]; exact cand_hit h
theorem cand_miss_take {g : Id2 → Int} {q : List Id2} {k : Nat} (hk : k < q.length) (hx : q[k] ≠ zid) (h0 : 0 ≤ g q[k]) (h : betterB (g q[k]) (candOf g (bestTo g (q.take k))).1 q[k] (candOf g (bestTo g (q.take k))).2 = false) : candOf g (bestTo g (q.take (k + 1))) = candOf g (bestTo g (q.take k)) := by
  rw [List.take_succ_eq_append_getElem hk]; exact cand_miss hx h0 h
/-- Names that are none of the beginning's, each made of words. -/
def Named (q : List Id2) : Prop := ∀ x ∈ q, WfI x ∧ x ≠ zid
theorem kids_named (l : List Bk) (x : Id2) : Named (kidsC l x) := fun y hy => by
  refine ⟨kids_wf l x y hy, fun e => ?_⟩
  cases m : mayB l with
  | false => rw [kidsC_no x m] at hy; cases hy
  | true =>
    rw [kidsC_yes x m] at hy
    obtain ⟨i, hi, e2, _⟩ := mem_kids.1 hy
    have h1 := may_pos m hi
    rw [e2, e, may_zero m] at h1
    cases h1
theorem kidsC_le (l : List Bk) (x : Id2) : (kidsC l x).length ≤ l.length := by
  unfold kidsC
  cases mayB l with
  | false => exact Nat.zero_le _
  | true => exact kidsB_le l x
theorem cand_bounds (k : Cf) (l : List Bk) (v : List Vt) (q : List Id2) : 0 ≤ (candOf (onC k l v) (bestTo (onC k l v) q)).1 ∧ (candOf (onC k l v) (bestTo (onC k l v) q)).1 ≤ 13194139533312 := by
  cases bestTo (onC k l v) q with
  | none => exact ⟨Int.le_refl 0, (by decide : (0 : Int) ≤ 13194139533312)⟩
  | some y => exact on_bounds k l v y
theorem cand_wf {g : Id2 → Int} {q : List Id2} (h : Named q) : WfI (candOf g (bestTo g q)).2 := by
  cases e : bestTo g q with
  | none => exact WfI.zid
  | some y => exact (h y (bestTo_mem e)).1
theorem cand_some {g : Id2 → Int} {q : List Id2} (h : Named q) (h0 : q ≠ []) : (candOf g (bestTo g q)).2 ≠ zid := by
  cases e : bestTo g q with
  | none => exact absurd (bestTo_none e) h0
  | some y => exact (h y (bestTo_mem e)).2
theorem Named.take {q : List Id2} (h : Named q) (k : Nat) : Named (q.take k) := fun x hx => h x (List.mem_of_mem_take hx)

/-! ### The kids of all ids, gathered in one way -/
theorem grow_hit {l : List Bk} {k : Nat} (hk : k < l.length) (y : Id2) : growF (kidsB (l.take k)) l[k].p (nameB l[k]) y = kidsB (l.take (k + 1)) y := by
  unfold growF
  by_cases e : y = l[k].p
  · rw [if_pos e, e, kids_hit hk rfl]
  · rw [if_neg e, kids_miss hk (fun q => e q.symm)]

/-! ### The head -/
theorem best_step {k : Cf} {l : List Bk} {v : List Vt} {x : Id2} {q : List Id2} (hq : kidsC l x = q) (h0 : q ≠ []) : headX k l v x = headX k l v (candOf (onC k l v) (bestTo (onC k l v) q)).2 := by
  subst hq
  cases e : bestTo (onC k l v) (kidsC l x) with
  | none => exact absurd (bestTo_none e) h0
  | some y => exact headX_step e
theorem best_one {k : Cf} {l : List Bk} {v : List Vt} {x y : Id2} (hq : kidsC l x = [y]) : headX k l v x = headX k l v y := by
  refine headX_step ?_
  unfold bestC
  rw [hq]
  rfl
theorem best_leaf {k : Cf} {l : List Bk} {v : List Vt} {x : Id2} (hq : kidsC l x = []) : headX k l v x = x := by
  refine headX_stop ?_
  unfold bestC
  rw [hq]
  rfl
theorem cand_rank {k : Cf} {l : List Bk} {v : List Vt} {x : Id2} (h0 : kidsC l x ≠ []) : rank l x < rank l (candOf (onC k l v) (bestTo (onC k l v) (kidsC l x))).2 := by
  cases e : bestTo (onC k l v) (kidsC l x) with
  | none => exact absurd (bestTo_none e) h0
  | some y => exact (kid_rank (bestTo_mem e)).1
theorem one_rank {l : List Bk} {x y : Id2} (hq : kidsC l x = [y]) : rank l x < rank l y := (kid_rank (by rw [hq]; simp)).1
end

section
open Go.ChangeShapes Go.WideShapes Go.ChangeAt Go.RowKit

/-! ### Less -/
theorem lessN_yes {a b : Nat × Nat} (h : a.1 < b.1 ∨ (a.1 = b.1 ∧ a.2 < b.2)) : lessN a b = true := decide_eq_true h
theorem lessN_no {a b : Nat × Nat} (h : ¬ (a.1 < b.1 ∨ (a.1 = b.1 ∧ a.2 < b.2))) : lessN a b = false := decide_eq_false h
set_option maxHeartbeats 400000 in
theorem less_any (a b : Nat × Nat) (w : World) :
    Calls Tryz.prog 110 #[.agg #[.int .u64 a.1, .int .u64 a.2], .agg #[.int .u64 b.1, .int .u64 b.2]] w fun e w' => e = .returned (.bool (lessN a b)) ∧ Kept w w' := by
  obtain ⟨a0, a1⟩ := a
  obtain ⟨b0, b1⟩ := b
  by_cases h0 : a0 = b0
  · subst h0
    by_cases h1 : a1 < b1
    · have H := Lib.hid (lessN_yes (a := (a0, a1)) (b := (a0, b1)) (Or.inr ⟨rfl, h1⟩))
      go_enter Tryz.func110, Tryz.ntmps110
      go_wp2
      go_ret
      exact ⟨by rw [H.out]; rfl, ((Kept.refl _).alloc _).alloc _⟩
    · have H := Lib.hid (lessN_no (a := (a0, a1)) (b := (a0, b1)) (by simp; omega))
      go_enter Tryz.func110, Tryz.ntmps110
      go_wp2
      go_ret
      exact ⟨by rw [H.out]; rfl, ((Kept.refl _).alloc _).alloc _⟩
  · have b2 : ((a0 : Int) != (b0 : Int)) = true := by rw [bne_iff_ne]; omega
    by_cases h1 : a0 < b0
    · have H := Lib.hid (lessN_yes (a := (a0, a1)) (b := (b0, b1)) (Or.inl h1))
      go_enter Tryz.func110, Tryz.ntmps110
      go_wp2
      go_ret
      exact ⟨by rw [H.out]; rfl, ((Kept.refl _).alloc _).alloc _⟩
    · have H := Lib.hid (lessN_no (a := (a0, a1)) (b := (b0, b1)) (by simp; omega))
      go_enter Tryz.func110, Tryz.ntmps110
      go_wp2
      go_ret
      exact ⟨by rw [H.out]; rfl, ((Kept.refl _).alloc _).alloc _⟩
end

section
set_option linter.unusedSimpArgs false
set_option linter.unusedVariables false
open Go.ChangeShapes Go.WideShapes Go.ChangeAt Go.RowKit

theorem better_more {n m : Int} {x y : Id2} (h : m < n) : betterB n m x y = true := by unfold betterB; rw [decide_eq_true h]; rfl
theorem better_same {n m : Int} {x y : Id2} (h : n = m) : betterB n m x y = lessN y x := by unfold betterB; rw [decide_eq_false (show ¬ m < n by omega), decide_eq_true h]; simp
theorem better_less {n m : Int} {x y : Id2} (h : ¬ m < n) (h2 : ¬ n = m) : betterB n m x y = false := by unfold betterB; rw [decide_eq_false h, decide_eq_false h2]; rfl

set_option maxHeartbeats 800000 in
theorem isBetter_any (n m : Int) (x y : Id2) (w : World) :
    Calls Tryz.prog 92 #[.agg #[.int .i64 n, .int .u64 x.1, .int .u64 x.2], .agg #[.int .i64 m, .int .u64 y.1, .int .u64 y.2]] w fun e w' => e = .returned (.bool (betterB n m x y)) ∧ Kept w w' := by
  by_cases h1 : m < n
  · have H := Lib.hid (better_more (x := x) (y := y) h1)
    go_enter Tryz.func92, Tryz.ntmps92
    go_wp2_with fail
    go_ret
    exact ⟨by rw [H.out]; rfl, ((Kept.refl _).alloc _).alloc _⟩
  · by_cases h2 : n = m
    · have H := Lib.hid (better_same (x := x) (y := y) h2)
      have hb : (n == m) = true := by rw [beq_iff_eq]; exact h2
      have K := Lib.hid (((Kept.refl w).alloc (.cells #[.int .i64 n, .int .u64 x.1, .int .u64 x.2] 102)).alloc (.cells #[.int .i64 m, .int .u64 y.1, .int .u64 y.2] 102))
      clear h2
      go_enter Tryz.func92, Tryz.ntmps92
      go_wp2_with fail
      refine (less_any y x _).mono ?_
      rintro e W1 ⟨rfl, k1⟩
      have K1 := Lib.hid (K.out.trans k1)
      clear k1
      go_wp2_with fail
      go_ret
      exact ⟨by rw [H.out]; first | rfl | simp, K1.out⟩
    · have H := Lib.hid (better_less (x := x) (y := y) h1 h2)
      have hb : (n == m) = false := by rw [beq_eq_false_iff_ne]; exact h2
      go_enter Tryz.func92, Tryz.ntmps92
      go_wp2_with fail
      go_ret
      exact ⟨by rw [H.out]; rfl, ((Kept.refl _).alloc _).alloc _⟩

/-- The three cells of a candidate, in a block of its own. -/
structure Cand (W : World) (z : Nat) (c : Int × Id2) (w' : World) : Prop where
  cells : HasCells w' z [.int .i64 c.1, .int .u64 c.2.1, .int .u64 c.2.2]
  f0 : w'.frozen? ⟨z, 0, none⟩ = false
  f1 : w'.frozen? ⟨z, 1, none⟩ = false
  f2 : w'.frozen? ⟨z, 2, none⟩ = false
  kept : Kept W w'
theorem Cand.keep {W : World} {z : Nat} {c : Int × Id2} {w' w2 : World} (h : Cand W z c w') (k : Kept w' w2) : Cand W z c w2 :=
  ⟨h.cells.kept k, (k.frozen h.cells.1).trans h.f0, (k.frozen h.cells.1).trans h.f1, (k.frozen h.cells.1).trans h.f2, h.kept.trans k⟩
theorem Cand.new (W : World) : Cand W W.heap.size (0, zid) (W.alloc (.cells #[.int .i64 0, .int .u64 0, .int .u64 0] 102)) :=
  ⟨HasCells.new W #[.int .i64 0, .int .u64 0, .int .u64 0] 102 W.heap.size rfl, by simp [go_sem], by simp [go_sem], by simp [go_sem], (Kept.refl W).alloc _⟩
theorem Cand.set {W : World} {z : Nat} {c : Int × Id2} {w' : World} (hz : W.heap.size ≤ z) (h : Cand W z c w') (n : Int) (x : Id2) : Cand W z (n, x) (((w'.setCell ⟨z, 0, none⟩ (.int .i64 n)).setCell ⟨z, 1, none⟩ (.int .u64 x.1)).setCell ⟨z, 2, none⟩ (.int .u64 x.2)) where
  cells := by
    refine ⟨by simpa using h.cells.1, fun j u hu => ?_⟩
    have c0 := h.cells.at0
    have c1 := h.cells.at1
    have c2 := h.cells.at2
    match j, hu with
    | 0, hu =>
      cases hu
      rw [World.cell?_setCell_other _ _ _ _ (by simp), World.cell?_setCell_other _ _ _ _ (by simp), World.cell?_setCell_same' _ _ _ (by simp [c0])]
    | 1, hu =>
      cases hu
      rw [World.cell?_setCell_other _ _ _ _ (by simp), World.cell?_setCell_same' _ _ _ (by rw [World.cell?_setCell_other _ _ _ _ (by simp)]; simp [c1])]
    | 2, hu =>
      cases hu
      rw [World.cell?_setCell_same' _ _ _ (by rw [World.cell?_setCell_other _ _ _ _ (by simp), World.cell?_setCell_other _ _ _ _ (by simp)]; simp [c2])]
    | j + 3, hu => simp at hu
  f0 := by simpa using h.f0
  f1 := by simpa using h.f1
  f2 := by simpa using h.f2
  kept := ((h.kept.setCell (p := ⟨z, 0, none⟩) hz _).setCell (p := ⟨z, 1, none⟩) hz _).setCell (p := ⟨z, 2, none⟩) hz _

/-- On, wherever its lists lie. -/
def OnAt (A : Option Addr) (c : Nat) (k : Cf) (L : Option Addr) (cl : Nat) (l : List Bk) (V : Option Addr) (cv : Nat) (v : List Vt) (x : Id2) (W : World) : Prop :=
  ∀ w', Kept W w' → Calls Tryz.prog 56 #[.agg #[.slice A k.ws.length c, .int .u64 k.seed, .int .i64 k.ep, .int .i64 k.nu, .int .i64 k.de], .slice L l.length cl, .slice V v.length cv, .agg #[.int .u64 x.1, .int .u64 x.2]] w' fun e w'' => e = .returned (.int .i64 (onC k l v x)) ∧ Kept w' w''
end

section
set_option linter.unusedSimpArgs false
set_option linter.unusedVariables false
open Go.ChangeShapes Go.WideShapes Go.ChangeAt Go.RowKit

set_option maxRecDepth 100000 in
set_option maxHeartbeats 3200000 in
theorem bestOf_any (A : Option Addr) (c : Nat) (k : Cf) (L : Option Addr) (cl : Nat) (l : List Bk) (V : Option Addr) (cv : Nat) (v : List Vt) (N : Option Addr) (cn : Nat) (q : List Id2) (w : World)
    (hl : l.length ≤ 1000000) (hv : v.length ≤ 100000) (hwl : WfL l) (hwv : WfVs v) (hq : q.length ≤ 1000000) (hn : Named q) (hA : CellsAt w w.heap.size A (intCells k.ws)) (hL : CellsAt w w.heap.size L (blockCells l)) (hV : CellsAt w w.heap.size V (votesCells v)) (hN : CellsAt w w.heap.size N (idsCells q)) :
    Calls Tryz.prog 68 #[.agg #[.slice A k.ws.length c, .int .u64 k.seed, .int .i64 k.ep, .int .i64 k.nu, .int .i64 k.de], .slice L l.length cl, .slice V v.length cv, .slice N q.length cn] w fun e w' =>
      e = .returned (.agg #[.int .i64 (candOf (onC k l v) (bestTo (onC k l v) q)).1, .int .u64 (candOf (onC k l v) (bestTo (onC k l v) q)).2.1, .int .u64 (candOf (onC k l v) (bestTo (onC k l v) q)).2.2]) ∧ Kept w w' := by
  have K0 := Lib.hid (((Kept.refl w).alloc (.cells #[.slice A k.ws.length c, .int .u64 k.seed, .int .i64 k.ep, .int .i64 k.nu, .int .i64 k.de] 25)).alloc (.cells #[.int .i64 0, .int .u64 0, .int .u64 0] 102))
  have HC := Lib.hid ((HasCells.new w #[.slice A k.ws.length c, .int .u64 k.seed, .int .i64 k.ep, .int .i64 k.nu, .int .i64 k.de] 25 w.heap.size rfl).alloc (.cells #[.int .i64 0, .int .u64 0, .int .u64 0] 102))
  have HR := Lib.hid (HasCells.new (w.alloc (.cells #[.slice A k.ws.length c, .int .u64 k.seed, .int .i64 k.ep, .int .i64 k.nu, .int .i64 k.de] 25)) #[.int .i64 0, .int .u64 0, .int .u64 0] 102 (w.heap.size + 1) (by simp))
  have HF := Lib.hid (show ∀ j, ((w.alloc (.cells #[.slice A k.ws.length c, .int .u64 k.seed, .int .i64 k.ep, .int .i64 k.nu, .int .i64 k.de] 25)).alloc (.cells #[.int .i64 0, .int .u64 0, .int .u64 0] 102)).frozen? ⟨w.heap.size + 1, j, none⟩ = false by intro j; simp [go_sem])
  have HA := Lib.hid (hA.kept K0.out)
  have HL := Lib.hid (hL.kept K0.out)
  have HV := Lib.hid (hV.kept K0.out)
  have HN := Lib.hid (hN.kept K0.out)
  have HWL := Lib.hid hwl
  have HWV := Lib.hid hwv
  have HNm := Lib.hid hn
  have hzz : w.heap.size < w.heap.size + 1 := by omega
  have HZ := Lib.hid (show w.heap.size ≤ w.heap.size + 1 by omega)
  clear hA hL hV hN hwl hwv hn
  go_enter Tryz.func68, Tryz.ntmps68
  go_wp2_with fail
  have hWs : ((w.alloc (.cells #[.slice A k.ws.length c, .int .u64 k.seed, .int .i64 k.ep, .int .i64 k.nu, .int .i64 k.de] 25)).alloc (.cells #[.int .i64 0, .int .u64 0, .int .u64 0] 102)).heap.size = w.heap.size + 1 + 1 := by simp
  generalize (w.alloc (.cells #[.slice A k.ws.length c, .int .u64 k.seed, .int .i64 k.ep, .int .i64 k.nu, .int .i64 k.de] 25)).alloc (.cells #[.int .i64 0, .int .u64 0, .int .u64 0] 102) = W at *
  generalize w.heap.size + 1 = y at *
  generalize hze : w.heap.size = z at *
  have HZE := Lib.hid (Nat.le_of_eq hze)
  clear hze
  have HCd := Lib.hid (Cand.new W)
  rw [hWs] at HCd
  generalize y + 1 = x at *
  have HX := Lib.hid hWs
  generalize W.alloc (.cells #[.int .i64 0, .int .u64 0, .int .u64 0] 102) = W0 at *
  clear hWs
  go_loopw [15] (fun i w' => ∃ j : Nat, j ≤ q.length ∧ i = .int .i64 (j : Nat) ∧ Cand W x (candOf (onC k l v) (bestTo (onC k l v) (q.take j))) w') (fun i _ => q.length - (intOf i).toNat)
  case atStart => exact ⟨0, by omega, rfl, HCd.out⟩
  case round =>
    obtain ⟨j, hj, rfl, hCd⟩ := hrel
    have HD := Lib.hid hCd
    clear hCd HCd
    by_cases hlt : j < q.length
    · obtain ⟨zn, on, rfl, hbn, n0, n1⟩ := id_at (HN.out.kept HD.out.kept) hlt
      have HHit := Lib.hid (fun h => cand_hit_take (g := onC k l v) (q := q) hlt h)
      have HMiss := Lib.hid (fun h => cand_miss_take (g := onC k l v) (q := q) hlt (HNm.out _ (List.getElem_mem hlt)).2 (on_bounds k l v q[j]).1 h)
      have HO := Lib.hid (fun w' (kk : Kept wr w') => on_any A c k L cl l V cv v q[j] w' hl hv HWL.out HWV.out (HNm.out _ (List.getElem_mem hlt)).1 (HA.out.kept (HD.out.kept.trans kk)) (HL.out.kept (HD.out.kept.trans kk)) (HV.out.kept (HD.out.kept.trans kk)))
      generalize hcN : candOf (onC k l v) (bestTo (onC k l v) (q.take (j + 1))) = cN at *
      have HCN := Lib.hid hcN
      clear hcN
      generalize candOf (onC k l v) (bestTo (onC k l v) (q.take j)) = cO at *
      generalize onC k l v q[j] = on at *
      generalize q[j] = xj at *
      go_wp2_with fail
      have HNb := Lib.hid (HasCells.new wr #[.int .u64 xj.1, .int .u64 xj.2] 31 wr.heap.size rfl)
      have HKb := Lib.hid ((Kept.refl wr).alloc (.cells #[.int .u64 xj.1, .int .u64 xj.2] 31))
      have HD2 := Lib.hid (HD.out.keep HKb.out)
      have HCz := Lib.hid ((HC.out.kept HD.out.kept).kept HKb.out)
      generalize wr.alloc (.cells #[.int .u64 xj.1, .int .u64 xj.2] 31) = W2 at *
      generalize wr.heap.size = bn at *
      clear n0 n1 hbn
      obtain ⟨c0, c1, c2, c3, c4⟩ := HCz.out.five
      have hzl := HCz.out.1
      obtain ⟨m0, m1⟩ := HNb.out.two
      have hbn2 := HNb.out.1
      refine wp_region_noPanic ?_
      refine wp_region_held_drew (S := (fun w' => w'.cell? ⟨z, 0, none⟩ = some (.slice A k.ws.length c) ∧ w'.cell? ⟨z, 1, none⟩ = some (.int .u64 k.seed) ∧ w'.cell? ⟨z, 2, none⟩ = some (.int .i64 k.ep) ∧ w'.cell? ⟨z, 3, none⟩ = some (.int .i64 k.nu) ∧ w'.cell? ⟨z, 4, none⟩ = some (.int .i64 k.de) ∧ w'.cell? ⟨bn, 0, none⟩ = some (.int .u64 xj.1) ∧ w'.cell? ⟨bn, 1, none⟩ = some (.int .u64 xj.2) ∧ Kept W2 w')) (by kernel_rfl) ?_ (fun hHeld => ?_)
      · exact ⟨c0, c1, c2, c3, c4, m0, m1, (Kept.refl _).drew⟩
      refine wpAnyH_take (i := 0) (v := ?_) (by simp only [List.getElem?_toArray, List.getElem?_cons_succ, List.getElem?_cons_zero]; rfl) (by kernel_rfl) (by kernel_rfl) (by kernel_rfl) (fun _ _ _ h => h) (Or.inl ⟨by rfl, ?_⟩) (by assumption) ?_
      rotate_left
      · intro w hSw
        (try dsimp only at hSw)
        go_simp
        (try with_reducible rfl)
      simp only [Act.put, List.setIfInBounds_toArray, List.set_cons_zero, List.set_cons_succ]
      refine wpAnyH_take (i := 1) (v := ?_) (by simp only [List.getElem?_toArray, List.getElem?_cons_succ, List.getElem?_cons_zero]; rfl) (by kernel_rfl) (by kernel_rfl) (by kernel_rfl) (fun _ _ _ h => h) (Or.inl ⟨by rfl, ?_⟩) (by assumption) ?_
      rotate_left
      · intro w hSw
        (try dsimp only at hSw)
        go_simp
        (try with_reducible rfl)
      simp only [Act.put, List.setIfInBounds_toArray, List.set_cons_zero, List.set_cons_succ]
      refine wpAnyH_take (i := 2) (v := ?_) (by simp only [List.getElem?_toArray, List.getElem?_cons_succ, List.getElem?_cons_zero]; rfl) (by kernel_rfl) (by kernel_rfl) (by kernel_rfl) (fun _ _ _ h => h) (Or.inl ⟨by rfl, ?_⟩) (by assumption) ?_
      rotate_left
      · intro w hSw
        (try dsimp only at hSw)
        go_simp
        (try with_reducible rfl)
      simp only [Act.put, List.setIfInBounds_toArray, List.set_cons_zero, List.set_cons_succ]
      refine wpAnyH_take (i := 3) (v := ?_) (by simp only [List.getElem?_toArray, List.getElem?_cons_succ, List.getElem?_cons_zero]; rfl) (by kernel_rfl) (by kernel_rfl) (by kernel_rfl) (fun _ _ _ h => h) (Or.inl ⟨by rfl, ?_⟩) (by assumption) ?_
      rotate_left
      · intro w hSw
        (try dsimp only at hSw)
        go_simp
        (try with_reducible rfl)
      simp only [Act.put, List.setIfInBounds_toArray, List.set_cons_zero, List.set_cons_succ]
      refine wpAnyH_take (i := 5) (v := ?_) (by simp only [List.getElem?_toArray, List.getElem?_cons_succ, List.getElem?_cons_zero]; rfl) (by kernel_rfl) (by kernel_rfl) (by kernel_rfl) (fun _ _ _ h => h) (Or.inl ⟨by rfl, ?_⟩) (by assumption) ?_
      rotate_left
      · intro w hSw
        (try dsimp only at hSw)
        go_simp
        (try with_reducible rfl)
      simp only [Act.put, List.setIfInBounds_toArray, List.set_cons_zero, List.set_cons_succ]
      refine wpAnyH_ready (rs := [4, 7]) (by kernel_rfl) (by simp) ?_
      refine AllReadyH.cons (by simp only [List.getElem?_toArray, List.getElem?_cons_succ, List.getElem?_cons_zero]; rfl) (fun K hK => ?_) (AllReadyH.cons (by simp only [List.getElem?_toArray, List.getElem?_cons_succ, List.getElem?_cons_zero]; rfl) (fun K hK => ?_) (AllReadyH.nil))
      · go_simp
        go_at_call 56; with_reducible refine (HO.out _ (HKb.out.trans hHeld.2.2.2.2.2.2.2)).mono ?_
        rintro e w' ⟨rfl, kk⟩
        refine hK.out _ _ ?_ (fun hHeld2 => ?_)
        · exact keepP7 hzl hzl hzl hzl hzl hbn2 hbn2 hHeld kk
        clear hK K hHeld
        have hHeld := hHeld2
        clear hHeld2
        try simp only [Act.put, List.setIfInBounds_toArray, List.set_cons_zero, List.set_cons_succ]
        refine wpAnyH_take (i := 6) (v := ?_) (by simp only [List.getElem?_toArray, List.getElem?_cons_succ, List.getElem?_cons_zero]; rfl) (by kernel_rfl) (by kernel_rfl) (by kernel_rfl) (fun _ _ _ h => h) (Or.inl ⟨by rfl, ?_⟩) (by assumption) ?_
        rotate_left
        · intro w hSw
          (try dsimp only at hSw)
          go_simp
          (try with_reducible rfl)
        simp only [Act.put, List.setIfInBounds_toArray, List.set_cons_zero, List.set_cons_succ]
        refine wpAnyH_ready (rs := [7]) (by kernel_rfl) (by simp) ?_
        refine AllReadyH.cons (by simp only [List.getElem?_toArray, List.getElem?_cons_succ, List.getElem?_cons_zero]; rfl) (fun K hK => ?_) (AllReadyH.nil)
        have hH4 := hHeld
        go_simp
        refine hK.out _ _ ?_ (fun hHeld2 => ?_)
        · exact keepP7 hzl hzl hzl hzl hzl hbn2 hbn2 hHeld ((Kept.refl _).alloc _)
        clear hK K hHeld
        have hHeld := hHeld2
        clear hHeld2
        try simp only [Act.put, List.setIfInBounds_toArray, List.set_cons_zero, List.set_cons_succ]
        refine wpAnyH_ready (rs := [8]) (by kernel_rfl) (by simp) ?_
        refine AllReadyH.cons (by simp only [List.getElem?_toArray, List.getElem?_cons_succ, List.getElem?_cons_zero]; rfl) (fun K hK => ?_) (AllReadyH.nil)
        go_simp
        refine hK.out _ _ ?_ (fun hHeld2 => ?_)
        · exact keepP7 hzl hzl hzl hzl hzl hbn2 hbn2 hH4 ((Kept.refl _).alloc _)
        clear hK K hHeld
        have hHeld := hHeld2
        clear hHeld2
        try simp only [Act.put, List.setIfInBounds_toArray, List.set_cons_zero, List.set_cons_succ]
        refine wpAnyH_done (by kernel_rfl) ?_ _
        refine NoPanic.normal ?_
        have HV : Cand W2 w'.heap.size (on, xj) (w'.alloc (.cells #[.int .i64 on, .int .u64 xj.1, .int .u64 xj.2] 102)) := ⟨HasCells.new w' #[.int .i64 on, .int .u64 xj.1, .int .u64 xj.2] 102 w'.heap.size rfl, by simp [go_sem], by simp [go_sem], by simp [go_sem], hH4.2.2.2.2.2.2.2.alloc _⟩
        replace HV := Lib.hid HV
        clear hHeld hH4 kk
        generalize w'.alloc (.cells #[.int .i64 on, .int .u64 xj.1, .int .u64 xj.2] 102) = V1 at *
        generalize w'.heap.size = b at *
        clear c0 c1 c2 c3 c4 hzl m0 m1 hbn2
        have HD3 := Lib.hid (HD2.out.keep HV.out.kept)
        obtain ⟨v0, v1, v2⟩ := HV.out.cells.three
        obtain ⟨u0, u1, u2⟩ := HD3.out.cells.three
        have hbl := HV.out.cells.1
        have hxl := HD3.out.cells.1
        go_wp2_with fail
        refine (isBetter_any on cO.1 xj cO.2 _).mono ?_
        rintro e V2 ⟨rfl, k2⟩
        have HV2 := Lib.hid (HV.out.keep k2)
        have HD4 := Lib.hid (HD3.out.keep k2)
        clear v0 v1 v2 u0 u1 u2 hbl hxl k2
        cases hbe : betterB on cO.1 xj cO.2 with
        | true =>
          have HN := Lib.hid (HHit.out hbe)
          obtain ⟨v0, v1, v2⟩ := HV2.out.cells.three
          obtain ⟨u0, u1, u2⟩ := HD4.out.cells.three
          have hbl := HV2.out.cells.1
          have hxl := HD4.out.cells.1
          have f0 := HD4.out.f0
          have f1 := HD4.out.f1
          have f2 := HD4.out.f2
          clear hbe HHit HMiss
          go_wp2_with fail
          go_roundw
          case rel => exact ⟨j + 1, by omega, by go_num, by rw [HCN.out, HN.out]; exact HD4.out.set (Nat.le_of_eq HX.out) on xj⟩
          case measure => simp [intOf]; omega
        | false =>
          have HN := Lib.hid (HMiss.out hbe)
          clear hbe HHit HMiss
          go_wp2_with fail
          go_roundw
          case rel => exact ⟨j + 1, by omega, by go_num, by rw [HCN.out, HN.out]; exact HD4.out⟩
          case measure => simp [intOf]; omega
      · have hH4 := hHeld
        go_simp
        refine hK.out _ _ ?_ (fun hHeld2 => ?_)
        · exact keepP7 hzl hzl hzl hzl hzl hbn2 hbn2 hHeld ((Kept.refl _).alloc _)
        clear hK K hHeld
        have hHeld := hHeld2
        clear hHeld2
        try simp only [Act.put, List.setIfInBounds_toArray, List.set_cons_zero, List.set_cons_succ]
        refine wpAnyH_ready (rs := [4]) (by kernel_rfl) (by simp) ?_
        refine AllReadyH.cons (by simp only [List.getElem?_toArray, List.getElem?_cons_succ, List.getElem?_cons_zero]; rfl) (fun K hK => ?_) (AllReadyH.nil)
        go_simp
        go_at_call 56; with_reducible refine (HO.out _ (HKb.out.trans hHeld.2.2.2.2.2.2.2)).mono ?_
        rintro e w' ⟨rfl, kk⟩
        have hN : HasCells w' W2.heap.size [.int .i64 0, .int .u64 0, .int .u64 0] := (HasCells.new _ #[.int .i64 0, .int .u64 0, .int .u64 0] 102 W2.heap.size rfl).kept (Kept.trans (Kept.drew (Kept.refl _)) kk)
        have hZ : ∀ j, w'.frozen? ⟨W2.heap.size, j, none⟩ = false := fun j => ((Kept.trans (Kept.drew (Kept.refl _)) kk : Kept (W2.alloc (.cells #[.int .i64 0, .int .u64 0, .int .u64 0] 102)) w').frozen (p := ⟨W2.heap.size, j, none⟩) (by simp)).trans (by simp [go_sem])
        refine hK.out _ _ ?_ (fun hHeld2 => ?_)
        · exact keepP7 hzl hzl hzl hzl hzl hbn2 hbn2 hHeld kk
        clear hK K hHeld
        have hHeld := hHeld2
        clear hHeld2
        try simp only [Act.put, List.setIfInBounds_toArray, List.set_cons_zero, List.set_cons_succ]
        refine wpAnyH_take (i := 6) (v := ?_) (by simp only [List.getElem?_toArray, List.getElem?_cons_succ, List.getElem?_cons_zero]; rfl) (by kernel_rfl) (by kernel_rfl) (by kernel_rfl) (fun _ _ _ h => h) (Or.inl ⟨by rfl, ?_⟩) (by assumption) ?_
        rotate_left
        · intro w hSw
          (try dsimp only at hSw)
          go_simp
          (try with_reducible rfl)
        simp only [Act.put, List.setIfInBounds_toArray, List.set_cons_zero, List.set_cons_succ]
        refine wpAnyH_ready (rs := [8]) (by kernel_rfl) (by simp) ?_
        refine AllReadyH.cons (by simp only [List.getElem?_toArray, List.getElem?_cons_succ, List.getElem?_cons_zero]; rfl) (fun K hK => ?_) (AllReadyH.nil)
        obtain ⟨e0, e1, e2⟩ := hN.three
        have f0 := hZ 0
        have f1 := hZ 1
        have f2 := hZ 2
        go_simp
        refine hK.out _ _ ?_ (fun hHeld2 => ?_)
        · exact keepS7 hzl hzl hzl hzl hzl hbn2 hbn2 hHeld (below_set3 (Nat.le_refl _) 0 1 2 _ _ _)
        clear hK K hHeld
        have hHeld := hHeld2
        clear hHeld2
        try simp only [Act.put, List.setIfInBounds_toArray, List.set_cons_zero, List.set_cons_succ]
        refine wpAnyH_done (by kernel_rfl) ?_ _
        refine NoPanic.normal ?_
        have HV := Cand.set (Nat.le_refl _) (show Cand W2 W2.heap.size (0, zid) w' from ⟨hN, hZ 0, hZ 1, hZ 2, (Kept.alloc (Kept.refl W2) _).trans (Kept.trans (Kept.drew (Kept.refl _)) kk)⟩) on xj
        replace HV := Lib.hid HV
        clear hHeld hH4 kk hN hZ e0 e1 e2 f0 f1 f2
        generalize ((w'.setCell ⟨W2.heap.size, 0, none⟩ (.int .i64 on)).setCell ⟨W2.heap.size, 1, none⟩ (.int .u64 xj.1)).setCell ⟨W2.heap.size, 2, none⟩ (.int .u64 xj.2) = V1 at *
        generalize W2.heap.size = b at *
        clear c0 c1 c2 c3 c4 hzl m0 m1 hbn2
        have HD3 := Lib.hid (HD2.out.keep HV.out.kept)
        obtain ⟨v0, v1, v2⟩ := HV.out.cells.three
        obtain ⟨u0, u1, u2⟩ := HD3.out.cells.three
        have hbl := HV.out.cells.1
        have hxl := HD3.out.cells.1
        go_wp2_with fail
        refine (isBetter_any on cO.1 xj cO.2 _).mono ?_
        rintro e V2 ⟨rfl, k2⟩
        have HV2 := Lib.hid (HV.out.keep k2)
        have HD4 := Lib.hid (HD3.out.keep k2)
        clear v0 v1 v2 u0 u1 u2 hbl hxl k2
        cases hbe : betterB on cO.1 xj cO.2 with
        | true =>
          have HN := Lib.hid (HHit.out hbe)
          obtain ⟨v0, v1, v2⟩ := HV2.out.cells.three
          obtain ⟨u0, u1, u2⟩ := HD4.out.cells.three
          have hbl := HV2.out.cells.1
          have hxl := HD4.out.cells.1
          have f0 := HD4.out.f0
          have f1 := HD4.out.f1
          have f2 := HD4.out.f2
          clear hbe HHit HMiss
          go_wp2_with fail
          go_roundw
          case rel => exact ⟨j + 1, by omega, by go_num, by rw [HCN.out, HN.out]; exact HD4.out.set (Nat.le_of_eq HX.out) on xj⟩
          case measure => simp [intOf]; omega
        | false =>
          have HN := Lib.hid (HMiss.out hbe)
          clear hbe HHit HMiss
          go_wp2_with fail
          go_roundw
          case rel => exact ⟨j + 1, by omega, by go_num, by rw [HCN.out, HN.out]; exact HD4.out⟩
          case measure => simp [intOf]; omega
    · have hjl : j = q.length := by omega
      subst hjl
      rw [List.take_length] at HD
      generalize hcE : candOf (onC k l v) (bestTo (onC k l v) q) = cE at *
      have HCE := Lib.hid hcE
      clear hcE
      obtain ⟨d0, d1, d2⟩ := HD.out.cells.three
      have hxl := HD.out.cells.1
      obtain ⟨r0, r1, r2⟩ := (HR.out.kept HD.out.kept).three
      have hyl := (HR.out.kept HD.out.kept).1
      have hf0 := (HD.out.kept.frozen (p := ⟨y, 0, none⟩) HR.out.1).trans (HF.out 0)
      have hf1 := (HD.out.kept.frozen (p := ⟨y, 1, none⟩) HR.out.1).trans (HF.out 1)
      have hf2 := (HD.out.kept.frozen (p := ⟨y, 2, none⟩) HR.out.1).trans (HF.out 2)
      go_wp2_with fail
      refine bodyPost_ret (v := .agg #[.int .i64 cE.1, .int .u64 cE.2.1, .int .u64 cE.2.2]) (by simp [results, Tryz.results68, go_sem, r0, r1, r2]) rfl ⟨by rw [HCE.out], ?_⟩
      exact (((K0.out.trans HD.out.kept).setCell (p := ⟨y, 0, none⟩) (Nat.le_trans HZE.out HZ.out) _).setCell (p := ⟨y, 1, none⟩) (Nat.le_trans HZE.out HZ.out) _).setCell (p := ⟨y, 2, none⟩) (Nat.le_trans HZE.out HZ.out) _
end

section
set_option linter.unusedSimpArgs false
set_option linter.unusedVariables false
open Go.ChangeShapes Go.WideShapes Go.ChangeAt Go.RowKit

/-- v is a map of the lists of f, or nil, where f has none. -/
def KidsMap (f : Id2 → List Id2) (v : Value) (w : World) : Prop := (v = .map none ∧ ∀ y, f y = []) ∨ ∃ b m B, v = .map (some b) ∧ Groups B f b m w
theorem KidsMap.kept {f : Id2 → List Id2} {v : Value} {w w' : World} (h : KidsMap f v w) (k : Kept w w') : KidsMap f v w' := by
  rcases h with h | ⟨b, m, B, e, h⟩
  · exact Or.inl h
  · exact Or.inr ⟨b, m, B, e, h.kept k⟩
theorem cell_lt {w : World} {z j : Nat} {u : Value} (h : w.cell? ⟨z, j, none⟩ = some u) : z < w.heap.size := by
  cases q : w.heap[z]? with
  | none => simp [World.cell?, q] at h
  | some o => exact (Array.getElem?_eq_some_iff.1 q).1
/-- Five cells, held. -/
def Five (y : Nat) (x0 x1 x2 x3 x4 : Value) (w : World) : Prop := w.cell? ⟨y, 0, none⟩ = some x0 ∧ w.cell? ⟨y, 1, none⟩ = some x1 ∧ w.cell? ⟨y, 2, none⟩ = some x2 ∧ w.cell? ⟨y, 3, none⟩ = some x3 ∧ w.cell? ⟨y, 4, none⟩ = some x4
theorem five_grown {y : Nat} {x0 x1 x2 x3 x4 : Value} {w w' : World} {row : Option Nat} (h : w.cell? ⟨y, 0, none⟩ = some x0 ∧ w.cell? ⟨y, 1, none⟩ = some x1 ∧ w.cell? ⟨y, 2, none⟩ = some x2 ∧ w.cell? ⟨y, 3, none⟩ = some x3 ∧ w.cell? ⟨y, 4, none⟩ = some x4) (g : w.grownBy w' row) (hne : some y ≠ row) :
    w'.cell? ⟨y, 0, none⟩ = some x0 ∧ w'.cell? ⟨y, 1, none⟩ = some x1 ∧ w'.cell? ⟨y, 2, none⟩ = some x2 ∧ w'.cell? ⟨y, 3, none⟩ = some x3 ∧ w'.cell? ⟨y, 4, none⟩ = some x4 :=
  ⟨g.cell h.1 hne, g.cell h.2.1 hne, g.cell h.2.2.1 hne, g.cell h.2.2.2.1 hne, g.cell h.2.2.2.2 hne⟩
theorem five_kept {y : Nat} {x0 x1 x2 x3 x4 : Value} {w w' : World} (h : w.cell? ⟨y, 0, none⟩ = some x0 ∧ w.cell? ⟨y, 1, none⟩ = some x1 ∧ w.cell? ⟨y, 2, none⟩ = some x2 ∧ w.cell? ⟨y, 3, none⟩ = some x3 ∧ w.cell? ⟨y, 4, none⟩ = some x4) (k : Kept w w') :
    w'.cell? ⟨y, 0, none⟩ = some x0 ∧ w'.cell? ⟨y, 1, none⟩ = some x1 ∧ w'.cell? ⟨y, 2, none⟩ = some x2 ∧ w'.cell? ⟨y, 3, none⟩ = some x3 ∧ w'.cell? ⟨y, 4, none⟩ = some x4 := by
  have hy := cell_lt h.1
  exact ⟨(k.cell (p := ⟨y, 0, none⟩) hy).trans h.1, (k.cell (p := ⟨y, 1, none⟩) hy).trans h.2.1, (k.cell (p := ⟨y, 2, none⟩) hy).trans h.2.2.1, (k.cell (p := ⟨y, 3, none⟩) hy).trans h.2.2.2.1, (k.cell (p := ⟨y, 4, none⟩) hy).trans h.2.2.2.2⟩
theorem HasCells.grown {w w' : World} {z : Nat} {xs : List Value} {row : Option Nat} (h : HasCells w z xs) (g : w.grownBy w' row) (hne : some z ≠ row) : HasCells w' z xs :=
  ⟨Nat.lt_of_lt_of_le h.1 g.size, fun j u hu => g.cell (h.2 j u hu) hne⟩
theorem Groups.lt {B : Nat} {f : Id2 → List Id2} {b m : Nat} {w : World} (h : Groups B f b m w) : b < B ∧ B ≤ w.heap.size := by
  obtain ⟨_, _, _, h0, hB, _⟩ := h
  exact ⟨h0, hB⟩

/-- .. with the whole block known, and all that lay in W as it was. -/
theorem fiveO_grown {W w w' : World} {y : Nat} {x0 x1 x2 x3 x4 : Value} {t : TypeId} {row : Option Nat} (h : w.cell? ⟨y, 0, none⟩ = some x0 ∧ w.cell? ⟨y, 1, none⟩ = some x1 ∧ w.cell? ⟨y, 2, none⟩ = some x2 ∧ w.cell? ⟨y, 3, none⟩ = some x3 ∧ w.cell? ⟨y, 4, none⟩ = some x4 ∧ w.heap[y]? = some (.cells #[x0, x1, x2, x3, x4] t) ∧ Kept W w)
    (g : w.grownBy w' row) (hne : some y ≠ row) (hr : ∀ k, row = some k → W.heap.size ≤ k) :
    w'.cell? ⟨y, 0, none⟩ = some x0 ∧ w'.cell? ⟨y, 1, none⟩ = some x1 ∧ w'.cell? ⟨y, 2, none⟩ = some x2 ∧ w'.cell? ⟨y, 3, none⟩ = some x3 ∧ w'.cell? ⟨y, 4, none⟩ = some x4 ∧ w'.heap[y]? = some (.cells #[x0, x1, x2, x3, x4] t) ∧ Kept W w' :=
  ⟨g.cell h.1 hne, g.cell h.2.1 hne, g.cell h.2.2.1 hne, g.cell h.2.2.2.1 hne, g.cell h.2.2.2.2.1 hne, (g.block y (Array.getElem?_eq_some_iff.1 h.2.2.2.2.2.1).1 hne).trans h.2.2.2.2.2.1, h.2.2.2.2.2.2.grown g hr⟩
theorem fiveO_kept {W w w' : World} {y : Nat} {x0 x1 x2 x3 x4 : Value} {t : TypeId} (h : w.cell? ⟨y, 0, none⟩ = some x0 ∧ w.cell? ⟨y, 1, none⟩ = some x1 ∧ w.cell? ⟨y, 2, none⟩ = some x2 ∧ w.cell? ⟨y, 3, none⟩ = some x3 ∧ w.cell? ⟨y, 4, none⟩ = some x4 ∧ w.heap[y]? = some (.cells #[x0, x1, x2, x3, x4] t) ∧ Kept W w)
    (k : Kept w w') :
    w'.cell? ⟨y, 0, none⟩ = some x0 ∧ w'.cell? ⟨y, 1, none⟩ = some x1 ∧ w'.cell? ⟨y, 2, none⟩ = some x2 ∧ w'.cell? ⟨y, 3, none⟩ = some x3 ∧ w'.cell? ⟨y, 4, none⟩ = some x4 ∧ w'.heap[y]? = some (.cells #[x0, x1, x2, x3, x4] t) ∧ Kept W w' := by
  have hy := cell_lt h.1
  exact ⟨(k.cell (p := ⟨y, 0, none⟩) hy).trans h.1, (k.cell (p := ⟨y, 1, none⟩) hy).trans h.2.1, (k.cell (p := ⟨y, 2, none⟩) hy).trans h.2.2.1, (k.cell (p := ⟨y, 3, none⟩) hy).trans h.2.2.2.1, (k.cell (p := ⟨y, 4, none⟩) hy).trans h.2.2.2.2.1, (k.heap hy).trans h.2.2.2.2.2.1, h.2.2.2.2.2.2.trans k⟩
theorem Pend.apart {B : Nat} {f : Id2 → List Id2} {b m : Nat} {x : Id2} {v : Value} {st : Nat} {w : World} (h : Pend B f b m x v st w) (hx : WfI x) {y : Nat} {xs : Array Value} {t : TypeId} (hy : w.heap[y]? = some (.cells xs t)) (ht : t ≠ 31) : some y ≠ v.ownBlock := by
  obtain ⟨_, _, D, V, es, clock, _, _, _, rfl, _, h2, _⟩ := h
  intro e
  rcases (h2 x hx).2 with ⟨hv, _⟩ | ⟨g, cap, cur, hv, _, hg, _⟩
  · rw [hv] at e; cases e
  · rw [hv] at e
    injection e with e
    simp only at e
    subst e
    rw [hy] at hg
    injection hg with hg
    injection hg with _ hg
    exact ht hg

set_option maxRecDepth 100000 in
set_option maxHeartbeats 3200000 in
theorem allKids_any (A : Option Addr) (c : Nat) (l : List Bk) (hl : l.length ≤ 1000000) (hw : WfL l) (w : World) (hA : CellsAt w w.heap.size A (blockCells l)) :
    Calls Tryz.prog 67 #[.slice A l.length c] w fun e w' => ∃ v, e = .returned v ∧ KidsMap (kidsC l) v w' ∧ Kept w w' := by
  have HP := Lib.hid (may_any A c l hl hw _ hA)
  have HA := Lib.hid hA
  have HW := Lib.hid hw
  have hmm := @run_makeMap Tryz.prog
  clear hw hA
  go_enter Tryz.func67, Tryz.ntmps67
  go_wp2_with fail
  refine HP.out.mono ?_
  rintro e W ⟨rfl, k1⟩
  have HK := Lib.hid k1
  have HA1 := Lib.hid (HA.out.kept k1)
  clear k1 HA HP
  cases hm : mayB l with
  | false =>
    have HR := Lib.hid (fun y => kidsC_no (l := l) y hm)
    clear hm
    go_wp2_with fail
    go_ret
    exact ⟨_, rfl, Or.inl ⟨rfl, HR.out⟩, HK.out⟩
  | true =>
    have HR := Lib.hid (fun y => kidsC_yes (l := l) y hm)
    have HG := Lib.hid (Groups.made W)
    have HK1 := Lib.hid (HK.out.alloc (.map #[] 0))
    have HKW := Lib.hid ((Kept.refl W).alloc (.map #[] 0))
    have hWb := HK.out.size_le
    clear hm
    go_wp2_with fail
    obtain ⟨b, hb⟩ : ∃ b, b = W.heap.size := ⟨_, rfl⟩
    rw [← hb] at HG ⊢
    have HBl := Lib.hid (show w.heap.size ≤ b by rw [hb]; exact hWb)
    have HWl := Lib.hid (show W.heap.size ≤ b by rw [hb]; exact Nat.le_refl _)
    generalize W.alloc (.map #[] 0) = W1 at *
    clear hb hWb
    go_loopw [12] (fun i w' => ∃ j : Nat, j ≤ l.length ∧ i = .int .i64 (j : Nat) ∧ Groups (b + 1) (kidsB (l.take j)) b j w' ∧ Kept W w') (fun i _ => l.length - (intOf i).toNat)
    case atStart => exact ⟨0, by omega, rfl, HG.out, HKW.out⟩
    case round =>
      obtain ⟨j, hj, rfl, hG, hK⟩ := hrel
      have HGr := Lib.hid hG
      have HKr := Lib.hid hK
      clear hG hK HG
      by_cases hlt : j < l.length
      · obtain ⟨z, o, rfl, hbn, c0, c1, c2, c3, c4⟩ := block_at (HA1.out.kept HKr.out) hlt
        have HX := Lib.hid (HW.out l[j] (List.getElem_mem hlt))
        have HNx := Lib.hid (fun y => grow_hit hlt y)
        have HLe := Lib.hid (fun y => Nat.le_trans (kidsB_le (l.take j) y) (by rw [List.length_take]; exact Nat.min_le_left _ _))
        generalize l[j] = y at *
        go_wp2_with fail
        have HN := Lib.hid (fun w' => name_any y HX.out w')
        have HNw := Lib.hid (nameB_lt y)
        generalize nameB y = n at *
        have HGW := Lib.hid (HGr.out.kept ((Kept.refl wr).alloc (.cells #[.int .i64 y.s, .int .i64 y.f, .int .u64 y.p.1, .int .u64 y.p.2, .int .u64 y.t] 54)))
        have HKW1 := Lib.hid (HKr.out.alloc (.cells #[.int .i64 y.s, .int .i64 y.f, .int .u64 y.p.1, .int .u64 y.p.2, .int .u64 y.t] 54))
        have HY := Lib.hid ((HasCells.new wr #[.int .i64 y.s, .int .i64 y.f, .int .u64 y.p.1, .int .u64 y.p.2, .int .u64 y.t] 54 wr.heap.size rfl))
        have HO := Lib.hid (heap_alloc_new wr (.cells #[.int .i64 y.s, .int .i64 y.f, .int .u64 y.p.1, .int .u64 y.p.2, .int .u64 y.t] 54))
        have hyb : some wr.heap.size ≠ some b := fun e => by
          have := HGr.out.lt
          injection e with e
          omega
        have HRow := Lib.hid (show ∀ k, some b = some k → W.heap.size ≤ k from fun k e => by injection e with e; rw [← e]; exact HWl.out)
        have hle := Lib.hid (HLe.out y.p)
        have hjm : j < maxLen := by unfold maxLen; omega
        clear c0 c1 c2 c3 c4 HLe
        generalize wr.alloc (.cells #[.int .i64 y.s, .int .i64 y.f, .int .u64 y.p.1, .int .u64 y.p.2, .int .u64 y.t] 54) = W2 at *
        generalize wr.heap.size = bk at *
        obtain ⟨c0, c1, c2, c3, c4⟩ := HY.out.five
        refine wp_region_noPanic ?_
        refine wp_region_held_drew (S := (fun w' => w'.cell? ⟨bk, 0, none⟩ = some (.int .i64 y.s) ∧ w'.cell? ⟨bk, 1, none⟩ = some (.int .i64 y.f) ∧ w'.cell? ⟨bk, 2, none⟩ = some (.int .u64 y.p.1) ∧ w'.cell? ⟨bk, 3, none⟩ = some (.int .u64 y.p.2) ∧ w'.cell? ⟨bk, 4, none⟩ = some (.int .u64 y.t) ∧ w'.heap[bk]? = some (.cells #[.int .i64 y.s, .int .i64 y.f, .int .u64 y.p.1, .int .u64 y.p.2, .int .u64 y.t] 54) ∧ Kept W w')) (by kernel_rfl) ?_ (fun hHeld => ?_)
        · exact ⟨c0, c1, c2, c3, c4, HO.out, HKW1.out.drew⟩
        refine wpAnyH_take (i := 0) (v := ?_) (by simp only [List.getElem?_toArray, List.getElem?_cons_succ, List.getElem?_cons_zero]; rfl) (by kernel_rfl) (by kernel_rfl) (by kernel_rfl) (fun _ _ _ h => h) (Or.inl ⟨by rfl, ?_⟩) (by assumption) ?_
        rotate_left
        · intro w hSw
          (try dsimp only at hSw)
          go_simp
          (try with_reducible rfl)
        simp only [Act.put, List.setIfInBounds_toArray, List.set_cons_zero, List.set_cons_succ]
        refine wpAnyH_take (i := 1) (v := ?_) (by simp only [List.getElem?_toArray, List.getElem?_cons_succ, List.getElem?_cons_zero]; rfl) (by kernel_rfl) (by kernel_rfl) (by kernel_rfl) (fun _ _ _ h => h) (Or.inl ⟨by rfl, ?_⟩) (by assumption) ?_
        rotate_left
        · intro w hSw
          (try dsimp only at hSw)
          go_simp
          (try with_reducible rfl)
        simp only [Act.put, List.setIfInBounds_toArray, List.set_cons_zero, List.set_cons_succ]
        refine wpAnyH_take (i := 2) (v := ?_) (by simp only [List.getElem?_toArray, List.getElem?_cons_succ, List.getElem?_cons_zero]; rfl) (by kernel_rfl) (by kernel_rfl) (by kernel_rfl) (fun _ _ _ h => h) (Or.inl ⟨by rfl, ?_⟩) (by assumption) ?_
        rotate_left
        · intro w hSw
          (try dsimp only at hSw)
          go_simp
          (try with_reducible rfl)
        simp only [Act.put, List.setIfInBounds_toArray, List.set_cons_zero, List.set_cons_succ]
        refine wpAnyH_take (i := 3) (v := ?_) (by simp only [List.getElem?_toArray, List.getElem?_cons_succ, List.getElem?_cons_zero]; rfl) (by kernel_rfl) (by kernel_rfl) (by kernel_rfl) (fun _ _ _ h => h) (Or.inl ⟨by rfl, ?_⟩) (by assumption) ?_
        rotate_left
        · intro w hSw
          (try dsimp only at hSw)
          go_simp
          (try with_reducible rfl)
        simp only [Act.put, List.setIfInBounds_toArray, List.set_cons_zero, List.set_cons_succ]
        refine wpAnyH_ready (rs := [4]) (by kernel_rfl) (by simp) ?_
        refine AllReadyH.cons (by simp only [List.getElem?_toArray, List.getElem?_cons_succ, List.getElem?_cons_zero]; rfl) (fun K hK => ?_) (AllReadyH.nil)
        go_simp
        go_at_call 26; with_reducible refine (HN.out _).mono ?_
        rintro e w4 ⟨rfl, kk⟩
        have hG4 := HGW.out.kept (Kept.trans (Kept.drew (Kept.refl _)) kk)
        refine hK.out _ _ ?_ (fun hHeld2 => ?_)
        · exact fiveO_kept hHeld kk
        clear hK K hHeld
        have hHeld := hHeld2
        clear hHeld2
        try simp only [Act.put, List.setIfInBounds_toArray, List.set_cons_zero, List.set_cons_succ]
        refine wpAnyH_ready (rs := [5]) (by kernel_rfl) (by simp) ?_
        refine AllReadyH.cons (by simp only [List.getElem?_toArray, List.getElem?_cons_succ, List.getElem?_cons_zero]; rfl) (fun K hK => ?_) (AllReadyH.nil)
        go_simp
        refine hK.out _ _ ?_ (fun hHeld2 => ?_)
        · exact fiveO_kept hHeld ((Kept.refl _).alloc _)
        clear hK K hHeld
        have hHeld := hHeld2
        clear hHeld2
        try simp only [Act.put, List.setIfInBounds_toArray, List.set_cons_zero, List.set_cons_succ]
        refine wpAnyH_ready (rs := [6]) (by kernel_rfl) (by simp) ?_
        refine AllReadyH.cons (by simp only [List.getElem?_toArray, List.getElem?_cons_succ, List.getElem?_cons_zero]; rfl) (fun K hK => ?_) (AllReadyH.nil)
        have hS5 := HasCells.new w4 #[.int .u64 n.1, .int .u64 n.2] 31 w4.heap.size rfl
        have hG5 := hG4.kept ((Kept.refl w4).alloc (.cells #[.int .u64 n.1, .int .u64 n.2] 31))
        have hb5 : some w4.heap.size ≠ some b := fun e => by
          have := hG4.lt
          injection e with e
          omega
        refine step_entry _ (by rfl) (.tmp 16) (.tmp 18) (by rfl) (b + 1) _ b j (by rfl) hG5 hjm y.p (by rfl) HX.out.1 ?_
        intro A6 c6 st w6 hP6 g6
        refine hK.out _ _ ?_ (fun hHeld2 => ?_)
        · exact fiveO_grown hHeld g6 hyb HRow.out
        clear hK K hHeld
        have hHeld := hHeld2
        clear hHeld2
        try simp only [Act.put, List.setIfInBounds_toArray, List.set_cons_zero, List.set_cons_succ]
        refine wpAnyH_take (i := 7) (v := ?_) (by simp only [List.getElem?_toArray, List.getElem?_cons_succ, List.getElem?_cons_zero]; rfl) (by kernel_rfl) (by kernel_rfl) (by kernel_rfl) (fun _ _ _ h => h) (Or.inl ⟨by rfl, ?_⟩) (by assumption) ?_
        rotate_left
        · intro w hSw
          (try dsimp only at hSw)
          go_simp
          (try with_reducible rfl)
        simp only [Act.put, List.setIfInBounds_toArray, List.set_cons_zero, List.set_cons_succ]
        refine wpAnyH_take (i := 9) (v := ?_) (by simp only [List.getElem?_toArray, List.getElem?_cons_succ, List.getElem?_cons_zero]; rfl) (by kernel_rfl) (by kernel_rfl) (by kernel_rfl) (fun _ _ _ h => h) (Or.inl ⟨by rfl, ?_⟩) (by assumption) ?_
        rotate_left
        · intro w hSw
          (try dsimp only at hSw)
          go_simp
          (try with_reducible rfl)
        simp only [Act.put, List.setIfInBounds_toArray, List.set_cons_zero, List.set_cons_succ]
        refine wpAnyH_ready (rs := [8]) (by kernel_rfl) (by simp) ?_
        refine AllReadyH.cons (by simp only [List.getElem?_toArray, List.getElem?_cons_succ, List.getElem?_cons_zero]; rfl) (fun K hK => ?_) (AllReadyH.nil)
        have hS6 := ids_one_at (hS5.grown g6 hb5)
        have hA6 := hP6.apart HX.out.1 hHeld.2.2.2.2.2.1 (by decide)
        refine step_grew _ (by rfl) (.tmp 19) (.tmp 22) (by rfl) (b + 1) _ b j y.p HX.out.1 _ (by rfl) st hP6 _ _ 1 n (by rfl) hS6 (by have := hle.out; omega) ?_
        intro A8 c8 w8 hG8 g8 hB8
        refine hK.out _ _ ?_ (fun hHeld2 => ?_)
        · exact fiveO_grown hHeld g8 hA6 (fun k e => Nat.le_trans HWl.out (Nat.le_trans (Nat.le_succ b) (hB8 k e)))
        clear hK K hHeld
        have hHeld := hHeld2
        clear hHeld2
        try simp only [Act.put, List.setIfInBounds_toArray, List.set_cons_zero, List.set_cons_succ]
        refine wpAnyH_ready (rs := [10]) (by kernel_rfl) (by simp) ?_
        refine AllReadyH.cons (by simp only [List.getElem?_toArray, List.getElem?_cons_succ, List.getElem?_cons_zero]; rfl) (fun K hK => ?_) (AllReadyH.nil)
        refine step_store _ (by rfl) (.tmp 16) (.tmp 25) (.tmp 24) (by rfl) (b + 1) _ b j (by rfl) y.p n HX.out.1 st (by rfl) _ (by rfl) hG8 ?_
        intro w10 hG10 g10
        refine hK.out _ _ ?_ (fun hHeld2 => ?_)
        · exact fiveO_grown hHeld g10 hyb HRow.out
        clear hK K hHeld
        have hHeld := hHeld2
        clear hHeld2
        try simp only [Act.put, List.setIfInBounds_toArray, List.set_cons_zero, List.set_cons_succ]
        refine wpAnyH_done (by kernel_rfl) ?_ _
        refine NoPanic.normal ?_
        have HG10 := Lib.hid hG10
        have HK10 := Lib.hid hHeld.2.2.2.2.2.2
        clear hHeld hG10 g10 hG8 g8 hB8 hP6 g6 hS6 hA6 hS5 hG5 hb5 hG4 kk c0 c1 c2 c3 c4
        go_wp2_with fail
        go_roundw
        case rel => exact ⟨j + 1, by omega, by go_num, HG10.out.congr (fun z _ => (HNx.out z).symm), HK10.out⟩
        case measure => simp [intOf]; omega
      · have hjl : j = l.length := by omega
        subst hjl
        rw [List.take_length] at HGr
        go_wp2_with fail
        go_ret
        exact ⟨_, rfl, Or.inr ⟨b, l.length, b + 1, rfl, HGr.out.congr fun y _ => HR.out y⟩, HK.out.trans HKr.out⟩
end

end Go.Proofs.YtpojiijgahcidaaGreat
