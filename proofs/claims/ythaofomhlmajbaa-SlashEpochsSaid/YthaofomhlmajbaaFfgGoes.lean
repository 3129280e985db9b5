/-
  The contract of ffg's strong: where strong links go.
-/
import Derived.Deep.LoopGhost
import Derived.Test.YthaofomhlmajbaaFfgVoters
import Derived.Test.YthaofomhlmajbaaRangeF
namespace Go.Proofs.Ythaofomhlmajbaa
set_option maxRecDepth 100000
set_option linter.unusedVariables false
set_option linter.unusedSimpArgs false
set_option linter.unusedSimpArgs false
set_option linter.unusedVariables false
open Go.ChangeShapes Go.WideShapes Go.ChangeAt Go.RowKit

theorem HasCells.six {w : World} {b : Nat} {c0 c1 c2 c3 c4 c5 : Value} (h : HasCells w b [c0, c1, c2, c3, c4, c5]) :
    w.cell? ⟨b, 0, none⟩ = some c0 ∧ w.cell? ⟨b, 1, none⟩ = some c1 ∧ w.cell? ⟨b, 2, none⟩ = some c2 ∧ w.cell? ⟨b, 3, none⟩ = some c3 ∧ w.cell? ⟨b, 4, none⟩ = some c4 ∧ w.cell? ⟨b, 5, none⟩ = some c5 :=
  ⟨h.2 0 _ rfl, h.2 1 _ rfl, h.2 2 _ rfl, h.2 3 _ rfl, h.2 4 _ rfl, h.2 5 _ rfl⟩
def okW (k : Cf) (g : Id2 → Option (Nat × Nat)) (v : List Lk) (x : Ck × Ck) : Bool := (wayK x.1 x.2 && underR g x.1.r x.2.r) && enoughK k (whoW k v x)
/-- Where the ways of a list go from s. -/
def goesOf (A : List (Ck × Ck)) (s : Ck) : List Ck := (A.filter fun x => decide (x.1 = s)).map (·.2)
theorem goesOf_snoc (A : List (Ck × Ck)) (x : Ck × Ck) : goesOf (A ++ [x]) = growG (goesOf A) x.1 x.2 := by
  funext s
  unfold goesOf growG setF
  rw [List.filter_append, List.map_append]
  by_cases e : s = x.1
  · rw [if_pos e, e, List.filter_cons_of_pos (by simp), List.filter_nil]; rfl
  · rw [if_neg e, List.filter_cons_of_neg (by simpa using fun q => e q.symm), List.filter_nil]; simp
theorem goesOf_length (A : List (Ck × Ck)) (s : Ck) : (goesOf A s).length ≤ A.length := by unfold goesOf; rw [List.length_map]; exact List.length_filter_le _ _
theorem mem_goesOf {A : List (Ck × Ck)} {s x : Ck} : x ∈ goesOf A s ↔ (s, x) ∈ A := by
  unfold goesOf
  rw [List.mem_map]
  constructor
  · rintro ⟨y, hy, rfl⟩
    obtain ⟨h1, h2⟩ := List.mem_filter.1 hy
    have e : y.1 = s := of_decide_eq_true h2
    rw [← e]; exact h1
  · intro h
    exact ⟨(s, x), List.mem_filter.2 ⟨h, by simp⟩, rfl⟩
/-- The ways that are strong, among those that have come. -/
structure GoI (ok h t : Ck × Ck → Bool) (n cnt : Nat) (A : List (Ck × Ck)) : Prop where
  wf : ∀ x ∈ A, WfWay x
  all : ∀ x, WfWay x → (x ∈ A ↔ h x = true ∧ t x = false ∧ ok x = true)
  len : A.length + cnt ≤ n
theorem GoI.start (ok h : Ck × Ck → Bool) {n cnt : Nat} (hc : cnt ≤ n) : GoI ok h h n cnt [] := ⟨fun x hx => (by cases hx), fun x _ => (by cases h x <;> simp), by simpa using hc⟩
theorem GoI.hit {ok h t : Ck × Ck → Bool} {n cnt cnt' : Nat} {A : List (Ck × Ck)} (I : GoI ok h t n cnt A) {x : Ck × Ck} (hx : WfWay x) (h1 : t x = true) (h2 : h x = true) (h3 : ok x = true) (hc : cnt' < cnt) : GoI ok h (offF t x) n cnt' (A ++ [x]) := by
  refine ⟨fun y hy => ?_, fun y hy => ?_, by have := I.len; simp; omega⟩
  · rcases List.mem_append.1 hy with q | q
    · exact I.wf y q
    · rw [show y = x by simpa using q]; exact hx
  · rw [List.mem_append, I.all y hy]
    unfold offF
    by_cases e : y = x
    · subst e; simp [h2, h3]
    · simp [e]
theorem GoI.miss {ok h t : Ck × Ck → Bool} {n cnt cnt' : Nat} {A : List (Ck × Ck)} (I : GoI ok h t n cnt A) {x : Ck × Ck} (h3 : ok x = false) (hc : cnt' < cnt) : GoI ok h (offF t x) n cnt' A := by
  refine ⟨I.wf, fun y hy => ?_, by have := I.len; omega⟩
  rw [I.all y hy]
  unfold offF
  by_cases e : y = x
  · subst e; simp [h3]
  · simp [e]
def GoesNew (k : Cf) (g : Id2 → Option (Nat × Nat)) (v : List Lk) (w : World) (e : Ending) (w' : World) : Prop := ∃ (b m B : Nat) (A : List (Ck × Ck)), e = .returned (.map (some b)) ∧ m ≤ v.length ∧ A.length ≤ v.length ∧
  Group ckKey ckRow B (goesOf A) b m w' ∧ (∀ x ∈ A, WfWay x) ∧ (∀ x, WfWay x → (x ∈ A ↔ okW k g v x = true)) ∧ w.heap.size ≤ b ∧ Kept w w'
theorem okW_empty {k : Cf} {g : Id2 → Option (Nat × Nat)} {v : List Lk} {x : Ck × Ck} (h : whoW k v x = []) : okW k g v x = false := by
  unfold okW enoughK
  rw [h]; simp

set_option maxRecDepth 100000 in
set_option maxHeartbeats 3200000 in
theorem strong_any (A : Option Addr) (c : Nat) (k : Cf) (hk : k.ws.length ≤ 1000) (bo mo : Nat) (g : Id2 → Option (Nat × Nat)) (V : Option Addr) (cv : Nat) (v : List Lk) (hv : v.length ≤ 10000) (hwv : WfLks v) (w : World) (hA : CellsAt w w.heap.size A (intCells k.ws)) (hV : CellsAt w w.heap.size V (lksCells v)) (hM : ReachM bo mo g w) :
    Calls Try.prog 29 #[.agg #[.slice A k.ws.length c, .int .u64 k.seed, .int .i64 k.ep, .int .i64 k.nu, .int .i64 k.de], .map (some bo), .slice V v.length cv] w (GoesNew k g v w) := by
  have K0 := Lib.hid ((Kept.refl w).alloc (.cells #[.slice A k.ws.length c, .int .u64 k.seed, .int .i64 k.ep, .int .i64 k.nu, .int .i64 k.de] 37))
  have HC := Lib.hid (HasCells.new w #[.slice A k.ws.length c, .int .u64 k.seed, .int .i64 k.ep, .int .i64 k.nu, .int .i64 k.de] 37 w.heap.size rfl)
  have HA := Lib.hid (hA.kept K0.out)
  have HV := Lib.hid (hV.kept K0.out)
  have HM := Lib.hid (hM.kept K0.out)
  have HWs : Hid ((w.alloc (.cells #[.slice A k.ws.length c, .int .u64 k.seed, .int .i64 k.ep, .int .i64 k.nu, .int .i64 k.de] 37)).heap.size = w.heap.size + 1) := Lib.hid (World.size_alloc _ _)
  have hmm := @run_makeMap Try.prog
  have HVl := Lib.hid hv
  have HW := Lib.hid hwv
  have HEm : Hid (∀ x, whoW k v x = [] → okW k g v x = false) := Lib.hid (fun x h => okW_empty h)
  have HL := Lib.hid (fun x => whoW_length k v x)
  clear hA hV hM hwv hv
  go_enter Try.func29, Try.ntmps29
  go_wp2_with fail
  clear hmm
  have KM := Lib.hid ((Kept.refl (w.alloc (.cells #[.slice A k.ws.length c, .int .u64 k.seed, .int .i64 k.ep, .int .i64 k.nu, .int .i64 k.de] 37))).alloc (.map #[] 0))
  have HG0 : Hid (OwnF ckKey (sliceV ckRow.sl ckRow.szero) (w.heap.size + 1) 0 (fun _ => .slice none 0 0) ((w.alloc (.cells #[.slice A k.ws.length c, .int .u64 k.seed, .int .i64 k.ep, .int .i64 k.nu, .int .i64 k.de] 37)).alloc (.map #[] 0))) := Lib.hid (by have h := OwnF.made (K := ckKey) (V := sliceV ckRow.sl ckRow.szero) (w.alloc (.cells #[.slice A k.ws.length c, .int .u64 k.seed, .int .i64 k.ep, .int .i64 k.nu, .int .i64 k.de] 37)); rw [World.size_alloc] at h; exact h)
  generalize w.alloc (.cells #[.slice A k.ws.length c, .int .u64 k.seed, .int .i64 k.ep, .int .i64 k.nu, .int .i64 k.de] 37) = W at *
  generalize hz : w.heap.size = z at *
  replace hz := Lib.hid hz
  refine (voters_any A c k hk V cv v HVl.out HW.out _ (HA.out.kept KM.out) (HV.out.kept KM.out)).mono ?_
  rintro e W1 ⟨bv, mv, Bv, rfl, hmv, hGv, hbv, k1⟩
  have HGv := Lib.hid hGv
  have HK1 := Lib.hid (KM.out.trans k1)
  have HG1 := Lib.hid (HG0.out.kept k1)
  have HBv := Lib.hid (show z + 2 ≤ bv by have := HWs.out; simp at hbv; omega)
  have HMv := Lib.hid hmv
  clear hGv hbv k1 hmv HG0 KM
  generalize hf : whoW k v = f at *
  have HFf := Lib.hid hf
  clear hf
  go_wp2_with (refine wpList_rangeG (K := wayKey) (S := intRow) _ rfl _ 86 rfl Try.underlying86 Bv f bv mv (z + 2) HBv.out rfl HGv.out ?_; intro h cnt w2 hcnt hne hR hg2 hs2)
  have k2 : Kept W1 w2 := (Kept.refl W1).grown hg2 (fun k e => by cases e)
  have HK2 := Lib.hid (HK1.out.trans k2)
  have HR2 := Lib.hid hR
  have HG2 := Lib.hid (Group.empty (HG1.out.kept k2) (W1.heap.size + 1) (by have := HG1.out.lt; omega) (by omega))
  have HNe := Lib.hid hne
  have HCn := Lib.hid hcnt
  have HLo := Lib.hid (show z + 1 < W1.heap.size from HG1.out.lt)
  have hbz : bv < W1.heap.size := HGv.out.lt
  clear hR hg2 hs2 hne hcnt k2 HG1 HGv HK1
  generalize W1.heap.size = r at *
  have HF : Hid (∀ x, okW k g v x = ((wayK x.1 x.2 && underR g x.1.r x.2.r) && enoughK k (f x))) := Lib.hid (by intro x; unfold okW; rw [HFf.out])
  go_frame
  go_loopg [9] cnt (fun n p wr => ∃ (t : Ck × Ck → Bool) (A0 : List (Ck × Ck)) (m : Nat), RangeG wayKey intRow (z + 2) (r + 1) bv r mv f h t n wr ∧ Group ckKey ckRow (r + 1) (goesOf A0) (z + 1) m wr ∧ Kept W wr ∧ m ≤ A0.length ∧ GoI (okW k g v) h t mv n A0)
  case atStart => exact ⟨h, [], 0, HR2.out, HG2.out, HK2.out, Nat.zero_le _, GoI.start (okW k g v) h HCn.out⟩
  case round =>
    obtain ⟨t, A0, m, hR, hG, hK, hm, hI⟩ := hrel
    clear HR2 HG2 HK2
    have HG := Lib.hid hG
    have HK := Lib.hid hK
    have HI := Lib.hid hI
    have HMm := Lib.hid hm
    clear hG hK hI hm
    go_wp2_with (refine wpList_nextG (K := wayKey) (S := intRow) _ rfl _ rfl (fun v kl h => way_inv h) (z + 2) (r + 1) bv r mv f h t gk rfl hR (fun h0 hl => ?_) (fun x A1 c1 w3 n3 hx ht hh hR3 hlt3 g3 hr3 hen => ?_); rotate_left; (have hkx : wayKey.key x = .agg #[.int .i64 x.1.e, .int .u64 x.1.r.1, .int .u64 x.1.r.2, .int .i64 x.2.e, .int .u64 x.2.r.1, .int .u64 x.2.r.2] := rfl); rw [hkx] at hen ⊢; clear hkx; rotate_left)
    · have HEnd := Lib.hid (show (∀ x ∈ A0, WfWay x) ∧ (∀ x, WfWay x → (x ∈ A0 ↔ okW k g v x = true)) from ⟨HI.out.wf, fun x hx => by
        rw [HI.out.all x hx]
        refine ⟨fun q => q.2.2, fun q => ⟨?_, hl x hx, q⟩⟩
        cases hh : h x with
        | true => rfl
        | false => rw [HEm.out x (HNe.out x hx hh)] at q; cases q⟩)
      have HLen := Lib.hid HI.out.len
      clear HI hl
      go_wp2_with fail
      go_ret
      have h1 := HLen.out
      have h2 := HMv.out
      exact ⟨z + 1, m, r + 1, A0, rfl, by have := HMm.out; omega, by omega, HG.out, HEnd.out.1, HEnd.out.2, by rw [hz.out]; exact Nat.le_succ _, K0.out.trans HK.out⟩
    · have hrb : wr.grownBy w3 (some r) := g3
      have HK3 := Lib.hid (HK.out.grown g3 (fun k e => by cases e; have := HLo.out; have := HWs.out; omega))
      have HG3 := Lib.hid (HG.out.off g3 (fun j e => by cases e; have := HLo.out; exact ⟨by omega, by omega⟩))
      have HR3 := Lib.hid hR3
      have HX : Hid (WfWay x) := Lib.hid hx
      have HEn : Hid (CellsAt w3 w3.heap.size A1 (intCells (f x))) := Lib.hid hr3
      have HIt := Lib.hid (fun q => HI.out.hit hx ht hh q hlt3)
      have HIm := Lib.hid (fun q => HI.out.miss (x := x) q hlt3)
      have HLt := Lib.hid hlt3
      have HFx := Lib.hid (HF.out x)
      clear hrb g3 hR3 hx hr3 ht hh hlt3 HI HK HG
      obtain ⟨c0, c1', c2, c3, c4⟩ := (HC.out.kept HK3.out).five
      have hzl := (HC.out.kept HK3.out).1
      go_wp2_with fail
      have kA : Kept w3 (w3.alloc (.cells #[.int .i64 x.1.e, .int .u64 x.1.r.1, .int .u64 x.1.r.2, .int .i64 x.2.e, .int .u64 x.2.r.1, .int .u64 x.2.r.2] 89)) := (Kept.refl w3).alloc _
      have HKA := Lib.hid kA
      have HE4 := Lib.hid (HEn.out.kept kA)
      clear HEn
      have HY := Lib.hid (HasCells.new w3 #[.int .i64 x.1.e, .int .u64 x.1.r.1, .int .u64 x.1.r.2, .int .i64 x.2.e, .int .u64 x.2.r.1, .int .u64 x.2.r.2] 89 w3.heap.size rfl)
      have HYg := Lib.hid (show r + 1 ≤ w3.heap.size from by obtain ⟨_, _, _, _, h4, _⟩ := HR3.out; exact h4)
      generalize w3.alloc (.cells #[.int .i64 x.1.e, .int .u64 x.1.r.1, .int .u64 x.1.r.2, .int .i64 x.2.e, .int .u64 x.2.r.1, .int .u64 x.2.r.2] 89) = w4 at *
      generalize w3.heap.size = y at *
      clear kA
      refine (wayMay_any bo mo g x HX.out w4 (HM.out.kept (HK3.out.trans HKA.out))).mono ?_
      rintro e w5 ⟨rfl, k5⟩
      have HK5 := Lib.hid (HKA.out.trans k5)
      have HY5 := Lib.hid (HY.out.kept k5)
      have HE5 := Lib.hid (HE4.out.kept k5)
      clear k5 HKA HY HE4 c0 c1' c2 c3 c4 hzl
      generalize hwm : (wayK x.1 x.2 && underR g x.1.r x.2.r) = wm at *
      clear hwm
      cases wm with
      | false =>
        have HN := Lib.hid (HIm.out (by rw [HFx.out]; rfl))
        clear HIt HIm HFx
        go_wp2_with fail
        go_roundg n3
        case measure => exact HLt.out
        case rel => exact ⟨offF t x, A0, m, HR3.out.kept HK5.out, HG3.out.kept HK5.out, HK3.out.trans HK5.out, HMm.out, HN.out⟩
      | true =>
        obtain ⟨c0, c1', c2, c3, c4⟩ := (HC.out.kept (HK3.out.trans HK5.out)).five
        go_wp2_with fail
        refine (enough_any A c k hk A1 c1 (f x) (by have := HL.out x; have := HVl.out; omega) w5 (HA.out.kept (HK3.out.trans HK5.out)) HE5.out).mono ?_
        rintro e w6 ⟨rfl, k6⟩
        have HK6 := Lib.hid (HK5.out.trans k6)
        have HY6 := Lib.hid (HY5.out.kept k6)
        clear k6 HK5 HY5 c0 c1' c2 c3 c4
        generalize hen2 : enoughK k (f x) = en at *
        clear hen2
        cases en with
        | false =>
          have HN := Lib.hid (HIm.out (by rw [HFx.out]; rfl))
          clear HIt HIm HFx
          go_wp2_with fail
          go_roundg n3
          case measure => exact HLt.out
          case rel => exact ⟨offF t x, A0, m, HR3.out.kept HK6.out, HG3.out.kept HK6.out, HK3.out.trans HK6.out, HMm.out, HN.out⟩
        | true =>
          have HN := Lib.hid (HIt.out (by rw [HFx.out]; rfl))
          clear HIt HIm HFx
          have HGn := Lib.hid (goesOf_snoc A0 x)
          have HGl := Lib.hid (goesOf_length A0)
          have HAl := Lib.hid HN.out.len
          have HG6 := Lib.hid (HG3.out.kept HK6.out)
          have HR6 := Lib.hid (HR3.out.kept HK6.out)
          have HK7 := Lib.hid (HK3.out.trans HK6.out)
          have HSz := Lib.hid (Nat.le_trans HYg.out (Nat.le_of_lt HY6.out.1))
          clear HG3 HR3 HK3 HK6
          obtain ⟨b0, b1, b2, b3, b4, b5⟩ := HY6.out.six
          generalize goesOf A0 = gs at *
          go_wp2_with (first
            | (refine wpList_gentry (K := ckKey) (S := ckRow) _ rfl 68 Try.underlying68 Try.lawCk _ _ rfl (r + 1) gs (z + 1) m rfl (HG6.out.kept ((Kept.refl _).alloc _)) (by have := HMm.out; have h1 := HAl.out; have := HMv.out; have := HVl.out; rw [List.length_append] at h1; unfold maxLen; omega) x.1 rfl HX.out.1 ?_; intro B1 d1 st w7 hP1 g1)
            | (refine wpList_gapp (K := ckKey) (S := ckRow) _ rfl _ _ rfl (ByEntry ckKey ckRow 68 (z + 1) m x.1 st) (r + 1) gs (z + 1) x.1 HX.out.1 (.slice B1 (gs x.1).length d1) rfl hP1 (fun V w' h e => ByEntry.at h e) _ _ _ x.2 rfl (row_grown (bk := w6.heap.size) rfl g1 (by have := HG6.out.lt; omega)) (by have := HGl.out x.1; have h1 := HAl.out; have := HMv.out; have := HVl.out; rw [List.length_append] at h1; omega) ?_; intro B2 d2 w8 hG2 g2 hB2)
            | (refine wpList_gstore (K := ckKey) (S := ckRow) _ rfl 68 _ _ _ rfl (r + 1) gs (z + 1) m rfl x.1 x.2 HX.out.1 st rfl _ rfl hG2 ?_; intro w9 hG3 g3))
          have HG9 := Lib.hid hG3
          have hlo := HLo.out
          have hws := HWs.out
          have HK9 := Lib.hid (((HK7.out.alloc (.cells #[.int .i64 x.2.e, .int .u64 x.2.r.1, .int .u64 x.2.r.2] 26)).grown g1 (fun k e => by cases e; omega)).grown g2 (fun k e => by have := hB2 k e; omega) |>.grown g3 (fun k e => by cases e; omega))
          have HR9 := Lib.hid ((((HR6.out.kept ((Kept.refl w6).alloc (.cells #[.int .i64 x.2.e, .int .u64 x.2.r.1, .int .u64 x.2.r.2] 26))).off g1 (fun j e => by cases e; omega)).off g2 (fun j e => Or.inr (hB2 j e))).off g3 (fun j e => by cases e; omega))
          clear hG3 g3 hG2 g2 hB2 hP1 g1 hlo hws b0 b1 b2 b3 b4 b5
          go_wp2_with fail
          go_roundg n3
          case measure => exact HLt.out
          case rel => exact ⟨offF t x, A0 ++ [x], m + 1, HR9.out, by rw [HGn.out]; exact HG9.out, HK9.out, by have := HMm.out; simp; omega, HN.out⟩

end Go.Proofs.Ythaofomhlmajbaa
