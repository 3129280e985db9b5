/-
  The contract of package tree's call places: whether blocks may be, and where each is, by its name.
-/
import Derived.Test.YtepgbnojbomicaaTreeSlot
namespace Go.Proofs.Ytepgbnojbomicaa
open Go.ChangeShapes Go.WideShapes Go.ChangeAt Go.RowKit

theorem run_makeHint (n : Nat) (w : World) : (Instr.makeMap 44 (some (.int .i64 (n : Int)))).run Try.prog w = .ok (.map (some w.heap.size)) (w.alloc (.map #[] 0)) := by
  simp [Instr.makeMap, run_underlying Try.underlying44, go_sem]
/-- What places hands back. -/
def PlacesOf (l : List Bk) (w : World) (e : Ending) (w' : World) : Prop :=
  Kept w w' ∧ ((mayB l = true ∧ ∃ b m D, e = .returned (.tuple #[.map (some b), .bool true]) ∧ w.heap.size ≤ b ∧ MapOf (namesB l) b m D w') ∨ (mayB l = false ∧ e = .returned (.tuple #[.map none, .bool false])))
def WfL (l : List Bk) : Prop := ∀ b ∈ l, WfB b

theorem may_step {l : List Bk} {k : Nat} (hk : k < l.length) (h : mayTo l k = true) : mayTo l (k + 1) = (!standsN (namesB (l.take k)) (nameB l[k]) && rightB (l.take k) l[k]) := by
  rw [mayTo_succ hk, h]; rfl
theorem names_step {l : List Bk} {k : Nat} (hk : k < l.length) : namesB (l.take (k + 1)) = namesB (l.take k) ++ [nameB l[k]] := by
  rw [List.take_succ_eq_append_getElem hk, namesB_snoc]
theorem not_stands {ns : List Id2} {n : Id2} (h : standsN ns n = false) : posN ns n = none := by
  cases q : posN ns n with
  | none => rfl
  | some i => rw [standsN_hit q] at h; cases h

set_option maxRecDepth 100000 in
set_option maxHeartbeats 1600000 in
theorem places_any (A : Option Addr) (c : Nat) (l : List Bk) (hl : l.length ≤ 1000000) (hw : WfL l) (w : World) (hA : CellsAt w w.heap.size A (blockCells l)) :
    Calls Try.prog 28 #[.slice A l.length c] w (PlacesOf l w) := by
  have HA := Lib.hid hA
  have HW := Lib.hid hw
  have hmm := run_makeHint l.length w
  have HM := Lib.hid (MapOf.made w)
  clear hA hw
  go_enter Try.func28, Try.ntmps28
  go_wp2_with fail
  go_loopw [13] (fun i w' => ∃ k m D, k ≤ l.length ∧ m ≤ k ∧ i = .int .i64 (k : Nat) ∧ MapOf (namesB (l.take k)) w.heap.size m D w' ∧ Kept w w' ∧ mayTo l k = true) (fun i _ => l.length - (intOf i).toNat)
  case atStart =>
    exact ⟨0, 0, .map [], by omega, by omega, rfl, HM.out, (Kept.refl w).alloc _, rfl⟩
  case round =>
    obtain ⟨k, m, D, hk, hmk, rfl, hM, hK, hy⟩ := hrel
    have HR := Lib.hid hM
    have HK := Lib.hid hK
    have HY := Lib.hid hy
    clear hM hK hy HM
    by_cases hlt : k < l.length
    · obtain ⟨z, o, rfl, hb, c0, c1, c2, c3, c4⟩ := block_at (HA.out.kept HK.out) hlt
      have HX := Lib.hid (HW.out l[k] (List.getElem_mem hlt))
      have HO := Lib.hid (may_step hlt HY.out)
      have HTT := Lib.hid (names_step hlt)
      generalize l[k] = x at *
      go_wp2_with fail
      refine (name_any x HX.out _).mono ?_
      rintro e W1 ⟨rfl, k1⟩
      have HB1 := Lib.hid (((HasCells.new wr #[.int .i64 x.s, .int .i64 x.f, .int .u64 x.p.1, .int .u64 x.p.2, .int .u64 x.t] 36 wr.heap.size rfl).kept k1).alloc (.cells #[.int .u64 (nameB x).1, .int .u64 (nameB x).2] 25))
      have HK1 := Lib.hid (((HK.out.alloc _).trans k1).alloc (.cells #[.int .u64 (nameB x).1, .int .u64 (nameB x).2] 25))
      have HM1 := Lib.hid (((HR.out.kept ((Kept.refl wr).alloc _)).kept k1).kept ((Kept.refl W1).alloc (.cells #[.int .u64 (nameB x).1, .int .u64 (nameB x).2] 25)))
      have HC1 := Lib.hid (HasCells.new W1 #[.int .u64 (nameB x).1, .int .u64 (nameB x).2] 25 W1.heap.size rfl)
      have HN := Lib.hid (nameB_lt x)
      clear k1 c0 c1 c2 c3 c4 HR HK
      generalize nameB x = n at *
      go_wp2_with fail
      generalize W1.alloc (.cells #[.int .u64 n.1, .int .u64 n.2] 25) = W2 at *
      generalize W1.heap.size = z1 at *
      generalize wr.heap.size = z0 at *
      refine (stands_any _ _ m D n HN.out W2 HM1.out).mono ?_
      rintro e W3 ⟨rfl, k3⟩
      have HK3 := Lib.hid (HK1.out.trans k3)
      have HM3 := Lib.hid (HM1.out.kept k3)
      have HC3 := Lib.hid (HC1.out.kept k3)
      have HA3 := Lib.hid (HA.out.kept (HK1.out.trans k3))
      obtain ⟨c0, c1, c2, c3, c4⟩ := (HB1.out.kept k3).five
      have HB3 := Lib.hid (HB1.out.kept k3)
      clear k3 HK1 HM1 HC1 HB1
      cases hs : standsN (namesB (l.take k)) n with
      | true =>
        have HE := Lib.hid (show mayB l = false from mayTo_no hlt (by rw [HO.out, hs]; rfl))
        clear hs
        go_wp2_with fail
        go_ret2
        exact ⟨HK3.out, Or.inr ⟨HE.out, rfl⟩⟩
      | false =>
        have HS := Lib.hid hs
        clear hs
        go_wp2_with fail
        refine (right_any _ c l k hk hl _ m D x HX.out W3 HA3.out HM3.out).mono ?_
        rintro e W4 ⟨rfl, k4⟩
        have HK4 := Lib.hid (HK3.out.trans k4)
        have HM4 := Lib.hid (HM3.out.kept k4)
        have HC4 := Lib.hid (HC3.out.kept k4)
        clear k4 HK3 HM3 HC3 HB3 c0 c1 c2 c3 c4
        cases hr : rightB (l.take k) x with
        | false =>
          have HE := Lib.hid (show mayB l = false from mayTo_no hlt (by rw [HO.out, hr, Bool.and_false]))
          clear hr
          go_wp2_with fail
          go_ret2
          exact ⟨HK4.out, Or.inr ⟨HE.out, rfl⟩⟩
        | true =>
          have HE := Lib.hid (show mayTo l (k + 1) = true by rw [HO.out, hr, HS.out]; rfl)
          have HQ := Lib.hid (not_stands HS.out)
          have HLn := Lib.hid (show (namesB (l.take k)).length = k by rw [namesB_length, List.length_take]; omega)
          have hown := HM4.out.1
          have hkey := key_of HN.out
          have hmx : m < maxLen := by unfold maxLen; omega
          have hval : plainElem (H := Unit) Try.prog 3 (.int .i64 (k : Int)) = some (.lit (.int .i64 (k : Int)), []) := plainElem_int Try.underlying3 (Go.WalkArith.wf_i64 (by omega))
          obtain ⟨c0, c1⟩ := HC4.out.two
          clear hr
          go_wp2_with (at_mapUpdate; refine wpList_mapUpdate_own _ rfl _ _ _ 44 rfl 25 3 Try.keyedID Try.underlying44 _ _ _ _ rfl hown hmx _ _ _ rfl rfl hkey (.lit (.int .i64 (k : Int))) [] hval ?_; intro w1 hown1 hgrow1)
          go_roundw
          case rel =>
            refine ⟨k + 1, m + 1, D.put (keyI n) (.lit (.int .i64 (k : Int))), by omega, by omega, by go_num, ⟨hown1, ?_⟩, HK4.out.grown hgrow1 (fun i hi => by cases hi; exact Nat.le_refl _), HE.out⟩
            intro y hy
            have := HM4.out.put HN.out HQ.out y hy
            rw [HLn.out, ← HTT.out] at this
            exact this
          case measure => simp [intOf]; omega
    · have hkl : k = l.length := by omega
      subst hkl
      have HT := Lib.hid (show l.take l.length = l from List.take_length)
      go_wp2_with fail
      go_ret2
      exact ⟨HK.out, Or.inl ⟨HY.out, w.heap.size, m, D, rfl, Nat.le_refl _, by rw [HT.out] at HR; exact HR.out⟩⟩

end Go.Proofs.Ytepgbnojbomicaa
