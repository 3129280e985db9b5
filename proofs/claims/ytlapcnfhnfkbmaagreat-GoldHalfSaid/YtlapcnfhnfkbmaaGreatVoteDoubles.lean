/-
  The contract of package votes' call Doubles.
-/
import Derived.Test.YtlapcnfhnfkbmaaGreatVoteOfG
import Derived.Test.YtlapcnfhnfkbmaaGreatIntSort
namespace Go.Proofs.YtlapcnfhnfkbmaaGreat
set_option maxRecDepth 100000
set_option linter.unusedVariables false
set_option linter.unusedSimpArgs false
open Go.ChangeShapes Go.WideShapes Go.ChangeAt Go.RowKit

theorem Ints.none {W w : World} (k : Kept W w) : Ints W [] (.slice none 0 0) w := ⟨World.ownsRow_nil _ _ _ _, k⟩
theorem Ints.slice {W w : World} {l : List Int} {v : Value} (h : Ints W l v w) : ∃ A c, v = .slice A l.length c := by
  rcases h.1.2 with ⟨hv, h0⟩ | ⟨g, cap, cur, hv, _⟩
  · rw [h0]; exact ⟨_, _, hv⟩
  · exact ⟨_, _, hv⟩
theorem Ints.turned {W w w' : World} {l : List Int} {v : Value} {r : Nat} (h : Ints W l v w) (hg : w.grownBy w' (some r)) (hr : W.heap.size ≤ r) (hne : some r ≠ v.ownBlock) : Ints W l v w' := by
  refine ⟨⟨h.1.1, ?_⟩, h.2.grown hg fun k hk => by cases hk; exact hr⟩
  rcases h.1.2 with h2 | ⟨g, cap, cur, hv, hb, hh, k⟩
  · exact Or.inl h2
  · refine Or.inr ⟨g, cap, cur, hv, hb, ?_, k⟩
    rw [hg.block g (h.1.lt g (by rw [hv]; rfl)).2 (by rw [hv] at hne; exact fun e => hne e.symm)]
    exact hh
/-- append of numbers, and where. -/
theorem wpList_nums {ops : Array Oper} {rest : List Oper} {o : Oper} {a : Act} {Q : Exit → Act → World → Prop} (w : World) (hgd : o.guard = none) (s x : Operand)
    (ho : o.op = .call { callee := .builtin .append, args := #[s, x], argTypes := #[22, 22] })
    (W : World) (l : List Int) (v : Value) (hs : a.eval s = v) (HB : Ints W l v w) (B : Nat) (A : Option Addr) (m c : Nat) (news : List Int) (hx : a.eval x = .slice A m c) (hl : news.length = m)
    (hr : CellsAt w B A (intCells news)) (hlen : l.length + m ≤ 10000000)
    (h : ∀ v' w', Ints W (l ++ news) v' w' → w.grownBy w' v.ownBlock → wpList Tryz.prog ops Q rest (a.put o.dst v') w') : wpList Tryz.prog ops Q (o :: rest) a w := by
  obtain ⟨i0, hi0, hz0, hz1, hz2⟩ := info_three Tryz.infoI
  refine wpList_app w hgd s x _ ho W.heap.size 3 i0 _ 1 8 Tryz.underlying22 hi0 hz0 hz1 hz2 rfl (by omega) v l.length (intCells l) hs HB.1 B A m c (intCells news) hx (by simp [hl]) hr (intCells_one _)
    (by unfold maxLen; omega) (by omega) HB.2.size_le ?_
  intro v' w' own g _
  refine h v' w' ⟨?_, HB.2.grown g fun i hi => (HB.1.lt i hi).1⟩ g
  rw [intCells_append] at own
  rw [List.length_append, hl]
  exact own
/-- What hands back the numbers of l, as a list that is new. -/
def NumsNew (l : List Int) (w : World) (e : Ending) (w' : World) : Prop :=
  ∃ A c, e = .returned (.slice A l.length c) ∧ CellsAt w' w'.heap.size A (intCells l) ∧ Kept w w'
theorem Ints.new {W w : World} {l : List Int} {A : Option Addr} {c : Nat} (h : Ints W l (.slice A l.length c) w) : NumsNew l W (.returned (.slice A l.length c)) w := ⟨A, c, rfl, CellsAt.of_own h.1, h.2⟩
/-- How the loop over the turns stands. -/
def DLoop (g : Turns) (slot : Int) (b m : Nat) (D : DataW Unit) (w : World) (r : Nat) (v : Value) (wr : World) : Prop :=
  ∃ (left : Lit → Bool) (t : Int → Int → Bool) (cnt : Nat) (R : List Int), wr.ranges Tryz.prog 90 (plainElem Tryz.prog 3) b r m D left cnt ∧
    (∀ f s, Wf64 f → Wf64 s → left (kT f s) = t f s) ∧ (∀ f s, t f s = true → g f s ≠ none) ∧ DInv g slot t R ∧ Ints w R v wr ∧ R.length + cnt ≤ m
/-- What hands back who is double. -/
def Doubled (L : List Vt) (s : Int) (w : World) (e : Ending) (w' : World) : Prop := ∃ R, Dbls L s R ∧ R.length ≤ L.length ∧ NumsNew R w e w'

set_option maxRecDepth 100000 in
set_option maxHeartbeats 1600000 in
theorem doubles_any (A : Option Addr) (c : Nat) (L : List Vt) (hl : L.length ≤ 1000000) (hw : WfVs L) (slot : Int) (w : World) (hA : CellsAt w w.heap.size A (votesCells L)) :
    Calls Tryz.prog 26 #[.slice A L.length c, .int .i64 slot] w (Doubled L slot w) := by
  have HA := Lib.hid hA
  have HW := Lib.hid hw
  have eg : ∀ args w, (callFunc 76 args).run Tryz.prog w = .ok (.enter 76 args) w := enters_of Tryz.func76 (by kernel_rfl) rfl
  clear hA hw
  go_enter Tryz.func26, Tryz.ntmps26
  go_wp2_with fail
  refine (only_any slot w).mono ?_
  rintro e W1 ⟨z, rfl, hz, k1⟩
  have HZ := Lib.hid hz
  have HK1 := Lib.hid k1
  clear hz k1
  go_wp2_with fail
  refine (gather_any A c L hl HW.out _ _ (isQ slot) W1 (HA.out.kept HK1.out) (isFits z slot W1 HZ.out) eg).mono ?_
  rintro e W2 ⟨b, m, D, g, rfl, hb, hm, hM, hT, hG, k2⟩
  have HK2 := Lib.hid (HK1.out.trans k2)
  have HT := Lib.hid hT
  have HG := Lib.hid hG
  have HS := Lib.hid hM.size_le
  have hown := hM
  have hzw := HK2.out.size_le
  clear k2 hM hT hG HZ
  go_wp2_with (at_range; refine wpList_range_own _ rfl _ 87 rfl 90 3 Tryz.keyedT Tryz.underlying87 _ b m D rfl hown ?_; intro w0 hrg0 hg0 hs0)
  go_frame
  have HS0 := Lib.hid (show DLoop g slot b m D w W2.heap.size (.slice none 0 0) w0 from ⟨_, fun f s => (g f s).isSome, _, [], hrg0, HT.out.left, (fun f s k e => by simp [e] at k), DInv.start g slot, Ints.none (HK2.out.grown hg0 (fun k hk => by cases hk)), by rw [List.length_nil, Nat.zero_add]; exact HS.out⟩)
  clear hrg0 hg0 hs0 hown
  generalize W2.heap.size = r at *
  go_loopw [5] (fun v wr => DLoop g slot b m D w r v wr) (fun _ wr => wr.rangeLeft b r)
  case atStart => exact HS0.out
  case round =>
    clear HS0
    obtain ⟨left, t, cnt, R, hrg, hL, hLG, hI, hV, hmc⟩ := hrel
    have HR := Lib.hid hrg
    have HL := Lib.hid hL
    have HLG := Lib.hid hLG
    have HI := Lib.hid hI
    have HV := Lib.hid hV
    clear hL hLG hI hV hrg
    go_wp2_with (at_next; refine wpList_nextT _ rfl _ rfl b r m D g HT.out left t HL.out (fun f s _ _ => HLG.out f s) cnt rfl HR.out ?_ ?_)
    · intro hc0 hl0
      have HE := Lib.hid (HI.out.done HG.out fun f k => hl0 f slot (HG.out.wf HW.out k).1 (HG.out.wf HW.out k).2)
      clear hl0
      go_wp2_with fail
      have hlen : R.length ≤ 10000000 := by omega
      refine (sortI_any w wr R u5 hlen HV.out).mono ?_
      rintro e W3 ⟨rfl, S, hp, hs, hV3⟩
      have HC := Lib.hid (dbls_of_sorted HE.out hp hs)
      have HSl := Lib.hid hp.length_eq
      obtain ⟨A', c', rfl⟩ := hV3.slice
      have HN := Lib.hid hV3.new
      clear hp hs hV3 HV
      go_wp2_with fail
      go_ret
      exact ⟨S, HC.out, by rw [HSl.out]; omega, HN.out⟩
    · intro f0 s0 i left' w1 cnt1 hf hs hi hhi hti hL1 hrg1 hlt hg1 hen
      have HV1 := Lib.hid (HV.out.turned hg1 hzw (row_ne_range HV.out.1 HR.out).2)
      have HR1 := Lib.hid hrg1
      have HL1 := Lib.hid hL1
      have hss : s0 = slot := isQ_iff.1 (HG.out.2 _ _ _ hhi).1
      subst hss
      have HHI := Lib.hid hhi
      have HTI := Lib.hid hti
      have hm0 := HR.out.left_eq
      clear hL1 hrg1 hg1 hhi hti HV hf hi hs
      have HB2 := Lib.hid (HasCells.new w1 #[.int .i64 f0, .int .i64 s0] 90 w1.heap.size rfl)
      have HV2 := Lib.hid (HV1.out.alloc (.cells #[.int .i64 f0, .int .i64 s0] 90))
      have HR2 := Lib.hid (HR1.out.alloc (.cells #[.int .i64 f0, .int .i64 s0] 90))
      by_cases hi1 : i = -1
      · subst hi1
        have HE := Lib.hid (HI.out.bad HHI.out HTI.out)
        have hll : R.length + 1 ≤ 10000000 := by omega
        have HR3 := Lib.hid (HR2.out.alloc (.cells #[.int .i64 f0] 3))
        have HV3 := Lib.hid (HV2.out.alloc (.cells #[.int .i64 f0] 3))
        have hne := row_ne_range HV3.out.1 HR3.out
        go_wp2_with (refine wpList_nums _ rfl _ _ rfl w R _ rfl HV3.out _ _ 1 1 [f0] rfl rfl (CellsAt.one _ (.int .i64 f0) _ _ (by simp)) hll ?_; intro v' w' HV' hg')
        have hrg3 := HR3.out.kept hg' hne.1 hne.2
        go_roundw
        case rel => exact ⟨left', strT t f0 s0, cnt1, R ++ [f0], hrg3, HL1.out, strT_le HLG.out f0 s0, HE.out, HV', by rw [List.length_append, List.length_singleton]; omega⟩
        case measure => rw [hrg3.left_eq, hm0]; exact hlt
      · have HE := Lib.hid (HI.out.good HHI.out hi1)
        go_wp2_with fail
        go_roundw
        case rel => exact ⟨left', strT t f0 s0, cnt1, R, HR2.out, HL1.out, strT_le HLG.out f0 s0, HE.out, HV2.out, by omega⟩
        case measure => rw [HR2.out.left_eq, hm0]; exact hlt

end Go.Proofs.YtlapcnfhnfkbmaaGreat
