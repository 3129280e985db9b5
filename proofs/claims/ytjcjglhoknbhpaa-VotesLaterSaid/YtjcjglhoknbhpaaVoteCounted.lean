/-
  The contracts of package votes' calls counted, Of and Last.
-/
import Derived.Test.YtjcjglhoknbhpaaVoteLasts
import Derived.Test.YtjcjglhoknbhpaaVoteSort
namespace Go.Proofs.Ytjcjglhoknbhpaa
open Go.ChangeShapes Go.WideShapes Go.ChangeAt Go.RowKit

theorem row_ne_range {P : Program} {k : TypeId} {R : Value → Option (DataW Unit × List MemPlace)} {w : World} {b r n : Nat} {D : DataW Unit} {left : Lit → Bool} {cnt base : Nat} {e : TypeId} {size : Nat} {v : Value} {m : Nat} {xs : List Value}
    (h : w.ownsRow base e size v m xs) (hr : w.ranges P k R b r n D left cnt) : some b ≠ v.ownBlock ∧ some r ≠ v.ownBlock := by
  obtain ⟨es, clock, _, _, _, hmp, _, _, _, hit, _⟩ := hr
  rcases h.2 with ⟨rfl, _⟩ | ⟨g, cap, cur, rfl, _, hb, _⟩
  · simp [Value.ownBlock]
  · constructor
    · intro e1
      have : b = g := by simpa [Value.ownBlock] using e1
      subst this
      rw [hmp] at hb
      cases hb
    · intro e1
      have : r = g := by simpa [Value.ownBlock] using e1
      subst this
      rw [hit] at hb
      cases hb
/-- How the loop over who has a vote stands. -/
def CLoop (L : List Vt) (q : Int → Bool) (h : Whos) (b m : Nat) (D : DataW Unit) (w : World) (r : Nat) (v : Value) (wr : World) : Prop :=
  ∃ (left : Lit → Bool) (t : Int → Bool) (cnt : Nat) (R : List Vt), wr.ranges Try.prog 3 (plainElem Try.prog 3) b r m D left cnt ∧
    (∀ f, Wf64 f → left (kW f) = t f) ∧ (∀ f, t f = true → h f ≠ none) ∧ CInv L q t R ∧ Vts w R v wr ∧ R.length + cnt ≤ m
theorem strW_le {t : Int → Bool} {h : Whos} (k : ∀ f, t f = true → h f ≠ none) (f0 : Int) : ∀ f, strW t f0 f = true → h f ≠ none := fun f e => k f (by
  unfold strW at e
  exact (Bool.and_eq_true_iff.1 e).1)
theorem Vts.drewN {W w : World} {l : List Vt} {v : Value} (h : Vts W l v w) (n : Nat) : Vts W l v (w.drewN n) := h.kept ((Kept.refl w).drewN n)
theorem Vts.turned {W w w' : World} {l : List Vt} {v : Value} {r : Nat} (h : Vts W l v w) (hg : w.grownBy w' (some r)) (hr : W.heap.size ≤ r) (hne : some r ≠ v.ownBlock) : Vts W l v w' := by
  refine ⟨⟨h.1.1, ?_⟩, h.2.grown hg fun k hk => by cases hk; exact hr⟩
  rcases h.1.2 with h2 | ⟨g, cap, cur, hv, hb, hh, k⟩
  · exact Or.inl h2
  · refine Or.inr ⟨g, cap, cur, hv, hb, ?_, k⟩
    rw [hg.block g (h.1.lt g (by rw [hv]; rfl)).2 (by rw [hv] at hne; exact fun e => hne e.symm)]
    exact hh
/-- What hands back the votes that count. -/
def Counted (L : List Vt) (q : Int → Bool) (w : World) (e : Ending) (w' : World) : Prop := ∃ R, Cnts L q R ∧ R.length ≤ L.length ∧ VtsNew R w e w'

set_option maxRecDepth 100000 in
set_option maxHeartbeats 1600000 in
theorem counted_any (A : Option Addr) (c : Nat) (L : List Vt) (hl : L.length ≤ 1000000) (hw : WfVs L) (f : Nat) (cb : Array Value) (q : Int → Bool) (w : World) (hA : CellsAt w w.heap.size A (votesCells L)) (hF : Fits f cb q w)
    (eg : ∀ args w, (callFunc f args).run Try.prog w = .ok (.enter f args) w) :
    Calls Try.prog 26 #[.slice A L.length c, .func (.func f) #[] cb] w (Counted L q w) := by
  have HA := Lib.hid hA
  have HW := Lib.hid hw
  have HF := Lib.hid hF
  clear hA hw hF
  go_enter Try.func26, Try.ntmps26
  go_wp2_with fail
  refine (gather_any A c L hl HW.out f cb q w HA.out HF.out eg).mono ?_
  rintro e W1 ⟨b1, m1, D1, g1, rfl, hb1, hm1, hM1, hT1, hG1, k1⟩
  have HK1 := Lib.hid k1
  have HM1 := Lib.hid hM1
  have HT1 := Lib.hid hT1
  have HG1 := Lib.hid hG1
  clear k1 hM1 hT1 hG1
  go_wp2_with fail
  refine (lasts_any A c L hl HW.out b1 m1 D1 g1 q W1 (HA.out.kept HK1.out) HM1.out HT1.out HG1.out hm1).mono ?_
  rintro e W2 ⟨b, m, D, h, rfl, hb, hm, hM, hT, hH, k2⟩
  have HK2 := Lib.hid (HK1.out.trans k2)
  have HT := Lib.hid hT
  have HH := Lib.hid hH
  have HS := Lib.hid hM.size_le
  have hown := hM
  have hbw : w.heap.size ≤ b := Nat.le_trans HK1.out.size_le hb
  clear k2 hM hT hH HM1 HT1 HG1 hb1 hm1
  have hzw := HK2.out.size_le
  go_wp2_with (at_range; refine wpList_range_own _ rfl _ 52 rfl 3 3 Try.keyedI Try.underlying52 _ b m D rfl hown ?_; intro w0 hrg0 hg0 hs0)
  go_frame
  have HS0 := Lib.hid (show CLoop L q h b m D w W2.heap.size (.slice none 0 0) w0 from ⟨_, fun f => (h f).isSome, _, [], hrg0, HT.out.left, (fun f k e => by simp [e] at k), CInv.start HH.out, Vts.none (HK2.out.grown hg0 (fun k hk => by cases hk)), by rw [List.length_nil, Nat.zero_add]; exact HS.out⟩)
  clear hrg0 hg0 hs0 hown
  generalize W2.heap.size = r at *
  go_loopw [5] (fun v wr => CLoop L q h b m D w r v wr) (fun _ wr => wr.rangeLeft b r)
  case atStart => exact HS0.out
  case round =>
    clear HS0
    obtain ⟨left, t, cnt, R, hrg, hL, hLG, hI, hV, hmc⟩ := hrel
    have HR := Lib.hid hrg
    have HL := Lib.hid hL
    have HLG := Lib.hid hLG
    have HI := Lib.hid hI
    have HV := Lib.hid hV
    clear hL hLG hI hV hrg
    go_wp2_with (at_next; refine wpList_nextW _ rfl _ rfl b r m D h HT.out left t HL.out (fun f _ => HLG.out f) cnt rfl HR.out ?_ ?_)
    · intro hc0 hl0
      have HE := Lib.hid (HI.out.done fun v k => hl0 v.f (HW.out v k.1).1)
      clear hl0
      go_wp2_with fail
      have hlen : R.length ≤ 10000000 := by omega
      refine (sortV_any w wr R u5 hlen HV.out).mono ?_
      rintro e W3 ⟨rfl, S, hp, hs, hV3⟩
      have HC := Lib.hid (cnts_of_sorted HE.out hp hs)
      have HSl := Lib.hid hp.length_eq
      obtain ⟨A', c', rfl⟩ := hV3.slice
      have HN := Lib.hid hV3.new
      clear hp hs hV3 HV
      go_wp2_with fail
      go_ret
      exact ⟨S, HC.out, by rw [HSl.out]; omega, HN.out⟩
    · intro f0 i left' w1 cnt1 hf hi hhi hti hL1 hrg1 hlt hg1 hen
      have HV1 := Lib.hid (HV.out.turned hg1 hzw (row_ne_range HV.out.1 HR.out).2)
      have HR1 := Lib.hid hrg1
      have HL1 := Lib.hid hL1
      have HHI := Lib.hid hhi
      have HTI := Lib.hid hti
      have hm0 := HR.out.left_eq
      clear hL1 hrg1 hg1 hhi hti HV hf hi
      by_cases hi1 : i = -1
      · subst hi1
        have HE := Lib.hid (CInv.bad HH.out HI.out HHI.out)
        go_wp2_with fail
        go_roundw
        case rel => exact ⟨left', strW t f0, cnt1, R, HR1.out, HL1.out, strW_le HLG.out f0, HE.out, HV1.out, by omega⟩
        case measure => rw [HR1.out.left_eq, hm0]; exact hlt
      · obtain ⟨n, hn, rfl⟩ : ∃ (n : Nat) (hn : n < L.length), i = (n : Int) := by
          rcases HH.out.2 _ _ HHI.out with ⟨e, _⟩ | ⟨n, hn, e, _⟩
          · exact absurd e hi1
          · exact ⟨n, hn, e⟩
        have HE := Lib.hid (CInv.good HH.out HI.out hn HHI.out HTI.out)
        obtain ⟨z, o, rfl, hzb, e0, e1, e2, e3⟩ := vote_at (HA.out.kept HV1.out.2) hn
        have hll : R.length + 1 ≤ 10000000 := by omega
        generalize L[n] = y at *
        have HR2 := Lib.hid (HR1.out.alloc (.cells #[.int .i64 y.f, .int .i64 y.s, .int .u64 y.p.1, .int .u64 y.p.2] 36))
        have HV2 := Lib.hid (HV1.out.alloc (.cells #[.int .i64 y.f, .int .i64 y.s, .int .u64 y.p.1, .int .u64 y.p.2] 36))
        have hne := row_ne_range HV2.out.1 HR2.out
        go_wp2_with (refine wpList_vts _ rfl _ _ rfl w R _ rfl HV2.out _ _ 1 1 [y] rfl rfl (votes_one_at (HasCells.new _ _ _ _ rfl)) hll ?_; intro v' w' HV' hg')
        have hrg3 := HR2.out.kept hg' hne.1 hne.2
        go_roundw
        case rel => exact ⟨left', strW t f0, cnt1, R ++ [y], hrg3, HL1.out, strW_le HLG.out f0, HE.out, HV', by rw [List.length_append, List.length_singleton]; omega⟩
        case measure => rw [hrg3.left_eq, hm0]; exact hlt

set_option maxHeartbeats 800000 in
theorem of_any (A : Option Addr) (c : Nat) (L : List Vt) (hl : L.length ≤ 1000000) (hw : WfVs L) (s : Int) (w : World) (hA : CellsAt w w.heap.size A (votesCells L)) :
    Calls Try.prog 15 #[.slice A L.length c, .int .i64 s] w (Counted L (isQ s) w) := by
  have HA := Lib.hid hA
  have HW := Lib.hid hw
  have eg : ∀ args w, (callFunc 28 args).run Try.prog w = .ok (.enter 28 args) w := enters_of Try.func28 (by kernel_rfl) rfl
  clear hA hw
  go_enter Try.func15, Try.ntmps15
  go_wp2_with fail
  refine (only_any s w).mono ?_
  rintro e W1 ⟨z, rfl, hz, k1⟩
  have HZ := Lib.hid hz
  have HK := Lib.hid k1
  clear hz k1
  go_wp2_with fail
  refine (counted_any A c L hl HW.out _ _ (isQ s) W1 (HA.out.kept HK.out) (isFits z s W1 HZ.out) eg).mono ?_
  rintro e W2 ⟨R, hC, hR, A', c', rfl, hc, k2⟩
  have HE := Lib.hid (show Counted L (isQ s) w (.returned (.slice A' R.length c')) W2 from ⟨R, hC, hR, A', c', rfl, hc, HK.out.trans k2⟩)
  clear hC hR hc k2
  go_wp2_with fail
  go_ret
  exact HE.out
set_option maxHeartbeats 800000 in
theorem last_any (A : Option Addr) (c : Nat) (L : List Vt) (hl : L.length ≤ 1000000) (hw : WfVs L) (s : Int) (w : World) (hA : CellsAt w w.heap.size A (votesCells L)) :
    Calls Try.prog 17 #[.slice A L.length c, .int .i64 s] w (Counted L (upQ s) w) := by
  have HA := Lib.hid hA
  have HW := Lib.hid hw
  have eg : ∀ args w, (callFunc 27 args).run Try.prog w = .ok (.enter 27 args) w := enters_of Try.func27 (by kernel_rfl) rfl
  have HZ := Lib.hid (HasCells.new w #[.int .i64 s] 3 w.heap.size rfl)
  have HK := Lib.hid ((Kept.refl w).alloc (.cells #[.int .i64 s] 3))
  clear hA hw
  go_enter Try.func17, Try.ntmps17
  go_wp2_with fail
  refine (counted_any A c L hl HW.out _ _ (upQ s) _ (HA.out.kept HK.out) (upFits _ s _ HZ.out) eg).mono ?_
  rintro e W2 ⟨R, hC, hR, A', c', rfl, hc, k2⟩
  have HE := Lib.hid (show Counted L (upQ s) w (.returned (.slice A' R.length c')) W2 from ⟨R, hC, hR, A', c', rfl, hc, HK.out.trans k2⟩)
  clear hC hR hc k2
  go_wp2_with fail
  go_ret
  exact HE.out

end Go.Proofs.Ytjcjglhoknbhpaa
