/-
  The contract of package votes' call lasts: where the last vote of each is.
-/
import Derived.Test.YtjcjglhoknbhpaaVoteGather
namespace Go.Proofs.Ytjcjglhoknbhpaa
open Go.ChangeShapes Go.WideShapes Go.ChangeAt Go.RowKit

/-- What lasts hands back. -/
def Lasted (L : List Vt) (q : Int → Bool) (w : World) (e : Ending) (w' : World) : Prop :=
  ∃ b m D h, e = .returned (.map (some b)) ∧ w.heap.size ≤ b ∧ m ≤ L.length ∧ OwnW b m D w' ∧ TieW D h ∧ HOk L q h ∧ Kept w w'
theorem GOk.wf {L : List Vt} {q : Int → Bool} {g : Turns} (h : GOk L q g) (hw : WfVs L) {f s : Int} (hg : g f s ≠ none) : Wf64 f ∧ Wf64 s := by
  cases e : g f s with
  | none => exact absurd e hg
  | some i =>
    rcases (h.2 _ _ _ e).2 with ⟨_, a, ha, _, _, h1, _, h3, _⟩ | ⟨_, n, hn, _, h1, h3⟩
    · rw [← h1, ← h3]; exact ⟨(hw a ha).1, (hw a ha).2.1⟩
    · rw [← h1, ← h3]; exact ⟨(hw _ (List.getElem_mem hn)).1, (hw _ (List.getElem_mem hn)).2.1⟩
/-- How the loop over the turns stands. -/
def LLoop (L : List Vt) (g : Turns) (b m : Nat) (D : DataW Unit) (w : World) (b' r : Nat) (wr : World) : Prop :=
  ∃ (left : Lit → Bool) (t : Int → Int → Bool) (cnt m' : Nat) (D' : DataW Unit) (h : Whos), wr.ranges Try.prog 43 (plainElem Try.prog 3) b r m D left cnt ∧
    (∀ f s, Wf64 f → Wf64 s → left (kT f s) = t f s) ∧ (∀ f s, t f s = true → g f s ≠ none) ∧ LInv L g t h ∧ OwnW b' m' D' wr ∧ TieW D' h ∧ m' + cnt ≤ m ∧ Kept w wr
theorem strT_le {t : Int → Int → Bool} {g : Turns} (h : ∀ f s, t f s = true → g f s ≠ none) (f0 s0 : Int) : ∀ f s, strT t f0 s0 f s = true → g f s ≠ none := fun f s k => h f s (by
  unfold strT at k
  exact (Bool.and_eq_true_iff.1 k).1)

set_option maxRecDepth 100000 in
set_option maxHeartbeats 1600000 in
theorem lasts_any (A : Option Addr) (c : Nat) (L : List Vt) (hl : L.length ≤ 1000000) (hw : WfVs L) (b m : Nat) (D : DataW Unit) (g : Turns) (q : Int → Bool) (w : World) (hA : CellsAt w w.heap.size A (votesCells L)) (hM : OwnT b m D w) (hT : TieT D g) (hG : GOk L q g) (hm : m ≤ L.length) :
    Calls Try.prog 32 #[.slice A L.length c, .map (some b)] w (Lasted L q w) := by
  have HA := Lib.hid hA
  have HW := Lib.hid hw
  have HT := Lib.hid hT
  have HG := Lib.hid hG
  have HS := Lib.hid hM.size_le
  have hbl := ownsMap_lt hM
  have hown := ownsMap_kept hM ((Kept.refl w).alloc (.map #[] 0))
  have hmm := @run_makeMap Try.prog
  have HN := Lib.hid (World.ownsMap_made w Try.prog 3 (plainElem (H := Unit) Try.prog 3))
  have e1 : (w.alloc (.map #[] 0)).heap.size = w.heap.size + 1 := by simp
  clear hA hw hM hT hG
  go_enter Try.func32, Try.ntmps32
  go_wp2_with (at_range; refine wpList_range_own _ rfl _ 38 rfl 43 3 Try.keyedT Try.underlying38 _ b m D rfl hown ?_; intro w0 hrg0 hg0 hs0)
  go_frame
  rw [e1] at hrg0 hs0 ⊢
  have HS0 := Lib.hid (show LLoop L g b m D w w.heap.size (w.heap.size + 1) w0 from ⟨_, fun f s => (g f s).isSome, _, 0, .map [], fun _ => none, hrg0, HT.out.left, (fun f s k e => by simp [e] at k), LInv.start L g, ownsMap_kept HN.out (Kept.grown (Kept.refl _) hg0 (fun k hk => by cases hk)), TieW.made, by rw [Nat.zero_add]; exact HS.out, ((Kept.refl w).alloc _).grown hg0 (fun k hk => by cases hk)⟩)
  clear hrg0 hg0 hs0 HN hown e1
  go_loopw [7] (fun _ wr => LLoop L g b m D w w.heap.size (w.heap.size + 1) wr) (fun _ wr => wr.rangeLeft b (w.heap.size + 1))
  case atStart => exact HS0.out
  case round =>
    clear HS0
    obtain ⟨left, t, cnt, m', D', h, hrg, hL, hLG, hI, hM', hT', hmc, hK⟩ := hrel
    have HR := Lib.hid hrg
    have HL := Lib.hid hL
    have HLG := Lib.hid hLG
    have HI := Lib.hid hI
    have HM := Lib.hid hM'
    have HT' := Lib.hid hT'
    have HK := Lib.hid hK
    clear hL hLG hI hM' hT' hK hrg
    go_wp2_with (at_next; refine wpList_nextT _ rfl _ rfl b (w.heap.size + 1) m D g HT.out left t HL.out (fun f s _ _ => HLG.out f s) cnt rfl HR.out ?_ ?_)
    · intro hc0 hl0
      have HE := Lib.hid (HI.out.done HG.out fun f s k => hl0 f s (HG.out.wf HW.out k).1 (HG.out.wf HW.out k).2)
      clear hl0
      go_wp2_with fail
      go_ret
      exact ⟨w.heap.size, m', D', h, rfl, Nat.le_refl _, by omega, HM.out, HT'.out, HE.out, HK.out⟩
    · intro f s i left' w1 cnt1 hf hs hi hgi hti hL1 hrg1 hlt hg1 hen
      have HM1 := Lib.hid ((HM.out).kept hg1 (by simp))
      have HK1 := Lib.hid (HK.out.grown hg1 (fun k hk => by cases hk; exact Nat.le_succ _))
      have HR1 := Lib.hid hrg1
      have HL1 := Lib.hid hL1
      have HGI := Lib.hid hgi
      have HF := Lib.hid hf
      have HSS := Lib.hid hs
      have HII := Lib.hid hi
      have hm1 := hrg1.left_eq
      have hm0 := HR.out.left_eq
      have hkey := keyW_of hf
      have hmx : m' < maxLen := by unfold maxLen; omega
      have hval : plainElem (H := Unit) Try.prog 3 (.int .i64 i) = some (.lit (.int .i64 i), []) := plainElem_int Try.underlying3 hi.wf
      clear hL1 hrg1 hg1 hgi hti HM HK hf hs hi
      have HB2 := Lib.hid (HasCells.new w1 #[.int .i64 f, .int .i64 s] 43 w1.heap.size rfl)
      have HK2 := Lib.hid (HK1.out.alloc (.cells #[.int .i64 f, .int .i64 s] 43))
      have HM2 := Lib.hid (ownsMap_kept HM1.out ((Kept.refl w1).alloc (.cells #[.int .i64 f, .int .i64 s] 43)))
      have HR2 := Lib.hid (ranges_kept HR1.out ((Kept.refl w1).alloc (.cells #[.int .i64 f, .int .i64 s] 43)))
      cases hh : h f with
      | none =>
        have HH := Lib.hid hh
        have HE := Lib.hid (LInv.fresh HG.out HI.out HGI.out hh)
        clear hh
        go_wp2_with (at_lookup; refine wpList_askW_miss _ rfl _ _ rfl _ m' D' h rfl HM2.out HT'.out f rfl HF.out HH.out ?_)
        clear hen
        generalize w1.alloc (.cells #[.int .i64 f, .int .i64 s] 43) = W2 at *
        generalize w1.heap.size = zt at *
        obtain ⟨b0, b1⟩ := HB2.out.two
        go_quiet (fail)
        go_wp2_with (at_mapUpdate; refine wpList_mapUpdate_own _ rfl _ _ _ 52 rfl 3 3 Try.keyedI Try.underlying52 _ _ _ _ rfl (ownsMap_kept HM2.out ((Kept.refl W2).drewN _)) hmx _ _ _ rfl rfl hkey (.lit (.int .i64 i)) [] hval ?_; intro w2 hown2 hgrow2; go_frame)
        have hrg3 := (ranges_kept HR2.out ((Kept.refl W2).drewN _)).kept hgrow2 (fun e => by have := Option.some.inj e; omega) (fun e => by have := Option.some.inj e; omega)
        go_roundw
        case rel => exact ⟨left', strT t f s, cnt1, m' + 1, D'.put (kW f) (.lit (.int .i64 i)), setW h f i, hrg3, HL1.out, strT_le HLG.out f s, HE.out, hown2, HT'.out.put HM2.out.isMap i, by omega, (HK2.out.drewN _).grown hgrow2 (fun k hk => by cases hk; exact Nat.le_refl _)⟩
        case measure => rw [hrg3.left_eq, hm0]; exact hlt
      | some had =>
        have HH := Lib.hid hh
        clear hh
        by_cases hi1 : i = -1
        · subst hi1
          have HE := Lib.hid (HI.out.bad HGI.out)
          go_wp2_with (at_lookup; refine wpList_askW_hit _ rfl _ _ rfl _ m' D' h rfl HM2.out HT'.out f rfl HF.out had HH.out ?_)
          clear hen
          generalize w1.alloc (.cells #[.int .i64 f, .int .i64 s] 43) = W2 at *
          generalize w1.heap.size = zt at *
          obtain ⟨b0, b1⟩ := HB2.out.two
          go_quiet (fail)
          go_wp2_with (at_mapUpdate; refine wpList_mapUpdate_own _ rfl _ _ _ 52 rfl 3 3 Try.keyedI Try.underlying52 _ _ _ _ rfl (ownsMap_kept HM2.out ((Kept.refl W2).drewN _)) hmx _ _ _ rfl rfl hkey (.lit (.int .i64 (-1))) [] hval ?_; intro w2 hown2 hgrow2; go_frame)
          have hrg3 := (ranges_kept HR2.out ((Kept.refl W2).drewN _)).kept hgrow2 (fun e => by have := Option.some.inj e; omega) (fun e => by have := Option.some.inj e; omega)
          go_roundw
          case rel => exact ⟨left', strT t f s, cnt1, m' + 1, D'.put (kW f) (.lit (.int .i64 (-1))), setW h f (-1), hrg3, HL1.out, strT_le HLG.out f s, HE.out, hown2, HT'.out.put HM2.out.isMap (-1), by omega, (HK2.out.drewN _).grown hgrow2 (fun k hk => by cases hk; exact Nat.le_refl _)⟩
          case measure => rw [hrg3.left_eq, hm0]; exact hlt
        · have hi2 : (i == -1) = false := by simp [hi1]
          by_cases hh1 : had = -1
          · subst hh1
            have HE := Lib.hid (HI.out.still s HH.out)
            go_wp2_with (at_lookup; refine wpList_askW_hit _ rfl _ _ rfl _ m' D' h rfl HM2.out HT'.out f rfl HF.out (-1) HH.out ?_)
            clear hen
            generalize w1.alloc (.cells #[.int .i64 f, .int .i64 s] 43) = W2 at *
            generalize w1.heap.size = zt at *
            obtain ⟨b0, b1⟩ := HB2.out.two
            go_quiet (fail)
            go_wp2_with fail
            have hrg3 := ranges_kept HR2.out ((Kept.refl W2).drewN 1)
            go_roundw
            case rel => exact ⟨left', strT t f s, cnt1, m', D', h, ranges_kept HR2.out ((Kept.refl W2).drewN _), HL1.out, strT_le HLG.out f s, HE.out, ownsMap_kept HM2.out ((Kept.refl W2).drewN _), HT'.out, by omega, HK2.out.drewN _⟩
            case measure => rw [(ranges_kept HR2.out ((Kept.refl W2).drewN _)).left_eq, hm0]; exact hlt
          · obtain ⟨n, hn, rfl⟩ : ∃ (n : Nat) (hn : n < L.length), had = (n : Int) := by
              rcases HI.out.2 _ _ HH.out with ⟨e, _⟩ | ⟨n, hn, e, _⟩
              · exact absurd e hh1
              · exact ⟨n, hn, e⟩
            obtain ⟨z, o, rfl, hb, e0, e1, e2, e3⟩ := vote_at (HA.out.kept HK2.out) hn
            by_cases hlt2 : L[n].s < s
            · have HE := Lib.hid (LInv.later HG.out HI.out hn HGI.out hi1 HH.out hlt2)
              go_wp2_with (at_lookup; refine wpList_askW_hit _ rfl _ _ rfl _ m' D' h rfl HM2.out HT'.out f rfl HF.out (n : Int) HH.out ?_)
              generalize L[n].s = y at *
              clear hen
              generalize w1.alloc (.cells #[.int .i64 f, .int .i64 s] 43) = W2 at *
              generalize w1.heap.size = zt at *
              obtain ⟨b0, b1⟩ := HB2.out.two
              go_quiet (fail)
              go_wp2_with (at_mapUpdate; refine wpList_mapUpdate_own _ rfl _ _ _ 52 rfl 3 3 Try.keyedI Try.underlying52 _ _ _ _ rfl (ownsMap_kept HM2.out ((Kept.refl W2).drewN _)) hmx _ _ _ rfl rfl hkey (.lit (.int .i64 i)) [] hval ?_; intro w2 hown2 hgrow2; go_frame)
              have hrg3 := (ranges_kept HR2.out ((Kept.refl W2).drewN _)).kept hgrow2 (fun e => by have := Option.some.inj e; omega) (fun e => by have := Option.some.inj e; omega)
              go_roundw
              case rel => exact ⟨left', strT t f s, cnt1, m' + 1, D'.put (kW f) (.lit (.int .i64 i)), setW h f i, hrg3, HL1.out, strT_le HLG.out f s, HE.out, hown2, HT'.out.put HM2.out.isMap i, by omega, (HK2.out.drewN _).grown hgrow2 (fun k hk => by cases hk; exact Nat.le_refl _)⟩
              case measure => rw [hrg3.left_eq, hm0]; exact hlt
            · have HE := Lib.hid (LInv.early HG.out HI.out hn HGI.out hi1 HH.out hlt2)
              go_wp2_with (at_lookup; refine wpList_askW_hit _ rfl _ _ rfl _ m' D' h rfl HM2.out HT'.out f rfl HF.out (n : Int) HH.out ?_)
              generalize L[n].s = y at *
              clear hen
              generalize w1.alloc (.cells #[.int .i64 f, .int .i64 s] 43) = W2 at *
              generalize w1.heap.size = zt at *
              obtain ⟨b0, b1⟩ := HB2.out.two
              go_quiet (fail)
              go_wp2_with fail
              have hrg3 := ranges_kept HR2.out ((Kept.refl W2).drewN 1)
              go_roundw
              case rel => exact ⟨left', strT t f s, cnt1, m', D', h, ranges_kept HR2.out ((Kept.refl W2).drewN _), HL1.out, strT_le HLG.out f s, HE.out, ownsMap_kept HM2.out ((Kept.refl W2).drewN _), HT'.out, by omega, HK2.out.drewN _⟩
              case measure => rw [(ranges_kept HR2.out ((Kept.refl W2).drewN _)).left_eq, hm0]; exact hlt

end Go.Proofs.Ytjcjglhoknbhpaa
