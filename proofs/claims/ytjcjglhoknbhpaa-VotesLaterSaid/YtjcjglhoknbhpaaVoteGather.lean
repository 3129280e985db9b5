/-
  The contract of package votes' call gather: where a vote of each turn is, of the slots that fit.
-/
import Derived.Test.YtjcjglhoknbhpaaVoteFit
import Derived.BigQuiet
import Derived.Deep.QuietTactic
namespace Go.Proofs.Ytjcjglhoknbhpaa
open Go.ChangeShapes Go.WideShapes Go.ChangeAt Go.RowKit

/-- What gather hands back. -/
def Gathered (L : List Vt) (q : Int → Bool) (w : World) (e : Ending) (w' : World) : Prop :=
  ∃ b m D g, e = .returned (.map (some b)) ∧ w.heap.size ≤ b ∧ m ≤ L.length ∧ OwnT b m D w' ∧ TieT D g ∧ GOk L q g ∧ Kept w w'
theorem take_vt {L : List Vt} {k : Nat} (hk : k < L.length) : L.take (k + 1) = L.take k ++ [L[k]] := List.take_succ_eq_append_getElem hk
theorem neqV (a b : Vt) (w : World) : Sem.run Try.prog (Op.equalIn 10000 36 (.agg #[.int .i64 a.f, .int .i64 a.s, .int .u64 a.p.1, .int .u64 a.p.2]) (.agg #[.int .i64 b.f, .int .i64 b.s, .int .u64 b.p.1, .int .u64 b.p.2])) w = .ok (sameV a b) w := eqV a b w

attribute [local go_sem high] eqV in
set_option maxRecDepth 100000 in
set_option maxHeartbeats 1600000 in
theorem gather_any (A : Option Addr) (c : Nat) (L : List Vt) (hl : L.length ≤ 1000000) (hw : WfVs L) (f : Nat) (cb : Array Value) (q : Int → Bool) (w : World) (hA : CellsAt w w.heap.size A (votesCells L)) (hF : Fits f cb q w)
    (eg : ∀ args w, (callFunc f args).run Try.prog w = .ok (.enter f args) w) :
    Calls Try.prog 21 #[.slice A L.length c, .func (.func f) #[] cb] w (Gathered L q w) := by
  have HA := Lib.hid hA
  have HW := Lib.hid hw
  have HF := Lib.hid hF
  have hmm := @run_makeMap Try.prog
  have HM := Lib.hid (World.ownsMap_made w Try.prog 43 (plainElem (H := Unit) Try.prog 3))
  clear hA hw hF
  go_enter Try.func21, Try.ntmps21
  go_wp2_with fail
  go_loopw [14] (fun i w' => ∃ k m D g, k ≤ L.length ∧ m ≤ k ∧ i = .int .i64 (k : Nat) ∧ OwnT w.heap.size m D w' ∧ TieT D g ∧ GOk (L.take k) q g ∧ Kept w w') (fun i _ => L.length - (intOf i).toNat)
  case atStart =>
    exact ⟨0, 0, .map [], fun _ _ => none, by omega, by omega, rfl, HM.out, TieT.made, GOk.nil q, (Kept.refl w).alloc _⟩
  case round =>
    obtain ⟨k, m, D, g, hk, hmk, rfl, hM, hT, hG, hK⟩ := hrel
    have HR := Lib.hid hM
    have HT := Lib.hid hT
    have HG := Lib.hid hG
    have HK := Lib.hid hK
    clear hM hT hG hK HM
    by_cases hlt : k < L.length
    · obtain ⟨z, o, rfl, hb, c0, c1, c2, c3⟩ := vote_at (HA.out.kept HK.out) hlt
      have HX := Lib.hid (HW.out L[k] (List.getElem_mem hlt))
      have HTK := Lib.hid (take_vt hlt)
      generalize L[k] = x at *
      go_wp2_with fail
      refine (HF.out _ (HK.out.alloc (.cells #[.int .i64 x.f, .int .i64 x.s, .int .u64 x.p.1, .int .u64 x.p.2] 36)) x.s).mono ?_
      rintro e W1 ⟨rfl, k1⟩
      have HB1 := Lib.hid ((HasCells.new wr #[.int .i64 x.f, .int .i64 x.s, .int .u64 x.p.1, .int .u64 x.p.2] 36 wr.heap.size rfl).kept k1)
      have HK1 := Lib.hid ((HK.out.alloc (.cells #[.int .i64 x.f, .int .i64 x.s, .int .u64 x.p.1, .int .u64 x.p.2] 36)).trans k1)
      have HM1 := Lib.hid (ownsMap_kept (ownsMap_kept HR.out ((Kept.refl wr).alloc (.cells #[.int .i64 x.f, .int .i64 x.s, .int .u64 x.p.1, .int .u64 x.p.2] 36))) k1)
      clear k1 c0 c1 c2 c3 HR HK
      generalize wr.heap.size = zv at *
      cases hq : q x.s with
      | false =>
        have HE := Lib.hid (HG.out.skip hq)
        clear hq
        go_wp2_with fail
        go_roundw
        case rel => exact ⟨k + 1, m, D, g, by omega, by omega, by go_num, HM1.out, HT.out, by rw [HTK.out]; exact HE.out, HK1.out⟩
        case measure => simp [intOf]; omega
      | true =>
        have HQ := Lib.hid hq
        clear hq
        obtain ⟨c0, c1, c2, c3⟩ := HB1.out.four
        have HB2 := Lib.hid (HB1.out.alloc (.cells #[.int .i64 x.f, .int .i64 x.s] 43))
        have HK2 := Lib.hid (HK1.out.alloc (.cells #[.int .i64 x.f, .int .i64 x.s] 43))
        have HM2 := Lib.hid (ownsMap_kept HM1.out ((Kept.refl W1).alloc (.cells #[.int .i64 x.f, .int .i64 x.s] 43)))
        have HC2 := Lib.hid (HasCells.new W1 #[.int .i64 x.f, .int .i64 x.s] 43 W1.heap.size rfl)
        have hkey := keyT_of HX.out.1 HX.out.2.1
        have hmx : m < maxLen := by unfold maxLen; omega
        cases hg : g x.f x.s with
        | none =>
          have HN := Lib.hid hg
          have HE := Lib.hid (HG.out.first HQ.out hg)
          have HL := Lib.hid (show (L.take k).length = k by rw [List.length_take]; omega)
          have hown := HM2.out
          have hval : plainElem (H := Unit) Try.prog 3 (.int .i64 (k : Int)) = some (.lit (.int .i64 (k : Int)), []) := plainElem_int Try.underlying3 (Go.WalkArith.wf_i64 (by omega))
          clear hg
          go_wp2_with (first | (at_lookup; refine wpList_askT_miss _ rfl _ _ rfl _ m D g rfl HM2.out HT.out x.f x.s rfl HX.out.1 HX.out.2.1 HN.out ?_) | (at_mapUpdate; refine wpList_mapUpdate_own _ rfl _ _ _ 38 rfl 43 3 Try.keyedT Try.underlying38 _ _ _ _ rfl hown hmx _ _ _ rfl rfl hkey (.lit (.int .i64 (k : Int))) [] hval ?_; intro w1 hown1 hgrow1))
          go_roundw
          case rel =>
            refine ⟨k + 1, m + 1, D.put (kT x.f x.s) (.lit (.int .i64 (k : Int))), setT g x.f x.s (k : Int), by omega, by omega, by go_num, hown1, HT.out.put hown.isMap _ HX.out.1 HX.out.2.1, ?_, HK2.out.grown hgrow1 (fun i hi => by cases hi; exact Nat.le_refl _)⟩
            rw [HTK.out]
            have := HE.out
            rw [HL.out] at this
            exact this
          case measure => simp [intOf]; omega
        | some i =>
          have HN := Lib.hid hg
          clear hg
          rcases HG.out.at_ HN.out with hi | ⟨n, hn, hi, hnf, hns⟩
          · subst hi
            have HE := Lib.hid (HG.out.more HN.out)
            go_wp2_with (at_lookup; refine wpList_askT_hit _ rfl _ _ rfl _ m D g rfl HM2.out HT.out x.f x.s rfl HX.out.1 HX.out.2.1 (-1) HN.out ?_)
            obtain ⟨d0, d1⟩ := HC2.out.two
            obtain ⟨b0, b1, b2, b3⟩ := HB2.out.four
            clear c0 c1 c2 c3
            generalize W1.alloc (.cells #[.int .i64 x.f, .int .i64 x.s] 43) = W2 at *
            generalize W1.heap.size = zt at *
            go_quiet (fail)
            go_wp2_with fail
            go_roundw
            case rel => exact ⟨k + 1, m, D, g, by omega, by omega, by go_num, ownsMap_kept HM2.out ((Kept.refl _).drewN _), HT.out, by rw [HTK.out]; exact HE.out, HK2.out.drewN _⟩
            case measure => simp [intOf]; omega
          · subst hi
            have hnk : n < k := by rw [List.length_take] at hn; omega
            have hnl : n < L.length := by omega
            have HLn := Lib.hid (show (L.take k)[n] = L[n] from List.getElem_take)
            obtain ⟨z', o', ez, _, e0, e1, e2, e3⟩ := vote_at (HA.out.kept HK2.out) hnl
            obtain ⟨rfl, rfl⟩ : z = z' ∧ o = o' := by injection ez with ez; injection ez with h1 h2; exact ⟨h1, h2⟩
            clear ez
            obtain ⟨d0, d1⟩ := HC2.out.two
            obtain ⟨b0, b1, b2, b3⟩ := HB2.out.four
            have hnn : ¬ ((n : Int) = -1) := by omega
            cases hsame : sameV L[n] x with
            | true =>
              have HE := Lib.hid (HG.out.same hn HN.out (by rw [HLn.out]; exact sameV_iff.1 hsame))
              go_wp2_with (at_lookup; refine wpList_askT_hit _ rfl _ _ rfl _ m D g rfl HM2.out HT.out x.f x.s rfl HX.out.1 HX.out.2.1 (n : Int) HN.out ?_)
              clear c0 c1 c2 c3
              generalize L[n] = y at *
              generalize W1.alloc (.cells #[.int .i64 x.f, .int .i64 x.s] 43) = W2 at *
              generalize W1.heap.size = zt at *
              go_quiet (fail)
              go_wp2_with fail
              go_roundw
              case rel => exact ⟨k + 1, m, D, g, by omega, by omega, by go_num, ownsMap_kept HM2.out ((Kept.refl _).drewN _), HT.out, by rw [HTK.out]; exact HE.out, HK2.out.drewN _⟩
              case measure => simp [intOf]; omega
            | false =>
              have HE := Lib.hid (HG.out.twice hn HN.out (by rw [HLn.out]; exact sameV_no hsame))
              have hval : plainElem (H := Unit) Try.prog 3 (.int .i64 (-1)) = some (.lit (.int .i64 (-1)), []) := plainElem_int Try.underlying3 (by decide)
              go_wp2_with (at_lookup; refine wpList_askT_hit _ rfl _ _ rfl _ m D g rfl HM2.out HT.out x.f x.s rfl HX.out.1 HX.out.2.1 (n : Int) HN.out ?_)
              clear c0 c1 c2 c3
              generalize L[n] = y at *
              generalize W1.alloc (.cells #[.int .i64 x.f, .int .i64 x.s] 43) = W2 at *
              generalize W1.heap.size = zt at *
              go_quiet (fail)
              have hown := ownsMap_kept HM2.out ((Kept.refl W2).drewN 1)
              go_wp2_with (at_mapUpdate; refine wpList_mapUpdate_own _ rfl _ _ _ 38 rfl 43 3 Try.keyedT Try.underlying38 _ _ _ _ rfl (ownsMap_kept HM2.out ((Kept.refl W2).drewN _)) hmx _ _ _ rfl rfl hkey (.lit (.int .i64 (-1))) [] hval ?_; intro w1 hown1 hgrow1)
              go_roundw
              case rel =>
                exact ⟨k + 1, m + 1, D.put (kT x.f x.s) (.lit (.int .i64 (-1))), setT g x.f x.s (-1), by omega, by omega, by go_num, hown1, HT.out.put hown.isMap _ HX.out.1 HX.out.2.1, by rw [HTK.out]; exact HE.out, (HK2.out.drewN _).grown hgrow1 (fun i hi => by cases hi; exact Nat.le_refl _)⟩
              case measure => simp [intOf]; omega
    · have hkl : k = L.length := by omega
      subst hkl
      have HTL := Lib.hid (show L.take L.length = L from List.take_length)
      go_wp2_with fail
      go_ret
      have HG2 := HG.out
      rw [HTL.out] at HG2
      exact ⟨w.heap.size, m, D, g, rfl, Nat.le_refl _, hmk, HR.out, HT.out, HG2, HK.out⟩

end Go.Proofs.Ytjcjglhoknbhpaa
