/-
  Law SlashOwn of layer 12: nobody is guilty but who has two votes; votes of others do not matter to whether one is.
-/
import Derived.Test.YthaofomhlmajbaaSlashAwake
import Derived.Test.YthaofomhlmajbaaFfgOpen
import Derived.Test.YthaofomhlmajbaaGround
import Derived.Test.YthaofomhlmajbaaDutyRefG
namespace Go.Proofs.Ythaofomhlmajbaa.slashOwn
set_option maxRecDepth 100000
set_option linter.unusedVariables false
set_option linter.unusedSimpArgs false
open Go.ChangeShapes Go.WideShapes Go.ChangeAt Go.RowKit
set_option linter.unusedVariables false

theorem own_wf {v : List Lk} (h : WfLks v) (who : Int) : WfLks (ofL v who) := fun x hx => h x (mem_ofL.1 hx).1
theorem own_yes {v : List Lk} {who : Int} {G H : List Int} (hG : Guils v G) (hH : Guils (ofL v who) H) (h : who ∈ G) : H = [who] ∧ 1 < (ofL v who).length := by
  have gv := (hG.2 who).1 h
  refine ⟨Guils.one hH ⟨List.pairwise_singleton _ _, fun f => ⟨fun q => ?_, fun q => ?_⟩⟩, guil_two gv⟩
  · rw [List.mem_singleton] at q; subst q; exact guil_own.1 gv
  · rw [guil_only q]; simp
theorem own_no {v : List Lk} {who : Int} {G H : List Int} (hG : Guils v G) (hH : Guils (ofL v who) H) (h : ¬ who ∈ G) : H = [] :=
  Guils.one hH (guil_none fun f q => h ((hG.2 who).2 (guil_own.2 (by rw [guil_only q] at q; exact q))))
theorem has_next {G : List Int} {n : Nat} (hn : n < G.length) (who : Int) : hasI (G.take (n + 1)) who = (hasI (G.take n) who || (G[n] == who)) := by
  unfold hasI
  rw [List.take_succ_eq_append_getElem hn, Bool.eq_iff_iff, Bool.or_eq_true, decide_eq_true_iff, decide_eq_true_iff, beq_iff_eq, List.mem_append, List.mem_singleton]
  exact ⟨fun h => h.imp id Eq.symm, fun h => h.imp id Eq.symm⟩
theorem own_next {v : List Lk} {j : Nat} (hj : j < v.length) (who : Int) : ofL (v.take (j + 1)) who = if v[j].f = who then ofL (v.take j) who ++ [v[j]] else ofL (v.take j) who := by
  rw [List.take_succ_eq_append_getElem hj]
  split
  · rename_i h; exact ofL_hit h
  · rename_i h; exact ofL_miss h

/-! ### The walk: the call returns true, and of what was there nothing has changed. -/
set_option maxRecDepth 100000 in
set_option maxHeartbeats 6400000 in
theorem walk (w : World) (vA : Option Addr) (vc : Nat) (v : List Lk) (vhm : v.length ≤ maxLen) (vhc : v.length ≤ vc) (vhw : WfLks v) (vhl : CellsAt w w.heap.size vA (lksCells v)) (who : Int) (hwho1 : -9223372036854775808 ≤ who) (hwho2 : who ≤ 9223372036854775807) :
    Calls Try.prog 7 #[.slice vA v.length vc, .int .i64 who] w fun e w' => e = .returned (.bool true) ∧ Kept w w' := by
  go_enter Try.func7, Try.ntmps7
  go_wp2_with fail
  have K0 := Lib.hid (Kept.refl w)
  have HV := Lib.hid (vhl.kept K0.out)
  clear vhl
  have KB0 := Lib.hid (Kept.refl w)
  refine (slashAwake w).mono ?_
  rintro e W1 ⟨rfl, k⟩
  have KB1 := Lib.hid (KB0.out.trans k)
  clear k
  by_cases hv40 : v.length ≤ 40
  · have hvb : decide ((40 : Int) < (v.length : Int)) = false := decide_eq_false (by omega)
    go_wp2_with fail
    go_loopw [6, 7] (fun u i w' => ∃ (j : Nat) (A : Option Addr) (c : Nat), j ≤ v.length ∧ i = .int .i64 j ∧ u = .slice A (ofL (v.take j) who).length c ∧ Lks W1 (ofL (v.take j) who) (.slice A (ofL (v.take j) who).length c) w') (fun _ i _ => v.length - (intOf i).toNat)
    case atStart => exact ⟨0, none, 0, by omega, rfl, rfl, Lks.nil _⟩
    case round =>
      obtain ⟨j, A, c, hj, rfl, rfl, hI⟩ := hrel
      have HI := Lib.hid hI
      clear hI
      have KB2 := Lib.hid (KB1.out.trans HI.out.2)
      by_cases hlt : j < v.length
      · obtain ⟨zv, ov, rfl, hbv, x0, x1, x2, x3, x4, x5, x6⟩ := lk_at (HV.out.kept KB2.out) hlt
        have HNx := Lib.hid (own_next hlt who)
        have HLe := Lib.hid (Nat.le_trans (ofL_length (v.take j) who) (List.length_take_le j v))
        generalize ofL (v.take j) who = O at *
        generalize v[j] = x at *
        by_cases hf : x.f = who
        · have HN := Lib.hid (HNx.out.trans (if_pos hf))
          have hfb : (x.f == who) = true := by rw [beq_iff_eq]; exact hf
          have hol : O.length + 1 ≤ 1000000 := by have := HLe.out; omega
          clear HNx hf
          go_wp2_with (refine wpList_lks _ rfl 29 Try.underlying29 _ _ rfl W1 O _ (by rfl) (HI.out.alloc _) _ _ 1 1 [x] (by rfl) (by rfl) (lks_new (t := x) _ rfl _) hol ?_; intro A3 c3 w3 HR3 _)
          have HI3 := Lib.hid HR3
          clear HR3
          go_roundw
          case rel => exact ⟨j + 1, A3, c3, by omega, by go_num, by rw [HN.out]; first | rfl | (simp; done), by rw [HN.out]; exact HI3.out⟩
          case measure => simp [intOf]; omega
        · have HN := Lib.hid (HNx.out.trans (if_neg hf))
          have hfb : (x.f == who) = false := by rw [beq_eq_false_iff_ne]; exact hf
          clear HNx hf
          go_wp2_with fail
          go_roundw
          case rel => exact ⟨j + 1, A, c, by omega, by go_num, by rw [HN.out], by rw [HN.out]; exact HI.out⟩
          case measure => simp [intOf]; omega
      · have hjl : j = v.length := by omega
        subst hjl
        rw [List.take_length] at HI ⊢
        have hO := HI.out.cells rfl
        have HOl := Lib.hid (ofL_length v who)
        have HOw := Lib.hid (own_wf vhw who)
        replace HV := Lib.hid (HV.out.kept KB2.out)
        replace K0 := Lib.hid (K0.out.trans KB2.out)
        have KB3 := Lib.hid (Kept.refl wr)
        have HO := Lib.hid hO
        clear hO
        clear HI hlt
        go_wp2_with fail
        refine (slashGuilty_any vA vc v wr (by omega) vhw (HV.out.kept KB3.out)).mono ?_
        rintro e W4 ⟨G, A1, c1, hG, hl1, rfl, hC1, hc1, k⟩
        have KB4 := Lib.hid (KB3.out.trans k)
        clear k
        replace HV := Lib.hid (HV.out.kept KB4.out)
        replace HO := Lib.hid (HO.out.kept KB4.out)
        replace K0 := Lib.hid (K0.out.trans KB4.out)
        have KB5 := Lib.hid (Kept.refl W4)
        have HGr := Lib.hid hC1
        clear hC1
        have HG := Lib.hid hG
        clear hG
        go_wp2_with fail
        go_loopw [8, 10] (fun u i w' => ∃ n : Nat, n ≤ G.length ∧ i = .int .i64 n ∧ u = .bool (hasI (G.take n) who) ∧ Kept W4 w') (fun _ i _ => G.length - (intOf i).toNat)
        case atStart => exact ⟨0, by omega, rfl, rfl, Kept.refl _⟩
        case round =>
          obtain ⟨n, hn, rfl, rfl, k1⟩ := hrel
          have KB6 := Lib.hid (KB5.out.trans k1)
          clear k1
          by_cases hlt : n < G.length
          · obtain ⟨zj, oj, rfl, hbj, e0⟩ := int_atS (HGr.out.kept KB6.out) hlt
            have HSt := Lib.hid (has_next hlt who)
            generalize G[n] = y at *
            generalize hasI (G.take n) who = an at *
            cases an with
            | true =>

              have HN := Lib.hid (show hasI (G.take (n + 1)) who = true by rw [HSt.out]; simp [])
              clear HSt
              go_wp2_with fail
              go_roundw
              case rel => exact ⟨n + 1, by omega, by go_num, by rw [HN.out], KB6.out⟩
              case measure => simp [intOf]; omega
            | false =>
              by_cases hy : y = who
              · have hyb : (y == who) = true := by rw [beq_iff_eq]; exact hy
                clear hy
                have HN := Lib.hid (show hasI (G.take (n + 1)) who = true by rw [HSt.out]; simp [hyb])
                clear HSt
                go_wp2_with fail
                go_roundw
                case rel => exact ⟨n + 1, by omega, by go_num, by rw [HN.out], KB6.out⟩
                case measure => simp [intOf]; omega
              · have hyb : (y == who) = false := by rw [beq_eq_false_iff_ne]; exact hy
                clear hy
                have HN := Lib.hid (show hasI (G.take (n + 1)) who = false by rw [HSt.out]; simp [hyb])
                clear HSt
                go_wp2_with fail
                go_roundw
                case rel => exact ⟨n + 1, by omega, by go_num, by rw [HN.out], KB6.out⟩
                case measure => simp [intOf]; omega
          · have hnl : n = G.length := by omega
            subst hnl
            rw [List.take_length]
            go_wp2_with fail
            refine (slashGuilty_any A c (ofL v who) wr (by have := HOl.out; omega) HOw.out (HO.out.kept KB6.out)).mono ?_
            rintro e W7 ⟨H, A2, c2, hH, hl2, rfl, hC2, hc2, k⟩
            have KB7 := Lib.hid (KB6.out.trans k)
            clear k
            by_cases hin : who ∈ G
            · obtain ⟨e, hol⟩ := own_yes HG.out hH hin
              subst e
              have hih : hasI G who = true := decide_eq_true hin
              have hob : decide ((1 : Int) < ((ofL v who).length : Int)) = true := decide_eq_true (by omega)
              rw [hih]
              clear hH hl2 hC2 hc2 hin
              go_wp2_with fail
              go_ret
              exact ⟨by first | rfl | (simp; done), K0.out.trans KB7.out⟩
            · have e := own_no HG.out hH hin
              subst e
              have hih : hasI G who = false := decide_eq_false hin
              rw [hih]
              clear hH hl2 hC2 hc2 hin
              by_cases ho : 1 < (ofL v who).length
              · have hob : decide ((1 : Int) < ((ofL v who).length : Int)) = true := decide_eq_true (by omega)
                go_wp2_with fail
                go_ret
                exact ⟨by first | rfl | (simp; done), K0.out.trans KB7.out⟩
              · have hob : decide ((1 : Int) < ((ofL v who).length : Int)) = false := decide_eq_false (by omega)
                go_wp2_with fail
                go_ret
                exact ⟨by first | rfl | (simp; done), K0.out.trans KB7.out⟩
  · have hvb : decide ((40 : Int) < (v.length : Int)) = true := decide_eq_true (by omega)
    go_wp2_with fail
    go_ret
    exact ⟨by first | rfl | (simp; done), K0.out.trans KB1.out⟩

/-! ### The row's step -/
set_option maxRecDepth 100000 in
theorem lifted (os : Os) (started : os.Started) (H : Type) (enc : TypeId × Value → H) :
    ReturnsInHanded {} Try.checked os 7 .any (Rows.slashOwnSpec.pre6 enc Try.prog Try.f7 Rows.slashOwnRow.domain false) (Rows.slashOwnSpec.post enc Try.prog Try.f7 false true false false) := by
  refine returnsInHanded_of_change (C := Try.checked) own started (by kernel_rfl) Try.func7
    (ChangeSpec.witness6 (enc := enc) (C := Try.checked) false ⟨#[], #[.slice none 0 0, .int .i64 0], []⟩ 8 (by kernel_rfl) (by kernel_rfl) (by kernel_rfl) (by kernel_rfl)) ?_
  intro W base args ds gs before hval0 hW hcnd _
  have hval : ∀ (j : Nat) t v, Try.f7.params[j]? = some t → args[j]? = some v → Value.okWide Try.prog W .any base t v := hval0
  have hW' := hW
  obtain ⟨p, q, hA0, hV, rfl, hfz, hnd⟩ := hW
  have hA : DataW.TrodAll enc Try.prog W 0 (fun _ => true) true Try.f7.params.toList args.toList ds p := hA0
  rw [Try.params7] at hA hval
  obtain ⟨v0, vs0, d0, ds0, p0, q0, hargs, rfl, rfl, h0, r0⟩ := trodAll_cons hA
  obtain ⟨v1, vs1, d1, ds1, p1, q1, rfl, rfl, rfl, h1, r1⟩ := trodAll_cons r0
  obtain ⟨rfl, rfl, rfl⟩ := trodAll_nil r1
  obtain rfl : args = #[v0, v1] := by cases args; simp_all
  obtain ⟨rfl, rfl⟩ := trodVars_none hV
  obtain ⟨vA, vc, v, rfl, vhm, vhc, vhw, vhl⟩ := open_links (hval 0 _ v0 rfl rfl) h0
  obtain ⟨who, rfl, hwho1, hwho2⟩ := open_num (hval 1 _ v1 rfl rfl) h1
  clear hA0 hval0
  refine (walk W vA vc v vhm vhc vhw vhl who hwho1 hwho2).mono fun e W' ⟨he, hb⟩ => ?_
  subst he
  exact ⟨_, rfl, law_post rfl (by kernel_rfl) rfl hW' rfl hb⟩

theorem over : Rows.slashOwnRow.holds Try.pinned (OpenSpec.ofChange Rows.slashOwnSpec) :=
  OpenClaim.holds_of_wide 7 Try.f7 rfl rfl rfl rfl rfl rfl rfl ⟨rfl, rfl, rfl, rfl, rfl⟩ rfl rfl rfl rfl rfl (by kernel_rfl) Try.func7 (by kernel_rfl)
    (of_decide_eq_true (by kernel_rfl)) (by unfold Func.isWrapper; first | (rw [if_pos (by decide +kernel)]; kernel_rfl) | (rw [if_neg (by decide +kernel)]; exact ⟨rfl, rfl⟩))
    (fun os started H enc _ => lifted os started H enc)

/-- The statement. -/
theorem proved : Rows.SlashOwnSaid :=
  over
#print axioms proved

end Go.Proofs.Ythaofomhlmajbaa.slashOwn
