/-
  For all lists of words l and all words x and y marigoldlaw02.MixLast returns true and leaves its arguments as they were: no further condition.
-/
import Derived.Test.YtaldldplpefobaaMixAwake
import Derived.Test.YtaldldplpefobaaMixOpen
namespace Go.Proofs.Ytaldldplpefobaa.mixLast
open Go.ChangeShapes Go.WideShapes Go.ChangeAt Go.RowKit
set_option linter.unusedVariables false

theorem Try.infoU : (Try.prog.info? 22).map (fun i => (i.zero, i.size, i.bytes)) = some (some (.int .u64 0), 1, 8) := by kernel_rfl
theorem idOf_snoc (l : List Nat) (x : Nat) : idOf (l ++ [x]) = idStep (idStep (idFold l) x) (l.length + 1) := by unfold idOf; rw [idFold_snoc]; simp
theorem last_apart {l : List Nat} {x y : Nat} (hx : x < 18446744073709551616) (hy : y < 18446744073709551616) (hl : l.length ≤ 40) (h : x ≠ y) :
    (idOf (l ++ [x])).1 ≠ (idOf (l ++ [y])).1 ∧ (idOf (l ++ [x])).2 ≠ (idOf (l ++ [y])).2 := by
  rw [idOf_snoc, idOf_snoc]
  unfold idStep
  have hp := idFold_lt l
  have hn : l.length + 1 < 18446744073709551616 := by omega
  generalize idFold l = p at *
  generalize l.length + 1 = n at *
  refine ⟨fun e => h ?_, fun e => h ?_⟩
  · have e1 : stepN n (stepN p.1 x) = stepN n (stepN p.1 y) := by rw [stepN_comm n (stepN p.1 x), stepN_comm n (stepN p.1 y)]; exact e
    exact stepN_inj hp.1 hx hy (stepN_inj hn (stepN_lt _ _) (stepN_lt _ _) e1)
  · have e1 : stepN (notN n) (stepN p.2 (notN x)) = stepN (notN n) (stepN p.2 (notN y)) := by rw [stepN_comm (notN n) (stepN p.2 (notN x)), stepN_comm (notN n) (stepN p.2 (notN y))]; exact e
    exact notN_inj hx hy (stepN_inj hp.2 (notN_lt _) (notN_lt _) (stepN_inj (notN_lt _) (stepN_lt _ _) (stepN_lt _ _) e1))
theorem snoc_lt {l : List Nat} {x : Nat} (h : ∀ z ∈ l, z < 18446744073709551616) (hx : x < 18446744073709551616) : ∀ z ∈ l ++ [x], z < 18446744073709551616 := fun z hz => by
  rcases List.mem_append.1 hz with h1 | h1
  · exact h z h1
  · rw [List.mem_singleton.1 h1]; exact hx
/-- A row of the call's own with one element or more, as Of takes it. -/
theorem own_words {w : World} {base : Nat} {v : Value} {n : Nat} {l : List Nat} (h : w.ownsRow base 22 1 v n (wordCells l)) (hn : 0 < n) :
    ∃ g c : Nat, v = .slice (some ⟨g, 0, none⟩) n c ∧ WordsAt w w.heap.size (some ⟨g, 0, none⟩) l := by
  obtain ⟨g, c, rfl, _, _⟩ := h.form hn
  exact ⟨g, c, rfl, WordsAt.of_cells (CellsAt.of_own h)⟩
theorem own_keeps {w w1 w2 : World} {base : Nat} {v : Value} {n : Nat} {xs : List Value} {t : TypeId} (k : Kept w w1) (h : w1.ownsRow base t 1 v n xs) (hb : w.heap.size ≤ base) (g : w1.grownBy w2 v.ownBlock) : Kept w w2 :=
  k.grown g fun i hi => Nat.le_trans hb (h.lt i hi).1

/-! ### The walk: the call returns true, and of what was there nothing has changed. -/
set_option maxHeartbeats 1000000 in
theorem walk (w : World) (lA : Option Addr) (ln lc : Nat) (l : List Nat) (lhl : l.length = ln) (lhm : ln ≤ maxLen) (lhx : ∀ x ∈ l, x < 18446744073709551616) (lhw : WordsAt w w.heap.size lA l) (x : Nat) (hx : x < 18446744073709551616) (y : Nat) (hy : y < 18446744073709551616) :
    Calls Try.prog 6 #[.slice lA ln lc, .int .u64 x, .int .u64 y] w fun e w' => e = .returned (.bool true) ∧ Kept w w' := by
  obtain ⟨i0, hi0, hz0, hz1, hz2⟩ := info_parts Try.infoU
  have LX := Lib.hid lhx
  have LC := Lib.hid (WordsAt.cells lhw)
  have LL := Lib.hid (show (wordCells l).length = ln * 1 by simp [wordCells, lhl])
  have LN := Lib.hid lhl
  by_cases h40 : ln ≤ 40
  · obtain ⟨p, hP⟩ : ∃ p, idOf (l ++ [x]) = p := ⟨_, rfl⟩
    have HP := Lib.hid hP
    clear lhl lhm lhx lhw
    by_cases hxy : x = y
    · subst hxy
      clear hP
      go_enter Try.func6, Try.ntmps6
      go_wp2_with fail
      refine (awake_any _).mono ?_
      rintro e w1 ⟨rfl, k1⟩
      have LC1 := Lib.hid (LC.out.kept k1)
      have K1 := Lib.hid k1
      clear k1
      go_wp2_with (first
        | (at_builtin
           refine wpList_app _ rfl (.const (.slice none 0 0)) (.tmp 19) _ rfl w1.heap.size 22 i0 _ 1 8 Try.underlying23 hi0 hz0 hz1 hz2 rfl (by omega) (.slice none 0 0) 0 [] rfl
             (World.ownsRow_nil _ _ _ _) w1.heap.size lA ln lc (wordCells l) rfl LL.out (LC1.out) (wordCells_one l) (by unfold maxLen; omega) (by omega) (Nat.le_refl _) ?_
           intro v1a W1a own1a g1a at1a
           have k1a := Lib.hid (own_keeps (Kept.refl w1) (World.ownsRow_nil w1 w1.heap.size 22 1) (Nat.le_refl _) g1a)
           have OWN1a := Lib.hid own1a
           clear own1a g1a at1a)
        | (at_builtin
           refine wpList_app _ rfl (.tmp 20) (.tmp 22) _ rfl w1.heap.size 22 i0 _ 1 8 Try.underlying23 hi0 hz0 hz1 hz2 rfl (by omega) v1a (0 + ln) ([] ++ wordCells l) rfl
             (OWN1a.out.alloc _) _ (some ⟨W1a.heap.size, 0, none⟩) 1 1 (wordCells [x]) rfl rfl (CellsAt.one W1a _ _ _ rfl) (wordCells_one _) (by unfold maxLen; omega) (by omega) (Nat.le_trans k1a.out.size_le (by simp)) ?_
           intro v1b W1b own1b g1b at1b
           have k1b := Lib.hid (own_keeps (k1a.out.alloc _) (OWN1a.out.alloc _) (Nat.le_refl _) g1b)
           have OWN1b := Lib.hid (show W1b.ownsRow w1.heap.size 22 1 v1b (ln + 1) (wordCells (l ++ [x])) by simpa [wordCells] using own1b)
           obtain ⟨g1, c1, rfl, WA1⟩ := own_words OWN1b.out (by omega)
           have HWA1 := Lib.hid WA1
           clear own1b g1b at1b WA1))
      refine (of_any _ _ _ (l ++ [x]) (by simpa using LN.out) (by omega) _ (snoc_lt LX.out hx) HWA1.out).mono ?_
      rintro e w2 ⟨rfl, k2⟩
      rw [HP.out]
      have K2 := Lib.hid (K1.out.trans ((k1b.out.trans k2).alloc (.cells #[.int .u64 p.1, .int .u64 p.2] 25)))
      have LC2 := Lib.hid (LC.out.kept K2.out)
      have A2 := Lib.hid (HasId.new w2 w2.heap.size p rfl)
      clear k2 k1b k1a OWN1a OWN1b HWA1 LC1 K1
      go_wp2_with (first
        | (at_builtin
           refine wpList_app _ rfl (.const (.slice none 0 0)) (.tmp 25) _ rfl (w2.alloc (.cells #[.int .u64 p.1, .int .u64 p.2] 25)).heap.size 22 i0 _ 1 8 Try.underlying23 hi0 hz0 hz1 hz2 rfl (by omega) (.slice none 0 0) 0 [] rfl
             (World.ownsRow_nil _ _ _ _) (w2.alloc (.cells #[.int .u64 p.1, .int .u64 p.2] 25)).heap.size lA ln lc (wordCells l) rfl LL.out (LC2.out) (wordCells_one l) (by unfold maxLen; omega) (by omega) (Nat.le_refl _) ?_
           intro v2a W2a own2a g2a at2a
           have k2a := Lib.hid (own_keeps (Kept.refl (w2.alloc (.cells #[.int .u64 p.1, .int .u64 p.2] 25))) (World.ownsRow_nil (w2.alloc (.cells #[.int .u64 p.1, .int .u64 p.2] 25)) (w2.alloc (.cells #[.int .u64 p.1, .int .u64 p.2] 25)).heap.size 22 1) (Nat.le_refl _) g2a)
           have OWN2a := Lib.hid own2a
           clear own2a g2a at2a)
        | (at_builtin
           refine wpList_app _ rfl (.tmp 26) (.tmp 28) _ rfl (w2.alloc (.cells #[.int .u64 p.1, .int .u64 p.2] 25)).heap.size 22 i0 _ 1 8 Try.underlying23 hi0 hz0 hz1 hz2 rfl (by omega) v2a (0 + ln) ([] ++ wordCells l) rfl
             (OWN2a.out.alloc _) _ (some ⟨W2a.heap.size, 0, none⟩) 1 1 (wordCells [x]) rfl rfl (CellsAt.one W2a _ _ _ rfl) (wordCells_one _) (by unfold maxLen; omega) (by omega) (Nat.le_trans k2a.out.size_le (by simp)) ?_
           intro v2b W2b own2b g2b at2b
           have k2b := Lib.hid (own_keeps (k2a.out.alloc _) (OWN2a.out.alloc _) (Nat.le_refl _) g2b)
           have OWN2b := Lib.hid (show W2b.ownsRow (w2.alloc (.cells #[.int .u64 p.1, .int .u64 p.2] 25)).heap.size 22 1 v2b (ln + 1) (wordCells (l ++ [x])) by simpa [wordCells] using own2b)
           obtain ⟨g2, c2, rfl, WA2⟩ := own_words OWN2b.out (by omega)
           have HWA2 := Lib.hid WA2
           clear own2b g2b at2b WA2))
      refine (of_any _ _ _ (l ++ [x]) (by simpa using LN.out) (by omega) _ (snoc_lt LX.out hx) HWA2.out).mono ?_
      rintro e w3 ⟨rfl, k3⟩
      rw [HP.out]
      have K3 := Lib.hid (K2.out.trans ((k2b.out.trans k3).alloc (.cells #[.int .u64 p.1, .int .u64 p.2] 25)))
      have A3 := Lib.hid ((A2.out.kept (k2b.out.trans k3)).alloc (.cells #[.int .u64 p.1, .int .u64 p.2] 25))
      have B3 := Lib.hid (HasId.new w3 w3.heap.size p rfl)
      obtain ⟨a1, a2, _⟩ := A3.out
      obtain ⟨b1, b2, _⟩ := B3.out
      go_wp2_with fail
      go_ret
      exact ⟨rfl, K3.out⟩
    · obtain ⟨q, hQ⟩ : ∃ q, idOf (l ++ [y]) = q := ⟨_, rfl⟩
      have ne := last_apart (l := l) hx hy (by rw [LN.out]; exact h40) hxy
      rw [hP, hQ] at ne
      have n0 : ((x : Int) == (y : Int)) = false := beq_eq_false_iff_ne.2 (by omega)
      have n1 : ((p.1 : Int) == (q.1 : Int)) = false := beq_eq_false_iff_ne.2 (by omega)
      have n2 : ((p.2 : Int) == (q.2 : Int)) = false := beq_eq_false_iff_ne.2 (by omega)
      have HQ := Lib.hid hQ
      clear hP hQ ne hxy
      go_enter Try.func6, Try.ntmps6
      go_wp2_with fail
      refine (awake_any _).mono ?_
      rintro e w1 ⟨rfl, k1⟩
      have LC1 := Lib.hid (LC.out.kept k1)
      have K1 := Lib.hid k1
      clear k1
      go_wp2_with (first
        | (at_builtin
           refine wpList_app _ rfl (.const (.slice none 0 0)) (.tmp 19) _ rfl w1.heap.size 22 i0 _ 1 8 Try.underlying23 hi0 hz0 hz1 hz2 rfl (by omega) (.slice none 0 0) 0 [] rfl
             (World.ownsRow_nil _ _ _ _) w1.heap.size lA ln lc (wordCells l) rfl LL.out (LC1.out) (wordCells_one l) (by unfold maxLen; omega) (by omega) (Nat.le_refl _) ?_
           intro v1a W1a own1a g1a at1a
           have k1a := Lib.hid (own_keeps (Kept.refl w1) (World.ownsRow_nil w1 w1.heap.size 22 1) (Nat.le_refl _) g1a)
           have OWN1a := Lib.hid own1a
           clear own1a g1a at1a)
        | (at_builtin
           refine wpList_app _ rfl (.tmp 20) (.tmp 22) _ rfl w1.heap.size 22 i0 _ 1 8 Try.underlying23 hi0 hz0 hz1 hz2 rfl (by omega) v1a (0 + ln) ([] ++ wordCells l) rfl
             (OWN1a.out.alloc _) _ (some ⟨W1a.heap.size, 0, none⟩) 1 1 (wordCells [x]) rfl rfl (CellsAt.one W1a _ _ _ rfl) (wordCells_one _) (by unfold maxLen; omega) (by omega) (Nat.le_trans k1a.out.size_le (by simp)) ?_
           intro v1b W1b own1b g1b at1b
           have k1b := Lib.hid (own_keeps (k1a.out.alloc _) (OWN1a.out.alloc _) (Nat.le_refl _) g1b)
           have OWN1b := Lib.hid (show W1b.ownsRow w1.heap.size 22 1 v1b (ln + 1) (wordCells (l ++ [x])) by simpa [wordCells] using own1b)
           obtain ⟨g1, c1, rfl, WA1⟩ := own_words OWN1b.out (by omega)
           have HWA1 := Lib.hid WA1
           clear own1b g1b at1b WA1))
      refine (of_any _ _ _ (l ++ [x]) (by simpa using LN.out) (by omega) _ (snoc_lt LX.out hx) HWA1.out).mono ?_
      rintro e w2 ⟨rfl, k2⟩
      rw [HP.out]
      have K2 := Lib.hid (K1.out.trans ((k1b.out.trans k2).alloc (.cells #[.int .u64 p.1, .int .u64 p.2] 25)))
      have LC2 := Lib.hid (LC.out.kept K2.out)
      have A2 := Lib.hid (HasId.new w2 w2.heap.size p rfl)
      clear k2 k1b k1a OWN1a OWN1b HWA1 LC1 K1
      go_wp2_with (first
        | (at_builtin
           refine wpList_app _ rfl (.const (.slice none 0 0)) (.tmp 25) _ rfl (w2.alloc (.cells #[.int .u64 p.1, .int .u64 p.2] 25)).heap.size 22 i0 _ 1 8 Try.underlying23 hi0 hz0 hz1 hz2 rfl (by omega) (.slice none 0 0) 0 [] rfl
             (World.ownsRow_nil _ _ _ _) (w2.alloc (.cells #[.int .u64 p.1, .int .u64 p.2] 25)).heap.size lA ln lc (wordCells l) rfl LL.out (LC2.out) (wordCells_one l) (by unfold maxLen; omega) (by omega) (Nat.le_refl _) ?_
           intro v2a W2a own2a g2a at2a
           have k2a := Lib.hid (own_keeps (Kept.refl (w2.alloc (.cells #[.int .u64 p.1, .int .u64 p.2] 25))) (World.ownsRow_nil (w2.alloc (.cells #[.int .u64 p.1, .int .u64 p.2] 25)) (w2.alloc (.cells #[.int .u64 p.1, .int .u64 p.2] 25)).heap.size 22 1) (Nat.le_refl _) g2a)
           have OWN2a := Lib.hid own2a
           clear own2a g2a at2a)
        | (at_builtin
           refine wpList_app _ rfl (.tmp 26) (.tmp 28) _ rfl (w2.alloc (.cells #[.int .u64 p.1, .int .u64 p.2] 25)).heap.size 22 i0 _ 1 8 Try.underlying23 hi0 hz0 hz1 hz2 rfl (by omega) v2a (0 + ln) ([] ++ wordCells l) rfl
             (OWN2a.out.alloc _) _ (some ⟨W2a.heap.size, 0, none⟩) 1 1 (wordCells [y]) rfl rfl (CellsAt.one W2a _ _ _ rfl) (wordCells_one _) (by unfold maxLen; omega) (by omega) (Nat.le_trans k2a.out.size_le (by simp)) ?_
           intro v2b W2b own2b g2b at2b
           have k2b := Lib.hid (own_keeps (k2a.out.alloc _) (OWN2a.out.alloc _) (Nat.le_refl _) g2b)
           have OWN2b := Lib.hid (show W2b.ownsRow (w2.alloc (.cells #[.int .u64 p.1, .int .u64 p.2] 25)).heap.size 22 1 v2b (ln + 1) (wordCells (l ++ [y])) by simpa [wordCells] using own2b)
           obtain ⟨g2, c2, rfl, WA2⟩ := own_words OWN2b.out (by omega)
           have HWA2 := Lib.hid WA2
           clear own2b g2b at2b WA2))
      refine (of_any _ _ _ (l ++ [y]) (by simpa using LN.out) (by omega) _ (snoc_lt LX.out hy) HWA2.out).mono ?_
      rintro e w3 ⟨rfl, k3⟩
      rw [HQ.out]
      have K3 := Lib.hid (K2.out.trans ((k2b.out.trans k3).alloc (.cells #[.int .u64 q.1, .int .u64 q.2] 25)))
      have A3 := Lib.hid ((A2.out.kept (k2b.out.trans k3)).alloc (.cells #[.int .u64 q.1, .int .u64 q.2] 25))
      have B3 := Lib.hid (HasId.new w3 w3.heap.size q rfl)
      obtain ⟨a1, a2, _⟩ := A3.out
      obtain ⟨b1, b2, _⟩ := B3.out
      go_wp2_with fail
      go_ret
      exact ⟨rfl, K3.out⟩
  · clear lhl lhm lhx lhw
    go_enter Try.func6, Try.ntmps6
    go_wp2_with fail
    refine (awake_any _).mono ?_
    rintro e w1 ⟨rfl, k1⟩
    go_wp2_with fail
    go_ret
    exact ⟨rfl, k1⟩

/-! ### The row's step -/
set_option maxRecDepth 100000 in
theorem lifted (os : Os) (started : os.Started) (H : Type) (enc : TypeId × Value → H) :
    ReturnsInHanded {} Try.checked os 6 .any (Rows.mixLastSpec.pre6 enc Try.prog Try.f6 Rows.mixLastRow.domain false) (Rows.mixLastSpec.post enc Try.prog Try.f6 false true false false) := by
  refine returnsInHanded_of_change (C := Try.checked) own started (by kernel_rfl) Try.func6
    (ChangeSpec.witness6 (enc := enc) (C := Try.checked) false ⟨#[], #[.slice none 0 0, .int .u64 0, .int .u64 0], []⟩ 8 (by kernel_rfl) (by kernel_rfl) (by kernel_rfl) (by kernel_rfl)) ?_
  intro W base args ds gs before hval0 hW hcnd _
  have hval : ∀ (j : Nat) t v, Try.f6.params[j]? = some t → args[j]? = some v → Value.okWide Try.prog W .any base t v := hval0
  have hW' := hW
  obtain ⟨p, q, hA0, hV, rfl, hfz, hnd⟩ := hW
  have hA : DataW.TrodAll enc Try.prog W 0 (fun _ => true) true Try.f6.params.toList args.toList ds p := hA0
  rw [Try.params6] at hA hval
  obtain ⟨v0, vs0, d0, ds0, p0, q0, hargs, rfl, rfl, h0, r0⟩ := trodAll_cons hA
  obtain ⟨v1, vs1, d1, ds1, p1, q1, rfl, rfl, rfl, h1, r1⟩ := trodAll_cons r0
  obtain ⟨v2, vs2, d2, ds2, p2, q2, rfl, rfl, rfl, h2, r2⟩ := trodAll_cons r1
  obtain ⟨rfl, rfl, rfl⟩ := trodAll_nil r2
  obtain rfl : args = #[v0, v1, v2] := by cases args; simp_all
  obtain ⟨rfl, rfl⟩ := trodVars_none hV
  obtain ⟨lA, ln, lc, l, rfl, lhl, lhm, lhx, lhw⟩ := open_words (hval 0 _ v0 rfl rfl) h0
  obtain ⟨x, rfl, hx⟩ := open_u64 (hval 1 _ v1 rfl rfl) h1
  obtain ⟨y, rfl, hy⟩ := open_u64 (hval 2 _ v2 rfl rfl) h2
  clear hA0 hval0
  refine (walk W lA ln lc l lhl lhm lhx lhw x hx y hy).mono fun e W' ⟨he, hb⟩ => ?_
  subst he
  exact ⟨_, rfl, law_post rfl (by kernel_rfl) rfl hW' rfl hb⟩

theorem over : Rows.mixLastRow.holds Try.pinned (OpenSpec.ofChange Rows.mixLastSpec) :=
  OpenClaim.holds_of_wide 6 Try.f6 rfl rfl rfl rfl rfl rfl rfl ⟨rfl, rfl, rfl, rfl, rfl⟩ rfl rfl rfl rfl rfl (by kernel_rfl) Try.func6 (by kernel_rfl)
    (of_decide_eq_true (by kernel_rfl)) (by unfold Func.isWrapper; first | (rw [if_pos (by decide +kernel)]; kernel_rfl) | (rw [if_neg (by decide +kernel)]; exact ⟨rfl, rfl⟩))
    (fun os started H enc _ => lifted os started H enc)

/-- The statement. -/
theorem proved : Rows.MixLastSaid :=
  over
#print axioms proved
end Go.Proofs.Ytaldldplpefobaa.mixLast
