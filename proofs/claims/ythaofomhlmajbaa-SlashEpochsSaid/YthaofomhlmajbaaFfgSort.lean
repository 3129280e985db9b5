/-
  Checkpoints put into order by the library's SortFunc, by ffg's compare.
-/
import Derived.Test.YthaofomhlmajbaaFfgEq
import Derived.Test.YthaofomhlmajbaaFfgLay
import Derived.Test.YthaofomhlmajbaaVoteOfG
import Derived.Test.YthaofomhlmajbaaMixLess
import Derived.Test.YthaofomhlmajbaaFfgMath
namespace Go.Proofs.Ythaofomhlmajbaa
set_option maxRecDepth 100000
set_option linter.unusedVariables false
set_option linter.unusedSimpArgs false
set_option linter.unusedSimpArgs false
set_option linter.unusedVariables false
open Go.ChangeShapes Go.WideShapes Go.ChangeAt Go.RowKit Go.Sort Go.Lib Go.Shelf

instance : Inhabited Ck := ⟨⟨0, (0, 0)⟩⟩
theorem flat_cks (l : List Ck) : (flatK ckCells 3 l.toArray).toList = cksCells l := by
  apply List.ext_getElem?
  intro j
  by_cases hj : j < l.length * 3
  · have hi : j / 3 < l.length := by omega
    have hk : j % 3 < (ckCells l[j / 3]).length := by show j % 3 < 3; omega
    have e := cksCells_at hi (List.getElem?_eq_getElem hk)
    rw [show j / 3 * 3 + j % 3 = j by omega] at e
    rw [e]
    have h2 := get_flatK ckCells 3 l.toArray j (by simpa using hj)
    have h3 : j < (flatK ckCells 3 l.toArray).size := by rw [size_flatK]; simpa using hj
    rw [getElem!_pos (flatK ckCells 3 l.toArray) j h3] at h2
    rw [Array.getElem?_toList, Array.getElem?_eq_getElem h3, h2]
    have h4 : l.toArray[j / 3]! = l[j / 3] := by simp [hi]
    rw [h4, getElem!_pos (ckCells l[j / 3]) (j % 3) hk]
  · rw [List.getElem?_eq_none (by simp; omega), List.getElem?_eq_none (by rw [cksCells_length]; omega)]
def cfK (x y : Ck) : Int := if sameK x y = true then 0 else if lessK x y = true then -1 else 1
theorem ltK (x y : Ck) : ltOf cfK x y = lessK x y := by
  unfold ltOf cfK
  cases h : sameK x y with
  | true =>
    rw [sameK_iff] at h
    subst h
    cases h2 : lessK x x with
    | true => exact absurd h2 (lessK_not x)
    | false => simp
  | false =>
    cases h2 : lessK x y <;> simp
theorem swoK : SWO (ltOf cfK) where
  irrefl x := by rw [ltK]; exact Bool.eq_false_iff.2 (lessK_not x)
  trans x y z h1 h2 := by rw [ltK] at *; exact lessK_trans h1 h2
  ntrans x y z h1 h2 := by
    rw [ltK] at *
    rw [Bool.eq_false_iff] at *
    intro h3
    rw [ne_eq, lessK_iff] at h1 h2
    rw [lessK_iff] at h3
    omega
set_option maxHeartbeats 1000000 in
/-- mix's Less, to the very world: two blocks are laid. -/
theorem lessX_any (a b : Nat × Nat) (w : World) :
    Calls Try.prog 57 #[.agg #[.int .u64 a.1, .int .u64 a.2], .agg #[.int .u64 b.1, .int .u64 b.2]] w fun e w' => e = .returned (.bool (lessN a b)) ∧ w' = (w.alloc (.cells #[.int .u64 a.1, .int .u64 a.2] 24)).alloc (.cells #[.int .u64 b.1, .int .u64 b.2] 24) := by
  obtain ⟨a0, a1⟩ := a
  obtain ⟨b0, b1⟩ := b
  by_cases h0 : a0 = b0
  · subst h0
    by_cases h1 : a1 < b1
    · have H := Lib.hid (lessN_yes (a := (a0, a1)) (b := (a0, b1)) (Or.inr ⟨rfl, h1⟩))
      go_enter Try.func57, Try.ntmps57
      go_wp2
      go_ret
      exact ⟨by rw [H.out]; rfl, rfl⟩
    · have H := Lib.hid (lessN_no (a := (a0, a1)) (b := (a0, b1)) (by simp; omega))
      go_enter Try.func57, Try.ntmps57
      go_wp2
      go_ret
      exact ⟨by rw [H.out]; rfl, rfl⟩
  · have b2 : ((a0 : Int) != (b0 : Int)) = true := by rw [bne_iff_ne]; omega
    by_cases h1 : a0 < b0
    · have H := Lib.hid (lessN_yes (a := (a0, a1)) (b := (b0, b1)) (Or.inl h1))
      go_enter Try.func57, Try.ntmps57
      go_wp2
      go_ret
      exact ⟨by rw [H.out]; rfl, rfl⟩
    · have H := Lib.hid (lessN_no (a := (a0, a1)) (b := (b0, b1)) (by simp; omega))
      go_enter Try.func57, Try.ntmps57
      go_wp2
      go_ret
      exact ⟨by rw [H.out]; rfl, rfl⟩
attribute [local go_sem high] eqK
set_option maxRecDepth 100000 in
set_option maxHeartbeats 1600000 in
/-- compare: blocks are laid, nothing else. -/
theorem cmpK_any (x y : Ck) (W : World) : Calls Try.prog 42 #[.agg #[.int .i64 x.e, .int .u64 x.r.1, .int .u64 x.r.2], .agg #[.int .i64 y.e, .int .u64 y.r.1, .int .u64 y.r.2]] W fun e w' => e = .returned (.int .i64 (cfK x y)) ∧ ∃ q os', w' = grow (W.drewN q) os' := by
  have HF : Hid (cfK x y = if sameK x y = true then 0 else if lessK x y = true then -1 else 1) := Lib.hid rfl
  have HE := Lib.hid (lessK_eq x y)
  have HLs := Lib.hid (fun w => lessX_any x.r y.r w)
  generalize cfK x y = res at *
  generalize lessN x.r y.r = ln at *
  generalize lessK x y = lk at *
  cases hs : sameK x y with
  | true =>
    have HR := Lib.hid (show res = 0 by rw [HF.out, hs]; rfl)
    go_enter Try.func42, Try.ntmps42
    go_wp2_with fail
    go_ret
    exact ⟨by rw [HR.out]; rfl, 0, _, by rw [alloc_eq_grow, alloc_eq_grow, grow_grow]; rfl⟩
  | false =>
    have HR := Lib.hid (show res = if lk = true then -1 else 1 by rw [HF.out, hs]; rfl)
    clear HF
    by_cases h1 : x.e < y.e
    · have HR2 := Lib.hid (show res = -1 by rw [HR.out, HE.out]; simp [h1])
      clear HR HE
      go_enter Try.func42, Try.ntmps42
      go_wp2_with fail
      go_ret
      exact ⟨by rw [HR2.out]; rfl, 0, _, by rw [alloc_eq_grow, alloc_eq_grow, grow_grow]; rfl⟩
    · by_cases h2 : x.e = y.e
      · have HR2 := Lib.hid (show res = if ln = true then -1 else 1 by rw [HR.out, HE.out]; simp [h2])
        have HE2 := Lib.hid h2
        clear HR HE h2
        go_enter Try.func42, Try.ntmps42
        go_wp2_with fail
        any_goals (first | (exfalso; exact (by assumption : ¬ x.e = y.e) HE2.out) | skip)
        refine (HLs.out _).mono ?_
        rintro e w' ⟨rfl, rfl⟩
        cases ln with
        | true =>
          go_wp2_with fail
          go_ret
          exact ⟨by rw [HR2.out]; rfl, 0, _, by rw [alloc_eq_grow, alloc_eq_grow, alloc_eq_grow, alloc_eq_grow, grow_grow, grow_grow, grow_grow]; rfl⟩
        | false =>
          go_wp2_with fail
          go_ret
          exact ⟨by rw [HR2.out]; rfl, 0, _, by rw [alloc_eq_grow, alloc_eq_grow, alloc_eq_grow, alloc_eq_grow, grow_grow, grow_grow, grow_grow]; rfl⟩
      · have HR2 := Lib.hid (show res = 1 by rw [HR.out, HE.out]; simp [h1, h2])
        clear HR HE
        go_enter Try.func42, Try.ntmps42
        go_wp2_with fail
        go_ret
        exact ⟨by rw [HR2.out]; rfl, 0, _, by rw [alloc_eq_grow, alloc_eq_grow, grow_grow]; rfl⟩
theorem cmpLaysK (blk off size : Nat) (w : World) : CmpLays Try.prog 42 #[] ckCells 3 cfK blk off size w :=
  fun _ _ _ _ x y => cmpK_any x y _
theorem perm_ofK {d d' : Array Ck} (h : PermIn 0 d.size d d') : d'.toList.Perm d.toList := by
  obtain ⟨h1, _, h3⟩ := h
  have e1 : d'.extract 0 d.size = d' := by rw [← h1]; simp
  have e2 : d.extract 0 d.size = d := by simp
  rw [e1, e2] at h3
  exact h3
/-- In order, where no two are the same. -/
theorem rise_sorted {d : Array Ck} (h : SortedIn (ltOf cfK) 0 d.size d) (hn : d.toList.Nodup) : Rise d.toList := by
  show d.toList.Pairwise fun a b => lessK a b = true
  rw [List.pairwise_iff_getElem]
  intro i j hi hj hij
  have h1 : i < d.size := by simpa using hi
  have h2 : j < d.size := by simpa using hj
  have := h i j (Nat.zero_le _) hij h2
  rw [ltK, getElem!_pos d i h1, getElem!_pos d j h2] at this
  have hne : d.toList[j] ≠ d.toList[i] := fun e => by
    have := (List.nodup_iff_pairwise_ne.1 hn)
    exact (List.pairwise_iff_getElem.1 this i j hi hj hij) e.symm
  have := lessK_total (a := d.toList[j]) (b := d.toList[i]) hne (by simpa using this)
  exact this
/-- A row of checkpoints, no two of which are the same, put into order. -/
theorem sortK_any (W w : World) (l : List Ck) (v : Value) (hl : l.length ≤ 10000000) (hn : l.Nodup) (h : Cks W l v w) :
    Calls Try.prog 55 #[v, .func (.func 42) #[] #[]] w fun e w' => e = .returned (.tuple #[]) ∧ ∃ S, S.Perm l ∧ Rise S ∧ Cks W S v w' := by
  rcases h.1.2 with ⟨rfl, h0⟩ | ⟨g, cap, cur, rfl, hbase, hb, h1, h2, h3, h4⟩
  · have hcon := AnyF.slices_SortFunc_none sortK none 0 (.func (.func 42) #[] #[]) w
    change Calls Try.prog 55 _ _ _ at hcon
    have hn : l = [] := List.eq_nil_of_length_eq_zero h0
    subst hn
    exact hcon.mono fun e w' ⟨he, hw⟩ => ⟨he, [], List.Perm.refl _, List.Pairwise.nil, by rw [hw]; exact h⟩
  · have eg : ∀ args w, (callFunc 42 args).run Try.prog w = .ok (.enter 42 args) w := enters_of Try.func42 (by kernel_rfl) rfl
    have hH : HoldsK ckCells 3 w g 0 l.toArray := by
      refine holds_row id hb ?_
      rw [size_flatK, List.map_id, flat_cks, ← h4]
      simp
    have hcon := AnyQ.slices_SortFunc sortK 3 Try.isAgg26 Try.sizeOf26 ckCells (fun _ => rfl) (fun x v hv => by simp [ckCells] at hv; rcases hv with rfl | rfl | rfl <;> rfl) cfK swoK 42 #[] g 0 cap l.toArray w eg (cmpLaysK g 0 _ w) hH (Array.getElem?_eq_some_iff.1 hb).1 (by simp; omega)
    change Calls Try.prog 55 #[.slice (some ⟨g, 0, none⟩) l.length cap, _] _ _ at hcon
    refine hcon.mono ?_
    rintro e w' ⟨he, d', n, os, hp, hs, rfl⟩
    have hsz : d'.size = l.length := by have := hp.1; simpa using this
    have hs' : SortedIn (ltOf cfK) 0 d'.size d' := by rw [hsz]; simpa using hs
    have hpm : d'.toList.Perm l := by simpa using perm_ofK hp
    refine ⟨he, d'.toList, hpm, rise_sorted hs' (hpm.nodup_iff.2 hn), ?_, ?_⟩
    · have k := ownsRow_rowed (α := Value) id (w := w) (base := W.heap.size) (n := n) (os := os) (m := l.length) (size := 3) (d := flatK ckCells 3 d') (by rw [size_flatK, hsz]) hbase hb h1 h2 h3
      have e1 : (flatK ckCells 3 d').toList.map id = cksCells d'.toList := by
        rw [List.map_id, ← flat_cks]
      rw [e1] at k
      have e2 : d'.toList.length = l.length := by simp [hsz]
      rw [e2]
      exact k
    · exact h.2.grown (grownBy_rowed id _) fun k hk => by cases hk; exact hbase

end Go.Proofs.Ythaofomhlmajbaa
