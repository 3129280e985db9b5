/-
  Votes of one's own, put into order by the library's SortFunc.
-/
import Derived.Test.YtjcjglhoknbhpaaVoteRow
import Derived.Test.YtjcjglhoknbhpaaVoteLay
import Derived.Test.YtjcjglhoknbhpaaSortRow
namespace Go.Proofs.Ytjcjglhoknbhpaa
open Go.ChangeShapes Go.WideShapes Go.ChangeAt Go.RowKit Go.Sort Go.Lib Go.Shelf

instance : Inhabited Vt := ⟨⟨0, 0, (0, 0)⟩⟩
theorem flat_votes (l : List Vt) : (flatK vtCells 4 l.toArray).toList = votesCells l := by
  apply List.ext_getElem?
  intro j
  by_cases hj : j < l.length * 4
  · have hi : j / 4 < l.length := by omega
    have hk : j % 4 < (vtCells l[j / 4]).length := by show j % 4 < 4; omega
    have e := votesCells_at hi (List.getElem?_eq_getElem hk)
    rw [show j / 4 * 4 + j % 4 = j by omega] at e
    rw [e]
    have h2 := get_flatK vtCells 4 l.toArray j (by simpa using hj)
    have h3 : j < (flatK vtCells 4 l.toArray).size := by rw [size_flatK]; simpa using hj
    rw [getElem!_pos (flatK vtCells 4 l.toArray) j h3] at h2
    rw [Array.getElem?_toList, Array.getElem?_eq_getElem h3, h2]
    have h4 : l.toArray[j / 4]! = l[j / 4] := by simp [hi]
    rw [h4, getElem!_pos (vtCells l[j / 4]) (j % 4) hk]
  · rw [List.getElem?_eq_none (by simp; omega), List.getElem?_eq_none (by rw [votesCells_length]; omega)]
def cfV (x y : Vt) : Int := Lib.compareInt x.f y.f
theorem ltV (x y : Vt) : ltOf cfV x y = decide (x.f < y.f) := by
  unfold ltOf cfV Lib.compareInt
  by_cases h1 : x.f < y.f
  · simp [h1]
  · by_cases h2 : y.f < x.f <;> simp [h1, h2]
theorem swoV : SWO (ltOf cfV) where
  irrefl x := by rw [ltV]; simp
  trans x y z h1 h2 := by rw [ltV] at *; simp at *; omega
  ntrans x y z h1 h2 := by rw [ltV] at *; simp at *; omega
set_option maxHeartbeats 1000000 in
/-- The closure: who it is of, compared: two blocks are laid. -/
theorem cmpV_any (x y : Vt) (W : World) : Calls Try.prog 34 #[.agg #[.int .i64 x.f, .int .i64 x.s, .int .u64 x.p.1, .int .u64 x.p.2], .agg #[.int .i64 y.f, .int .i64 y.s, .int .u64 y.p.1, .int .u64 y.p.2]] W fun e w' => e = .returned (.int .i64 (cfV x y)) ∧ ∃ q os', w' = grow (W.drewN q) os' := by
  have hcon := fun W' => AnyG.cmp_Compare_int cmpI x.f y.f W'
  change ∀ W', Calls Try.prog 35 _ _ _ at hcon
  unfold cfV
  generalize Lib.compareInt x.f y.f = r at hcon ⊢
  go_enter Try.func34, Try.ntmps34
  go_wp2_with (go_at_call 35; refine (hcon _).mono ?_; rintro e w' ⟨rfl, rfl⟩)
  go_ret
  exact ⟨rfl, 0, _, by rw [alloc_eq_grow, alloc_eq_grow, grow_grow]; rfl⟩
theorem cmpLaysV (blk off size : Nat) (w : World) : CmpLays Try.prog 34 #[] vtCells 4 cfV blk off size w :=
  fun _ _ _ _ x y => cmpV_any x y _
theorem perm_of {d d' : Array Vt} (h : PermIn 0 d.size d d') : d'.toList.Perm d.toList := by
  obtain ⟨h1, _, h3⟩ := h
  have e1 : d'.extract 0 d.size = d' := by rw [← h1]; simp
  have e2 : d.extract 0 d.size = d := by simp
  rw [e1, e2] at h3
  exact h3
theorem sorted_of {d : Array Vt} (h : SortedIn (ltOf cfV) 0 d.size d) : d.toList.Pairwise fun a b => a.f ≤ b.f := by
  rw [List.pairwise_iff_getElem]
  intro i j hi hj hij
  have h1 : i < d.size := by simpa using hi
  have h2 : j < d.size := by simpa using hj
  have := h i j (Nat.zero_le _) hij h2
  rw [ltV, getElem!_pos d i h1, getElem!_pos d j h2] at this
  simp at this
  simpa using this

/-- A row of votes, put into order. -/
theorem sortV_any (W w : World) (l : List Vt) (v : Value) (hl : l.length ≤ 10000000) (h : Vts W l v w) :
    Calls Try.prog 33 #[v, .func (.func 34) #[] #[]] w fun e w' => e = .returned (.tuple #[]) ∧ ∃ S, S.Perm l ∧ (S.Pairwise fun a b => a.f ≤ b.f) ∧ Vts W S v w' := by
  rcases h.1.2 with ⟨rfl, h0⟩ | ⟨g, cap, cur, rfl, hbase, hb, h1, h2, h3, h4⟩
  · have hcon := AnyF.slices_SortFunc_none sortV none 0 (.func (.func 34) #[] #[]) w
    change Calls Try.prog 33 _ _ _ at hcon
    have hn : l = [] := List.eq_nil_of_length_eq_zero h0
    subst hn
    exact hcon.mono fun e w' ⟨he, hw⟩ => ⟨he, [], List.Perm.refl _, List.Pairwise.nil, by rw [hw]; exact h⟩
  · have eg : ∀ args w, (callFunc 34 args).run Try.prog w = .ok (.enter 34 args) w := enters_of Try.func34 (by kernel_rfl) rfl
    have hH : HoldsK vtCells 4 w g 0 l.toArray := by
      refine holds_row id hb ?_
      rw [size_flatK, List.map_id, flat_votes, ← h4]
      simp
    have hcon := AnyQ.slices_SortFunc sortV 4 Try.isAgg36 Try.sizeOf36 vtCells (fun _ => rfl) (fun x v hv => by simp [vtCells] at hv; rcases hv with rfl | rfl | rfl | rfl <;> rfl) cfV swoV 34 #[] g 0 cap l.toArray w eg (cmpLaysV g 0 _ w) hH (Array.getElem?_eq_some_iff.1 hb).1 (by simp; omega)
    change Calls Try.prog 33 #[.slice (some ⟨g, 0, none⟩) l.length cap, _] _ _ at hcon
    refine hcon.mono ?_
    rintro e w' ⟨he, d', n, os, hp, hs, rfl⟩
    have hsz : d'.size = l.length := by have := hp.1; simpa using this
    have hs' : SortedIn (ltOf cfV) 0 d'.size d' := by rw [hsz]; simpa using hs
    refine ⟨he, d'.toList, by simpa using perm_of hp, sorted_of hs', ?_, ?_⟩
    · have k := ownsRow_rowed (α := Value) id (w := w) (base := W.heap.size) (n := n) (os := os) (m := l.length) (size := 4) (d := flatK vtCells 4 d') (by rw [size_flatK, hsz]) hbase hb h1 h2 h3
      have e1 : (flatK vtCells 4 d').toList.map id = votesCells d'.toList := by
        rw [List.map_id, ← flat_votes]
      rw [e1] at k
      have e2 : d'.toList.length = l.length := by simp [hsz]
      rw [e2]
      exact k
    · exact h.2.grown (grownBy_rowed id _) fun k hk => by cases hk; exact hbase

end Go.Proofs.Ytjcjglhoknbhpaa
