/-
  The contract of the library's DeleteFunc at checkpoints.
-/
import Derived.Lib.SliceRun
import Derived.Test.YthaofomhlmajbaaGreatFfgIndex
import Derived.Test.YthaofomhlmajbaaGreatFfgRefG
import Derived.Test.YthaofomhlmajbaaGreatSeqBack
namespace Go.Proofs.YthaofomhlmajbaaGreat
set_option maxRecDepth 100000
set_option linter.unusedVariables false
set_option linter.unusedSimpArgs false
set_option linter.unusedSimpArgs false
set_option linter.unusedVariables false
open Go.ChangeShapes Go.WideShapes Go.ChangeAt Go.RowKit Go.Lib

/-- What lay below lo lies as it was, and what lies from hi on in w. -/
def RDel (lo hi : Nat) (w V : World) : Prop := Below lo w V ∧ w.heap.size ≤ V.heap.size ∧ ∀ i, hi ≤ i → i < w.heap.size → V.heap[i]? = w.heap[i]?
theorem RDel.refl (lo hi : Nat) (w : World) : RDel lo hi w w := ⟨Below.refl _ _, Nat.le_refl _, fun _ _ _ => rfl⟩
theorem RDel.kept {lo hi : Nat} {w V V' : World} (hl : lo ≤ w.heap.size) (h : RDel lo hi w V) (k : Kept V V') : RDel lo hi w V' :=
  ⟨h.1.trans (k.mono (Nat.le_trans hl h.2.1)), Nat.le_trans h.2.1 k.size_le, fun i h1 h2 => (k.heap (by have := h.2.1; omega)).trans (h.2.2 i h1 h2)⟩
theorem heap_set {w : World} {p : Addr} {u : Value} {i : Nat} (h : i ≠ p.block) : (w.setCell p u).heap[i]? = w.heap[i]? := Below.heap_setCell _ _ _ i h
theorem RDel.set {lo hi gr : Nat} {w V : World} (h1 : lo ≤ gr) (h2 : gr < hi) (h : RDel lo hi w V) (o : Nat) (u : Value) : RDel lo hi w (V.setCell ⟨gr, o, none⟩ u) :=
  ⟨Below.setCell (p := ⟨gr, o, none⟩) h.1 h1 u, by simpa using h.2.1, fun i p q => (heap_set (p := ⟨gr, o, none⟩) (show i ≠ gr by omega)).trans (h.2.2 i p q)⟩
theorem below_setCells {lo b : Nat} (hb : lo ≤ b) : ∀ (vs : List Value) (o : Nat) (w : World), Below lo w (w.setCells b o vs)
  | [], _, w => Below.refl _ _
  | v :: r, o, w => (Below.setCell (p := ⟨b, o, none⟩) (Below.refl lo w) hb v).trans (below_setCells hb r (o + 1) _)
theorem size_setCells {b : Nat} : ∀ (vs : List Value) (o : Nat) (w : World), (w.setCells b o vs).heap.size = w.heap.size
  | [], _, w => rfl
  | v :: r, o, w => by rw [World.setCells, size_setCells r]; simp
theorem run_clear_ck (w : World) (ty : TypeId) (b o n c : Nat) (hn : 0 < n) (hc : ∀ j, j < n * 3 → (w.cell? ⟨b, o + j, none⟩).isSome = true) (hf : ∀ j, j < n * 3 → w.frozen? ⟨b, o + j, none⟩ = false) :
    ∃ vs : List Value, vs.length = n * 3 ∧ (Builtin.clear_ #[30] ty #[.slice (some ⟨b, o, none⟩) n c]).run Tryz.prog w = .ok (.tuple #[]) (w.setCells b o vs) := by
  have hl : (Builtin.zeroCells (Value.agg #[.int .i64 0, .int .u64 0, .int .u64 0]).cells n).toList.length = n * 3 := by simp [Builtin.zeroCells, Value.cells]
  refine ⟨(Builtin.zeroCells (Value.agg #[.int .i64 0, .int .u64 0, .int .u64 0]).cells n).toList, hl, ?_⟩
  have hst := run_storeCells_cells (P := Tryz.prog) b o (Builtin.zeroCells (Value.agg #[.int .i64 0, .int .u64 0, .int .u64 0]).cells n).toList 0 w (by rw [hl]; simpa using hc) (by rw [hl]; simpa using hf) (by
    intro v hv
    simp only [Builtin.zeroCells, Array.toList_map, List.mem_map] at hv
    obtain ⟨i, _, rfl⟩ := hv
    have h3 : i % (Value.agg #[.int .i64 0, .int .u64 0, .int .u64 0]).cells.size = 0 ∨ i % (Value.agg #[.int .i64 0, .int .u64 0, .int .u64 0]).cells.size = 1 ∨ i % (Value.agg #[.int .i64 0, .int .u64 0, .int .u64 0]).cells.size = 2 := by
      show i % 3 = 0 ∨ i % 3 = 1 ∨ i % 3 = 2
      omega
    rcases h3 with e | e | e <;> rw [e] <;> rfl)
  simp only [Nat.add_zero] at hst
  obtain ⟨m, rfl⟩ : ∃ m, n = m + 1 := ⟨n - 1, by omega⟩
  simp [Builtin.clear_, run_underlying Tryz.underlying30, Tryz.zeroValue38, hst]
theorem Cks.set3 {W w : World} {l : List Ck} {g n c : Nat} (h : Cks W l (.slice (some ⟨g, 0, none⟩) n c) w) {i : Nat} (hi : i < l.length) (x : Ck) :
    Cks W (l.set i x) (.slice (some ⟨g, 0, none⟩) n c) (((w.setCell ⟨g, i * 3, none⟩ (.int .i64 x.e)).setCell ⟨g, i * 3 + 1, none⟩ (.int .u64 x.r.1)).setCell ⟨g, i * 3 + 2, none⟩ (.int .u64 x.r.2)) := by
  have h1 := h.set hi (j := 0) (by omega) (u := .int .i64 x.e) (t := ⟨x.e, l[i].r⟩) rfl
  have h2 := h1.set (i := i) (by simpa using hi) (j := 1) (by omega) (u := .int .u64 x.r.1) (t := ⟨x.e, (x.r.1, l[i].r.2)⟩) (by rw [List.getElem_set_self]; rfl)
  have h3 := h2.set (i := i) (by simpa using hi) (j := 2) (by omega) (u := .int .u64 x.r.2) (t := x) (by rw [List.getElem_set_self]; rfl)
  rw [List.set_set, List.set_set] at h3
  exact h3
theorem cks_at {W w : World} {l : List Ck} {g n c : Nat} (h : Cks W l (.slice (some ⟨g, 0, none⟩) n c) w) {i : Nat} (hi : i < l.length) :
    w.cell? ⟨g, i * 3, none⟩ = some (.int .i64 l[i].e) ∧ w.cell? ⟨g, i * 3 + 1, none⟩ = some (.int .u64 l[i].r.1) ∧ w.cell? ⟨g, i * 3 + 2, none⟩ = some (.int .u64 l[i].r.2) := by
  have hn : n = l.length := by
    obtain ⟨A, c', e⟩ := h.slice
    injection e
  obtain ⟨z, o, e, _, h0, h1, h2⟩ := ck_at (h.cells hn) hi
  injection e with e
  cases e
  rw [Nat.zero_add] at h0 h1 h2
  exact ⟨h0, h1, h2⟩
/-- What lies in the row, when those ahead of number j are gone through, and i of them stay. -/
structure DelI (q : Ck → Bool) (l : List Ck) (i j : Nat) (S : List Ck) : Prop where
  lt : i < j
  le : j ≤ l.length
  len : S.length = l.length
  head : S.take i = (l.take j).filter fun x => !q x
  tail : ∀ m, j ≤ m → S[m]? = l[m]?
theorem DelI.start {q : Ck → Bool} {l : List Ck} {i : Nat} (hi : i < l.length) (h : ∀ m (hm : m < l.length), m < i → q l[m] = false) (h2 : q l[i] = true) : DelI q l i (i + 1) l := by
  refine ⟨by omega, hi, rfl, ?_, fun _ _ => rfl⟩
  rw [List.take_succ_eq_append_getElem hi, List.filter_append, List.filter_cons_of_neg (by rw [h2]; decide), List.filter_nil, List.append_nil, Eq.comm, List.filter_eq_self]
  intro x hx
  obtain ⟨m, hm, rfl⟩ := List.getElem_of_mem hx
  rw [List.length_take] at hm
  rw [List.getElem_take, h m (by omega) (by omega)]
  rfl
theorem DelI.skip {q : Ck → Bool} {l : List Ck} {i j : Nat} {S : List Ck} (I : DelI q l i j S) (hj : j < l.length) (h : q l[j] = true) : DelI q l i (j + 1) S := by
  refine ⟨by have := I.lt; omega, hj, I.len, ?_, fun m hm => I.tail m (by omega)⟩
  rw [List.take_succ_eq_append_getElem hj, List.filter_append, List.filter_cons_of_neg (by rw [h]; decide), List.filter_nil, List.append_nil]
  exact I.head
theorem DelI.keep {q : Ck → Bool} {l : List Ck} {i j : Nat} {S : List Ck} (I : DelI q l i j S) (hj : j < l.length) (h : q l[j] = false) : DelI q l (i + 1) (j + 1) (S.set i l[j]) := by
  have hlt := I.lt
  have hlen := I.len
  refine ⟨by omega, hj, by simp [hlen], ?_, fun m hm => ?_⟩
  · rw [List.take_succ_eq_append_getElem (by simp; omega), List.getElem_set_self, List.take_succ_eq_append_getElem hj, List.filter_append, List.filter_cons_of_pos (by rw [h]; rfl), List.filter_nil, ← I.head]
    congr 1
    rw [List.take_set, List.set_eq_of_length_le (by rw [List.length_take]; omega)]
  · rw [List.getElem?_set_ne (by omega)]
    exact I.tail m (by omega)
theorem DelI.at {q : Ck → Bool} {l : List Ck} {i j : Nat} {S : List Ck} (I : DelI q l i j S) (hj : j < l.length) : ∃ h : j < S.length, S[j] = l[j] := by
  have h := I.tail j (Nat.le_refl _)
  refine ⟨by rw [I.len]; exact hj, ?_⟩
  rw [List.getElem?_eq_getElem (by rw [I.len]; exact hj), List.getElem?_eq_getElem hj] at h
  injection h
theorem idxK_cases (q : Ck → Bool) (l : List Ck) : (idxK q l = -1 ∧ l.filter (fun x => !q x) = l) ∨ ∃ i, ∃ h : i < l.length, idxK q l = i ∧ DelI q l i (i + 1) l := by
  unfold idxK
  by_cases h : l.findIdx q < l.length
  · rw [if_pos h]
    refine Or.inr ⟨_, h, rfl, DelI.start h (fun m hm hlt => ?_) (List.findIdx_getElem (w := h))⟩
    have := List.not_of_lt_findIdx hlt
    simpa using this
  · rw [if_neg h]
    refine Or.inl ⟨rfl, List.filter_eq_self.2 fun x hx => ?_⟩
    have e : l.findIdx q = l.length := by have := List.findIdx_le_length (p := q) (xs := l); omega
    have := List.findIdx_eq_length.1 e x hx
    simp [this]

set_option maxRecDepth 100000 in
set_option maxHeartbeats 3200000 in
theorem deleteK_any (Wb : World) (lo hi gr c : Nat) (l : List Ck) (hl : l.length ≤ 100000) (hwf : ∀ x ∈ l, WfK x) (f : Nat) (cb : Array Value) (q : Ck → Bool) (w : World) (hlo : lo ≤ gr) (hhi : gr < hi) (hlw : lo ≤ w.heap.size) (hF : FitsK f cb q (RDel lo hi w)) (hC : Cks Wb l (.slice (some ⟨gr, 0, none⟩) l.length c) w)
    (eg : ∀ args w, (callFunc f args).run Tryz.prog w = .ok (.enter f args) w) :
    Calls Tryz.prog 18 #[.slice (some ⟨gr, 0, none⟩) l.length c, .func (.func f) #[] cb] w fun e w' => e = .returned (.slice (some ⟨gr, 0, none⟩) (l.filter fun x => !q x).length c) ∧ CellsAt w' w'.heap.size (some ⟨gr, 0, none⟩) (cksCells (l.filter fun x => !q x)) ∧ (l.filter fun x => !q x).length ≤ c ∧ Kept Wb w' := by
  have HX := Lib.hid (indexK_any (some ⟨gr, 0, none⟩) c l (by omega) hwf f cb q (RDel lo hi w) (fun W W' h k => h.kept hlw k) hF w (RDel.refl lo hi w) (hC.cells rfl) eg)
  have HF := Lib.hid hF
  have HC := Lib.hid hC
  have HWf := Lib.hid hwf
  have HLo := Lib.hid (⟨hlo, hhi, hlw⟩ : lo ≤ gr ∧ gr < hi ∧ lo ≤ w.heap.size)
  clear hF hC hwf hlo hhi hlw
  rcases idxK_cases q l with ⟨e1, e2⟩ | ⟨i0, hi0, e1, hI0⟩
  · rw [e1] at HX
    rw [e2]
    go_enter Tryz.func18, Tryz.ntmps18
    go_wp2_with fail
    refine HX.out.mono ?_
    rintro e W1 ⟨rfl, k1⟩
    have HC1 := Lib.hid (HC.out.kept k1)
    clear k1
    go_wp2_with fail
    go_ret
    exact ⟨rfl, HC1.out.cells rfl, HC1.out.cap, HC1.out.2⟩
  · rw [e1] at HX
    have HI0 := Lib.hid hI0
    clear hI0 e1
    go_enter Tryz.func18, Tryz.ntmps18
    go_wp2_with fail
    refine HX.out.mono ?_
    rintro e W1 ⟨rfl, k1⟩
    have HC1 := Lib.hid (HC.out.kept k1)
    have HR1 := Lib.hid ((RDel.refl lo hi w).kept HLo.out.2.2 k1)
    have hne : ((i0 : Int) == -1) = false := beq_eq_false_iff_ne.2 (by omega)
    clear k1 HX HC
    go_wp2_with fail
    go_loopw [5, 6] (fun s5 s6 wr => ∃ (i j : Nat) (S : List Ck), s5 = .int .i64 i ∧ s6 = .int .i64 j ∧ j ≤ l.length ∧ Hid (DelI q l i j S) ∧ Cks Wb S (.slice (some ⟨gr, 0, none⟩) l.length c) wr ∧ RDel lo hi w wr) (fun _ s6 _ => l.length - (intOf s6).toNat)
    case atStart => exact ⟨i0, i0 + 1, l, rfl, by go_num, HI0.out.le, HI0, HC1.out, HR1.out⟩
    case round =>
      obtain ⟨i, j, S, rfl, rfl, hj, HI, hC, hR⟩ := hrel
      have HC := Lib.hid hC
      have HR := Lib.hid hR
      clear hC hR HC1 HR1 HI0
      have hSl := HI.out.len
      have hij := HI.out.lt
      have hcap := HC.out.cap
      by_cases hlt : j < l.length
      · obtain ⟨hjS, eS⟩ := HI.out.at hlt
        obtain ⟨x0, x1, x2⟩ := cks_at HC.out hjS
        rw [eS] at x0 x1 x2
        clear eS
        have HX := Lib.hid (HWf.out _ (List.getElem_mem hlt))
        have HSk := Lib.hid (fun h : q l[j] = true => HI.out.skip hlt h)
        have HKp := Lib.hid (fun h : q l[j] = false => HI.out.keep hlt h)
        generalize l[j] = x at *
        have K0 := Lib.hid ((Kept.refl wr).alloc (.cells #[.int .i64 x.e, .int .u64 x.r.1, .int .u64 x.r.2] 38))
        have HB := Lib.hid (HasCells.new wr #[.int .i64 x.e, .int .u64 x.r.1, .int .u64 x.r.2] 38 wr.heap.size rfl)
        clear HI
        go_wp2_with fail
        clear x0 x1 x2
        refine (HF.out (wr.alloc (.cells #[.int .i64 x.e, .int .u64 x.r.1, .int .u64 x.r.2] 38)) (HR.out.kept HLo.out.2.2 K0.out) x HX.out).mono ?_
        rintro e W2 ⟨rfl, k1⟩
        have HC2 := Lib.hid ((HC.out.kept K0.out).kept k1)
        have HR2 := Lib.hid ((HR.out.kept HLo.out.2.2 K0.out).kept HLo.out.2.2 k1)
        obtain ⟨b0, b1, b2⟩ := (HB.out.kept k1).three
        clear k1 HB HC HR K0
        cases hq : q x with
        | true =>
          have HE := Lib.hid (HSk.out hq)
          clear hq HSk HKp
          go_wp2_with fail
          go_roundw
          case rel => exact ⟨i, j + 1, S, by go_num, by go_num, by omega, HE, HC2.out, HR2.out⟩
          case measure => simp [intOf]; omega
        | false =>
          have HE := Lib.hid (HKp.out hq)
          clear hq HSk HKp
          obtain ⟨y0, y1, y2⟩ := cks_at HC2.out (show i < S.length by omega)
          have f0 := HC2.out.frozen (i * 3)
          have f1 := HC2.out.frozen (i * 3 + 1)
          have f2 := HC2.out.frozen (i * 3 + 2)
          have HC3 := Lib.hid (HC2.out.set3 (show i < S.length by omega) x)
          have HR3 := Lib.hid (((HR2.out.set HLo.out.1 HLo.out.2.1 (i * 3) (.int .i64 x.e)).set HLo.out.1 HLo.out.2.1 (i * 3 + 1) (.int .u64 x.r.1)).set HLo.out.1 HLo.out.2.1 (i * 3 + 2) (.int .u64 x.r.2))
          clear HC2 HR2
          go_wp2_with fail
          go_roundw
          case rel => exact ⟨i + 1, j + 1, S.set i x, by go_num, by go_num, by omega, HE, HC3.out, HR3.out⟩
          case measure => simp [intOf]; omega
      · have hjx : j = l.length := by omega
        subst hjx
        have eh := HI.out.head
        rw [List.take_length] at eh
        have hfl : (l.filter fun x => !q x).length = i := by rw [← eh, List.length_take]; omega
        obtain ⟨ii, hii, _, hsz, _⟩ := info_of Tryz.infoCk
        have hn3 : (0 : Nat) < l.length - i := by omega
        have hfrom := fun w' => run_from _ _ ii Tryz.underlying30 hii (some ⟨gr, 0, none⟩) l.length c i (by omega) w'
        rw [if_neg (show ¬ c = i by omega), hsz] at hfrom
        simp only [Option.map, add_none, Nat.zero_add] at hfrom
        obtain ⟨vs, hvl, hclr⟩ := run_clear_ck wr 0 gr (i * 3) (l.length - i) (c - i) hn3 (fun m hm => by
          have h1 : i + m / 3 < S.length := by omega
          obtain ⟨y0, y1, y2⟩ := cks_at HC.out h1
          rcases (show m % 3 = 0 ∨ m % 3 = 1 ∨ m % 3 = 2 by omega) with e | e | e
          · rw [show i * 3 + m = (i + m / 3) * 3 by omega, y0]; rfl
          · rw [show i * 3 + m = (i + m / 3) * 3 + 1 by omega, y1]; rfl
          · rw [show i * 3 + m = (i + m / 3) * 3 + 2 by omega, y2]; rfl) (fun m _ => HC.out.frozen _)
        have hupto := fun w' => upto_cks (some ⟨gr, 0, none⟩) l.length c i (by omega) w'
        have HEnd := Lib.hid (show CellsAt (wr.setCells gr (i * 3) vs) (wr.setCells gr (i * 3) vs).heap.size (some ⟨gr, 0, none⟩) (cksCells (l.filter fun x => !q x)) from by
          rw [← eh, size_setCells]
          have h1 := cells_cks_take (HC.out.cells hSl.symm) i
          intro m u hu
          obtain ⟨ad, e1, e2, e3⟩ := h1 m u hu
          refine ⟨ad, e1, e2, ?_⟩
          cases e1
          have hm := (List.getElem?_eq_some_iff.1 hu).1
          rw [cksCells_length, List.length_take] at hm
          rw [add_none, Nat.zero_add] at e3 ⊢
          rw [World.cell?_setCells_out _ _ _ _ _ (fun _ _ => Or.inl (by show m < i * 3; omega))]
          exact e3)
        have HKW := Lib.hid (show Kept Wb (wr.setCells gr (i * 3) vs) from HC.out.2.trans' (below_setCells HC.out.ge.1 vs (i * 3) wr))
        go_wp2_with simp only [hclr, Result.andThen]
        go_ret
        exact ⟨by rw [hfl]; rfl, HEnd.out, by rw [hfl]; omega, HKW.out⟩

end Go.Proofs.YthaofomhlmajbaaGreat
