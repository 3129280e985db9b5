/-
  The contracts of ffg's has, and justified: gone through till nothing more comes.
-/
import Derived.Deep.LoopGhost
import Derived.ScopeJumps
import Derived.Test.YthaofomhlmajbaaFfgGoes
import Derived.Test.YthaofomhlmajbaaFfgSort
import Derived.Test.YthaofomhlmajbaaFfgRefG
namespace Go.Proofs.Ythaofomhlmajbaa
set_option maxRecDepth 100000
set_option linter.unusedVariables false
set_option linter.unusedSimpArgs false
set_option linter.unusedSimpArgs false
set_option linter.unusedVariables false
open Go.ChangeShapes Go.WideShapes Go.ChangeAt Go.RowKit

/-! ### Plain -/
inductive Reach (A : List (Ck × Ck)) : Ck → Prop
  | first : Reach A firstK
  | next {s t : Ck} : Reach A s → (s, t) ∈ A → Reach A t
def pendK (A : List (Ck × Ck)) (J : List Ck) : Nat := (A.filter fun x => decide (x.1 ∉ J)).length
def freshK (O J : List Ck) : Nat := (O.filter fun x => decide (x ∉ J)).length
theorem pendK_nil (A : List (Ck × Ck)) : pendK A [] = A.length := by unfold pendK; rw [List.filter_eq_self.2 (fun x _ => by simp)]
theorem pendK_cons (A : List (Ck × Ck)) {J : List Ck} {s : Ck} (h : s ∉ J) : pendK A (s :: J) + (goesOf A s).length = pendK A J := by
  unfold pendK goesOf
  rw [List.length_map]
  induction A with
  | nil => rfl
  | cons x A ih =>
    simp only [List.filter_cons]
    by_cases e : x.1 = s
    · have h1 : decide (x.1 ∉ s :: J) = false := by simp [e]
      have h2 : decide (x.1 ∉ J) = true := by simp [e, h]
      have h3 : decide (x.1 = s) = true := by simp [e]
      simp only [h1, h2, h3, if_true, Bool.false_eq_true, if_false, List.length_cons]
      omega
    · have h3 : decide (x.1 = s) = false := by simp [e]
      by_cases e2 : x.1 ∈ J
      · have h1 : decide (x.1 ∉ s :: J) = false := by simp [e2]
        have h2 : decide (x.1 ∉ J) = false := by simp [e2]
        simp only [h1, h2, h3, Bool.false_eq_true, if_false]
        exact ih
      · have h1 : decide (x.1 ∉ s :: J) = true := by simp [e, e2]
        have h2 : decide (x.1 ∉ J) = true := by simp [e2]
        simp only [h1, h2, h3, if_true, Bool.false_eq_true, if_false, List.length_cons]
        omega
theorem freshK_append (O P J : List Ck) : freshK (O ++ P) J = freshK O J + freshK P J := by unfold freshK; rw [List.filter_append, List.length_append]
theorem freshK_le (O J : List Ck) : freshK O J ≤ O.length := List.length_filter_le _ _
theorem freshK_more (O J : List Ck) (s : Ck) : freshK O (s :: J) ≤ freshK O J := by
  unfold freshK
  induction O with
  | nil => exact Nat.le_refl _
  | cons x O ih =>
    simp only [List.filter_cons]
    by_cases e2 : x ∈ J
    · have h1 : decide (x ∉ s :: J) = false := by simp [e2]
      have h2 : decide (x ∉ J) = false := by simp [e2]
      simp only [h1, h2, Bool.false_eq_true, if_false]; exact ih
    · have h2 : decide (x ∉ J) = true := by simp [e2]
      simp only [h2, if_true]
      split <;> simp only [List.length_cons] <;> omega
theorem freshK_in {J : List Ck} {s : Ck} (h : s ∈ J) : freshK [s] J = 0 := by unfold freshK; simp [h]
theorem freshK_out {J : List Ck} {s : Ck} (h : s ∉ J) : freshK [s] J = 1 := by unfold freshK; simp [h]
/-- What is so between two rounds; n rounds at most are to come. -/
structure ThrI (A : List (Ck × Ck)) (n : Nat) (J O : List Ck) : Prop where
  num : 3 * pendK A J + O.length + freshK O J = n
  room : O.length + pendK A J ≤ A.length + 1
  nodup : J.Nodup
  just : ∀ x ∈ J, Reach A x
  wait : ∀ x ∈ O, Reach A x ∧ WfK x
  first : firstK ∈ J ∨ firstK ∈ O
  shut : ∀ s ∈ J, ∀ x, (s, x) ∈ A → x ∈ J ∨ x ∈ O
theorem WfK.first : WfK firstK := ⟨⟨by decide, by decide⟩, WfI.zid⟩
theorem ThrI.start (A : List (Ck × Ck)) : ThrI A (3 * A.length + 2) [] [firstK] where
  num := by rw [pendK_nil, freshK_out (by simp)]; simp
  room := by rw [pendK_nil]; simp; omega
  nodup := List.nodup_nil
  just := fun x hx => by cases hx
  wait := fun x hx => by rw [show x = firstK by simpa using hx]; exact ⟨.first, WfK.first⟩
  first := Or.inr (by simp)
  shut := fun s hs => by cases hs
theorem ThrI.pop {A : List (Ck × Ck)} {n : Nat} {J P : List Ck} {s : Ck} (I : ThrI A n J (P ++ [s])) (h : s ∈ J) : ∃ n', n' < n ∧ ThrI A n' J P := by
  have hn := I.num
  rw [freshK_append, freshK_in h, List.length_append, List.length_singleton] at hn
  refine ⟨_, ?_, ⟨rfl, by have := I.room; simp at this; omega, I.nodup, I.just, fun x hx => I.wait x (List.mem_append_left _ hx), ?_, ?_⟩⟩
  · omega
  · rcases I.first with q | q
    · exact Or.inl q
    · rcases List.mem_append.1 q with q | q
      · exact Or.inr q
      · rw [show firstK = s by simpa using q]; exact Or.inl h
  · intro y hy x hx
    rcases I.shut y hy x hx with q | q
    · exact Or.inl q
    · rcases List.mem_append.1 q with q | q
      · exact Or.inr q
      · rw [show x = s by simpa using q]; exact Or.inl h
theorem ThrI.add {A : List (Ck × Ck)} (hA : ∀ x ∈ A, WfWay x) {n : Nat} {J P : List Ck} {s : Ck} (I : ThrI A n J (P ++ [s])) (h : s ∉ J) : ∃ n', n' < n ∧ ThrI A n' (s :: J) (P ++ [s] ++ goesOf A s) := by
  have hn := I.num
  have hp := pendK_cons A h
  have hs := (I.wait s (by simp)).1
  rw [freshK_append, freshK_out h, List.length_append, List.length_singleton] at hn
  have h1 := freshK_more P J s
  have h2 := freshK_le (goesOf A s) (s :: J)
  have h3 : freshK [s] (s :: J) = 0 := freshK_in (by simp)
  refine ⟨_, ?_, ⟨rfl, ?_, List.nodup_cons.2 ⟨h, I.nodup⟩, fun x hx => ?_, fun x hx => ?_, ?_, ?_⟩⟩
  · rw [freshK_append, freshK_append, h3, List.length_append, List.length_append, List.length_singleton]
    omega
  · have := I.room
    simp only [List.length_append, List.length_singleton] at this ⊢
    omega
  · rcases List.mem_cons.1 hx with q | q
    · rw [q]; exact hs
    · exact I.just x q
  · rcases List.mem_append.1 hx with q | q
    · exact I.wait x q
    · have := mem_goesOf.1 q
      exact ⟨.next hs this, (hA _ this).2⟩
  · rcases I.first with q | q
    · exact Or.inl (List.mem_cons_of_mem _ q)
    · exact Or.inr (List.mem_append_left _ q)
  · intro y hy x hx
    rcases List.mem_cons.1 hy with q | q
    · subst q
      exact Or.inr (List.mem_append_right _ (mem_goesOf.2 hx))
    · rcases I.shut y q x hx with q | q
      · exact Or.inl (List.mem_cons_of_mem _ q)
      · exact Or.inr (List.mem_append_left _ q)
theorem ThrI.done {A : List (Ck × Ck)} {n : Nat} {J : List Ck} (I : ThrI A n J []) (x : Ck) : x ∈ J ↔ Reach A x := by
  refine ⟨I.just x, fun h => ?_⟩
  induction h with
  | first => rcases I.first with q | q; exact q; cases q
  | next _ hx ih => rcases I.shut _ ih _ hx with q | q; exact q; cases q
theorem ThrI.len {A : List (Ck × Ck)} {n : Nat} {J O : List Ck} (I : ThrI A n J O) : J.length ≤ A.length + 1 := by
  have := nodup_le (m := firstK :: A.map (·.2)) I.nodup fun x hx => by
    cases I.just x hx with
    | first => exact List.mem_cons_self
    | next _ h => exact List.mem_cons_of_mem _ (List.mem_map.2 ⟨_, h, rfl⟩)
  simpa using this

/-! ### The map -/
/-- Block b holds the checkpoints of J. -/
def JustM (b : Nat) (J : List Ck) (w : World) : Prop := OwnH ckKey unitV b J.length (fun _ => ()) (fun x => decide (x ∈ J)) w
theorem JustM.kept {b : Nat} {J : List Ck} {w w' : World} (h : JustM b J w) (k : Kept w w') : JustM b J w' := OwnH.kept h k
theorem JustM.put {b : Nat} {J : List Ck} {w : World} (h : JustM b J w) (hm : J.length < maxLen) {s : Ck} (hs : WfK s) :
    ∃ w', (Instr.mapUpdate 65 (.map (some b)) (.agg #[.int .i64 s.e, .int .u64 s.r.1, .int .u64 s.r.2]) (.agg #[])).run Try.prog w = .ok () w' ∧ JustM b (s :: J) w' ∧ w.grownBy w' (some b) := by
  obtain ⟨w', hrun, h1, h2⟩ := OwnH.update (K := ckKey) (V := unitV) (t := 65) Try.underlying65 h hm hs (y := ()) trivial
  refine ⟨w', hrun, ?_, h2⟩
  refine h1.congr (fun x _ => rfl) (fun x _ => ?_)
  unfold setF
  by_cases e : x = s
  · rw [if_pos e, e]; simp
  · rw [if_neg e]; simp [e]
theorem row_map_ne {α β : Type} {K : KeyKind α} {V : ValKind β} {b m : Nat} {f : α → β} {w : World} {base : Nat} {e : TypeId} {s n : Nat} {v : Value} {xs : List Value} (hr : w.ownsRow base e s v n xs) (hm : OwnF K V b m f w) : v.ownBlock = none ∨ v.ownBlock ≠ some b := by
  rcases hr.2 with ⟨rfl, _⟩ | ⟨g, cap, cur, rfl, _, hgb, _⟩
  · exact Or.inl rfl
  · refine Or.inr fun e' => ?_
    have : g = b := by injection e'
    subst this
    obtain ⟨D, ⟨es, clock, hb, _⟩, _⟩ := hm
    rw [hb] at hgb; cases hgb
theorem Cks.shrink {W w : World} {P : List Ck} {s : Ck} {A : Option Addr} {n c : Nat} (h : Cks W (P ++ [s]) (.slice A n c) w) : Cks W P (.slice A P.length c) w := by
  refine ⟨⟨by rw [cksCells_length], ?_⟩, h.2⟩
  rcases h.1.2 with ⟨_, e⟩ | ⟨g, cap, cur, hv, hg, hb, h1, h2, h3, h4⟩
  · simp at e
  · injection hv with hA hn hc
    subst hA hc
    rw [List.length_append, List.length_singleton] at h1 h4
    refine Or.inr ⟨g, c, cur, rfl, hg, hb, by omega, h2, h3, ?_⟩
    have h5 : cur.toList.take (P.length * 3) = (cur.toList.take ((P.length + 1) * 3)).take (P.length * 3) := by rw [List.take_take, Nat.min_eq_left (by omega)]
    rw [h5, h4, ← cksCells_append, List.take_left' (by rw [cksCells_length])]
theorem Cks.one (w : World) {W : World} (hk : Kept W w) (x : Ck) : Cks W [x] (.slice (some ⟨w.heap.size, 0, none⟩) 1 1) (w.alloc (.cells #[.int .i64 x.e, .int .u64 x.r.1, .int .u64 x.r.2] 26)) :=
  ⟨⟨rfl, Or.inr ⟨w.heap.size, 1, #[.int .i64 x.e, .int .u64 x.r.1, .int .u64 x.r.2], rfl, hk.size_le, World.alloc_heap_new _ _, Nat.le_refl _, by unfold maxLen; omega, rfl, rfl⟩⟩, hk.alloc _⟩
set_option maxRecDepth 100000 in
set_option maxHeartbeats 3200000 in
theorem hasJ_any (b : Nat) (J : List Ck) (x : Ck) (hx : WfK x) (w : World) (hM : JustM b J w) :
    Calls Try.prog 43 #[.map (some b), .agg #[.int .i64 x.e, .int .u64 x.r.1, .int .u64 x.r.2]] w fun e w' => e = .returned (.bool (decide (x ∈ J))) ∧ Kept w w' := by
  have K0 := Lib.hid ((Kept.refl w).alloc (.cells #[.int .i64 x.e, .int .u64 x.r.1, .int .u64 x.r.2] 26))
  have hl : (Instr.lookup 65 (.map (some b)) (.agg #[.int .i64 x.e, .int .u64 x.r.1, .int .u64 x.r.2]) true).run Try.prog (w.alloc (.cells #[.int .i64 x.e, .int .u64 x.r.1, .int .u64 x.r.2] 26)) = .ok (.tuple #[.agg #[], .bool (decide (x ∈ J))]) (w.alloc (.cells #[.int .i64 x.e, .int .u64 x.r.1, .int .u64 x.r.2] 26)) :=
    OwnH.look_ok (K := ckKey) (V := unitV) Try.underlying65 (hM.kept K0.out) hx
  generalize decide (x ∈ J) = r at *
  go_enter Try.func43, Try.ntmps43
  go_wp2_with fail
  go_ret
  exact ⟨rfl, K0.out.alloc _⟩

def ThrNew (A : List (Ck × Ck)) (w : World) (e : Ending) (w' : World) : Prop := ∃ (b : Nat) (J : List Ck), e = .returned (.map (some b)) ∧ J.Nodup ∧ J.length ≤ A.length + 1 ∧ (∀ x, x ∈ J ↔ Reach A x) ∧ (∀ x ∈ J, WfK x) ∧ JustM b J w' ∧ Kept w w'
theorem Reach.wf {A : List (Ck × Ck)} (hA : ∀ x ∈ A, WfWay x) {x : Ck} (h : Reach A x) : WfK x := by
  cases h with
  | first => exact WfK.first
  | next _ h => exact (hA _ h).2
set_option maxRecDepth 100000 in
set_option maxHeartbeats 3200000 in
theorem justified_any (A : List (Ck × Ck)) (hA : ∀ x ∈ A, WfWay x) (hl : A.length ≤ 10000) (B bg mg : Nat) (w : World) (hG : Group ckKey ckRow B (goesOf A) bg mg w) :
    Calls Try.prog 28 #[.map (some bg)] w (ThrNew A w) := by
  have hmm := @run_makeMap Try.prog
  have HG := Lib.hid hG
  have HAw := Lib.hid hA
  have HAl := Lib.hid hl
  have K0 := Lib.hid ((Kept.refl w).alloc (.map #[] 0))
  have HJ0 : Hid (JustM w.heap.size [] (w.alloc (.map #[] 0))) := Lib.hid ((OwnH.made (K := ckKey) (V := unitV) w).congr (fun _ _ => rfl) (fun x _ => by simp))
  have HO0 : Hid (Cks w [firstK] (.slice (some ⟨(w.alloc (.map #[] 0)).heap.size, 0, none⟩) 1 1) ((w.alloc (.map #[] 0)).alloc (.cells #[.int .i64 0, .int .u64 0, .int .u64 0] 26))) := Lib.hid (Cks.one _ K0.out firstK)
  have HJ1 := Lib.hid (HJ0.out.kept ((Kept.refl _).alloc (.cells #[.int .i64 0, .int .u64 0, .int .u64 0] 26)))
  clear hG hA hl
  go_enter Try.func28, Try.ntmps28
  go_wp2_with fail
  refine wp_scope_straight ?_
  go_wp2_with fail
  clear hmm K0 HJ0
  rw [World.size_alloc] at HO0
  generalize (w.alloc (.map #[] 0)).alloc (.cells #[.int .i64 0, .int .u64 0, .int .u64 0] 26) = W0 at *
  refine wp_label ?_
  go_wp2_with fail
  go_loopg [4, 5] (3 * A.length + 2) (fun n p q wr => ∃ (J O : List Ck) (D : Option Addr) (d : Nat), p = .slice D O.length d ∧ Cks w O (.slice D O.length d) wr ∧ JustM w.heap.size J wr ∧ ThrI A n J O)
  case atStart => exact ⟨[], [firstK], _, _, rfl, HO0.out, HJ1.out, ThrI.start A⟩
  case round =>
    obtain ⟨J, O, D, d, rfl, hO, hJ, hI⟩ := hrel
    have HO := Lib.hid hO
    have HJ := Lib.hid hJ
    have HI := Lib.hid hI
    clear hO hJ hI HO0 HJ1
    rcases List.eq_nil_or_concat O with hO | ⟨P, s, hO⟩
    · subst hO
      have HR := Lib.hid (fun x => HI.out.done x)
      have HN := Lib.hid HI.out.nodup
      have HLn := Lib.hid HI.out.len
      clear HI
      go_wp2_with fail
      go_ret
      exact ⟨w.heap.size, J, rfl, HN.out, HLn.out, HR.out, fun x hx => ((HR.out x).1 hx).wf HAw.out, HJ.out, HO.out.2⟩
    · rw [List.concat_eq_append] at hO
      subst hO
      have HPl : Hid ((P ++ [s]).length = P.length + 1) := Lib.hid (by simp)
      have HRm := Lib.hid (show P.length + 1 ≤ A.length + 1 by have := HI.out.room; simp at this; omega)
      have HS := Lib.hid (HI.out.wait s (by simp)).2
      have hPm : P.length + 1 ≤ 10001 := by have := HRm.out; have := HAl.out; omega
      obtain ⟨zc, oc, rfl, hbc, s0, s1, s2⟩ := ck_at (HO.out.cells rfl) (show P.length < (P ++ [s]).length by simp)
      rw [List.getElem_append_right (Nat.le_refl _)] at s0 s1 s2
      simp only [Nat.sub_self, List.getElem_cons_zero] at s0 s1 s2
      rw [HPl.out]
      go_wp2_with fail
      clear s0 s1 s2
      refine (hasJ_any w.heap.size J s HS.out wr HJ.out).mono ?_
      rintro e V1 ⟨rfl, k1⟩
      have HO1 := Lib.hid (HO.out.kept k1)
      have HJ1 := Lib.hid (HJ.out.kept k1)
      clear k1 HO HJ
      by_cases hs : s ∈ J
      · have hd : decide (s ∈ J) = true := decide_eq_true hs
        obtain ⟨n', hn', I'⟩ := HI.out.pop hs
        have HI' := Lib.hid I'
        have HN' := Lib.hid hn'
        have HO2 := Lib.hid HO1.out.shrink
        have hsl := upto_cks (some ⟨zc, oc, none⟩) (P.length + 1) d P.length (by have := HO1.out.cap; simp at this; omega) V1
        clear HI I' hn' hs HO1
        rw [hd]
        clear hd
        go_wp2_with fail
        go_roundg n'
        case measure => exact HN'.out
        case rel => exact ⟨J, P, _, d, rfl, HO2.out, HJ1.out, HI'.out⟩
      · have hd : decide (s ∈ J) = false := decide_eq_false hs
        obtain ⟨n', hn', I'⟩ := HI.out.add HAw.out hs
        have HI' := Lib.hid I'
        have HN' := Lib.hid hn'
        obtain ⟨V2, hrun, hJ2, g2⟩ := HJ1.out.put (by have := HI.out.len; have := HAl.out; unfold maxLen; omega) HS.out
        have k2 : Kept w V2 := HO1.out.2.grown g2 (fun k e => by cases e; exact Nat.le_refl _)
        have HO2 : Hid (Cks w (P ++ [s]) (.slice (some ⟨zc, oc, none⟩) (P.length + 1) d) V2) := Lib.hid ⟨by rw [← HPl.out]; exact HO1.out.1.kept g2 (row_map_ne HO1.out.1 (OwnH.f HJ1.out)), k2⟩
        have HJ2 := Lib.hid hJ2
        have HRl := Lib.hid (show (goesOf A s).length ≤ 10000 from Nat.le_trans (goesOf_length A s) HAl.out)
        obtain ⟨E, el, hlook, hce⟩ := (HG.out.kept k2).look (t := 68) Try.underlying68 (x := s) HS.out
        have hlook' : (Instr.lookup 68 (.map (some bg)) (.agg #[.int .i64 s.e, .int .u64 s.r.1, .int .u64 s.r.2]) false).run Try.prog V2 = .ok (.slice E (goesOf A s).length el) V2 := hlook
        have HCe := Lib.hid hce
        obtain ⟨zc2, oc2, e2, hbc2, s0, s1, s2⟩ := ck_at (HO1.out.cells (by simp)) (show P.length < (P ++ [s]).length by simp)
        injection e2 with e2
        injection e2 with e3 e4
        subst e3 e4
        rw [List.getElem_append_right (Nat.le_refl _)] at s0 s1 s2
        simp only [Nat.sub_self, List.getElem_cons_zero] at s0 s1 s2
        obtain ⟨zc2, oc2, e2, hbc3, t0, t1, t2⟩ := ck_at (HO2.out.cells (by simp)) (show P.length < (P ++ [s]).length by simp)
        injection e2 with e2
        injection e2 with e3 e4
        subst e3 e4
        rw [List.getElem_append_right (Nat.le_refl _)] at t0 t1 t2
        simp only [Nat.sub_self, List.getElem_cons_zero] at t0 t1 t2
        clear HI I' hn' hs hlook hce hJ2 g2 k2
        rw [hd]
        clear hd
        generalize goesOf A s = gs at *
        have HLn : Hid ((P ++ [s] ++ gs).length = P.length + (gs.length + 1)) := Lib.hid (by simp)
        go_wp2_with (refine wpList_cks _ rfl 42 Try.underlying42 _ _ rfl w (P ++ [s]) _ rfl HO2.out _ E gs.length el gs rfl rfl HCe.out (by have := HRl.out; simp; omega) ?_; intro D3 d3 w3 hO3 g3)
        replace g3 : V2.grownBy w3 (Value.slice (some ⟨zc, oc, none⟩) (P.length + 1) d).ownBlock := g3
        have HJ3 := Lib.hid (show JustM w.heap.size (s :: J) w3 from OwnH.at HJ2.out (g3.block _ (OwnH.f HJ2.out).lt (by
          rcases row_map_ne HO2.out.1 (OwnH.f HJ2.out) with q | q
          · rw [q]; simp
          · exact fun e => q e.symm)))
        have HO3 := Lib.hid hO3
        clear hO3 g3
        go_roundg n'
        case measure => exact HN'.out
        case rel => exact ⟨s :: J, P ++ [s] ++ gs, D3, d3, by rw [HLn.out], HO3.out, HJ3.out, HI'.out⟩

end Go.Proofs.Ythaofomhlmajbaa
