/-
  Lists of blocks, of votes, and views, held against one another: just those that are the same.
-/
import Derived.BigQuiet
import Derived.Test.YtacdiicnfoejoaaViewMath
import Derived.Test.YtacdiicnfoejoaaApiEq
import Derived.Test.YtacdiicnfoejoaaTreeG
import Derived.Test.YtacdiicnfoejoaaVoteG
import Derived.Test.YtacdiicnfoejoaaViewOpen
namespace Go.Proofs.Ytacdiicnfoejoaa
set_option maxRecDepth 100000
set_option linter.unusedVariables false
set_option linter.unusedSimpArgs false
set_option linter.unusedSimpArgs false
set_option linter.unusedVariables false
open Go.ChangeShapes Go.WideShapes Go.ChangeAt Go.RowKit

theorem eqBd (a b : Bk) (w : World) : Sem.run Try.prog (Op.equalIn 10000 42 (.agg #[.int .i64 a.s, .int .i64 a.f, .int .u64 a.p.1, .int .u64 a.p.2, .int .u64 a.t]) (.agg #[.int .i64 b.s, .int .i64 b.f, .int .u64 b.p.1, .int .u64 b.p.2, .int .u64 b.t])) w = .ok (decide (a = b)) w := by
  rw [eqBlock]
  congr 1
  rw [Bool.eq_iff_iff, decide_eq_true_iff]
  simp only [Bool.and_eq_true, beq_iff_eq]
  constructor
  · rintro ⟨h1, h2, ⟨h3, h4⟩, h5⟩
    exact Bk.same h1 h2 (Prod.ext (by omega) (by omega)) (by omega)
  · rintro rfl
    exact ⟨rfl, rfl, ⟨rfl, rfl⟩, rfl⟩
theorem eqVd (a b : Vt) (w : World) : Sem.run Try.prog (Op.equalIn 10000 45 (.agg #[.int .i64 a.f, .int .i64 a.s, .int .u64 a.p.1, .int .u64 a.p.2]) (.agg #[.int .i64 b.f, .int .i64 b.s, .int .u64 b.p.1, .int .u64 b.p.2])) w = .ok (decide (a = b)) w := by
  rw [eqVote]
  congr 1
  rw [Bool.eq_iff_iff, decide_eq_true_iff]
  simp only [Bool.and_eq_true, beq_iff_eq]
  constructor
  · rintro ⟨h1, h2, h3, h4⟩
    exact Vt.same h1 h2 (Prod.ext (by omega) (by omega))
  · rintro rfl
    exact ⟨rfl, rfl, rfl, rfl⟩
theorem take_same_succ {α : Type} {l m : List α} {j : Nat} (hl : j < l.length) (hm : j < m.length) (h : l.take j = m.take j) (e : l[j] = m[j]) : l.take (j + 1) = m.take (j + 1) := by
  rw [List.take_succ_eq_append_getElem hl, List.take_succ_eq_append_getElem hm, h, e]

attribute [local go_sem high] eqBd in
set_option maxRecDepth 100000 in
set_option maxHeartbeats 1600000 in
theorem blocks_same_any (A : Option Addr) (ca : Nat) (B : Option Addr) (cb : Nat) (l m : List Bk) (w : World) (hl : l.length ≤ 1000000) (hm : m.length ≤ 1000000) (hA : CellsAt w w.heap.size A (blockCells l)) (hB : CellsAt w w.heap.size B (blockCells m)) :
    Calls Try.prog 31 #[.slice A l.length ca, .slice B m.length cb] w fun e w' => e = .returned (.bool (decide (l = m))) ∧ Kept w w' := by
  have HA := Lib.hid hA
  have HB := Lib.hid hB
  clear hA hB
  by_cases hn : l.length = m.length
  · have hnn : ((l.length : Int) == (m.length : Int)) = true := by rw [beq_iff_eq]; omega
    have HN := Lib.hid hn
    rw [hn]
    clear hn hnn
    go_enter Try.func31, Try.ntmps31
    go_wp2_with fail
    go_loopw [5] (fun i w' => ∃ j : Nat, j ≤ m.length ∧ i = .int .i64 (j : Nat) ∧ Hid (l.take j = m.take j) ∧ Kept w w') (fun i _ => m.length - (intOf i).toNat)
    case atStart => exact ⟨0, by omega, rfl, Lib.hid rfl, Kept.refl _⟩
    case round =>
      obtain ⟨j, hj, rfl, HT, hKr⟩ := hrel
      have HR := Lib.hid hKr
      clear hKr
      by_cases hlt : j < m.length
      · have hlt2 : j < l.length := by have := HN.out; omega
        obtain ⟨z, o, rfl, hb, c0, c1, c2, c3, c4⟩ := block_at (HA.out.kept HR.out) hlt2
        obtain ⟨z', o', rfl, hb', d0, d1, d2, d3, d4⟩ := block_at (HB.out.kept HR.out) hlt
        have HS := Lib.hid (fun e => take_same_succ hlt2 hlt HT.out e)
        have HD := Lib.hid (fun (e : ¬ l[j] = m[j]) => show decide (l = m) = false from decide_eq_false fun q => e (by subst q; rfl))
        generalize l[j] = x at *
        generalize m[j] = y at *
        go_wp2_with fail
        by_cases hxy : x = y
        · have HE := Lib.hid (HS.out hxy)
          have hdd : decide (x = y) = true := decide_eq_true hxy
          clear hxy HS HD
          go_quiet (fail)
          go_wp2_with fail
          go_roundw
          case rel => exact ⟨j + 1, by omega, by go_num, HE, HR.out.drewN _⟩
          case measure => simp [intOf]; omega
        · have HE := Lib.hid (HD.out hxy)
          have hdd : decide (x = y) = false := decide_eq_false hxy
          clear hxy HS HD
          go_quiet (fail)
          go_wp2_with fail
          go_ret
          exact ⟨by rw [HE.out]; rfl, HR.out.drewN _⟩
      · have hjl : j = m.length := by omega
        subst hjl
        have HE := Lib.hid (show decide (l = m) = true from decide_eq_true (by
          have := HT.out
          rw [List.take_length, List.take_of_length_le (by have := HN.out; omega)] at this
          exact this))
        go_wp2_with fail
        go_ret
        exact ⟨by rw [HE.out]; rfl, HR.out⟩
  · have hnn : ((l.length : Int) == (m.length : Int)) = false := by rw [beq_eq_false_iff_ne]; omega
    have HE := Lib.hid (show decide (l = m) = false from decide_eq_false fun q => hn (by rw [q]))
    have hne : ¬ (l.length : Int) = (m.length : Int) := by omega
    clear hn
    go_enter Try.func31, Try.ntmps31
    go_wp2_with fail
    go_ret
    exact ⟨by rw [HE.out]; rfl, Kept.refl _⟩

attribute [local go_sem high] eqVd in
set_option maxRecDepth 100000 in
set_option maxHeartbeats 1600000 in
theorem votes_same_any (A : Option Addr) (ca : Nat) (B : Option Addr) (cb : Nat) (l m : List Vt) (w : World) (hl : l.length ≤ 1000000) (hm : m.length ≤ 1000000) (hA : CellsAt w w.heap.size A (votesCells l)) (hB : CellsAt w w.heap.size B (votesCells m)) :
    Calls Try.prog 32 #[.slice A l.length ca, .slice B m.length cb] w fun e w' => e = .returned (.bool (decide (l = m))) ∧ Kept w w' := by
  have HA := Lib.hid hA
  have HB := Lib.hid hB
  clear hA hB
  by_cases hn : l.length = m.length
  · have hnn : ((l.length : Int) == (m.length : Int)) = true := by rw [beq_iff_eq]; omega
    have HN := Lib.hid hn
    rw [hn]
    clear hn hnn
    go_enter Try.func32, Try.ntmps32
    go_wp2_with fail
    go_loopw [5] (fun i w' => ∃ j : Nat, j ≤ m.length ∧ i = .int .i64 (j : Nat) ∧ Hid (l.take j = m.take j) ∧ Kept w w') (fun i _ => m.length - (intOf i).toNat)
    case atStart => exact ⟨0, by omega, rfl, Lib.hid rfl, Kept.refl _⟩
    case round =>
      obtain ⟨j, hj, rfl, HT, hKr⟩ := hrel
      have HR := Lib.hid hKr
      clear hKr
      by_cases hlt : j < m.length
      · have hlt2 : j < l.length := by have := HN.out; omega
        obtain ⟨z, o, rfl, hb, c0, c1, c2, c3⟩ := vote_at (HA.out.kept HR.out) hlt2
        obtain ⟨z', o', rfl, hb', d0, d1, d2, d3⟩ := vote_at (HB.out.kept HR.out) hlt
        have HS := Lib.hid (fun e => take_same_succ hlt2 hlt HT.out e)
        have HD := Lib.hid (fun (e : ¬ l[j] = m[j]) => show decide (l = m) = false from decide_eq_false fun q => e (by subst q; rfl))
        generalize l[j] = x at *
        generalize m[j] = y at *
        go_wp2_with fail
        by_cases hxy : x = y
        · have HE := Lib.hid (HS.out hxy)
          have hdd : decide (x = y) = true := decide_eq_true hxy
          clear hxy HS HD
          go_quiet (fail)
          go_wp2_with fail
          go_roundw
          case rel => exact ⟨j + 1, by omega, by go_num, HE, HR.out.drewN _⟩
          case measure => simp [intOf]; omega
        · have HE := Lib.hid (HD.out hxy)
          have hdd : decide (x = y) = false := decide_eq_false hxy
          clear hxy HS HD
          go_quiet (fail)
          go_wp2_with fail
          go_ret
          exact ⟨by rw [HE.out]; rfl, HR.out.drewN _⟩
      · have hjl : j = m.length := by omega
        subst hjl
        have HE := Lib.hid (show decide (l = m) = true from decide_eq_true (by
          have := HT.out
          rw [List.take_length, List.take_of_length_le (by have := HN.out; omega)] at this
          exact this))
        go_wp2_with fail
        go_ret
        exact ⟨by rw [HE.out]; rfl, HR.out⟩
  · have hnn : ((l.length : Int) == (m.length : Int)) = false := by rw [beq_eq_false_iff_ne]; omega
    have HE := Lib.hid (show decide (l = m) = false from decide_eq_false fun q => hn (by rw [q]))
    have hne : ¬ (l.length : Int) = (m.length : Int) := by omega
    clear hn
    go_enter Try.func32, Try.ntmps32
    go_wp2_with fail
    go_ret
    exact ⟨by rw [HE.out]; rfl, Kept.refl _⟩

set_option maxRecDepth 100000 in
set_option maxHeartbeats 1600000 in
theorem refVSame_any (lA : Option Addr) (lc : Nat) (l : List Bk) (vA : Option Addr) (vc : Nat) (v : List Vt) (mA : Option Addr) (mc : Nat) (m : List Bk) (uA : Option Addr) (uc : Nat) (u : List Vt) (w : World)
    (hl : l.length ≤ 1000000) (hv : v.length ≤ 1000000) (hm : m.length ≤ 1000000) (hu : u.length ≤ 1000000) (hL : CellsAt w w.heap.size lA (blockCells l)) (hV : CellsAt w w.heap.size vA (votesCells v)) (hM : CellsAt w w.heap.size mA (blockCells m)) (hU : CellsAt w w.heap.size uA (votesCells u)) :
    Calls Try.prog 14 #[.agg #[.slice lA l.length lc, .slice vA v.length vc], .agg #[.slice mA m.length mc, .slice uA u.length uc]] w fun e w' => e = .returned (.bool (decide (l = m) && decide (v = u))) ∧ Kept w w' := by
  have K0 := Lib.hid (((Kept.refl w).alloc (.cells #[.slice lA l.length lc, .slice vA v.length vc] 29)).alloc (.cells #[.slice mA m.length mc, .slice uA u.length uc] 29))
  have HX := Lib.hid (blocks_same_any lA lc mA mc l m _ hl hm (hL.kept K0.out) (hM.kept K0.out))
  have HY := Lib.hid (fun w' (k : Kept _ w') => votes_same_any vA vc uA uc v u w' hv hu ((hV.kept K0.out).kept k) ((hU.kept K0.out).kept k))
  clear hL hV hM hU
  have HB1 := Lib.hid ((HasCells.new w #[.slice lA l.length lc, .slice vA v.length vc] 29 w.heap.size rfl).alloc (.cells #[.slice mA m.length mc, .slice uA u.length uc] 29))
  have HB2 := Lib.hid (HasCells.new (w.alloc (.cells #[.slice lA l.length lc, .slice vA v.length vc] 29)) #[.slice mA m.length mc, .slice uA u.length uc] 29 (w.heap.size + 1) (by simp))
  generalize decide (l = m) = p at *
  generalize decide (v = u) = q at *
  go_enter Try.func14, Try.ntmps14
  go_wp2_with fail
  generalize (w.alloc (.cells #[.slice lA l.length lc, .slice vA v.length vc] 29)).alloc (.cells #[.slice mA m.length mc, .slice uA u.length uc] 29) = W0 at *
  generalize w.heap.size + 1 = z2 at *
  generalize w.heap.size = z1 at *
  refine HX.out.mono ?_
  rintro e W1 ⟨rfl, k1⟩
  obtain ⟨b0, b1⟩ := (HB1.out.kept k1).two
  obtain ⟨c0, c1⟩ := (HB2.out.kept k1).two
  have hb1 := (HB1.out.kept k1).1
  have hb2 := (HB2.out.kept k1).1
  have HK1 := Lib.hid k1
  clear k1
  go_wp2_with fail
  refine (HY.out _ HK1.out).mono ?_
  rintro e W2 ⟨rfl, k2⟩
  have HK2 := Lib.hid ((K0.out.trans HK1.out).trans k2)
  clear k2
  cases p <;> cases q <;> (go_wp2_with fail) <;> go_ret <;> exact ⟨rfl, HK2.out⟩

end Go.Proofs.Ytacdiicnfoejoaa
