/-
  The contract of ffg's voters: who has a link of each way.
-/
import Derived.Test.YthaofomhlmajbaaFfgSmall
import Derived.Test.YthaofomhlmajbaaLkRow
import Derived.Test.YthaofomhlmajbaaMapKinds
import Derived.Test.YthaofomhlmajbaaGroupF
namespace Go.Proofs.Ythaofomhlmajbaa
set_option maxRecDepth 100000
set_option linter.unusedVariables false
set_option linter.unusedSimpArgs false
set_option linter.unusedSimpArgs false
set_option linter.unusedVariables false
open Go.ChangeShapes Go.WideShapes Go.ChangeAt Go.RowKit

theorem cell_same {w w' : World} {p : Addr} (h : w'.heap[p.block]? = w.heap[p.block]?) : w'.cell? p = w.cell? p := by simp [World.cell?, h]
/-- Links of validators. -/
def goodC (k : Cf) (v : List Lk) : List Lk := v.filter fun x => valK k x.f
def whoW (k : Cf) (v : List Lk) (x : Ck × Ck) : List Int := whoK (goodC k v) x.1 x.2
theorem whoW_miss {k : Cf} {v : List Lk} {x : Lk} (h : valK k x.f = false) : whoW k (v ++ [x]) = whoW k v := by
  funext y
  unfold whoW goodC
  rw [List.filter_append, List.filter_cons_of_neg (by rw [h]; decide), List.filter_nil, List.append_nil]
theorem whoW_hit {k : Cf} {v : List Lk} {x : Lk} (h : valK k x.f = true) : whoW k (v ++ [x]) = growG (whoW k v) (x.s, x.t) x.f := by
  funext y
  unfold whoW goodC growG setF
  rw [List.filter_append, List.filter_cons_of_pos (p := fun x : Lk => valK k x.f) h, List.filter_nil]
  by_cases e : y = (x.s, x.t)
  · rw [if_pos e, e]
    exact whoK_hit _ (hitK_iff.2 ⟨rfl, rfl⟩)
  · rw [if_neg e]
    refine whoK_miss _ ?_
    rw [Bool.eq_false_iff]
    exact fun q => e (Prod.ext (hitK_iff.1 q).1.symm (hitK_iff.1 q).2.symm)
theorem whoW_length (k : Cf) (v : List Lk) (x : Ck × Ck) : (whoW k v x).length ≤ v.length := Nat.le_trans (whoK_length _ _ _) (List.length_filter_le _ _)
theorem row_grown {w w' : World} {xs : Array Value} {ty : TypeId} {g bk : Nat} (hb : bk = w.heap.size) (hg : (w.alloc (.cells xs ty)).grownBy w' (some g)) (hne : bk ≠ g) : CellsAt w' w'.heap.size (some ⟨bk, 0, none⟩) xs.toList := by
  have h := CellsAt.new w xs ty bk hb
  have hlt : bk < (w.alloc (.cells xs ty)).heap.size := by rw [hb]; simp
  intro j u hu
  obtain ⟨ad, e, h1, h2⟩ := h j u hu
  injection e with e
  subst e
  have hbk : ((⟨bk, 0, none⟩ : Addr).add j).block = bk := block_add _ _
  refine ⟨_, rfl, Nat.lt_of_lt_of_le hlt hg.size, (cell_same (hg.block _ (by rw [hbk]; exact hlt) (fun q => hne (by rw [hbk] at q; injection q)))).trans h2⟩
def VotNew (k : Cf) (v : List Lk) (w : World) (e : Ending) (w' : World) : Prop := ∃ b m B : Nat, e = .returned (.map (some b)) ∧ m ≤ v.length ∧ Group wayKey intRow B (whoW k v) b m w' ∧ w.heap.size ≤ b ∧ Kept w w'

set_option maxRecDepth 100000 in
set_option maxHeartbeats 3200000 in
theorem voters_any (A : Option Addr) (c : Nat) (k : Cf) (hk : k.ws.length ≤ 1000) (V : Option Addr) (cv : Nat) (v : List Lk) (hv : v.length ≤ 10000) (hwv : WfLks v) (w : World) (hA : CellsAt w w.heap.size A (intCells k.ws)) (hV : CellsAt w w.heap.size V (lksCells v)) :
    Calls Try.prog 44 #[.agg #[.slice A k.ws.length c, .int .u64 k.seed, .int .i64 k.ep, .int .i64 k.nu, .int .i64 k.de], .slice V v.length cv] w (VotNew k v w) := by
  have K0 := Lib.hid ((Kept.refl w).alloc (.cells #[.slice A k.ws.length c, .int .u64 k.seed, .int .i64 k.ep, .int .i64 k.nu, .int .i64 k.de] 37))
  have HC := Lib.hid (HasCells.new w #[.slice A k.ws.length c, .int .u64 k.seed, .int .i64 k.ep, .int .i64 k.nu, .int .i64 k.de] 37 w.heap.size rfl)
  have HA := Lib.hid (hA.kept K0.out)
  have HV := Lib.hid (hV.kept K0.out)
  have HWV := Lib.hid hwv
  have HVl := Lib.hid hv
  have hmm := @run_makeMap Try.prog
  have HVal := Lib.hid (fun f w' => ffgVal_any A c k hk f w')
  clear hA hV hwv hv
  go_enter Try.func44, Try.ntmps44
  go_wp2_with fail
  clear hmm
  have KM := Lib.hid ((Kept.refl (w.alloc (.cells #[.slice A k.ws.length c, .int .u64 k.seed, .int .i64 k.ep, .int .i64 k.nu, .int .i64 k.de] 37))).alloc (.map #[] 0))
  have HG0 : Hid (Group wayKey intRow (w.heap.size + 1 + 1) (fun _ => []) (w.heap.size + 1) 0 ((w.alloc (.cells #[.slice A k.ws.length c, .int .u64 k.seed, .int .i64 k.ep, .int .i64 k.nu, .int .i64 k.de] 37)).alloc (.map #[] 0))) := Lib.hid (by have h := Group.made (K := wayKey) (S := intRow) (w.alloc (.cells #[.slice A k.ws.length c, .int .u64 k.seed, .int .i64 k.ep, .int .i64 k.nu, .int .i64 k.de] 37)); rw [World.size_alloc] at h; exact h)
  have HWs : Hid ((w.alloc (.cells #[.slice A k.ws.length c, .int .u64 k.seed, .int .i64 k.ep, .int .i64 k.nu, .int .i64 k.de] 37)).heap.size = w.heap.size + 1) := Lib.hid (World.size_alloc _ _)
  generalize w.alloc (.cells #[.slice A k.ws.length c, .int .u64 k.seed, .int .i64 k.ep, .int .i64 k.nu, .int .i64 k.de] 37) = W at *
  have HZ : Hid (w.heap.size ≤ w.heap.size + 1) := Lib.hid (Nat.le_succ _)
  generalize hz : w.heap.size = z at *
  replace hz := Lib.hid hz
  go_loopw [12] (fun i wr => ∃ j m : Nat, j ≤ v.length ∧ i = .int .i64 j ∧ m ≤ j ∧ Group wayKey intRow (z + 1 + 1) (whoW k (v.take j)) (z + 1) m wr ∧ Kept W wr) (fun i _ => v.length - (intOf i).toNat)
  case atStart => exact ⟨0, 0, Nat.zero_le _, rfl, Nat.le_refl _, HG0.out.congr (fun x _ => rfl), KM.out⟩
  case round =>
    obtain ⟨j, m, hj, rfl, hm, hG, hK⟩ := hrel
    have HG := Lib.hid hG
    have HK := Lib.hid hK
    have HM := Lib.hid hm
    clear hG hK hm HG0 KM
    by_cases hlt : j < v.length
    · have hwx := HWV.out _ (List.getElem_mem hlt)
      have HTk := Lib.hid (show v.take (j + 1) = v.take j ++ [v[j]] from List.take_succ_eq_append_getElem hlt)
      have HLe := Lib.hid (fun y => Nat.le_trans (whoW_length k (v.take j) y) (by rw [List.length_take]; exact Nat.min_le_left _ _))
      obtain ⟨zv, ov, rfl, hbv, x0, x1, x2, x3, x4, x5, x6⟩ := lk_at (HV.out.keep fun p hp => HK.out.cell hp) hlt
      have hvl := HVl.out
      generalize v[j] = x at *
      obtain ⟨c0, c1, c2, c3, c4⟩ := (HC.out.kept HK.out).five
      have hzl := (HC.out.kept HK.out).1
      go_wp2_with fail
      clear x0 x1 x2 x3 x4 x5 x6 c0 c1 c2 c3 c4
      refine (HVal.out x.f _).mono ?_
      rintro e V1 ⟨rfl, k1⟩
      have HKA := Lib.hid (Kept.trans ((Kept.refl wr).alloc (.cells #[.int .i64 x.f, .int .i64 x.s.e, .int .u64 x.s.r.1, .int .u64 x.s.r.2, .int .i64 x.t.e, .int .u64 x.t.r.1, .int .u64 x.t.r.2] 28)) k1)
      have HL := Lib.hid ((HasCells.new wr #[.int .i64 x.f, .int .i64 x.s.e, .int .u64 x.s.r.1, .int .u64 x.s.r.2, .int .i64 x.t.e, .int .u64 x.t.r.1, .int .u64 x.t.r.2] 28 wr.heap.size rfl).kept k1)
      clear k1
      generalize wr.heap.size = y at *
      cases hval : valK k x.f with
      | false =>
        have HN := Lib.hid (whoW_miss (v := v.take j) hval)
        clear hval
        go_wp2_with fail
        go_roundw
        case rel => exact ⟨j + 1, m, by omega, by go_num, by have := HM.out; omega, by rw [HTk.out, HN.out]; exact HG.out.kept HKA.out, HK.out.trans HKA.out⟩
        case measure => simp [intOf]; omega
      | true =>
        have HN := Lib.hid (whoW_hit (v := v.take j) hval)
        clear hval
        obtain ⟨b0, b1, b2, b3, b4, b5, b6⟩ := HL.out.seven
        have hyl := HL.out.1
        have HGV := Lib.hid (HG.out.kept HKA.out)
        have HKV := Lib.hid (HK.out.trans HKA.out)
        have HWx : Hid (WfWay (x.s, x.t)) := Lib.hid ⟨hwx.2.1, hwx.2.2⟩
        clear HG HK HKA hwx
        generalize whoW k (v.take j) = g at *
        go_wp2_with (first
          | (refine wpList_gentry (K := wayKey) (S := intRow) _ rfl 86 Try.underlying86 Try.lawWay _ _ rfl (z + 1 + 1) g (z + 1) m rfl ((HGV.out.kept ((Kept.refl _).alloc _)).kept ((Kept.refl _).alloc _)) (by have := HM.out; have := HVl.out; unfold maxLen; omega) (x.s, x.t) rfl HWx.out ?_; intro A1 c1 st w1 hP1 g1)
          | (refine wpList_gapp (K := wayKey) (S := intRow) _ rfl _ _ rfl (ByEntry wayKey intRow 86 (z + 1) m (x.s, x.t) st) (z + 1 + 1) g (z + 1) (x.s, x.t) HWx.out (.slice A1 (g (x.s, x.t)).length c1) rfl hP1 (fun V w' h e => ByEntry.at h e) _ _ _ x.f rfl (row_grown (bk := V1.heap.size + 1) (by simp) g1 (by have := HGV.out.lt; omega)) (by have := HLe.out (x.s, x.t); have := HVl.out; omega) ?_; intro A2 c2 w2 hG2 g2 hB2)
          | (refine wpList_gstore (K := wayKey) (S := intRow) _ rfl 86 _ _ _ rfl (z + 1 + 1) g (z + 1) m rfl (x.s, x.t) x.f HWx.out st rfl _ rfl hG2 ?_; intro w3 hG3 g3))
        have HG3 := Lib.hid hG3
        have HK3 := Lib.hid ((((HKV.out.alloc (.cells #[.int .i64 x.s.e, .int .u64 x.s.r.1, .int .u64 x.s.r.2, .int .i64 x.t.e, .int .u64 x.t.r.1, .int .u64 x.t.r.2] 89)).alloc (.cells #[.int .i64 x.f] 3)).grown g1 (fun k e => by cases e; exact Nat.le_of_eq HWs.out)).grown g2 (fun k e => by have := hB2 k e; have := HWs.out; omega) |>.grown g3 (fun k e => by cases e; exact Nat.le_of_eq HWs.out))
        clear hG3 g3 hG2 g2 hB2 hP1 g1
        go_wp2_with fail
        go_roundw
        case rel => exact ⟨j + 1, m + 1, by omega, by go_num, by have := HM.out; omega, by rw [HTk.out, HN.out]; exact HG3.out, HK3.out⟩
        case measure => simp [intOf]; omega
    · have hjx : j = v.length := by omega
      subst hjx
      have HE := Lib.hid (show v.take v.length = v from List.take_length)
      go_wp2_with fail
      go_ret
      exact ⟨z + 1, m, z + 1 + 1, rfl, HM.out, by have := HG.out; rw [HE.out] at this; exact this, by rw [hz.out]; exact Nat.le_succ _, K0.out.trans HK.out⟩

end Go.Proofs.Ythaofomhlmajbaa
