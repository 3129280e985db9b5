/-
  The contracts of package shuffle's calls.
-/
import Derived.Test.YtdidmgmfjfnliaaShufOnce
namespace Go.Proofs.Ytdidmgmfjfnliaa
open Go.ChangeShapes Go.WideShapes Go.ChangeAt Go.RowKit

/-! ### Rounds in memory -/
/-- The round at offset o of block b: its lock is free; it is not done, or done, and holds what round r takes. -/
def RoundAt (w : World) (b seed n r o : Nat) : Prop :=
  w.cell? ⟨b, o + 1, none⟩ = some (.int .i32 0) ∧
    ((w.cell? ⟨b, o, none⟩ = some (.int .u32 0) ∧ ∃ x y, w.cell? ⟨b, o + 3, none⟩ = some x ∧ w.cell? ⟨b, o + 4, none⟩ = some y) ∨
     (w.cell? ⟨b, o, none⟩ = some (.int .u32 1) ∧ w.cell? ⟨b, o + 3, none⟩ = some (.int .i64 (pivotN seed n r)) ∧ w.cell? ⟨b, o + 4, none⟩ = some (.int .u64 (turnN seed r))))
/-- Block b holds the rounds of seed and n, of which k places were asked for. -/
structure Rnds (b seed n k : Nat) (w : World) : Prop where
  lt : b < w.heap.size
  cseed : w.cell? ⟨b, 0, none⟩ = some (.int .u64 seed)
  cn : w.cell? ⟨b, 1, none⟩ = some (.int .i64 n)
  round : ∀ r, r < 10 → RoundAt w b seed n r (2 + r * 5)
  asked : w.cell? ⟨b, 52, none⟩ = some (.int .i64 k)
  froze : ∀ o, w.frozen? ⟨b, o, none⟩ = false
section
variable {b seed n k : Nat} {w w' : World}
theorem Rnds.kept (h : Rnds b seed n k w) (hk : Kept w w') : Rnds b seed n k w' := by
  have c : ∀ o, w'.cell? ⟨b, o, none⟩ = w.cell? ⟨b, o, none⟩ := fun o => hk.cell h.lt
  refine ⟨Nat.lt_of_lt_of_le h.lt hk.size_le, by rw [c]; exact h.cseed, by rw [c]; exact h.cn, fun r hr => ?_, by rw [c]; exact h.asked, fun o => by rw [hk.frozen (p := ⟨b, o, none⟩) h.lt]; exact h.froze o⟩
  have := h.round r hr
  unfold RoundAt at this ⊢
  simp only [c]
  exact this
theorem Rnds.did (h : Rnds b seed n k w) {r : Nat} (hr : r < 10) (d : Did b (2 + r * 5) (.int .i64 (pivotN seed n r)) (.int .u64 (turnN seed r)) w w') : Rnds b seed n k w' := by
  refine ⟨Nat.lt_of_lt_of_le h.lt d.but.size, by rw [d.rest 0 (by omega)]; exact h.cseed, by rw [d.rest 1 (by omega)]; exact h.cn, fun q hq => ?_, by rw [d.rest 52 (by omega)]; exact h.asked, fun o => by rw [d.froze]; exact h.froze o⟩
  by_cases e : q = r
  · subst e
    exact ⟨d.free, Or.inr ⟨d.done, d.pivot, d.turn⟩⟩
  · have := h.round q hq
    unfold RoundAt at this ⊢
    rw [d.rest (2 + q * 5 + 1) (by omega), d.rest (2 + q * 5) (by omega), d.rest (2 + q * 5 + 3) (by omega), d.rest (2 + q * 5 + 4) (by omega)]
    exact this
end

set_option maxRecDepth 100000 in
set_option maxHeartbeats 1600000 in
theorem round_any (b seed n k r : Nat) (w : World) (hs : seed < 18446744073709551616) (hn0 : 1 ≤ n) (hn : n ≤ 1000) (hr : r < 10) (H : Rnds b seed n k w) :
    Calls Try.prog 47 #[.pointer (some ⟨b, 0, none⟩), .int .i64 r] w fun e w' => e = .returned (.pointer (some ⟨b, 2 + r * 5, none⟩)) ∧
      Rnds b seed n k w' ∧ But b w w' ∧ w'.cell? ⟨b, 2 + r * 5 + 3, none⟩ = some (.int .i64 (pivotN seed n r)) ∧ w'.cell? ⟨b, 2 + r * 5 + 4, none⟩ = some (.int .u64 (turnN seed r)) := by
  have hmf : ∀ (fn : Fn) (first cap : Array Value) (w : World), (Instr.makeFunc fn first cap).run Try.prog w = .ok (.func fn first cap) w := fun _ _ _ _ => rfl
  have HR := Lib.hid H
  have hlt := H.lt
  clear H
  go_enter Try.func47, Try.ntmps47
  go_wp2_with fail
  go_region
  have K3 : Kept w (((w.alloc (.cells #[.pointer (some ⟨b, 0, none⟩)] 74)).alloc (.cells #[.int .i64 r] 3)).alloc (.cells #[.pointer (some ⟨b, 2 + r * 5, none⟩)] 76)).drew := ((((Kept.refl w).alloc _).alloc _).alloc _).drew
  have g0 : (((w.alloc (.cells #[.pointer (some ⟨b, 0, none⟩)] 74)).alloc (.cells #[.int .i64 r] 3)).alloc (.cells #[.pointer (some ⟨b, 2 + r * 5, none⟩)] 76)).drew.cell? ⟨w.heap.size, 0, none⟩ = some (.pointer (some ⟨b, 0, none⟩)) := by simp [go_sem]
  have g1 : (((w.alloc (.cells #[.pointer (some ⟨b, 0, none⟩)] 74)).alloc (.cells #[.int .i64 r] 3)).alloc (.cells #[.pointer (some ⟨b, 2 + r * 5, none⟩)] 76)).drew.cell? ⟨w.heap.size + 1, 0, none⟩ = some (.int .i64 r) := by simp [go_sem]
  have g2 : (((w.alloc (.cells #[.pointer (some ⟨b, 0, none⟩)] 74)).alloc (.cells #[.int .i64 r] 3)).alloc (.cells #[.pointer (some ⟨b, 2 + r * 5, none⟩)] 76)).drew.cell? ⟨w.heap.size + 1 + 1, 0, none⟩ = some (.pointer (some ⟨b, 2 + r * 5, none⟩)) := by simp [go_sem]
  have gz : w.heap.size + 1 + 1 < (((w.alloc (.cells #[.pointer (some ⟨b, 0, none⟩)] 74)).alloc (.cells #[.int .i64 r] 3)).alloc (.cells #[.pointer (some ⟨b, 2 + r * 5, none⟩)] 76)).drew.heap.size := by simp
  generalize (((w.alloc (.cells #[.pointer (some ⟨b, 0, none⟩)] 74)).alloc (.cells #[.int .i64 r] 3)).alloc (.cells #[.pointer (some ⟨b, 2 + r * 5, none⟩)] 76)).drew = W3 at *
  have HK := Lib.hid K3
  have HR3 := Lib.hid (HR.out.kept K3)
  generalize w.heap.size = z at *
  clear K3 HR
  obtain ⟨hfree, h⟩ := HR3.out.round r hr
  rcases h with ⟨hd, x, y, hx, hy⟩ | ⟨hd, hp, ht⟩
  · have HD := Lib.hid (do_first b (2 + r * 5) z (z + 1) (z + 1 + 1) seed n r x y W3 (by omega) (by omega) (by omega) (by omega) hs hn0 hn hr g0 g1 g2 HR3.out.cseed HR3.out.cn hd hfree hx hy (HR3.out.froze _) (HR3.out.froze _) (HR3.out.froze _) (HR3.out.froze _))
    clear hd hfree hx hy
    go_wp2_with fail
    refine HD.out.mono ?_
    rintro e W4 ⟨rfl, D⟩
    have c2 : W4.cell? ⟨z + 1 + 1, 0, none⟩ = some (.pointer (some ⟨b, 2 + r * 5, none⟩)) := by rw [D.but.cell (by simpa using gz) (by simp; omega)]; exact g2
    have HE := Lib.hid D
    clear D HD g0 g1 g2
    go_wp2_with fail
    go_ret
    exact ⟨rfl, HR3.out.did hr HE.out, (But.of_kept HK.out).trans HE.out.but, HE.out.pivot, HE.out.turn⟩
  · have HD := Lib.hid hd
    have HP := Lib.hid hp
    have HT := Lib.hid ht
    clear hd hp ht hfree
    go_wp2_with fail
    refine (do_done _ _ _ HD.out).mono ?_
    rintro e W4 ⟨rfl, rfl⟩
    go_wp2_with fail
    go_ret
    exact ⟨rfl, HR3.out, But.of_kept HK.out, HP.out, HT.out⟩

theorem mate_int {p n i : Nat} (hi : i < n) : ((p : Int) + (n : Int) - (i : Int)).tmod (n : Int) = ((mateN p n i : Nat) : Int) := by
  unfold mateN
  rw [show (p : Int) + (n : Int) - (i : Int) = ((p + n - i : Nat) : Int) by omega, Int.ofNat_tmod]

set_option maxRecDepth 100000 in
set_option maxHeartbeats 1600000 in
theorem take_any (b seed n k r i : Nat) (w : World) (hs : seed < 18446744073709551616) (hn0 : 1 ≤ n) (hn : n ≤ 1000) (hr : r < 10) (hi : i < n) (H : Rnds b seed n k w) :
    Calls Try.prog 46 #[.pointer (some ⟨b, 0, none⟩), .int .i64 r, .int .i64 i] w fun e w' => e = .returned (.int .i64 (roundN seed n r i)) ∧ Rnds b seed n k w' ∧ But b w w' := by
  have HR := Lib.hid H
  clear H
  have hnz : ¬ n = 0 := by omega
  go_enter Try.func46, Try.ntmps46
  go_wp2_with fail
  refine (round_any b seed n k r w hs hn0 hn hr HR.out).mono ?_
  rintro e W1 ⟨rfl, hR, hB, hp, ht⟩
  have HN := Lib.hid hR
  have HB := Lib.hid hB
  have cn := hR.cn
  have hpl : pivotN seed n r < n := pivotN_lt (by omega)
  have htl := turnN_lt seed r
  have HQ := Lib.hid (show roundN seed n r i = pickN (turnN seed r) i (mateN (pivotN seed n r) n i) from rfl)
  clear hR hB HR
  generalize pivotN seed n r = p at *
  generalize turnN seed r = t at *
  have hm := mate_int (p := p) hi
  have hml : mateN p n i < n := mateN_lt (by omega)
  generalize mateN p n i = m at *
  by_cases hlt : i < m
  · have HX := Lib.hid (show max i m = m by omega)
    have HS := Lib.hid (show pickN t i m = if stepN t m % 2 = 0 then i else m by unfold pickN; rw [HX.out])
    go_wp2_with fail
    go_quiet (fail)
    go_wp2_with fail
    refine (step_any t m htl (by omega) _).mono ?_
    rintro e w' ⟨rfl, rfl⟩
    generalize stepN t m = s at *
    by_cases c : s % 2 = 0
    · have c1 : (s : Int).tmod 2 = 0 := by rw [show (2 : Int) = ((2 : Nat) : Int) from rfl, ← Int.ofNat_tmod, c]; rfl
      have HC := Lib.hid c
      clear c
      go_wp2_with fail
      go_ret
      exact ⟨by rw [HQ.out, HS.out, if_pos HC.out]; rfl, HN.out.kept ((Kept.refl _).drewN _), HB.out.trans (But.of_kept ((Kept.refl _).drewN _))⟩
    · have c1 : (s : Int).tmod 2 = 1 := by rw [show (2 : Int) = ((2 : Nat) : Int) from rfl, ← Int.ofNat_tmod, show s % 2 = 1 by omega]; rfl
      have HC := Lib.hid c
      clear c
      go_wp2_with fail
      go_ret
      exact ⟨by rw [HQ.out, HS.out, if_neg HC.out]; rfl, HN.out.kept ((Kept.refl _).drewN _), HB.out.trans (But.of_kept ((Kept.refl _).drewN _))⟩
  · have HX := Lib.hid (show max i m = i by omega)
    have HS := Lib.hid (show pickN t i m = if stepN t i % 2 = 0 then i else m by unfold pickN; rw [HX.out])
    go_wp2_with fail
    go_quiet (fail)
    go_wp2_with fail
    refine (step_any t i htl (by omega) _).mono ?_
    rintro e w' ⟨rfl, rfl⟩
    generalize stepN t i = s at *
    by_cases c : s % 2 = 0
    · have c1 : (s : Int).tmod 2 = 0 := by rw [show (2 : Int) = ((2 : Nat) : Int) from rfl, ← Int.ofNat_tmod, c]; rfl
      have HC := Lib.hid c
      clear c
      go_wp2_with fail
      go_ret
      exact ⟨by rw [HQ.out, HS.out, if_pos HC.out]; rfl, HN.out.kept ((Kept.refl _).drewN _), HB.out.trans (But.of_kept ((Kept.refl _).drewN _))⟩
    · have c1 : (s : Int).tmod 2 = 1 := by rw [show (2 : Int) = ((2 : Nat) : Int) from rfl, ← Int.ofNat_tmod, show s % 2 = 1 by omega]; rfl
      have HC := Lib.hid c
      clear c
      go_wp2_with fail
      go_ret
      exact ⟨by rw [HQ.out, HS.out, if_neg HC.out]; rfl, HN.out.kept ((Kept.refl _).drewN _), HB.out.trans (But.of_kept ((Kept.refl _).drewN _))⟩

end Go.Proofs.Ytdidmgmfjfnliaa
