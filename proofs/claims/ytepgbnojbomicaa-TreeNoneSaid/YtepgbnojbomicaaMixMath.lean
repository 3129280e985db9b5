/-
  Plain numbers: what package mix reckons, as functions of natural numbers, and that each loses nothing.
-/
import Derived.Test.YtepgbnojbomicaaRows
namespace Go.Proofs.Ytepgbnojbomicaa

def foldN (x n : Nat) : Nat := x ^^^ x / 2 ^ n
def mulM (x c : Nat) : Nat := x * c % 18446744073709551616
def wordN (x : Nat) : Nat := foldN (mulM (foldN (mulM (foldN x 30) 13787848793156543929) 27) 10723151780598845931) 31
def stepN (h x : Nat) : Nat := wordN (((h ^^^ x) + 11400714819323198485) % 18446744073709551616)
def notN (x : Nat) : Nat := 18446744073709551615 - x

theorem xor_lt64 {a b : Nat} (ha : a < 18446744073709551616) (hb : b < 18446744073709551616) : a ^^^ b < 18446744073709551616 :=
  Nat.xor_lt_two_pow (n := 64) ha hb
theorem foldN_lt {x n : Nat} (h : x < 18446744073709551616) : foldN x n < 18446744073709551616 :=
  xor_lt64 h (Nat.lt_of_le_of_lt (Nat.div_le_self _ _) h)
theorem mulM_lt (x c : Nat) : mulM x c < 18446744073709551616 := Nat.mod_lt _ (by decide)
theorem wordN_lt (x : Nat) : wordN x < 18446744073709551616 := foldN_lt (mulM_lt _ _)
theorem stepN_lt (h x : Nat) : stepN h x < 18446744073709551616 := wordN_lt _
theorem notN_lt (x : Nat) : notN x < 18446744073709551616 := by unfold notN; omega

theorem xor_left {a b c : Nat} (h : a ^^^ b = a ^^^ c) : b = c := by
  have k : a ^^^ (a ^^^ b) = a ^^^ (a ^^^ c) := by rw [h]
  rwa [← Nat.xor_assoc, ← Nat.xor_assoc, Nat.xor_self, Nat.zero_xor, Nat.zero_xor] at k
theorem xor_zero {a b : Nat} (h : a ^^^ b = 0) : a = b := (xor_left (a := a) (by rw [h, Nat.xor_self])).symm
theorem foldN_inj {x y n : Nat} (hn : 0 < n) (h : foldN x n = foldN y n) : x = y := by
  unfold foldN at h
  rw [← Nat.shiftRight_eq_div_pow, ← Nat.shiftRight_eq_div_pow] at h
  have e : x ^^^ y = (x ^^^ y) >>> n := by
    rw [Nat.shiftRight_xor_distrib]
    have h2 : (x ^^^ x >>> n) ^^^ (y ^^^ x >>> n) = (y ^^^ y >>> n) ^^^ (y ^^^ x >>> n) := by rw [h]
    have l : (x ^^^ x >>> n) ^^^ (y ^^^ x >>> n) = x ^^^ y := by
      rw [Nat.xor_comm y (x >>> n), Nat.xor_assoc, ← Nat.xor_assoc (x >>> n), Nat.xor_self, Nat.zero_xor]
    have r : (y ^^^ y >>> n) ^^^ (y ^^^ x >>> n) = x >>> n ^^^ y >>> n := by
      rw [Nat.xor_comm y (y >>> n), Nat.xor_assoc, ← Nat.xor_assoc y, Nat.xor_self, Nat.zero_xor, Nat.xor_comm]
    rw [l, r] at h2; exact h2
  have z : x ^^^ y = 0 := by
    rw [Nat.shiftRight_eq_div_pow] at e
    rcases Nat.eq_zero_or_pos (x ^^^ y) with h0 | h0
    · exact h0
    · exact absurd e (Nat.ne_of_gt (Nat.div_lt_self h0 (Nat.one_lt_two_pow (by omega))))
  exact xor_zero z

theorem mulM_inj {x y c d : Nat} (hx : x < 18446744073709551616) (hy : y < 18446744073709551616) (hc : c * d % 18446744073709551616 = 1) (h : mulM x c = mulM y c) : x = y := by
  unfold mulM at h
  have k : ∀ z : Nat, z < 18446744073709551616 → z * c % 18446744073709551616 * d % 18446744073709551616 = z := fun z hz => by
    rw [Nat.mod_mul_mod, Nat.mul_assoc, Nat.mul_mod, hc, Nat.mul_one, Nat.mod_mod, Nat.mod_eq_of_lt hz]
  rw [← k x hx, ← k y hy, h]

theorem wordN_inj {x y : Nat} (hx : x < 18446744073709551616) (hy : y < 18446744073709551616) (h : wordN x = wordN y) : x = y := by
  unfold wordN at h
  have h1 := mulM_inj (d := 3573116690164977347) (foldN_lt (mulM_lt _ _)) (foldN_lt (mulM_lt _ _)) (by decide) (foldN_inj (by decide) h)
  have h2 := mulM_inj (d := 10871156337175269513) (foldN_lt hx) (foldN_lt hy) (by decide) (foldN_inj (by decide) h1)
  exact foldN_inj (by decide) h2
theorem stepN_comm (h x : Nat) : stepN h x = stepN x h := by unfold stepN; rw [Nat.xor_comm]
theorem stepN_inj {h x y : Nat} (hh : h < 18446744073709551616) (hx : x < 18446744073709551616) (hy : y < 18446744073709551616) (e : stepN h x = stepN h y) : x = y := by
  unfold stepN at e
  have e1 := wordN_inj (Nat.mod_lt _ (by decide)) (Nat.mod_lt _ (by decide)) e
  have b1 := xor_lt64 hh hx
  have b2 := xor_lt64 hh hy
  exact xor_left (a := h) (by omega)
theorem notN_inj {x y : Nat} (hx : x < 18446744073709551616) (hy : y < 18446744073709551616) (h : notN x = notN y) : x = y := by unfold notN at h; omega

/-! ### IDs -/
def idStep (p : Nat × Nat) (x : Nat) : Nat × Nat := (stepN p.1 x, stepN p.2 (notN x))
def idFold (l : List Nat) : Nat × Nat := l.foldl idStep (1, 2)
def idOf (l : List Nat) : Nat × Nat := idStep (idFold l) l.length
def lessN (a b : Nat × Nat) : Bool := decide (a.1 < b.1 ∨ (a.1 = b.1 ∧ a.2 < b.2))

theorem idStep_lt (p : Nat × Nat) (x : Nat) : (idStep p x).1 < 18446744073709551616 ∧ (idStep p x).2 < 18446744073709551616 := ⟨stepN_lt _ _, stepN_lt _ _⟩
theorem idFold_snoc (l : List Nat) (x : Nat) : idFold (l ++ [x]) = idStep (idFold l) x := by simp [idFold]
theorem idFold_lt (l : List Nat) : (idFold l).1 < 18446744073709551616 ∧ (idFold l).2 < 18446744073709551616 := by
  rcases List.eq_nil_or_concat l with rfl | ⟨a, x, rfl⟩
  · exact ⟨by decide, by decide⟩
  · rw [List.concat_eq_append, idFold_snoc]; exact idStep_lt _ _
theorem idOf_lt (l : List Nat) : (idOf l).1 < 18446744073709551616 ∧ (idOf l).2 < 18446744073709551616 := idStep_lt _ _

end Go.Proofs.Ytepgbnojbomicaa
