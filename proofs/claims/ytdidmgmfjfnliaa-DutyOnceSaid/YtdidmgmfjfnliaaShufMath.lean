/-
  Plain numbers: what package shuffle reckons, as functions of natural numbers; each round undoes itself, so Back undoes At, and all places together stay as many.
-/
import Derived.Test.YtdidmgmfjfnliaaMixMath
namespace Go.Proofs.Ytdidmgmfjfnliaa

def pivotN (seed n r : Nat) : Nat := stepN seed r % n
def turnN (seed r : Nat) : Nat := stepN seed (1000 + r)
def mateN (p n i : Nat) : Nat := (p + n - i) % n
def pickN (turn i m : Nat) : Nat := if stepN turn (max i m) % 2 = 0 then i else m
def roundN (seed n r i : Nat) : Nat := pickN (turnN seed r) i (mateN (pivotN seed n r) n i)
def forthN (seed n : Nat) : Nat → Nat → Nat
  | 0, i => i
  | k + 1, i => roundN seed n k (forthN seed n k i)
def backN (seed n : Nat) : Nat → Nat → Nat
  | 0, i => i
  | k + 1, i => roundN seed n (9 - k) (backN seed n k i)
def atN (seed n i : Nat) : Nat := forthN seed n 10 i
def backAtN (seed n i : Nat) : Nat := backN seed n 10 i

theorem pivotN_lt {seed n r : Nat} (hn : 0 < n) : pivotN seed n r < n := Nat.mod_lt _ hn
theorem turnN_lt (seed r : Nat) : turnN seed r < 18446744073709551616 := stepN_lt _ _
theorem mateN_lt {p n i : Nat} (hn : 0 < n) : mateN p n i < n := Nat.mod_lt _ hn
theorem mateN_eq {p n i : Nat} (hp : p < n) (hi : i < n) : mateN p n i = if p < i then p + n - i else p - i := by
  unfold mateN
  split
  · exact Nat.mod_eq_of_lt (by omega)
  · rw [show p + n - i = (p - i) + n by omega, Nat.add_mod_right]; exact Nat.mod_eq_of_lt (by omega)
theorem mateN_mateN {p n i : Nat} (hp : p < n) (hi : i < n) : mateN p n (mateN p n i) = i := by
  rw [mateN_eq hp (mateN_lt (by omega)), mateN_eq hp hi]
  split <;> split <;> omega
theorem roundN_lt {seed n r i : Nat} (hi : i < n) : roundN seed n r i < n := by
  unfold roundN pickN
  split
  · exact hi
  · exact mateN_lt (by omega)
theorem pickN_comm {t p n i : Nat} (hp : p < n) (hi : i < n) : pickN t (pickN t i (mateN p n i)) (mateN p n (pickN t i (mateN p n i))) = i := by
  have h : pickN t i (mateN p n i) = i ∨ pickN t i (mateN p n i) = mateN p n i := by unfold pickN; split <;> simp
  by_cases c : stepN t (max i (mateN p n i)) % 2 = 0
  · have e : pickN t i (mateN p n i) = i := by unfold pickN; rw [if_pos c]
    rw [e, e]
  · have e : pickN t i (mateN p n i) = mateN p n i := by unfold pickN; rw [if_neg c]
    rw [e, mateN_mateN hp hi]
    unfold pickN
    rw [Nat.max_comm, if_neg c]
theorem roundN_roundN {seed n r i : Nat} (hi : i < n) : roundN seed n r (roundN seed n r i) = i := by
  unfold roundN
  exact pickN_comm (pivotN_lt (by omega)) hi
theorem forthN_lt {seed n i : Nat} (hi : i < n) : ∀ k, forthN seed n k i < n
  | 0 => hi
  | k + 1 => roundN_lt (forthN_lt hi k)
theorem backN_lt {seed n i : Nat} (hi : i < n) : ∀ k, backN seed n k i < n
  | 0 => hi
  | k + 1 => roundN_lt (backN_lt hi k)
theorem atN_lt {seed n i : Nat} (hi : i < n) : atN seed n i < n := forthN_lt hi 10
theorem backAtN_lt {seed n i : Nat} (hi : i < n) : backAtN seed n i < n := backN_lt hi 10
theorem back_forth {seed n i : Nat} (hi : i < n) : ∀ k, k ≤ 10 → backN seed n k (forthN seed n 10 i) = forthN seed n (10 - k) i
  | 0, _ => rfl
  | k + 1, hk => by
    have h := back_forth (seed := seed) hi k (by omega)
    show roundN seed n (9 - k) (backN seed n k (forthN seed n 10 i)) = _
    rw [h, show 10 - k = (9 - k) + 1 by omega, show 10 - (k + 1) = 9 - k by omega]
    exact roundN_roundN (forthN_lt hi _)
theorem forth_back {seed n i : Nat} (hi : i < n) : ∀ k, k ≤ 10 → forthN seed n k (backN seed n 10 i) = backN seed n (10 - k) i
  | 0, _ => rfl
  | k + 1, hk => by
    have h := forth_back (seed := seed) hi k (by omega)
    show roundN seed n k (forthN seed n k (backN seed n 10 i)) = _
    rw [h, show 10 - k = (9 - k) + 1 by omega, show 10 - (k + 1) = 9 - k by omega]
    show roundN seed n k (roundN seed n (9 - (9 - k)) (backN seed n (9 - k) i)) = _
    rw [show 9 - (9 - k) = k by omega]
    exact roundN_roundN (backN_lt hi _)
theorem backAtN_atN {seed n i : Nat} (hi : i < n) : backAtN seed n (atN seed n i) = i := back_forth hi 10 (Nat.le_refl _)
theorem atN_backAtN {seed n i : Nat} (hi : i < n) : atN seed n (backAtN seed n i) = i := forth_back hi 10 (Nat.le_refl _)
theorem atN_inj {seed n i j : Nat} (hi : i < n) (hj : j < n) (h : atN seed n i = atN seed n j) : i = j := by
  rw [← backAtN_atN (seed := seed) hi, ← backAtN_atN (seed := seed) hj, h]

/-! ### Sums -/
def sumN (f : Nat → Nat) : Nat → Nat
  | 0 => 0
  | k + 1 => sumN f k + f k
theorem sumN_congr {f g : Nat → Nat} : ∀ n, (∀ i, i < n → f i = g i) → sumN f n = sumN g n
  | 0, _ => rfl
  | n + 1, h => by
    show sumN f n + f n = sumN g n + g n
    rw [sumN_congr n (fun i hi => h i (by omega)), h n (by omega)]
theorem sumN_zero : ∀ n, sumN (fun _ => 0) n = 0
  | 0 => rfl
  | n + 1 => by show sumN (fun _ => 0) n + 0 = 0; rw [sumN_zero n]
theorem sumN_add (f g : Nat → Nat) : ∀ n, sumN (fun i => f i + g i) n = sumN f n + sumN g n
  | 0 => rfl
  | n + 1 => by
    show sumN (fun i => f i + g i) n + (f n + g n) = (sumN f n + f n) + (sumN g n + g n)
    rw [sumN_add f g n]; omega
theorem sumN_swap (f : Nat → Nat → Nat) (m : Nat) : ∀ n, sumN (fun i => sumN (fun j => f i j) m) n = sumN (fun j => sumN (fun i => f i j) n) m
  | 0 => by show 0 = sumN (fun _ => 0) m; rw [sumN_zero]
  | n + 1 => by
    show sumN (fun i => sumN (fun j => f i j) m) n + sumN (fun j => f n j) m = sumN (fun j => sumN (fun i => f i j) n + f n j) m
    rw [sumN_swap f m n, sumN_add]
theorem sumN_one (a c : Nat) : ∀ n, sumN (fun j => if j = a then c else 0) n = if a < n then c else 0
  | 0 => by simp [sumN]
  | n + 1 => by
    show sumN (fun j => if j = a then c else 0) n + (if n = a then c else 0) = _
    rw [sumN_one a c n]
    by_cases h1 : n = a
    · subst h1; simp
    · simp only [h1, if_false]
      by_cases h2 : a < n
      · rw [if_pos h2, if_pos (by omega)]; omega
      · rw [if_neg h2, if_neg (by omega)]
/-- What goes one to one from the places below n to such has their sum. -/
theorem sumN_perm {f g : Nat → Nat} {n : Nat} (hf : ∀ i, i < n → f i < n) (hg : ∀ i, i < n → g i < n) (h1 : ∀ i, i < n → g (f i) = i) (h2 : ∀ i, i < n → f (g i) = i) : sumN f n = sumN (fun i => i) n := by
  have e1 : sumN f n = sumN (fun i => sumN (fun j => if j = f i then j else 0) n) n := sumN_congr n fun i hi => by
    have : sumN (fun j => if j = f i then j else 0) n = sumN (fun j => if j = f i then f i else 0) n := sumN_congr n fun j _ => by
      by_cases h : j = f i
      · simp [h]
      · simp [h]
    rw [this, sumN_one, if_pos (hf i hi)]
  have e2 : sumN (fun i => sumN (fun j => if j = f i then j else 0) n) n = sumN (fun j => sumN (fun i => if j = f i then j else 0) n) n := sumN_swap _ n n
  have e3 : sumN (fun j => sumN (fun i => if j = f i then j else 0) n) n = sumN (fun j => j) n := sumN_congr n fun j hj => by
    have : sumN (fun i => if j = f i then j else 0) n = sumN (fun i => if i = g j then j else 0) n := sumN_congr n fun i hi => by
      by_cases h : j = f i
      · have : i = g j := by rw [h, h1 i hi]
        rw [if_pos h, if_pos this]
      · have : ¬ i = g j := fun e => h (by rw [e, h2 j hj])
        rw [if_neg h, if_neg this]
    rw [this, sumN_one, if_pos (hg j hj)]
  rw [e1, e2, e3]
theorem sumN_id : ∀ n, 2 * sumN (fun i => i) n = n * (n - 1)
  | 0 => rfl
  | 1 => rfl
  | n + 2 => by
    have h := sumN_id (n + 1)
    show 2 * (sumN (fun i => i) (n + 1) + (n + 1)) = (n + 2) * (n + 1)
    rw [Nat.mul_add, h, show n + 1 - 1 = n by omega, Nat.mul_comm (n + 1) n, ← Nat.add_mul]
theorem sum_at (seed n : Nat) : 2 * sumN (atN seed n) n = n * (n - 1) := by
  rw [sumN_perm (g := backAtN seed n) (fun _ h => atN_lt h) (fun _ h => backAtN_lt h) (fun _ h => backAtN_atN h) (fun _ h => atN_backAtN h)]
  exact sumN_id n
theorem at_two (seed : Nat) : atN seed 2 0 + atN seed 2 1 = 1 := by
  have h := sum_at seed 2
  have e : sumN (atN seed 2) 2 = 0 + atN seed 2 0 + atN seed 2 1 := rfl
  omega

end Go.Proofs.Ytdidmgmfjfnliaa
