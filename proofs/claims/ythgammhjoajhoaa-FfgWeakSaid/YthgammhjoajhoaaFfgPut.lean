/-
  The contract of put of the given package marigoldref11: a checkpoint put into its place.
-/
import Derived.Test.YthgammhjoajhoaaFfgStrong
namespace Go.Proofs.Ythgammhjoajhoaa
set_option maxRecDepth 100000
set_option linter.unusedVariables false
set_option linter.unusedSimpArgs false
set_option linter.unusedSimpArgs false
set_option linter.unusedVariables false
open Go.ChangeShapes Go.WideShapes Go.ChangeAt Go.RowKit

theorem Cks.cap {W w : World} {l : List Ck} {A : Option Addr} {n c : Nat} (h : Cks W l (.slice A n c) w) : n ≤ c := by
  rcases h.1.2 with ⟨hv, _⟩ | ⟨g, cap, cur, hv, _, _, hn, _⟩
  · injection hv with _ h1 h2; omega
  · injection hv with _ h1 h2; omega
theorem Lks.cap {W w : World} {l : List Lk} {A : Option Addr} {n c : Nat} (h : Lks W l (.slice A n c) w) : n ≤ c := by
  rcases h.1.2 with ⟨hv, _⟩ | ⟨g, cap, cur, hv, _, _, hn, _⟩
  · injection hv with _ h1 h2; omega
  · injection hv with _ h1 h2; omega
theorem upto_cks (A : Option Addr) (n c k : Nat) (hk : k ≤ c) (w : World) : (Instr.slice 36 (.slice A n c) none (some (.int .i64 (k : Int))) none).run Try.prog w = .ok (.slice A k c) w := by
  obtain ⟨i, hi, _⟩ := info_of Try.infoCk
  exact run_upto _ _ i Try.underlying36 hi A n c k hk w
theorem cells_cks_take {w : World} {B : Nat} {A : Option Addr} {l : List Ck} (h : CellsAt w B A (cksCells l)) (k : Nat) : CellsAt w B A (cksCells (l.take k)) := by
  have e : cksCells l = cksCells (l.take k) ++ cksCells (l.drop k) := by rw [cksCells_append, List.take_append_drop]
  rw [e] at h
  exact cells_prefix h
theorem from_cks {w : World} {B : Nat} {A : Option Addr} {l : List Ck} (h : CellsAt w B A (cksCells l)) (c k : Nat) (hk : k ≤ l.length) (hc : l.length ≤ c) :
    ∃ A', (∀ w', (Instr.slice 36 (.slice A l.length c) (some (.int .i64 (k : Int))) none none).run Try.prog w' = .ok (.slice A' (l.length - k) (c - k)) w') ∧ CellsAt w B A' (cksCells (l.drop k)) := by
  obtain ⟨i, hi, _, hs, _⟩ := info_of Try.infoCk
  refine ⟨_, fun w' => run_from _ _ i Try.underlying36 hi A l.length c k hk w', ?_⟩
  have e : cksCells l = cksCells (l.take k) ++ cksCells (l.drop k) := by rw [cksCells_append, List.take_append_drop]
  by_cases q : c = k
  · have : l.drop k = [] := List.drop_eq_nil_of_le (by omega)
    rw [this]
    exact CellsAt.nil
  · rw [if_neg q, hs]
    rw [e] at h
    have := cells_from h
    rw [cksCells_length, List.length_take, Nat.min_eq_left hk] at this
    exact this
def Putted (R : List Ck) (x : Ck) (w : World) (e : Ending) (w' : World) : Prop := ∃ S A' c', Put R x S ∧ e = .returned (.slice A' S.length c') ∧ Cks w S (.slice A' S.length c') w'

end Go.Proofs.Ythgammhjoajhoaa
