/-
  The contracts of slices.Index and slices.Contains on ids.
-/
import Derived.Test.YtepgbnojbomicaaTreeKids
namespace Go.Proofs.Ytepgbnojbomicaa
open Go.ChangeShapes Go.WideShapes Go.ChangeAt Go.RowKit

/-- Where an id is in a list; -1: nowhere. -/
def posV (ns : List Id2) (x : Id2) : Int := match posN ns x with | some i => (i : Int) | none => -1
theorem posN_hit {ns : List Id2} {x : Id2} {k : Nat} (hk : k < ns.length) (h : x ∉ ns.take k) (e : ns[k] = x) : posN ns x = some k := by
  have h1 : posN (ns.take (k + 1)) x = some k := by
    rw [List.take_succ_eq_append_getElem hk, posN_snoc, posN_none.2 h, e]
    simp [List.length_take, Nat.min_eq_left (Nat.le_of_lt hk)]
  exact posN_take h1
theorem posV_hit {ns : List Id2} {x : Id2} {k : Nat} (hk : k < ns.length) (h : x ∉ ns.take k) (e : ns[k] = x) : posV ns x = k := by unfold posV; rw [posN_hit hk h e]
theorem posV_none {ns : List Id2} {x : Id2} (h : x ∉ ns) : posV ns x = -1 := by unfold posV; rw [posN_none.2 h]
theorem not_in_step {ns : List Id2} {x : Id2} {k : Nat} (hk : k < ns.length) (h : x ∉ ns.take k) (e : ¬ ns[k] = x) : x ∉ ns.take (k + 1) := by
  rw [List.take_succ_eq_append_getElem hk]
  simp only [List.mem_append, List.mem_singleton, not_or]
  exact ⟨h, fun q => e q.symm⟩
theorem posV_geq (ns : List Id2) (x : Id2) : decide (0 ≤ posV ns x) = decide (x ∈ ns) := by
  unfold posV
  cases q : posN ns x with
  | none => simp [posN_none.1 q]
  | some i => simp [List.mem_of_getElem? (posN_some q)]

attribute [local go_sem high] eqIdN in
set_option maxRecDepth 100000 in
set_option maxHeartbeats 1600000 in
theorem index_any (A : Option Addr) (c : Nat) (ns : List Id2) (hn : ns.length ≤ 10000000) (x : Id2) (w : World) (hA : CellsAt w w.heap.size A (idsCells ns)) :
    Calls Try.prog 40 #[.slice A ns.length c, .agg #[.int .u64 x.1, .int .u64 x.2]] w fun e w' => e = .returned (.int .i64 (posV ns x)) ∧ Kept w w' := by
  have HA := Lib.hid (hA.kept ((Kept.refl w).alloc (.cells #[.int .u64 x.1, .int .u64 x.2] 25)))
  have HC := Lib.hid (HasCells.new w #[.int .u64 x.1, .int .u64 x.2] 25 w.heap.size rfl)
  have HK := Lib.hid ((Kept.refl w).alloc (.cells #[.int .u64 x.1, .int .u64 x.2] 25))
  clear hA
  go_enter Try.func40, Try.ntmps40
  go_wp2_with fail
  generalize w.alloc (.cells #[.int .u64 x.1, .int .u64 x.2] 25) = W at *
  go_loopw [8] (fun i w' => ∃ k : Nat, k ≤ ns.length ∧ i = .int .i64 k ∧ x ∉ ns.take k ∧ Kept W w') (fun i _ => ns.length - (intOf i).toNat)
  case atStart => exact ⟨0, by omega, rfl, by simp, Kept.refl _⟩
  case round =>
    obtain ⟨k, hk, rfl, hx, hKr⟩ := hrel
    have HX := Lib.hid hx
    have HR := Lib.hid hKr
    clear hx hKr
    by_cases hlt : k < ns.length
    · obtain ⟨z, o, rfl, hb, c0, c1⟩ := id_at (HA.out.kept HR.out) hlt
      obtain ⟨d0, d1⟩ := (HC.out.kept HR.out).two
      by_cases he : ns[k] = x
      · have hs := sameI_yes he.symm
        have HV := Lib.hid (posV_hit hlt HX.out he)
        clear he
        generalize ns[k] = y at *
        go_wp2_with fail
        go_quiet (fail)
        go_wp2_with fail
        go_ret
        exact ⟨by rw [HV.out]; rfl, (HK.out.trans HR.out).drewN _⟩
      · have hs := sameI_no (fun q => he q.symm)
        have HV := Lib.hid (not_in_step hlt HX.out he)
        clear he
        generalize ns[k] = y at *
        go_wp2_with fail
        go_quiet (fail)
        go_wp2_with fail
        go_roundw
        case rel => exact ⟨k + 1, by omega, by go_num, HV.out, HR.out.drewN _⟩
        case measure => simp [intOf]; omega
    · have hkl : k = ns.length := by omega
      subst hkl
      have HV := Lib.hid (posV_none (show x ∉ ns by have := HX.out; rwa [List.take_length] at this))
      go_wp2_with fail
      go_ret
      exact ⟨by rw [HV.out]; rfl, HK.out.trans HR.out⟩

set_option maxHeartbeats 800000 in
theorem contains_any (A : Option Addr) (c : Nat) (ns : List Id2) (hn : ns.length ≤ 10000000) (x : Id2) (w : World) (hA : CellsAt w w.heap.size A (idsCells ns)) :
    Calls Try.prog 34 #[.slice A ns.length c, .agg #[.int .u64 x.1, .int .u64 x.2]] w fun e w' => e = .returned (.bool (decide (x ∈ ns))) ∧ Kept w w' := by
  have HA := Lib.hid (hA.kept ((Kept.refl w).alloc (.cells #[.int .u64 x.1, .int .u64 x.2] 25)))
  have HG := Lib.hid (posV_geq ns x)
  clear hA
  go_enter Try.func34, Try.ntmps34
  go_wp2_with fail
  refine (index_any A c ns hn x _ HA.out).mono ?_
  rintro e W1 ⟨rfl, k1⟩
  have K1 := Lib.hid (((Kept.refl w).alloc _).trans k1)
  clear k1
  go_wp2_with fail
  go_ret
  exact ⟨by rw [← HG.out]; rfl, K1.out⟩

end Go.Proofs.Ytepgbnojbomicaa
