/-
  The chapter's example, which every law of layer 4 asks first: it is so.
-/
import Derived.Test.YtigngppmiaejjaaShufPerm
namespace Go.Proofs.Ytigngppmiaejjaa
open Go.ChangeShapes Go.WideShapes Go.ChangeAt Go.RowKit

theorem at_one (seed : Nat) : atN seed 1 0 = 0 := by
  have := atN_lt (seed := seed) (n := 1) (i := 0) (by omega)
  omega
theorem back_one (seed : Nat) : backAtN seed 1 0 = 0 := by
  have := backAtN_lt (seed := seed) (n := 1) (i := 0) (by omega)
  omega

set_option maxHeartbeats 1600000 in
theorem shufAwake (w : World) : Calls Try.prog 8 #[] w fun e w' => e = .returned (.bool true) ∧ Kept w w' := by
  go_enter Try.func8, Try.ntmps8
  go_wp2_with fail
  refine (perm_yes 7 1 w (by omega) (by omega) (by omega)).mono ?_
  rintro e W1 ⟨g, rfl, hL, hg, hK⟩
  have HL := Lib.hid hL
  have HK := Lib.hid hK
  clear hL hK
  go_wp2_with fail
  refine (at_yes 7 1 0 W1 (by omega) (by omega) (by omega) (by omega)).mono ?_
  rintro e W2 ⟨rfl, k2⟩
  rw [at_one]
  have HL2 := Lib.hid (rowIs_kept HL.out k2)
  have HK2 := Lib.hid (HK.out.trans k2)
  clear k2 HL HK
  go_wp2_with fail
  refine (back_yes 7 1 0 W2 (by omega) (by omega) (by omega) (by omega)).mono ?_
  rintro e W3 ⟨rfl, k3⟩
  rw [back_one]
  have HL3 := Lib.hid (rowIs_kept HL2.out k3)
  have HK3 := Lib.hid (HK2.out.trans k3)
  have hc : W3.cell? ⟨g, 0, none⟩ = some (.int .i64 0) := by rw [HL3.out.cell (i := 0) (by omega)]; simp only [atV, at_one]; rfl
  clear k3 HL2 HK2
  go_wp2_with fail
  refine (at_no 7 1 1 W3 (mayN_no (by omega))).mono ?_
  rintro e W4 ⟨rfl, k4⟩
  have HK4 := Lib.hid (HK3.out.trans k4)
  clear k4 HL3 HK3 hc
  go_wp2_with fail
  go_ret
  exact ⟨rfl, HK4.out⟩

end Go.Proofs.Ytigngppmiaejjaa
