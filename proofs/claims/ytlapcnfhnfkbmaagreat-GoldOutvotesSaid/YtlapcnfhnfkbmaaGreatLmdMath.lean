/-
  Plain mathematics of package lmd: how much a boost is, how much is on a block by last votes with it, and the head by these.
-/
import Derived.Test.YtlapcnfhnfkbmaaGreatGhostMath
import Derived.Test.YtlapcnfhnfkbmaaGreatVoteG
namespace Go.Proofs.YtlapcnfhnfkbmaaGreat
set_option maxRecDepth 100000
set_option linter.unusedVariables false
set_option linter.unusedSimpArgs false
set_option linter.unusedSimpArgs false
set_option linter.unusedVariables false

def boostC (k : Cf) (pct : Int) : Int := if mayC k = true ∧ 0 ≤ pct ∧ pct ≤ 100 then totalC k / k.ep * pct / 100 else 0
theorem boostC_yes {k : Cf} {pct : Int} (h : mayC k = true) (h0 : 0 ≤ pct) (h1 : pct ≤ 100) : boostC k pct = totalC k / k.ep * pct / 100 := if_pos ⟨h, h0, h1⟩
theorem boostC_no {k : Cf} {pct : Int} (h : ¬ (mayC k = true ∧ 0 ≤ pct ∧ pct ≤ 100)) : boostC k pct = 0 := if_neg h
theorem total_zero (k : Cf) : 0 ≤ totalC k := by
  have := weight_total k []
  rw [weight_nil] at this
  exact this
theorem quo_le {a b : Int} (ha : 0 ≤ a) (hb : 1 ≤ b) : 0 ≤ a / b ∧ a / b ≤ a := ⟨Int.ediv_nonneg ha (by omega), Int.ediv_le_self b ha⟩
theorem part_le {q pct : Int} (hq : 0 ≤ q) (h0 : 0 ≤ pct) (h1 : pct ≤ 100) : 0 ≤ q * pct ∧ q * pct ≤ q * 100 ∧ 0 ≤ q * pct / 100 ∧ q * pct / 100 ≤ q := by
  have a := Int.mul_nonneg hq h0
  have b := Int.mul_le_mul_of_nonneg_left h1 hq
  exact ⟨a, b, by omega, by omega⟩
theorem boost_bounds (k : Cf) (pct : Int) : 0 ≤ boostC k pct ∧ boostC k pct ≤ totalC k := by
  have t0 := total_zero k
  unfold boostC
  split
  · rename_i h
    have h1 := quo_le t0 (mayC_yes h.1).2.2.2.1
    have h2 := part_le h1.1 h.2.1 h.2.2
    omega
  · omega
theorem boost_up {k : Cf} {p q : Int} (h0 : 0 ≤ p) (hpq : p ≤ q) (h1 : q ≤ 100) : boostC k p ≤ boostC k q := by
  cases hm : mayC k with
  | false => rw [boostC_no (by rw [hm]; simp), boostC_no (by rw [hm]; simp)]; omega
  | true =>
    rw [boostC_yes hm h0 (by omega), boostC_yes hm (by omega) h1]
    have hq := (quo_le (total_zero k) (mayC_yes hm).2.2.2.1).1
    have := Int.mul_le_mul_of_nonneg_left hpq hq
    omega
theorem boost_none (k : Cf) : boostC k 0 = 0 := by unfold boostC; split <;> simp

/-- How much a boost puts on an id. -/
def liftC (l : List Bk) (boost : Id2) (B : Int) (x : Id2) : Int := if boost ≠ zid ∧ underC l x boost = true then B else 0
def onB (k : Cf) (l : List Bk) (R : List Vt) (boost : Id2) (pct : Int) (x : Id2) : Int := onC k l R x + liftC l boost (boostC k pct) x
theorem lift_bounds (l : List Bk) (boost : Id2) {B : Int} (h : 0 ≤ B) (x : Id2) : 0 ≤ liftC l boost B x ∧ liftC l boost B x ≤ B := by
  unfold liftC; split <;> omega
theorem lift_yes {l : List Bk} {boost x : Id2} (B : Int) (h : boost ≠ zid) (u : underC l x boost = true) : liftC l boost B x = B := if_pos ⟨h, u⟩
theorem lift_no {l : List Bk} {boost x : Id2} (B : Int) (u : underC l x boost = false) : liftC l boost B x = 0 := if_neg (by rw [u]; simp)
theorem lift_zid (l : List Bk) (B : Int) (x : Id2) : liftC l zid B x = 0 := if_neg (by simp)
theorem lift_zero (l : List Bk) (boost x : Id2) : liftC l boost 0 x = 0 := by unfold liftC; split <;> rfl
theorem onB_zid (k : Cf) (l : List Bk) (R : List Vt) (pct : Int) : onB k l R zid pct = onC k l R := by funext x; unfold onB; rw [lift_zid, Int.add_zero]
theorem onB_zero (k : Cf) (l : List Bk) (R : List Vt) (boost : Id2) {pct : Int} (h : boostC k pct = 0) : onB k l R boost pct = onC k l R := by funext x; unfold onB; rw [h, lift_zero, Int.add_zero]
theorem onB_bounds (k : Cf) (l : List Bk) (R : List Vt) (boost : Id2) (pct : Int) (x : Id2) : 0 ≤ onB k l R boost pct x ∧ onB k l R boost pct x ≤ totalC k + boostC k pct ∧ onB k l R boost pct x ≤ 26388279066624 := by
  have h1 := on_bounds k l R x
  have h2 := boost_bounds k pct
  have h3 := lift_bounds l boost h2.1 x
  have h4 := weight_total k (whoC l R x)
  have h5 := total_bounds k
  unfold onB
  unfold onC at *
  omega
theorem lift_below {l : List Bk} {boost : Id2} {B : Int} (h : 0 ≤ B) {low x : Id2} (u : underC l low x = true) : liftC l boost B x ≤ liftC l boost B low := by
  by_cases hb : boost ≠ zid ∧ underC l x boost = true
  · rw [lift_yes B hb.1 hb.2, lift_yes B hb.1 (under_trans u hb.2)]; omega
  · rw [show liftC l boost B x = 0 from if_neg hb]; exact (lift_bounds l boost h low).1
theorem onB_below {k : Cf} {l : List Bk} (R : List Vt) (boost : Id2) (pct : Int) {low x : Id2} (u : underC l low x = true) : onB k l R boost pct x ≤ onB k l R boost pct low := by
  have h1 : onC k l R x ≤ onC k l R low := weight_mono k fun f hf => by
    obtain ⟨z, hz, hu, e⟩ := mem_whoC.1 hf
    exact mem_whoC.2 ⟨z, hz, under_trans u hu, e⟩
  have h2 := lift_below (boost := boost) (boost_bounds k pct).1 u
  unfold onB
  omega

/-! ### The head by whatever is on ids -/
def bestG (g : Id2 → Int) (l : List Bk) (x : Id2) : Option Id2 := bestTo g (kidsC l x)
def headG (g : Id2 → Int) (l : List Bk) : Id2 := headTo (bestG g l) l.length zid
theorem headG_on (k : Cf) (l : List Bk) (v : List Vt) : headG (onC k l v) l = headC k l v := rfl
theorem bestG_rank {g : Id2 → Int} {l : List Bk} {x y : Id2} (h : bestG g l x = some y) : rank l x < rank l y ∧ rank l y ≤ l.length := kid_rank (bestTo_mem h)
theorem bestG_wf {g : Id2 → Int} {l : List Bk} {x y : Id2} (h : bestG g l x = some y) : WfI y := kids_wf l x y (bestTo_mem h)
theorem headG_wf (g : Id2 → Int) (l : List Bk) : WfI (headG g l) := headTo_wf (fun _ _ h => bestG_wf h) _ _ WfI.zid
/-- From x on, as far as it goes. -/
def headGX (g : Id2 → Int) (l : List Bk) (x : Id2) : Id2 := headTo (bestG g l) l.length x
theorem headGX_stop {g : Id2 → Int} {l : List Bk} {x : Id2} (h : bestG g l x = none) : headGX g l x = x := headTo_stop h _
theorem headGX_step {g : Id2 → Int} {l : List Bk} {x y : Id2} (h : bestG g l x = some y) : headGX g l x = headGX g l y := by
  have hr : ∀ x y, bestG g l x = some y → rank l x < rank l y ∧ rank l y ≤ l.length := fun x y q => bestG_rank q
  have h1 := hr x y h
  unfold headGX
  rw [← headTo_more hr l.length x (by omega)]
  show (match bestG g l x with | none => x | some y => headTo (bestG g l) l.length y) = _
  rw [h]
section
variable {l : List Bk} (hm : mayB l = true) {g : Id2 → Int}
include hm
theorem kidsC_mem {x z : Id2} : z ∈ kidsC l x ↔ z ∈ kidsB l x := by rw [kidsC_yes x hm]
theorem bestG_under {x y : Id2} (hx : standsB l x = true) (h : bestG g l x = some y) : underC l x y = true ∧ standsB l y = true := by
  have hk := (kidsC_mem hm).1 (bestTo_mem h)
  have := kid_on hm hx hk
  exact ⟨this, (under_stands this).2.2⟩
/-- What x's head is stands on x. -/
theorem headGX_under : ∀ (n : Nat) {x : Id2}, standsB l x = true → l.length ≤ n + rank l x → underC l x (headGX g l x) = true
  | 0, x, hx, hn => by
    cases q : bestG g l x with
    | none => rw [headGX_stop q]; exact under_own hm hx
    | some y => have := bestG_rank q; omega
  | n + 1, x, hx, hn => by
    cases q : bestG g l x with
    | none => rw [headGX_stop q]; exact under_own hm hx
    | some y =>
      have h1 := bestG_under hm hx q
      have h2 := bestG_rank q
      rw [headGX_step q]
      exact under_trans h1.1 (headGX_under n h1.2 (by omega))
theorem head_on {x : Id2} (hx : standsB l x = true) : underC l x (headGX g l x) = true := headGX_under hm l.length hx (by omega)
/-- Where each one above t has its best one towards t, t is under the head. -/
theorem head_through {t : Id2} : ∀ (n : Nat) {x : Id2}, underC l x t = true → l.length ≤ n + rank l x →
    (∀ y z, underC l x y = true → z ∈ kidsB l y → underC l z t = true → bestG g l y = some z) → underC l t (headGX g l x) = true
  | n, x, hu, hn, hb => by
    have hs := under_stands hu
    rcases under_kids hm hs.2.1 _ rfl hu with e | ⟨z, hz, hzt⟩
    · subst e; exact head_on hm hs.2.2
    · have q := hb x z (under_own hm hs.2.1) hz hzt
      have h2 := bestG_rank q
      rw [headGX_step q]
      have hxz := kid_on hm hs.2.1 hz
      match n, hn with
      | 0, hn => omega
      | n + 1, hn => exact head_through n hzt (by omega) fun y z' h1 h3 h4 => hb y z' (under_trans hxz h1) h3 h4
/-- .. and the other way round. -/
theorem head_path {t : Id2} : ∀ (n : Nat) {x : Id2}, underC l x t = true → l.length ≤ n + rank l x → underC l t (headGX g l x) = true →
    ∀ y z, underC l x y = true → z ∈ kidsB l y → underC l z t = true → bestG g l y = some z
  | n, x, hu, hn, hh, y, z, hxy, hz, hzt => by
    have hs := under_stands hu
    have hy := (under_stands hxy).2.2
    have hyz := kid_on hm hy hz
    have hyt : underC l y t = true := under_trans hyz hzt
    cases q : bestG g l x with
    | none =>
      rw [headGX_stop q] at hh
      have e : x = t := under_anti hu hh
      exfalso
      have h1 : underC l z x = true := by rw [e]; exact hzt
      have h2 := under_trans h1 hxy
      rw [kid_not hm hy hz] at h2
      cases h2
    | some y' =>
      have h1 := bestG_under hm hs.2.1 q
      have h2 := bestG_rank q
      have hk := (kidsC_mem hm).1 (bestTo_mem q)
      rw [headGX_step q] at hh
      have hyh := head_on hm (g := g) h1.2
      rcases under_kids hm hs.2.1 _ rfl hxy with e | ⟨z0, hz0, hz0y⟩
      · subst e
        have : z = y' := kid_one hm hs.2.1 hz hk (under_trans hzt hh) hyh
        rw [this]; exact q
      · have e : z0 = y' := kid_one hm hs.2.1 hz0 hk (under_trans (under_trans hz0y hyt) hh) hyh
        subst e
        match n, hn with
        | 0, hn => omega
        | n + 1, hn => exact head_path n (under_trans hz0y hyt) (by omega) hh y z hz0y hz hzt
theorem headG_through {t : Id2} (ht : standsB l t = true) (hb : ∀ y z, z ∈ kidsB l y → underC l z t = true → bestG g l y = some z) : underC l t (headG g l) = true := by
  refine head_through hm l.length (x := zid) ?_ (by omega) fun y z _ h1 h2 => hb y z h1 h2
  refine under_zero ?_
  rw [chainC_yes hm ht]
  obtain ⟨r, e⟩ := chainB_head l t
  rw [e]; simp
theorem headG_path {t : Id2} (h : underC l t (headG g l) = true) : ∀ y z, z ∈ kidsB l y → underC l z t = true → bestG g l y = some z := fun y z hz hzt => by
  have ht := (under_stands h).2.1
  have h0 : ∀ y, standsB l y = true → underC l zid y = true := fun y hy => by
    refine under_zero ?_
    rw [chainC_yes hm hy]
    obtain ⟨r, e⟩ := chainB_head l y
    rw [e]; simp
  have hy : standsB l y = true := by
    obtain ⟨i, hi, e1, e2⟩ := mem_kids.1 hz
    rw [← e2]; exact may_stands hm hi
  exact head_path hm l.length (x := zid) (h0 t ht) (by omega) h y z (h0 y hy) hz hzt
theorem bestG_is {y z : Id2} (hz : z ∈ kidsB l y) (hb : ∀ x ∈ kidsB l y, x ≠ z → beats g z x = false) : bestG g l y = some z := by
  refine bestTo_of ⟨(kidsC_mem hm).2 hz, fun x hx => ?_⟩
  by_cases e : x = z
  · rw [e]; exact beats_self g z
  · exact hb x ((kidsC_mem hm).1 hx) e
theorem bestG_beats {y z x : Id2} (h : bestG g l y = some z) (hx : x ∈ kidsB l y) : beats g z x = false := by
  rcases bestTo_is (g := g) (kidsC l y) with ⟨e, _⟩ | ⟨z', e, h2⟩
  · unfold bestG at h; rw [e] at h; cases h
  · unfold bestG at h; rw [e] at h; injection h with h; rw [← h]; exact h2.2 x ((kidsC_mem hm).2 hx)
end
theorem beats_less {g : Id2 → Int} {x y : Id2} (h : g y < g x) : beats g x y = false := beats_no.2 (by omega)

/-! ### What the laws ask -/
/-- Two that stand on one, by votes of which everybody has one. -/
theorem two_kids {k : Cf} {l : List Bk} (hm : mayB l = true) {R : List Vt} (hR : ∀ a ∈ R, ∀ b ∈ R, a.f = b.f → a = b) {y z x : Id2} (hz : z ∈ kidsB l y) (hx : x ∈ kidsB l y) (hne : x ≠ z) : onC k l R z + onC k l R x ≤ onC k l R zid := by
  have hy : standsB l y = true := by
    obtain ⟨i, hi, e1, e2⟩ := mem_kids.1 hz
    rw [← e2]; exact may_stands hm hi
  have hd : ∀ f ∈ whoC l R z, f ∉ whoC l R x := fun f hf hg => by
    obtain ⟨a, ha, hau, rfl⟩ := mem_whoC.1 hf
    obtain ⟨b, hb, hbu, e⟩ := mem_whoC.1 hg
    have := hR b hb a ha e
    subst this
    exact hne (kid_one hm hy hx hz hbu hau)
  have h1 := (weight_both k (whoC l R z) (whoC l R x)).2 hd
  unfold onC
  rw [← h1]
  refine weight_mono k fun f hf => ?_
  have up : ∀ q, f ∈ whoC l R q → f ∈ whoC l R zid := fun q hq => by
    obtain ⟨a, ha, hu, e⟩ := mem_whoC.1 hq
    obtain ⟨m, sx, sz⟩ := under_stands hu
    refine mem_whoC.2 ⟨a, ha, under_zero ?_, e⟩
    rw [chainC_yes m sz]
    obtain ⟨r, e⟩ := chainB_head l a.p
    rw [e]; simp
  rcases List.mem_append.1 hf with q | q
  · exact up z q
  · exact up x q
theorem cnts_one {L : List Vt} {q : Int → Bool} {R : List Vt} (h : Cnts L q R) : ∀ a ∈ R, ∀ b ∈ R, a.f = b.f → a = b := fun a ha b hb e => cnt_one ((h.2 a).1 ha) ((h.2 b).1 hb) e
/-- A block that more is on than a half. -/
theorem half_head {k : Cf} {l : List Bk} {R : List Vt} (hR : ∀ a ∈ R, ∀ b ∈ R, a.f = b.f → a = b) {boost id : Id2} {pct : Int} (h : onC k l R zid + boostC k pct < 2 * onC k l R id) : underC l id (headG (onB k l R boost pct) l) = true := by
  have hb := boost_bounds k pct
  have h0 := on_bounds k l R zid
  have hz : 0 < onC k l R id := by omega
  obtain ⟨f, hf⟩ : ∃ f, f ∈ whoC l R id := by
    cases q : whoC l R id with
    | nil => unfold onC at hz; rw [q, weight_nil] at hz; omega
    | cons f r => exact ⟨f, by simp⟩
  obtain ⟨a, ha, hu, _⟩ := mem_whoC.1 hf
  obtain ⟨hm, ht, _⟩ := under_stands hu
  refine headG_through hm ht fun y z hz hzt => bestG_is hm hz fun x hx hne => ?_
  have h1 : onC k l R id ≤ onC k l R z := weight_mono k fun f hf => by
    obtain ⟨z', hz', hu, e⟩ := mem_whoC.1 hf
    exact mem_whoC.2 ⟨z', hz', under_trans hzt hu, e⟩
  have h2 := two_kids (k := k) hm hR hz hx hne
  have h3 := lift_bounds l boost hb.1 z
  have h4 := lift_bounds l boost hb.1 x
  refine beats_less ?_
  unfold onB
  omega
/-- A greater boost leaves under the head what it is for. -/
theorem up_head {k : Cf} {l : List Bk} {R : List Vt} {boost : Id2} {p q : Int} (h0 : 0 ≤ p) (hpq : p ≤ q) (h1 : q ≤ 100) (h : underC l boost (headG (onB k l R boost p) l) = true) : underC l boost (headG (onB k l R boost q) l) = true := by
  obtain ⟨hm, ht, _⟩ := under_stands h
  by_cases hz : boost = zid
  · subst hz; rw [onB_zid] at *; exact h
  have hu := boost_up (k := k) h0 hpq h1
  refine headG_through hm ht fun y z hzk hzt => bestG_is hm hzk fun x hx hne => ?_
  have hb := bestG_beats hm (headG_path hm h y z hzk hzt) hx
  have hy : standsB l y = true := by
    obtain ⟨i, hi, e1, e2⟩ := mem_kids.1 hzk
    rw [← e2]; exact may_stands hm hi
  have hxn : underC l x boost = false := by
    cases r : underC l x boost with
    | false => rfl
    | true => exact absurd (kid_one hm hy hx hzk r hzt) hne
  rw [beats_no] at hb ⊢
  unfold onB at hb ⊢
  rw [lift_yes _ hz hzt, lift_no _ hxn] at hb ⊢
  omega
/-- Without votes the boost alone tells. -/
theorem none_head {k : Cf} {l : List Bk} {boost : Id2} {pct : Int} (hm : mayB l = true) (ht : standsB l boost = true) (h : 0 < boostC k pct) : underC l boost (headG (onB k l [] boost pct) l) = true := by
  refine headG_through hm ht fun y z hz hzt => bestG_is hm hz fun x hx hne => ?_
  have hy : standsB l y = true := by
    obtain ⟨i, hi, e1, e2⟩ := mem_kids.1 hz
    rw [← e2]; exact may_stands hm hi
  have hxn : underC l x boost = false := by
    cases r : underC l x boost with
    | false => rfl
    | true => exact absurd (kid_one hm hy hx hz r hzt) hne
  have hn : ∀ i, onC k l [] i = 0 := fun i => onC_none fun _ q => by cases q
  have hbz : boost ≠ zid := fun e => by
    subst e
    rw [under_zid hm] at hzt
    have e2 : zid = z := of_decide_eq_true hzt
    subst e2
    obtain ⟨i, hi, e1, _⟩ := mem_kids.1 hz
    have h1 := may_pos hm hi
    rw [e1, may_zero hm] at h1
    cases h1
  refine beats_less ?_
  unfold onB
  rw [hn, hn, lift_yes _ hbz hzt, lift_no _ hxn]
  omega

/-! ### Which votes are the last ones -/
theorem cnt_same {L M : List Vt} {q : Int → Bool} (h : ∀ v, q v.s = true → (v ∈ L ↔ v ∈ M)) (v : Vt) : Cnt L q v ↔ Cnt M q v := by
  suffices H : ∀ {L M : List Vt}, (∀ v, q v.s = true → (v ∈ L ↔ v ∈ M)) → Cnt L q v → Cnt M q v from ⟨H h, H fun v hv => (h v hv).symm⟩
  intro L M h c
  obtain ⟨h1, h2, h3, h4⟩ := c
  refine ⟨(h v h2).1 h1, h2, fun s hs d => h3 s hs ?_, fun a ha e hq => h4 a ((h a hq).2 ha) e hq⟩
  obtain ⟨a, ha, b, hb, e1, e2, e3, e4, ne⟩ := d
  exact ⟨a, (h a (by rw [e3]; exact hs)).2 ha, b, (h b (by rw [e4]; exact hs)).2 hb, e1, e2, e3, e4, ne⟩
theorem cnts_same {L M : List Vt} {q : Int → Bool} {R S : List Vt} (h : ∀ v, q v.s = true → (v ∈ L ↔ v ∈ M)) (hR : Cnts L q R) (hS : Cnts M q S) : R = S :=
  rise_eq Vt.f hR.1 hS.1 fun v => (hR.2 v).trans ((cnt_same h v).trans (hS.2 v).symm)
theorem cnts_nil (q : Int → Bool) : Cnts [] q [] := ⟨List.Pairwise.nil, fun v => ⟨fun h => (by cases h), fun h => h.1⟩⟩
theorem cnts_mem {L : List Vt} {q : Int → Bool} {R : List Vt} (h : Cnts L q R) : ∀ v ∈ R, v ∈ L := fun v hv => ((h.2 v).1 hv).1

end Go.Proofs.YtlapcnfhnfkbmaaGreat
