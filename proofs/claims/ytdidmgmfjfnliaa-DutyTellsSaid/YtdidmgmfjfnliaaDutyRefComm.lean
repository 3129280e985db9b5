/-
  The contracts of Committee and In of the given package marigoldref05.
-/
import Derived.Test.YtdidmgmfjfnliaaDutyRefMore
namespace Go.Proofs.Ytdidmgmfjfnliaa
open Go.ChangeShapes Go.WideShapes Go.ChangeAt Go.RowKit

set_option maxHeartbeats 1600000 in
theorem refComm_no (A : Option Addr) (c : Nat) (k : Cf) (slot : Int) (w : World) (hn : k.ws.length ≤ 1000) (hA : CellsAt w w.heap.size A (intCells k.ws)) (hd : dutyC k slot = false) :
    Calls Try.prog 15 #[.agg #[.slice A k.ws.length c, .int .u64 k.seed, .int .i64 k.ep, .int .i64 k.nu, .int .i64 k.de], .int .i64 slot] w fun e w' => ∃ A' c', e = .returned (.slice A' (commC k slot).length c') ∧ CellsAt w' w'.heap.size A' (intCells (commC k slot)) ∧ Kept w w' := by
  obtain ⟨hC, hA', hK⟩ := conf_box (c := c) hA
  have HC := Lib.hid hC
  have HA := Lib.hid hA'
  have HK := Lib.hid hK
  have HR := Lib.hid (commC_no hd)
  clear hC hA' hK hA
  cases hm : mayC k with
  | false =>
    have HM := Lib.hid hm
    clear hm hd
    generalize hsl : decide (1 ≤ slot ∧ slot ≤ 1048576) = b at *
    have HS := Lib.hid (fun w' => hsl ▸ slots_any slot w')
    clear hsl
    go_enter Try.func15, Try.ntmps15
    go_wp2_with fail
    refine (refMay5_any A c k _ hn HA.out).mono ?_
    rintro e W ⟨rfl, k1⟩
    rw [HM.out]
    have HK1 := Lib.hid (HK.out.trans k1)
    clear k1 HC HA HK
    go_wp2_with fail
    refine (HS.out _).mono ?_
    rintro e w' ⟨rfl, rfl⟩
    go_wp2_with fail
    go_ret
    exact ⟨none, 0, by rw [HR.out]; rfl, by rw [HR.out]; exact CellsAt.nil, HK1.out⟩
  | true =>
    have HM := Lib.hid hm
    have hsl : decide (1 ≤ slot ∧ slot ≤ 1048576) = false := (dutyC_slot hm).symm.trans hd
    have HS := Lib.hid (fun w' => hsl ▸ slots_any slot w')
    clear hm hd hsl
    go_enter Try.func15, Try.ntmps15
    go_wp2_with fail
    refine (refMay5_any A c k _ hn HA.out).mono ?_
    rintro e W ⟨rfl, k1⟩
    rw [HM.out]
    have HK1 := Lib.hid (HK.out.trans k1)
    clear k1 HC HA HK
    go_wp2_with fail
    refine (HS.out _).mono ?_
    rintro e w' ⟨rfl, rfl⟩
    go_wp2_with fail
    go_ret
    exact ⟨none, 0, by rw [HR.out]; rfl, by rw [HR.out]; exact CellsAt.nil, HK1.out⟩

set_option maxRecDepth 100000 in
set_option maxHeartbeats 3200000 in
theorem refComm_nat (A : Option Addr) (c : Nat) (k : Cf) (s E : Nat) (w : World) (hn : k.ws.length ≤ 1000) (hA : CellsAt w w.heap.size A (intCells k.ws)) (hsd : k.seed < 18446744073709551616)
    (hm : mayC k = true) (hep : k.ep = (E : Int)) (hE : 1 ≤ E) (hE8 : E ≤ 8) (hs1 : 1 ≤ s) (hs : s ≤ 1048576) :
    Calls Try.prog 15 #[.agg #[.slice A k.ws.length c, .int .u64 k.seed, .int .i64 k.ep, .int .i64 k.nu, .int .i64 k.de], .int .i64 (s : Int)] w fun e w' => ∃ A' c', e = .returned (.slice A' (commTo (memN k.seed k.ws.length E s) k.ws.length).length c') ∧
      CellsAt w' w'.heap.size A' (intCells (commTo (memN k.seed k.ws.length E s) k.ws.length)) ∧ Kept w w' := by
  obtain ⟨hC, hA', hK⟩ := conf_box (c := c) hA
  have HC := Lib.hid hC
  have HA := Lib.hid hA'
  have HK := Lib.hid hK
  have HM := Lib.hid hm
  have hn1 := (mayC_yes hm).1
  have hsl : decide (1 ≤ (s : Int) ∧ (s : Int) ≤ 1048576) = true := decide_eq_true (by omega)
  have HS := Lib.hid (fun w' => hsl ▸ slots_any (s : Int) w')
  clear hsl
  have hEz : ¬ E = 0 := by omega
  have hq : (s : Int).tdiv (E : Int) = ((s / E : Nat) : Int) := (Int.ofNat_tdiv s E).symm
  have hql : s / E ≤ s := Nat.div_le_self s E
  have HP := Lib.hid (fun who => show memN k.seed k.ws.length E s who = decide (atN (stepN k.seed (s / E)) k.ws.length who % E = s % E) from rfl)
  have hr : (s : Int).tmod (E : Int) = ((s % E : Nat) : Int) := (Int.ofNat_tmod s E).symm
  generalize s / E = q at *
  have hqw : IntKind.u64.wrap (q : Int) = (q : Int) := by rw [IntKind.wrap_u64]; omega
  have hqi : IntKind.i64.wrap (q : Int) = (q : Int) := by rw [IntKind.wrap_i64]; omega
  have hdl := stepN_lt k.seed q
  have HST := Lib.hid (fun w' => refStep_any k.seed q hsd (by omega) w')
  generalize stepN k.seed q = d at *
  have HAT := Lib.hid (fun i (hi : i < k.ws.length) w' => refAt_yes d k.ws.length i w' hdl hn1 hn hi)
  generalize memN k.seed k.ws.length E s = p at *
  have HEP := Lib.hid hep
  clear hC hA' hK hA hm hep
  go_enter Try.func15, Try.ntmps15
  go_wp2_with fail
  refine (refMay5_any A c k _ hn HA.out).mono ?_
  rintro e W ⟨rfl, k1⟩
  rw [HM.out]
  have HK1 := Lib.hid (HK.out.trans k1)
  have HC1 := Lib.hid (HC.out.kept k1)
  obtain ⟨c0, c1, c2, c3, c4⟩ := HC1.out.five
  have hz := HC1.out.1
  clear k1 HC HA HK
  rw [HEP.out] at c2
  go_wp2_with fail
  refine (HS.out _).mono ?_
  rintro e W2 ⟨rfl, rfl⟩
  go_wp2_with fail
  generalize w.heap.size = z at *
  go_region_held3 (fun w' => w'.cell? ⟨z, 0, none⟩ = some (.slice A k.ws.length c) ∧ w'.cell? ⟨z, 1, none⟩ = some (.int .u64 k.seed) ∧ w'.cell? ⟨z, 2, none⟩ = some (.int .i64 (E : Int)) ∧ Kept W2 w')
    (first | exact ⟨c0, c1, c2, Kept.refl _⟩ | exact ⟨c0, c1, c2, (Kept.refl _).drew⟩ | assumption | exact three_keep hz (by assumption) (by assumption))
    (first
      | (go_at_call 29; ((with_reducible refine (HST.out _).mono ?_); rintro e w' ⟨rfl, rfl⟩)))
  rename_i hh
  obtain ⟨d0, d1, d2, dk⟩ := hh
  clear c0 c1 c2 c3 c4
  have HD := Lib.hid (show ∀ w', Kept W2 w' → w'.cell? ⟨z, 0, none⟩ = some (.slice A k.ws.length c) ∧ w'.cell? ⟨z, 1, none⟩ = some (.int .u64 k.seed) ∧ w'.cell? ⟨z, 2, none⟩ = some (.int .i64 (E : Int)) from fun w' hk => by
    obtain ⟨c0, c1, c2, _, _⟩ := (HC1.out.kept hk).five
    exact ⟨c0, c1, by rw [← HEP.out]; exact c2⟩)
  have HI0 := Lib.hid (show Ints W2 [] (.slice none 0 0) W2.drew from ⟨World.ownsRow_nil _ _ _ _, (Kept.refl _).drew⟩)
  clear d0 d1 d2 dk
  go_wp2_with fail
  go_loopw [8, 9] (fun v i w' => ∃ j : Nat, j ≤ k.ws.length ∧ i = .int .i64 (j : Nat) ∧ Ints W2 (commTo p j) v w') (fun _ i _ => k.ws.length - (intOf i).toNat)
  case atStart => exact ⟨0, by omega, rfl, HI0.out⟩
  case round =>
    obtain ⟨j, hj, rfl, hI⟩ := hrel
    have HI := Lib.hid hI
    clear hI
    obtain ⟨c0, c1, c2⟩ := HD.out wr HI.out.2
    have hzr : z < wr.heap.size := Nat.lt_of_lt_of_le hz HI.out.2.size_le
    by_cases hlt : j < k.ws.length
    · have HA1 := Lib.hid (HAT.out j hlt)
      have hmj : ((atN d k.ws.length j : Nat) : Int).tmod (E : Int) = ((atN d k.ws.length j % E : Nat) : Int) := (Int.ofNat_tmod _ E).symm
      have HPj := Lib.hid (HP.out j)
      have HL := Lib.hid (commTo_length p j)
      generalize atN d k.ws.length j = a at *
      generalize a % E = x at *
      generalize s % E = y at *
      have HE := Lib.hid (show decide (x = y) = ((x : Int) == (y : Int)) by rw [Bool.eq_iff_iff]; simp; omega)
      go_wp2_with fail
      go_region_held3 (fun w' => w'.cell? ⟨z, 0, none⟩ = some (.slice A k.ws.length c) ∧ w'.cell? ⟨z, 1, none⟩ = some (.int .u64 k.seed) ∧ w'.cell? ⟨z, 2, none⟩ = some (.int .i64 (E : Int)) ∧ Kept wr w')
        (first | exact ⟨c0, c1, c2, Kept.refl _⟩ | exact ⟨c0, c1, c2, (Kept.refl _).drew⟩ | assumption | exact three_keep hzr (by assumption) (by assumption))
        (first
          | (go_at_call 30; ((with_reducible refine (HA1.out _).mono ?_); rintro e w' ⟨rfl, rfl⟩)))
      rename_i hh
      have HI2 := Lib.hid (HI.out.kept hh.2.2.2)
      clear hh c0 c1 c2
      cases hpj : p j with
      | true =>
        have hxy : ((x : Int) == (y : Int)) = true := by rw [← HE.out, ← HPj.out]; exact hpj
        have HN := Lib.hid (commTo_hit hpj)
        clear hpj
        go_wp2_with (refine wpList_ints _ rfl _ _ rfl W2 (commTo p j) _ rfl (HI2.out.alloc _) _ _ 1 1 [(j : Int)] rfl rfl (CellsAt.one _ _ _ _ rfl) (by have := HL.out; omega) ?_; intro v' w' HI'; rw [← HN.out] at HI')
        go_roundw
        case rel => exact ⟨j + 1, by omega, by go_num, by assumption⟩
        case measure => simp [intOf]; omega
      | false =>
        have hxy : ((x : Int) == (y : Int)) = false := by rw [← HE.out, ← HPj.out]; exact hpj
        have HN := Lib.hid (commTo_miss hpj)
        clear hpj
        go_wp2_with fail
        go_roundw
        case rel => exact ⟨j + 1, by omega, by go_num, by rw [HN.out]; exact HI2.out⟩
        case measure => simp [intOf]; omega
    · have hjl : j = k.ws.length := by omega
      subst hjl
      obtain ⟨A', c', rfl⟩ := row_slice HI.out.1
      go_wp2_with fail
      go_ret
      exact ⟨A', c', rfl, CellsAt.of_own HI.out.1, HK1.out.trans HI.out.2⟩

theorem refComm_any (A : Option Addr) (c : Nat) (k : Cf) (slot : Int) (w : World) (hn : k.ws.length ≤ 1000) (hA : CellsAt w w.heap.size A (intCells k.ws)) (hsd : k.seed < 18446744073709551616) :
    Calls Try.prog 15 #[.agg #[.slice A k.ws.length c, .int .u64 k.seed, .int .i64 k.ep, .int .i64 k.nu, .int .i64 k.de], .int .i64 slot] w fun e w' => ∃ A' c', e = .returned (.slice A' (commC k slot).length c') ∧ CellsAt w' w'.heap.size A' (intCells (commC k slot)) ∧ Kept w w' := by
  cases hd : dutyC k slot with
  | false => exact refComm_no A c k slot w hn hA hd
  | true =>
    obtain ⟨E, s, he, rfl, h1, h2, h3, h4, h5, h6⟩ := duty_nats hd
    have h := refComm_nat A c k s E w hn hA hsd (dutyC_yes hd).1 he h1 h2 h3 h4
    rw [commC_yes hd]
    unfold memC
    rw [show k.ep.toNat = E by omega, Int.toNat_natCast]
    exact h

theorem inC_has (k : Cf) (slot who : Int) : hasI (commC k slot) who = inC k slot who := by
  unfold hasI
  cases hd : dutyC k slot with
  | false => rw [commC_no hd, inC_no hd]; simp
  | true =>
    rw [commC_yes hd]
    cases hv : validC k who with
    | false =>
      rw [inC_out hv]
      refine decide_eq_false fun hm => ?_
      obtain ⟨i, hi, _, rfl⟩ := mem_commTo.1 hm
      exact of_decide_eq_false hv ⟨by omega, by omega⟩
    | true =>
      rw [inC_yes hd hv]
      have hv' := of_decide_eq_true hv
      obtain ⟨j, rfl⟩ : ∃ j : Nat, who = (j : Int) := ⟨who.toNat, by omega⟩
      rw [Int.toNat_natCast]
      exact inList_comm j (by omega)
set_option maxHeartbeats 800000 in
theorem refIn_any (A : Option Addr) (c : Nat) (k : Cf) (slot who : Int) (w : World) (hn : k.ws.length ≤ 1000) (hA : CellsAt w w.heap.size A (intCells k.ws)) (hsd : k.seed < 18446744073709551616) :
    Calls Try.prog 12 #[.agg #[.slice A k.ws.length c, .int .u64 k.seed, .int .i64 k.ep, .int .i64 k.nu, .int .i64 k.de], .int .i64 slot, .int .i64 who] w fun e w' => e = .returned (.bool (inC k slot who)) ∧ Kept w w' := by
  obtain ⟨hC, hA', hK⟩ := conf_box (c := c) hA
  have HA := Lib.hid hA'
  have HK := Lib.hid hK
  have HL := Lib.hid (comm_len k slot)
  have HI := Lib.hid (inC_has k slot who)
  have HCM := Lib.hid (fun w' h => refComm_any A c k slot w' hn h hsd)
  clear hC hA' hK hA
  generalize inC k slot who = b at *
  generalize commC k slot = l at *
  go_enter Try.func12, Try.ntmps12
  go_wp2_with fail
  refine (HCM.out _ HA.out).mono ?_
  rintro e W ⟨A', c', rfl, hcl, k1⟩
  have HK1 := Lib.hid (HK.out.trans k1)
  have HCl := Lib.hid hcl
  clear k1 hcl
  go_wp2_with fail
  refine (refHas_any A' c' l who _ HL.out HCl.out).mono ?_
  rintro e W2 ⟨rfl, rfl⟩
  rw [HI.out]
  go_wp2_with fail
  go_ret
  exact ⟨rfl, HK1.out⟩

end Go.Proofs.Ytdidmgmfjfnliaa
