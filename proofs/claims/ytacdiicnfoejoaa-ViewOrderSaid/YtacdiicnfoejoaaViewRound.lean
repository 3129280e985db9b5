/-
  The contracts of the tally's calls round and size.
-/
import Derived.BigQuiet
import Derived.Test.YtacdiicnfoejoaaViewLeavesV
import Derived.Test.YtacdiicnfoejoaaViewOnlyP
namespace Go.Proofs.Ytacdiicnfoejoaa
set_option maxRecDepth 100000
set_option linter.unusedVariables false
set_option linter.unusedSimpArgs false
set_option linter.unusedSimpArgs false
set_option linter.unusedVariables false
open Go.ChangeShapes Go.WideShapes Go.ChangeAt Go.RowKit

/-- What the blocks' pass has come to. -/
def RunB (up : Int) (b : List Bk) (f : Bool) (l : List Bk) : PSt Bk := runG lostB (pendB up) 60 ⟨b, [], f, false⟩ l
def RunV (B : List Bk) (up : Int) (v : List Vt) (f : Bool) (l : List Vt) : PSt Vt := runG (lostV B) (pendV B up) 240 ⟨v, [], f, false⟩ l
def StB (W : World) (z : Nat) (up : Int) (b : List Bk) (v : List Vt) (f : Bool) (B : Option Addr) (d : Nat) (M C m : Nat) (ib : List Bk) (j : Nat) (L : List Bk) (S : Nat → Prop) (w : World) : Prop :=
  ∃ A c n, L = (RunB up b f (ib.take j)).left ∧ S = talS z M C A B ∧ n ≤ (RunB up b f (ib.take j)).w.length + 1 ∧
    TalAt W z up (RunB up b f (ib.take j)).w v (RunB up b f (ib.take j)).full (slotsF (RunB up b f (ib.take j)).w) (standsB (RunB up b f (ib.take j)).w) v A c B d M n C m w
def StV (W : World) (z : Nat) (up : Int) (b : List Bk) (v : List Vt) (f : Bool) (A : Option Addr) (c : Nat) (M n C : Nat) (iv : List Vt) (j : Nat) (L : List Vt) (S : Nat → Prop) (w : World) : Prop :=
  ∃ B d m, L = (RunV b up v f (iv.take j)).left ∧ S = talS z M C A B ∧ m ≤ (RunV b up v f (iv.take j)).w.length ∧
    TalAt W z up b (RunV b up v f (iv.take j)).w (RunV b up v f (iv.take j)).full (slotsF b) (standsB b) (RunV b up v f (iv.take j)).w A c B d M n C m w
theorem leavesB_any (W : World) (z : Nat) (up : Int) (b : List Bk) (v : List Vt) (f : Bool) (A : Option Addr) (c : Nat) (B : Option Addr) (d : Nat) (M n C m : Nat) (y : Bk) (w : World) (hwy : WfB y) (h1 : 1 ≤ y.s) (hz : nameB y ≠ zid) (hb1 : ∀ x ∈ b, 1 ≤ x.s) (h60 : b.length ≤ 60) (hn : n ≤ 100) (hT : TalAt W z up b v f (slotsF b) (standsB b) v A c B d M n C m w) :
    Calls Try.prog 51 #[.pointer (some ⟨z, 0, none⟩), .agg #[.int .i64 y.s, .int .i64 y.f, .int .u64 y.p.1, .int .u64 y.p.2, .int .u64 y.t]] w (LvB W z up b v f A c B d M n C m y w) :=
  leavesB_of W z up b v f A c B d M n C m y (nameB y) w rfl (nameB_lt y) hwy h1 hz hb1 h60 hn hT (fun w => name_any y hwy w)
theorem runB_len {up : Int} {b : List Bk} {f : Bool} (l : List Bk) (h : b.length ≤ 60) : (RunB up b f l).w.length ≤ 60 := pass_cap (lost := lostB) (pend := pendB up) f l h
theorem runB_one {up : Int} {b : List Bk} {f : Bool} {l : List Bk} (hb : ∀ x ∈ b, 1 ≤ x.s) (hl : ∀ x ∈ l, 1 ≤ x.s) : ∀ x ∈ (RunB up b f l).w, 1 ≤ x.s := fun x hx => by
  obtain ⟨n, e, hn⟩ := pass_grows (lost := lostB) (pend := pendB up) (cap := 60) b f l
  have e' : (RunB up b f l).w = b ++ n := e
  rw [e'] at hx
  rcases List.mem_append.1 hx with q | q
  · exact hb x q
  · exact hl x (hn x q)
theorem runV_len {B : List Bk} {up : Int} {v : List Vt} {f : Bool} (l : List Vt) (h : v.length ≤ 240) : (RunV B up v f l).w.length ≤ 240 := pass_cap (lost := lostV B) (pend := pendV B up) f l h
theorem asksB (W : World) (z : Nat) (up : Int) (b : List Bk) (v : List Vt) (f : Bool) (B : Option Addr) (d : Nat) (M C m : Nat) (ib : List Bk) (hib : ∀ y ∈ ib, WfB y ∧ 1 ≤ y.s ∧ nameB y ≠ zid) (hb1 : ∀ x ∈ b, 1 ≤ x.s) (h60 : b.length ≤ 60) :
    Asks W (fun y w Q => Calls Try.prog 51 #[.pointer (some ⟨z, 0, none⟩), .agg #[.int .i64 y.s, .int .i64 y.f, .int .u64 y.p.1, .int .u64 y.p.2, .int .u64 y.t]] w Q) ib (StB W z up b v f B d M C m ib) where
  step := by
    rintro j hj L S w ⟨A, c, n, rfl, rfl, hn, hT⟩
    have hlt : ∀ x ∈ ib.take j, 1 ≤ x.s := fun x hx => (hib x (List.mem_of_mem_take hx)).2.1
    have hy := hib _ (List.getElem_mem hj)
    have hlen := runB_len (up := up) (f := f) (ib.take j) h60
    refine (leavesB_any W z up _ v _ A c B d M n C m ib[j] w hy.1 hy.2.1 hy.2.2 (runB_one hb1 hlt) hlen (by omega) hT).mono ?_
    rintro e w' ⟨A', c', n', rfl, hn', hT', hO, hS⟩
    have e1 : RunB up b f (ib.take (j + 1)) = stepG lostB (pendB up) 60 (RunB up b f (ib.take j)) ib[j] := by unfold RunB; rw [List.take_succ_eq_append_getElem hj, runG_snoc]
    obtain ⟨s1, s2, s3⟩ := step_out lostB (pendB up) 60 (RunB up b f (ib.take j)) ib[j]
    refine ⟨_, talS z M C A' B, rfl, ⟨A', c', n', ?_, rfl, ?_, ?_⟩, hO, hS⟩
    · rw [e1, s3]
    · rw [e1, s1]; omega
    · rw [e1, s1, s2]; exact hT'
  keep := by
    rintro j L S w w' ⟨A, c, n, h1, rfl, hn, hT⟩ kW _ hk
    exact ⟨A, c, n, h1, rfl, hn, hT.keep kW hk⟩
  lt := by
    rintro j L S w ⟨A, c, n, h1, rfl, hn, hT⟩
    exact ⟨hT.wb.2, hT.lt⟩
theorem asksV (W : World) (z : Nat) (up : Int) (b : List Bk) (v : List Vt) (f : Bool) (A : Option Addr) (c : Nat) (M n C : Nat) (iv : List Vt) (hiv : ∀ y ∈ iv, WfV y ∧ 1 ≤ y.s) (hb1 : ∀ x ∈ b, 1 ≤ x.s) (h240 : v.length ≤ 240) :
    Asks W (fun y w Q => Calls Try.prog 52 #[.pointer (some ⟨z, 0, none⟩), .agg #[.int .i64 y.f, .int .i64 y.s, .int .u64 y.p.1, .int .u64 y.p.2]] w Q) iv (StV W z up b v f A c M n C iv) where
  step := by
    rintro j hj L S w ⟨B, d, m, rfl, rfl, hm, hT⟩
    have hy := hiv _ (List.getElem_mem hj)
    have hlen := runV_len (B := b) (up := up) (f := f) (iv.take j) h240
    refine (leavesV_any W z up b _ _ A c B d M n C m iv[j] w hy.1 hy.2 hb1 hlen (by omega) hT).mono ?_
    rintro e w' ⟨B', d', m', rfl, hm', hT', hO, hS⟩
    have e1 : RunV b up v f (iv.take (j + 1)) = stepG (lostV b) (pendV b up) 240 (RunV b up v f (iv.take j)) iv[j] := by unfold RunV; rw [List.take_succ_eq_append_getElem hj, runG_snoc]
    obtain ⟨s1, s2, s3⟩ := step_out (lostV b) (pendV b up) 240 (RunV b up v f (iv.take j)) iv[j]
    refine ⟨_, talS z M C A B', rfl, ⟨B', d', m', ?_, rfl, ?_, ?_⟩, hO, hS⟩
    · rw [e1, s3]
    · rw [e1, s1]; omega
    · rw [e1, s1, s2]; exact hT'
  keep := by
    rintro j L S w w' ⟨B, d, m, h1, rfl, hm, hT⟩ kW _ hk
    exact ⟨B, d, m, h1, rfl, hm, hT.keep kW hk⟩
  lt := by
    rintro j L S w ⟨B, d, m, h1, rfl, hm, hT⟩
    exact ⟨hT.wb.2, hT.lt⟩
/-- What a round ends in: the tally as roundT has it, what is left in rows of one's own, apart from the tally. -/
def RoundGot (W : World) (z : Nat) (up : Int) (t : TSt) (A0 B0 : Option Addr) (M C : Nat) (w : World) (e : Ending) (w' : World) : Prop := ∃ A c B d n m I i J k,
  e = .returned (.agg #[.slice I (roundT up t).i.b.length i, .slice J (roundT up t).i.v.length k]) ∧ n ≤ (roundT up t).w.b.length + 1 ∧ m ≤ (roundT up t).w.v.length ∧
  TalAt W z up (roundT up t).w.b (roundT up t).w.v (roundT up t).full (slotsF (roundT up t).w.b) (standsB (roundT up t).w.b) (roundT up t).w.v A c B d M n C m w' ∧
  Bks W (roundT up t).i.b (.slice I (roundT up t).i.b.length i) w' ∧ Vts W (roundT up t).i.v (.slice J (roundT up t).i.v.length k) w' ∧
  (∀ ad, I = some ad → ¬ talS z M C A B ad.block) ∧ (∀ ad, J = some ad → ¬ talS z M C A B ad.block) ∧ Off (talS z M C A0 B0) w w' ∧ ∀ x, talS z M C A B x → talS z M C A0 B0 x ∨ w.heap.size ≤ x
set_option maxRecDepth 100000 in
set_option maxHeartbeats 3200000 in
theorem tallySize_any (W : World) (z : Nat) (up : Int) (b : List Bk) (v : List Vt) (f : Bool) (A : Option Addr) (c : Nat) (B : Option Addr) (d : Nat) (M n C m : Nat) (w : World) (h60 : b.length ≤ 60) (h240 : v.length ≤ 240) (hT : TalAt W z up b v f (slotsF b) (standsB b) v A c B d M n C m w) :
    Calls Try.prog 29 #[.pointer (some ⟨z, 0, none⟩)] w fun e w' => e = .returned (.int .i64 ((b.length + v.length : Nat) : Int)) ∧ Kept w w' := by
  have hw : IntKind.i64.wrap ((b.length : Int) + (v.length : Int)) = (b.length : Int) + (v.length : Int) := by rw [IntKind.wrap_i64]; omega
  have HT := Lib.hid hT
  obtain ⟨t0, t1, t2, t3, t4, t5, tz⟩ := hT.cells
  clear hT
  go_enter Try.func29, Try.ntmps29
  go_wp2_with fail
  go_quiet (fail)
  go_wp2_with fail
  go_ret
  exact ⟨by first | rfl | (simp; done), (Kept.refl w).drewN _⟩
set_option maxRecDepth 100000 in
set_option maxHeartbeats 3200000 in
theorem tallyRound_any (W : World) (z : Nat) (up : Int) (b : List Bk) (v : List Vt) (f : Bool) (A : Option Addr) (c : Nat) (B : Option Addr) (d : Nat) (M n C m : Nat) (iA : Option Addr) (ic : Nat) (ib : List Bk) (jA : Option Addr) (jc : Nat) (iv : List Vt) (w : World) (hT : TalAt W z up b v f (slotsF b) (standsB b) v A c B d M n C m w) (hn : n ≤ b.length + 1) (hm : m ≤ v.length) (hI : CellsAt w w.heap.size iA (blockCells ib)) (hJ : CellsAt w w.heap.size jA (votesCells iv)) (hIs : 0 < ib.length → ∀ ad, iA = some ad → ¬ talS z M C A B ad.block) (hJs : 0 < iv.length → ∀ ad, jA = some ad → ¬ talS z M C A B ad.block)
    (hib : ∀ y ∈ ib, WfB y ∧ 1 ≤ y.s ∧ nameB y ≠ zid) (hiv : ∀ y ∈ iv, WfV y ∧ 1 ≤ y.s) (hl : ib.length ≤ 10000) (hv : iv.length ≤ 10000) (hb1 : ∀ x ∈ b, 1 ≤ x.s) (h60 : b.length ≤ 60) (h240 : v.length ≤ 240) :
    Calls Try.prog 30 #[.pointer (some ⟨z, 0, none⟩), .agg #[.slice iA ib.length ic, .slice jA iv.length jc]] w (RoundGot W z up ⟨⟨b, v⟩, ⟨ib, iv⟩, f⟩ A B M C w) := by
  have ka := ((Kept.refl w).alloc (.cells #[.slice iA ib.length ic, .slice jA iv.length jc] 29)).alloc (.cells #[.slice none 0 0, .slice none 0 0] 29)
  have K0 := Lib.hid ka
  have HT0 := Lib.hid (hT.kept ka)
  have HI := Lib.hid (hI.kept ka)
  have HJ := Lib.hid (hJ.kept ka)
  have HB1 := Lib.hid ((HasCells.new w #[.slice iA ib.length ic, .slice jA iv.length jc] 29 (w.heap.size) rfl).alloc (.cells #[.slice none 0 0, .slice none 0 0] 29))
  have HS4 := Lib.hid (show (w.alloc (.cells #[.slice iA ib.length ic, .slice jA iv.length jc] 29)).heap.size = w.heap.size + 1 by simp)
  have H4 := Lib.hid (show AtB ((w.alloc (.cells #[.slice iA ib.length ic, .slice jA iv.length jc] 29)).alloc (.cells #[.slice none 0 0, .slice none 0 0] 29)) (w.heap.size + 1) #[.slice none 0 0, .slice none 0 0] 29 from HS4.out ▸ AtB.new _ #[.slice none 0 0, .slice none 0 0] _)
  have HNz := Lib.hid (show ∀ x, talS z M C A B x → x < w.heap.size from hT.lt)
  have HGW := Lib.hid (show W.heap.size ≤ w.heap.size from hT.wb.2.size_le)
  have HJb := Lib.hid (show 0 < iv.length → ∀ ad, jA = some ad → ad.block < w.heap.size from fun h ad e => by
    obtain ⟨z, o, e2, hb, _⟩ := vote_at hJ h
    rw [e2] at e; injection e with e; rw [← e]; exact hb)
  have HIs := Lib.hid hIs
  have HJs := Lib.hid hJs
  have HAB := Lib.hid (asksB W z up b v f B d M C m ib hib hb1 h60)
  have HRb := Lib.hid (show ∀ x ∈ (RunB up b f ib).w, 1 ≤ x.s from runB_one hb1 (fun x hx => (hib x hx).2.1))
  have HIV := Lib.hid hiv
  have HIB := Lib.hid hib
  clear hT ka hI hJ hIs hJs hib hiv hb1 HS4
  go_enter Try.func30, Try.ntmps30
  go_wp2_with fail
  generalize (w.alloc (.cells #[.slice iA ib.length ic, .slice jA iv.length jc] 29)).alloc (.cells #[.slice none 0 0, .slice none 0 0] 29) = W0 at *
  obtain ⟨z4, hz4⟩ : ∃ z4, z4 = w.heap.size + 1 := ⟨_, rfl⟩
  obtain ⟨z1, hz1⟩ : ∃ z1, z1 = w.heap.size := ⟨_, rfl⟩
  rw [← hz4] at H4 ⊢
  rw [← hz1] at HB1 ⊢
  have HZ := Lib.hid (⟨hz1, hz4⟩ : _ ∧ _)
  clear hz1 hz4
  obtain ⟨d0, d1⟩ := HB1.out.two
  have dz := HB1.out.1
  have eg := enters_of Try.func51 (by kernel_rfl) rfl
  go_wp2_with fail
  clear d0 d1 dz
  go_at_call 37
  refine (leftBBd_any W 51 (.pointer (some ⟨z, 0, none⟩)) (talS z M C A B) iA ic ib (StB W z up b v f B d M C m ib) W0 hl HI.out HIs.out HT0.out.wb.2 eg HAB.out ⟨A, c, n, rfl, rfl, hn, HT0.out⟩).mono ?_
  rintro e W1 ⟨L, I, i, S, rfl, ⟨A1, c1, n1, hL, rfl, hn1, hT1⟩, hL1⟩
  rw [List.take_length] at hL hn1 hT1
  obtain ⟨pb, hpb⟩ : ∃ pb, pb = RunB up b f ib := ⟨_, rfl⟩
  rw [← hpb] at hL hn1 hT1 HRb
  have hpl : pb.w.length ≤ 60 := by rw [hpb]; exact runB_len ib h60
  have HPb := Lib.hid hpb
  have HL := Lib.hid hL
  have HT1 := Lib.hid hT1
  have HL1 := Lib.hid hL1
  have HO1 := Lib.hid hL1.off
  have HSub1 := Lib.hid hL1.sub
  have H41 := Lib.hid (H4.out.off (fun q => by have := HNz.out z4 q; have := HZ.out.2; omega) HO1.out)
  have HB11 := Lib.hid (HB1.out.off (fun q => by have := HNz.out z1 q; have := HZ.out.1; omega) HO1.out)
  have HN4 := Lib.hid (show ¬ talS z M C A1 B z4 from fun q => (HSub1.out z4 q).elim (fun q => by have := HNz.out z4 q; have := HZ.out.2; omega) (fun q => by have := H4.out.lt; omega))
  have HN1 := Lib.hid (show ¬ talS z M C A1 B z1 from fun q => (HSub1.out z1 q).elim (fun q => by have := HNz.out z1 q; have := HZ.out.1; omega) (fun q => by have := HB1.out.1; omega))
  have HJ1 := Lib.hid (HJ.out.off (fun h => HJs.out (by rw [votesCells_length] at h; omega)) HO1.out)
  have HJs1 := Lib.hid (show 0 < iv.length → ∀ ad, jA = some ad → ¬ talS z M C A1 B ad.block from fun h ad e q => (HSub1.out _ q).elim (HJs.out h ad e) (fun q => by have := HJb.out h ad e; have := K0.out.size_le; omega))
  have HAV := Lib.hid (asksV W z up pb.w v pb.full A1 c1 M n1 C iv HIV.out HRb.out h240)
  clear hL hT1 hL1 hpb
  obtain ⟨d0, d1⟩ := HB11.out.two
  have dz := HB11.out.1
  have eg := enters_of Try.func52 (by kernel_rfl) rfl
  go_wp2_with fail
  clear d0 d1 dz
  go_at_call 39
  refine (leftVBd_any W 52 (.pointer (some ⟨z, 0, none⟩)) (talS z M C A1 B) jA jc iv (StV W z up pb.w v pb.full A1 c1 M n1 C iv) W1 hv HJ1.out HJs1.out HT1.out.wb.2 eg HAV.out ⟨B, d, m, rfl, rfl, hm, HT1.out⟩).mono ?_
  rintro e W2 ⟨L2, J, k, S2, rfl, ⟨B2, d2, m2, hL2, rfl, hm2, hT2⟩, hLv⟩
  rw [List.take_length] at hL2 hm2 hT2
  obtain ⟨pv, hpv⟩ : ∃ pv, pv = RunV pb.w up v pb.full iv := ⟨_, rfl⟩
  rw [← hpv] at hL2 hm2 hT2
  have h4 := H41.out.off HN4.out hLv.off
  have HN42 : ¬ talS z M C A1 B2 z4 := fun q => (hLv.sub z4 q).elim HN4.out (fun q => by have := H41.out.lt; omega)
  have hRI : Bks W L (.slice I L.length i) W2 := bks_off HL1.out.row (fun x hx => (HL1.out.apart x hx).1) hLv.off hT2.wb.2
  have hRJ := hLv.row
  have hIn : ∀ ad, I = some ad → ¬ talS z M C A1 B2 ad.block := fun ad e q => by
    have hx : (Value.slice I L.length i).ownBlock = some ad.block := by rw [e]; rfl
    rcases hLv.sub _ q with q | q
    · exact (HL1.out.apart _ hx).1 q
    · have := (HL1.out.row.1.lt _ hx).2; omega
  have hJn : ∀ ad, J = some ad → ¬ talS z M C A1 B2 ad.block := fun ad e => (hLv.apart _ (by rw [e]; rfl)).1
  have hOff : Off (talS z M C A B) W0 W2 := HO1.out.trans hLv.off HSub1.out
  have hSub : ∀ x, talS z M C A1 B2 x → talS z M C A B x ∨ W0.heap.size ≤ x := fun x q => by
    rcases hLv.sub x q with q | q
    · exact HSub1.out x q
    · exact Or.inr (Nat.le_trans HO1.out.size q)
  have hgz : W.heap.size ≤ z4 := by have := HGW.out; have := HZ.out.2; omega
  have r0 : W2.cell? ⟨z4, 0, none⟩ = some (.slice none 0 0) := h4.cell
  have r1 : W2.cell? ⟨z4, 1, none⟩ = some (.slice none 0 0) := h4.cell
  have f0 := h4.fr 0
  have f1 := h4.fr 1
  have lt4 := h4.lt
  have HW3 := Lib.hid (show ∀ (x : Nat), x ≠ z4 → ((W2.setCell ⟨z4, 0, none⟩ (.slice I L.length i)).setCell ⟨z4, 1, none⟩ (.slice J L2.length k)).heap[x]? = W2.heap[x]? from fun x hx => (heap_setCell_other _ _ x _ hx).trans (heap_setCell_other _ _ x _ hx))
  have HBI := Lib.hid (bks_past_box (bks_past_box hRI h4 (by decide) hgz 0 (.slice I L.length i)) (h4.set 0 (.slice I L.length i)) (by decide) hgz 1 (.slice J L2.length k))
  have HVJ := Lib.hid (vts_past_box (vts_past_box hRJ h4 (by decide) hgz 0 (.slice I L.length i)) (h4.set 0 (.slice I L.length i)) (by decide) hgz 1 (.slice J L2.length k))
  have HT3 := Lib.hid (hT2.keep HBI.out.2 fun x hx => HW3.out x (fun e => HN42 (by rw [← e]; exact hx)))
  have HO3 := Lib.hid (show Off (talS z M C A B) w ((W2.setCell ⟨z4, 0, none⟩ (.slice I L.length i)).setCell ⟨z4, 1, none⟩ (.slice J L2.length k)) from ⟨by have := hOff.size; have := K0.out.size_le; simp; omega, fun x hx hn => (HW3.out x (by have := HZ.out.2; omega)).trans ((hOff.heap x (Nat.lt_of_lt_of_le hx K0.out.size_le) hn).trans (K0.out.heap hx))⟩)
  have HSub3 := Lib.hid (show ∀ x, talS z M C A1 B2 x → talS z M C A B x ∨ w.heap.size ≤ x from fun x q => (hSub x q).imp id (Nat.le_trans K0.out.size_le))
  have s0 := (h4.set2 (.slice I L.length i) (.slice J L2.length k)).cell (j := 0)
  have s1 := (h4.set2 (.slice I L.length i) (.slice J L2.length k)).cell (j := 1)
  have HL2 := Lib.hid hL2
  have HIn := Lib.hid hIn
  have HJn := Lib.hid hJn
  have HPv := Lib.hid hpv
  clear hRI hRJ hIn hJn hOff hSub h4 hL2 hLv hT2 HN42 hgz hpv
  go_wp2_with fail
  clear r0 r1 f0 f1 lt4
  generalize (W2.setCell ⟨z4, 0, none⟩ (.slice I L.length i)).setCell ⟨z4, 1, none⟩ (.slice J L2.length k) = W3 at *
  replace s0 : W3.cell? ⟨z4, 0, none⟩ = some (.slice I L.length i) := s0
  replace s1 : W3.cell? ⟨z4, 1, none⟩ = some (.slice J L2.length k) := s1
  go_wp2_with fail
  refine bodyPost_ret (v := .agg #[.slice I L.length i, .slice J L2.length k]) (by simp [results, Try.results30, go_sem, s0, s1]) rfl ?_
  have e1 : L = (roundT up ⟨⟨b, v⟩, ⟨ib, iv⟩, f⟩).i.b := by rw [HL.out, HPb.out]; rfl
  have e2 : L2 = (roundT up ⟨⟨b, v⟩, ⟨ib, iv⟩, f⟩).i.v := by rw [HL2.out, HPv.out, HPb.out]; rfl
  have e3 : pb.w = (roundT up ⟨⟨b, v⟩, ⟨ib, iv⟩, f⟩).w.b := by rw [HPb.out]; rfl
  have e4 : pv.w = (roundT up ⟨⟨b, v⟩, ⟨ib, iv⟩, f⟩).w.v := by rw [HPv.out, HPb.out]; rfl
  have e5 : pv.full = (roundT up ⟨⟨b, v⟩, ⟨ib, iv⟩, f⟩).full := by rw [HPv.out, HPb.out]; rfl
  have hT := HT3.out
  have hB := HBI.out
  have hV := HVJ.out
  rw [e3, e4, e5] at hT
  rw [e1] at hB ⊢
  rw [e2] at hV ⊢
  rw [e3] at hn1
  rw [e4] at hm2
  exact ⟨A1, c1, B2, d2, n1, m2, I, i, J, k, rfl, hn1, hm2, hT, hB, hV, HIn.out, HJn.out, HO3.out, HSub3.out⟩

end Go.Proofs.Ytacdiicnfoejoaa
