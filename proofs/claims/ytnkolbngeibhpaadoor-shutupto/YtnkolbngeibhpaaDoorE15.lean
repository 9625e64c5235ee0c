/-
  THE WALKS: docketkeep's bare.
-/
import Derived.Test.YtnkolbngeibhpaaDoorE13
import Derived.Test.YtnkolbngeibhpaaDoorE6
set_option linter.unusedVariables false
set_option linter.unusedSimpArgs false
namespace Go.Proofs.YtnkolbngeibhpaaDoor
open Go.RowKit
attribute [local go_sem ↓] Go.wp_at_zero Go.wp_at_succ

set_option maxRecDepth 100000 in
set_option maxHeartbeats 1000000 in
theorem kbare_any {n ba : Nat} {S : Nat → St} {va : Value} {w : World} (ha : w.ownsRow ba 80 4 va n (stas4 S n)) (h0 : ∀ i, i < n → S i = ⟨false, 0, 0, false⟩) (hn : n ≤ 6) :
    Calls Tryd.prog 41 #[va] w fun e w' => TPost w e w' := by
  obtain ⟨aa, ca, rfl⟩ := own_len ha
  have HA := hid ha
  have H0 := hid h0
  clear ha h0
  go_enter Tryd.func41, Tryd.ntmps41
  go_wp2
  have hm := gSt
  go_loopw [3] (fun t wr => ∃ i : Nat, i ≤ n ∧ t = .int .i64 i ∧ Hid (Below w.heap.size w wr)) (fun t _ => n - (intOf t).toNat)
  case atStart => exact ⟨0, by omega, rfl, Below.refl _ _⟩
  case round =>
    obtain ⟨i, i1, rfl, hb⟩ := hrel
    by_cases hit : i < n
    · have lt' : (i : Int) < (n : Int) := by omega
      obtain ⟨ga, ca', e1, za, x⟩ := own_cell (own_of_block HA.out (w' := wr) (fun g _ hlt => hb.out.block g hlt)) (by omega)
      simp at e1
      obtain ⟨rfl, rfl⟩ := e1
      have at' : ∀ j, j < n * 4 → (stas4 S n)[j]? = some (stf S j) := fun j hj => by simp [stas4, hj]
      have x0 := x (i * 4) (by omega)
      have x1 := x (i * 4 + 1) (by omega)
      have x2 := x (i * 4 + 2) (by omega)
      have x3 := x (i * 4 + 3) (by omega)
      rw [at' _ (by omega), stf0] at x0
      rw [at' _ (by omega), stf1] at x1
      rw [at' _ (by omega), stf2] at x2
      rw [at' _ (by omega), stf3] at x3
      rw [H0.out i hit] at x0 x1 x2 x3
      clear x at'
      go_wp2
      go_roundw
      case rel => exact ⟨i + 1, by omega, by go_num, hb⟩
      case measure => simp [intOf]; omega
    · have R : Hid (TPost w (.returned (.bool true)) wr) := ⟨rfl, hb.out⟩
      go_wp2
      go_ret
      exact R.out

end Go.Proofs.YtnkolbngeibhpaaDoor

/-
  A CLOSED CASE, as mathematics: its clock alone goes on.
-/
set_option linter.unusedVariables false
set_option linter.unusedSimpArgs false
namespace Go.Proofs.YtnkolbngeibhpaaDoor
open Go.RowKit

theorem p4_zero (A B C D X : KP) : upd (p4 A B C D) 0 X = p4 X B C D := by
  funext i
  match i with
  | 0 => exact upd_same _ _ _
  | 1 => exact upd_other _ _ (by omega)
  | 2 => exact upd_other _ _ (by omega)
  | n + 3 => exact upd_other _ _ (by omega)

theorem settle_shut (f : Frm) {m : Cs} (h : m.op = false) : m.settle f = m := by
  unfold Cs.settle
  rw [if_neg (by rw [h]; simp)]

theorem go_shut (f : Frm) {m : Cs} (h : m.op = false) (j : Nat) : (m.go f j).S = m.S ∧ (m.go f j).E = m.E ∧ (m.go f j).op = false := by
  induction j with
  | zero => exact ⟨rfl, rfl, h⟩
  | succ j ih =>
    obtain ⟨h1, h2, h3⟩ := ih
    have e : m.go f (j + 1) = ((m.go f j).at (m.T + (j + 1 : Nat))).settle f := rfl
    have h4 : ((m.go f j).at (m.T + (j + 1 : Nat))).op = false := h3
    rw [e, settle_shut f h4]
    exact ⟨h1, h2, h3⟩

theorem adv_shut (f : Frm) {m : Cs} (h : m.op = false) (t : Int) : (advM f m t).S = m.S ∧ (advM f m t).E = m.E ∧ (advM f m t).op = false := by
  unfold advM
  split
  · exact ⟨rfl, rfl, h⟩
  · exact go_shut f h _

theorem advM_F (f : Frm) (m : Cs) (t : Int) : (advM f m t).F = m.F := by
  unfold advM
  split
  · rfl
  · exact go_F f m _

theorem closeM_is (f : Frm) {m : Cs} (h : m.op = true) : closeNo m = 0 ∧ (closeM f m).op = false ∧ (closeM f m).F = m.F ∧ (closeM f m).T = m.T ∧ (closeM f m).E = m.E ∧ ∀ i, i < f.k → (closeM f m).S i = ⟨false, 0, 0, false⟩ := by
  unfold closeNo closeM
  rw [if_neg (by rw [h]; simp), if_neg (by rw [h]; simp)]
  exact ⟨rfl, rfl, rfl, rfl, rfl, fun i hi => if_pos hi⟩

theorem shut_calls (f : Frm) {m : Cs} (h : m.op = false) (c v : Int) : setNo f m c v = 10 ∧ setM f m c v = m ∧ ackNo f m c = 10 ∧ ackM f m c = m ∧ closeNo m = 10 ∧ closeM f m = m := by
  have e1 : setNo f m c v = 10 := by unfold setNo; rw [if_pos h]
  have e2 : ackNo f m c = 10 := by unfold ackNo; rw [if_pos h]
  refine ⟨e1, ?_, e2, ?_, ?_, ?_⟩
  · unfold setM; rw [e1, if_neg (by omega)]
  · unfold ackM; rw [e2, if_neg (by omega)]
  · unfold closeNo; rw [if_pos h]
  · unfold closeM; rw [if_pos h]

theorem lt_of_heap {w : World} {g : Nat} {o : Obj} (h : w.heap[g]? = some o) : g < w.heap.size := by
  rcases Nat.lt_or_ge g w.heap.size with a | a
  · exact a
  · rw [Array.getElem?_eq_none a] at h; cases h

/-- What a case shows, in lists whose blocks are of Z. -/
def LookZ (Z : Nat → Prop) (f : Frm) (m : Cs) (v : Value) (w : World) : Prop :=
  ∃ B, LookAt B f m v w ∧ ∀ vV vS vL, v = .agg #[.int .i64 m.T, vV, vS, vL, .bool true] → ∀ g, (vV.ownBlock = some g ∨ vS.ownBlock = some g ∨ vL.ownBlock = some g) → Z g

theorem LookZ.of {Z : Nat → Prop} {B : Nat} {f : Frm} {m : Cs} {v : Value} {w : World} (h : LookAt B f m v w) (hz : ∀ j, B ≤ j → j < w.heap.size → Z j) : LookZ Z f m v w := by
  refine ⟨B, h, fun vV vS vL e g hg => ?_⟩
  obtain ⟨uV, uS, uL, e2, h1, h2, h3⟩ := h.ex
  rw [e] at e2
  simp at e2
  obtain ⟨rfl, rfl, rfl⟩ := e2
  rcases hg with hg | hg | hg
  · obtain ⟨cur, hc⟩ := own_type h1 hg
    exact hz g (own_from h1 hg) (lt_of_heap hc)
  · obtain ⟨cur, hc⟩ := own_type h2 hg
    exact hz g (own_from h2 hg) (lt_of_heap hc)
  · obtain ⟨cur, hc⟩ := own_type h3 hg
    exact hz g (own_from h3 hg) (lt_of_heap hc)
theorem LookZ.less {Z Z' : Nat → Prop} {f : Frm} {m : Cs} {v : Value} {w : World} (h : LookZ Z f m v w) (hz : ∀ j, Z j → Z' j) : LookZ Z' f m v w := by
  obtain ⟨B, h1, h2⟩ := h
  exact ⟨B, h1, fun vV vS vL e g hg => hz g (h2 vV vS vL e g hg)⟩
theorem LookZ.stays {Z : Nat → Prop} {f : Frm} {m : Cs} {v : Value} {w w' : World} (h : LookZ Z f m v w) (hs : StZ Z w w') : LookZ Z f m v w' := by
  obtain ⟨B, h1, h2⟩ := h
  refine ⟨B, ?_, h2⟩
  obtain ⟨uV, uS, uL, e2, g1, g2, g3⟩ := h1.ex
  exact ⟨uV, uS, uL, e2, own_of_block g1 (fun g hg _ => hs.block g (h2 _ _ _ e2 g (Or.inl hg))), own_of_block g2 (fun g hg _ => hs.block g (h2 _ _ _ e2 g (Or.inr (Or.inl hg)))), own_of_block g3 (fun g hg _ => hs.block g (h2 _ _ _ e2 g (Or.inr (Or.inr hg))))⟩

end Go.Proofs.YtnkolbngeibhpaaDoor

/-
  THE WALKS: docketkeep.Shut.
-/
set_option linter.unusedVariables false
set_option linter.unusedSimpArgs false
namespace Go.Proofs.YtnkolbngeibhpaaDoor
open Go.RowKit
attribute [local go_sem ↓] Go.wp_at_zero Go.wp_at_succ

theorem LookZ.rows {Z : Nat → Prop} {f : Frm} {m : Cs} {a b c : Value} {w : World} (h : LookZ Z f m (.agg #[.int .i64 m.T, a, b, c, .bool true]) w) : ∃ B, w.ownsRow B 3 1 a f.n (intsV (f.vals m.F m.T) f.n) ∧ w.ownsRow B 80 4 b f.k (stas4 m.S f.k) ∧ w.ownsRow B 101 3 c m.E.length (evs m.E) := by
  obtain ⟨B, h1, _⟩ := h
  obtain ⟨uV, uS, uL, e, r⟩ := h1.ex
  simp at e
  obtain ⟨rfl, rfl, rfl⟩ := e
  exact ⟨B, r⟩

theorem LsC.as {Z : Nat → Prop} {b np : Nat} {P : Nat → KP} {i : Nat} {w w' : World} {e : Ending} {r r' : Value} {m m' : Cs} (h : LsC r Z b np P i m w e w') (hr : r = r') (hm : m = m') : LsC r' Z b np P i m' w e w' := by
  subst hr hm
  exact h

set_option maxRecDepth 100000 in
set_option maxHeartbeats 4000000 in
theorem kshut_any (C : Nat → Cel) (R : Nat → Rul) (hol : List Int) (aC aR aH : Option Addr) (n cC k cR cH : Nat) (week : Int) (w : World) (ht : Tab w) (hn : n ≤ 1000000000) (hk : k ≤ 1000000000) (hhl : hol.length ≤ 1000000000) (h64 : Raw64 C n R k week hol)
    (hcs : CAt w aC n C) (hrs : RAt w aR k R) (hhs : IntsAt w (.slice aH hol.length cH) hol) {aS : Option Addr} {mS cS : Nat} {S : Nat → StK} (hsc : ScK w aS mS S) (hm : mS ≤ 1048576) (tq n' v' : Int) (h1 : I64k tq) :
    Calls Tryd.prog 10 #[.agg #[.slice aC n cC, .slice aR k cR, .int .i64 week, .slice aH hol.length cH], .slice aS mS cS, .int .i64 tq, .int .i64 n', .int .i64 v'] w fun e w' => TPost w e w' := by
  have BX := hid (Below.refl (w.heap.size + 1) (w.alloc (.cells #[.slice aC n cC, .slice aR k cR, .int .i64 week, .slice aH hol.length cH] 26)))
  have BW := hid (boxed_below BX.out)
  have SH := hid (kshaped_any C R hol aC aR aH n cC k cR cH week _ hn hk hhl h64 (hcs.below BW.out) (hrs.below BW.out) (SlAt.below hhs BW.out (Nat.le_refl _)))
  have FSO := hid (shF_ok C n R k week hol)
  have HSC := hid hsc
  have HT := hid ht
  clear hcs hrs hhs hsc h64 ht
  generalize shF C n R k week hol = f at *
  go_enter Tryd.func10, Tryd.ntmps10
  go_wp2_with fail
  refine SH.out.mono ?_
  rintro e w1 ⟨fv, rfl, fa, hb1⟩
  have FA := hid fa
  obtain ⟨aC', cC', aR', cR', aH', cH', rfl, fa1, fa2, fa3⟩ := fa
  clear fa1 fa2 fa3
  have B1 : Hid (Below w.heap.size w w1) := BW.out.trans (hb1.mono (by simp))
  clear hb1 BX BW SH
  have BX := hid (Below.refl (w1.heap.size + 1) (w1.alloc (.cells #[.slice aC' f.n cC', .slice aR' f.k cR', .int .i64 f.week, .slice aH' f.hol.length cH'] 26)))
  have BB := hid (boxed_below BX.out)
  have f0 : (w1.alloc (.cells #[.slice aC' f.n cC', .slice aR' f.k cR', .int .i64 f.week, .slice aH' f.hol.length cH'] 26)).cell? ⟨w1.heap.size, 0, none⟩ = some (.slice aC' f.n cC') := boxed BX.out 0
  have f1 : (w1.alloc (.cells #[.slice aC' f.n cC', .slice aR' f.k cR', .int .i64 f.week, .slice aH' f.hol.length cH'] 26)).cell? ⟨w1.heap.size, 1, none⟩ = some (.slice aR' f.k cR') := boxed BX.out 1
  have f2 : (w1.alloc (.cells #[.slice aC' f.n cC', .slice aR' f.k cR', .int .i64 f.week, .slice aH' f.hol.length cH'] 26)).cell? ⟨w1.heap.size, 2, none⟩ = some (.int .i64 f.week) := boxed BX.out 2
  have f3 : (w1.alloc (.cells #[.slice aC' f.n cC', .slice aR' f.k cR', .int .i64 f.week, .slice aH' f.hol.length cH'] 26)).cell? ⟨w1.heap.size, 3, none⟩ = some (.slice aH' f.hol.length cH') := boxed BX.out 3
  have zg : w1.heap.size < (w1.alloc (.cells #[.slice aC' f.n cC', .slice aR' f.k cR', .int .i64 f.week, .slice aH' f.hol.length cH'] 26)).heap.size := by simp
  have B0 : Hid (Below w.heap.size w (w1.alloc (.cells #[.slice aC' f.n cC', .slice aR' f.k cR', .int .i64 f.week, .slice aH' f.hol.length cH'] 26))) := B1.out.trans (BB.out.mono B1.out.size)
  have FA0 := hid (FA.out.below BB.out)
  have SC0 := hid (HSC.out.below B0.out)
  have T0 := hid (HT.out.below B0.out (Nat.le_refl _))
  clear BX BB FA B1 HSC HT
  go_upto_region 2 with (fail)
  generalize w1.alloc (.cells #[.slice aC' f.n cC', .slice aR' f.k cR', .int .i64 f.week, .slice aH' f.hol.length cH'] 26) = w0 at *
  generalize w1.heap.size = g at *
  obtain ⟨n1, n20, k6, _, _⟩ := FSO.out.ok.sizes
  have LS0 := hid (LS.start T0.out (fun _ => ⟨fun _ => False, kpl0, .bool false, f, beginM f⟩) 1)
  have OPN := hid (lopened LS0.out (by omega) FSO.out.ok FA0.out)
  go_wp2_with fail
  refine OPN.out.mono ?_
  rintro e w2 ⟨QA, pA, vA, rfl, l2, s2⟩
  have L2 : Hid (LS (fun j => j < w0.heap.size) 1 1 (p4 ⟨QA, pA, vA, f, beginM f⟩ ⟨QA, pA, vA, f, beginM f⟩ ⟨QA, pA, vA, f, beginM f⟩ ⟨QA, pA, vA, f, beginM f⟩) w2) := l2.congr (fun i hi => by
    have e : i = 0 := by omega
    subst e
    exact upd_same _ _ _)
  have S2 := hid s2
  have f0' := (s2.cell 0 zg).trans f0
  have f1' := (s2.cell 1 zg).trans f1
  have f2' := (s2.cell 2 zg).trans f2
  have f3' := (s2.cell 3 zg).trans f3
  have PLY := hid (lplay (cS := cS) L2.out (S2.out.below (Below.refl _ _) (fun j hj => hj)) (fun j hj => hj) FA0.out SC0.out (i := 0) (by omega) rfl (beginM_op f) hm (by omega))
  clear l2 s2 LS0 OPN
  go_wp2_with fail
  refine PLY.out.mono ?_
  rintro e w3 ⟨rfl, vA1, l3, s3⟩
  rw [p4_zero] at l3
  have L3 : Hid (LS (fun j => j < w0.heap.size) (1 + mS) 1 (p4 ⟨QA, pA, vA1, f, playM f (beginM f) S mS⟩ ⟨QA, pA, vA, f, beginM f⟩ ⟨QA, pA, vA, f, beginM f⟩ ⟨QA, pA, vA, f, beginM f⟩) w3) := l3
  have OP : Hid ((playM f (beginM f) S mS).op = true) := (playM_op f (beginM f) S mS).trans (beginM_op f)
  have S3 := hid (S2.out.trans s3)
  generalize playM f (beginM f) S mS = M at *
  have FRK := hid (lfork L3.out (i := 0) (by omega) (by omega))
  clear l3 s3 L2 S2 PLY f0' f1' f2' f3'
  go_wp2_with fail
  refine FRK.out.mono ?_
  rintro e w4 ⟨QB, pB, vB, rfl, l4, s4⟩
  rw [p4_one] at l4
  have L4 : Hid (LS (fun j => j < w0.heap.size) (1 + mS) 2 (p4 ⟨QA, pA, vA1, f, M⟩ ⟨QB, pB, vB, f, M⟩ ⟨QA, pA, vA, f, beginM f⟩ ⟨QA, pA, vA, f, beginM f⟩) w4) := l4
  have S4 := hid (S3.out.trans s4)
  have g0 := (S4.out.cell 0 zg).trans f0
  have g1 := (S4.out.cell 1 zg).trans f1
  have g2 := (S4.out.cell 2 zg).trans f2
  have g3 := (S4.out.cell 3 zg).trans f3
  clear l4 s4 L3 S3 FRK
  have HZ : Hid (∀ j, j < w0.heap.size → (fun j => j < w0.heap.size) j) := (fun j hj => hj)
  have ZG : Hid ((fun j => j < w0.heap.size) g) := zg
  have SW := hid S4.out
  generalize hZ0 : (fun j => j < w0.heap.size) = Z0 at L4 HZ ZG
  clear hZ0 f0 f1 f2 f3 S4
  have HM : Hid (M.Ok f) := L4.out.mok (i := 0) (by omega)
  have LEN : Hid (M.E.length ≤ 1000000000000) := (show _ ≤ _ from by have h := L4.out.len (i := 0) (by omega) (by omega); have h' : M.E.length ≤ 999999999000 := h; omega)
  obtain ⟨MC, hMC⟩ : ∃ MC, closeM f M = MC := ⟨_, rfl⟩
  have CM := hid (closeM_is f OP.out)
  rw [hMC] at CM
  have HMC := hid hMC
  clear hMC
  have ot := ontoI_bd tq HM.out.t0 HM.out.t1
  have ON := hid (fun W => konto_any M.T tq W HM.out.t0 HM.out.t1 h1)
  generalize ontoI M.T tq = ta at *
  obtain ⟨MA, hMA⟩ : ∃ MA, advM f MC ta = MA := ⟨_, rfl⟩
  obtain ⟨MD, hMD⟩ : ∃ MD, advM f M ta = MD := ⟨_, rfl⟩
  have MAT : Hid (MA.T = ta) := (by show MA.T = ta; rw [← hMA]; exact advM_T f MC (by rw [CM.out.2.2.2.1]; exact ot.1) ot.2)
  have MDT : Hid (MD.T = ta) := (by show MD.T = ta; rw [← hMD]; exact advM_T f M ot.1 ot.2)
  have MAS : Hid (MA.S = MC.S ∧ MA.E = MC.E ∧ MA.op = false) := (by show _ ∧ _; rw [← hMA]; exact adv_shut f CM.out.2.1 ta)
  have MAF : Hid (MA.F = M.F) := (by show MA.F = M.F; rw [← hMA, advM_F]; exact CM.out.2.2.1)
  have MDF : Hid (MD.F = M.F) := (by show MD.F = M.F; rw [← hMD, advM_F])
  have AC : Hid (advAns MC.T ta = 0) := (by show advAns MC.T ta = 0; rw [CM.out.2.2.2.1]; unfold advAns; rw [if_neg (by omega)])
  have AD : Hid (advAns M.T ta = 0) := (by show advAns M.T ta = 0; unfold advAns; rw [if_neg (by omega)])
  have HMA := hid hMA
  have HMD := hid hMD
  have SC := hid (shut_calls f MAS.out.2.2 n' v')
  clear hMA hMD ot
  have LK : Hid (Calls Tryd.prog 23 #[.pointer (some ⟨pA.bp, 0, none⟩), (.agg #[.slice aC' f.n cC', .slice aR' f.k cR', .int .i64 f.week, .slice aH' f.hol.length cH'])] w4 fun e w' => LoP f M w4 e w') := llook L4.out (i := 0) (by omega) (by omega) (FA0.out.below (SW.out.below (Below.refl _ _) (fun j hj => hj)))
  go_wp2_with fail
  refine LK.out.mono ?_
  rintro e ax ⟨vx, rfl, l, b⟩
  have Lx := hid l
  obtain ⟨xV, xS, xL, rfl, r1, r2, r3⟩ := l.ex
  obtain ⟨xa1, xc1, rfl⟩ := own_len r1
  obtain ⟨xa2, xc2, rfl⟩ := own_len r2
  obtain ⟨xa3, xc3, rfl⟩ := own_len r3
  have BB : Hid (Below ax.heap.size ax (ax.alloc (.cells #[.int .i64 M.T, .slice xa1 f.n xc1, .slice xa2 f.k xc2, .slice xa3 M.E.length xc3, .bool true] 46))) := boxed_below (Below.refl (ax.heap.size + 1) (ax.alloc (.cells #[.int .i64 M.T, .slice xa1 f.n xc1, .slice xa2 f.k xc2, .slice xa3 M.E.length xc3, .bool true] 46)))
  have NW : Hid (Below w4.heap.size w4 (ax.alloc (.cells #[.int .i64 M.T, .slice xa1 f.n xc1, .slice xa2 f.k xc2, .slice xa3 M.E.length xc3, .bool true] 46))) := b.trans (BB.out.mono b.size)
  have NS : Hid (StZ Z0 w4 (ax.alloc (.cells #[.int .i64 M.T, .slice xa1 f.n xc1, .slice xa2 f.k xc2, .slice xa3 M.E.length xc3, .bool true] 46))) := StZ.of NW.out L4.out.lt
  have Lx : Hid (LookZ (zup Z0 w4 (ax.alloc (.cells #[.int .i64 M.T, .slice xa1 f.n xc1, .slice xa2 f.k xc2, .slice xa3 M.E.length xc3, .bool true] 46))) f M _ (ax.alloc (.cells #[.int .i64 M.T, .slice xa1 f.n xc1, .slice xa2 f.k xc2, .slice xa3 M.E.length xc3, .bool true] 46))) := LookZ.of (Lx.out.below (B2 := 0) BB.out) (fun j h1 h2 => Or.inr ⟨h1, h2⟩)
  have g0 := (NS.out.cell 0 ZG.out).trans g0
  have g1 := (NS.out.cell 1 ZG.out).trans g1
  have g2 := (NS.out.cell 2 ZG.out).trans g2
  have g3 := (NS.out.cell 3 ZG.out).trans g3
  have zx : Hid (zup Z0 w4 (ax.alloc (.cells #[.int .i64 M.T, .slice xa1 f.n xc1, .slice xa2 f.k xc2, .slice xa3 M.E.length xc3, .bool true] 46)) ax.heap.size) := Or.inr ⟨b.size, by simp⟩
  have cx0 : (ax.alloc (.cells #[.int .i64 M.T, .slice xa1 f.n xc1, .slice xa2 f.k xc2, .slice xa3 M.E.length xc3, .bool true] 46)).cell? ⟨ax.heap.size, 0, none⟩ = some (.int .i64 M.T) := boxed (Below.refl (ax.heap.size + 1) (ax.alloc (.cells #[.int .i64 M.T, .slice xa1 f.n xc1, .slice xa2 f.k xc2, .slice xa3 M.E.length xc3, .bool true] 46))) 0
  have cx1 : (ax.alloc (.cells #[.int .i64 M.T, .slice xa1 f.n xc1, .slice xa2 f.k xc2, .slice xa3 M.E.length xc3, .bool true] 46)).cell? ⟨ax.heap.size, 1, none⟩ = some (.slice xa1 f.n xc1) := boxed (Below.refl (ax.heap.size + 1) (ax.alloc (.cells #[.int .i64 M.T, .slice xa1 f.n xc1, .slice xa2 f.k xc2, .slice xa3 M.E.length xc3, .bool true] 46))) 1
  have cx2 : (ax.alloc (.cells #[.int .i64 M.T, .slice xa1 f.n xc1, .slice xa2 f.k xc2, .slice xa3 M.E.length xc3, .bool true] 46)).cell? ⟨ax.heap.size, 2, none⟩ = some (.slice xa2 f.k xc2) := boxed (Below.refl (ax.heap.size + 1) (ax.alloc (.cells #[.int .i64 M.T, .slice xa1 f.n xc1, .slice xa2 f.k xc2, .slice xa3 M.E.length xc3, .bool true] 46))) 2
  have cx3 : (ax.alloc (.cells #[.int .i64 M.T, .slice xa1 f.n xc1, .slice xa2 f.k xc2, .slice xa3 M.E.length xc3, .bool true] 46)).cell? ⟨ax.heap.size, 3, none⟩ = some (.slice xa3 M.E.length xc3) := boxed (Below.refl (ax.heap.size + 1) (ax.alloc (.cells #[.int .i64 M.T, .slice xa1 f.n xc1, .slice xa2 f.k xc2, .slice xa3 M.E.length xc3, .bool true] 46))) 3
  have cx4 : (ax.alloc (.cells #[.int .i64 M.T, .slice xa1 f.n xc1, .slice xa2 f.k xc2, .slice xa3 M.E.length xc3, .bool true] 46)).cell? ⟨ax.heap.size, 4, none⟩ = some (.bool true) := boxed (Below.refl (ax.heap.size + 1) (ax.alloc (.cells #[.int .i64 M.T, .slice xa1 f.n xc1, .slice xa2 f.k xc2, .slice xa3 M.E.length xc3, .bool true] 46))) 4
  have HZ : Hid (∀ j, j < w0.heap.size → zup Z0 w4 (ax.alloc (.cells #[.int .i64 M.T, .slice xa1 f.n xc1, .slice xa2 f.k xc2, .slice xa3 M.E.length xc3, .bool true] 46)) j) := fun j hj => Or.inl (HZ.out j hj)
  have ZG : Hid (zup Z0 w4 (ax.alloc (.cells #[.int .i64 M.T, .slice xa1 f.n xc1, .slice xa2 f.k xc2, .slice xa3 M.E.length xc3, .bool true] 46)) g) := Or.inl ZG.out
  have SW := hid (SW.out.trans (StZ.of NW.out (fun j hj => by have := SW.out.size; omega)))
  have Nx := hid (L4.out.drop NW.out)
  clear r1 r2 r3 l b BB NW NS LK L4
  go_upto_region 10 with (fail)
  generalize zup Z0 w4 (ax.alloc (.cells #[.int .i64 M.T, .slice xa1 f.n xc1, .slice xa2 f.k xc2, .slice xa3 M.E.length xc3, .bool true] 46)) = Zx at *
  generalize (ax.alloc (.cells #[.int .i64 M.T, .slice xa1 f.n xc1, .slice xa2 f.k xc2, .slice xa3 M.E.length xc3, .bool true] 46)) = ux at *
  generalize ax.heap.size = gx at *
  have KC := hid ((lclose Nx.out (i := 0) (by omega)).mono (fun _ _ g => LsC.as g (r' := .int .i64 0) (m' := MC) (congrArg (Value.int .i64) CM.out.1) HMC.out))
  go_wp2_with fail
  refine KC.out.mono ?_
  rintro e y1 ⟨rfl, q1, l, s⟩
  rw [p4_zero] at l
  have K1 : Hid (LS Zx (1 + mS) 2 (p4 ⟨QA, pA, q1, f, MC⟩ ⟨QB, pB, vB, f, M⟩ ⟨QA, pA, vA, f, beginM f⟩ ⟨QA, pA, vA, f, beginM f⟩) y1) := by exact l
  have SW : Hid (StZ (fun j => j < w0.heap.size) w0 y1) := SW.out.trans (s.less HZ.out)
  have Lx := hid (Lx.out.stays s)
  have cx0 := (s.cell 0 zx.out).trans cx0
  have cx1 := (s.cell 1 zx.out).trans cx1
  have cx2 := (s.cell 2 zx.out).trans cx2
  have cx3 := (s.cell 3 zx.out).trans cx3
  have cx4 := (s.cell 4 zx.out).trans cx4
  have g0 := (s.cell 0 ZG.out).trans g0
  have g1 := (s.cell 1 ZG.out).trans g1
  have g2 := (s.cell 2 ZG.out).trans g2
  have g3 := (s.cell 3 ZG.out).trans g3
  clear l s KC Nx
  have LK : Hid (Calls Tryd.prog 23 #[.pointer (some ⟨pA.bp, 0, none⟩), (.agg #[.slice aC' f.n cC', .slice aR' f.k cR', .int .i64 f.week, .slice aH' f.hol.length cH'])] y1 fun e w' => LoP f MC y1 e w') := llook K1.out (i := 0) (by omega) (by omega) (FA0.out.below (SW.out.below (Below.refl _ _) (fun j hj => hj)))
  go_wp2_with fail
  refine LK.out.mono ?_
  rintro e ay ⟨vy, rfl, l, b⟩
  have Ly := hid l
  obtain ⟨yV, yS, yL, rfl, r1, r2, r3⟩ := l.ex
  rw [CM.out.2.2.2.2.1] at r3
  obtain ⟨ya1, yc1, rfl⟩ := own_len r1
  obtain ⟨ya2, yc2, rfl⟩ := own_len r2
  obtain ⟨ya3, yc3, rfl⟩ := own_len r3
  have BB : Hid (Below ay.heap.size ay (ay.alloc (.cells #[.int .i64 MC.T, .slice ya1 f.n yc1, .slice ya2 f.k yc2, .slice ya3 M.E.length yc3, .bool true] 46))) := boxed_below (Below.refl (ay.heap.size + 1) (ay.alloc (.cells #[.int .i64 MC.T, .slice ya1 f.n yc1, .slice ya2 f.k yc2, .slice ya3 M.E.length yc3, .bool true] 46)))
  have NW : Hid (Below y1.heap.size y1 (ay.alloc (.cells #[.int .i64 MC.T, .slice ya1 f.n yc1, .slice ya2 f.k yc2, .slice ya3 M.E.length yc3, .bool true] 46))) := b.trans (BB.out.mono b.size)
  have NS : Hid (StZ Zx y1 (ay.alloc (.cells #[.int .i64 MC.T, .slice ya1 f.n yc1, .slice ya2 f.k yc2, .slice ya3 M.E.length yc3, .bool true] 46))) := StZ.of NW.out K1.out.lt
  have Ly : Hid (LookZ (zup Zx y1 (ay.alloc (.cells #[.int .i64 MC.T, .slice ya1 f.n yc1, .slice ya2 f.k yc2, .slice ya3 M.E.length yc3, .bool true] 46))) f MC _ (ay.alloc (.cells #[.int .i64 MC.T, .slice ya1 f.n yc1, .slice ya2 f.k yc2, .slice ya3 M.E.length yc3, .bool true] 46))) := LookZ.of (Ly.out.below (B2 := 0) BB.out) (fun j h1 h2 => Or.inr ⟨h1, h2⟩)
  have Lx := hid ((Lx.out.stays NS.out).less (Z' := zup Zx y1 (ay.alloc (.cells #[.int .i64 MC.T, .slice ya1 f.n yc1, .slice ya2 f.k yc2, .slice ya3 M.E.length yc3, .bool true] 46))) (fun j hj => Or.inl hj))
  have cx0 := (NS.out.cell 0 zx.out).trans cx0
  have cx1 := (NS.out.cell 1 zx.out).trans cx1
  have cx2 := (NS.out.cell 2 zx.out).trans cx2
  have cx3 := (NS.out.cell 3 zx.out).trans cx3
  have cx4 := (NS.out.cell 4 zx.out).trans cx4
  have zx : Hid (zup Zx y1 (ay.alloc (.cells #[.int .i64 MC.T, .slice ya1 f.n yc1, .slice ya2 f.k yc2, .slice ya3 M.E.length yc3, .bool true] 46)) gx) := Or.inl zx.out
  have g0 := (NS.out.cell 0 ZG.out).trans g0
  have g1 := (NS.out.cell 1 ZG.out).trans g1
  have g2 := (NS.out.cell 2 ZG.out).trans g2
  have g3 := (NS.out.cell 3 ZG.out).trans g3
  have zy : Hid (zup Zx y1 (ay.alloc (.cells #[.int .i64 MC.T, .slice ya1 f.n yc1, .slice ya2 f.k yc2, .slice ya3 M.E.length yc3, .bool true] 46)) ay.heap.size) := Or.inr ⟨b.size, by simp⟩
  have cy0 : (ay.alloc (.cells #[.int .i64 MC.T, .slice ya1 f.n yc1, .slice ya2 f.k yc2, .slice ya3 M.E.length yc3, .bool true] 46)).cell? ⟨ay.heap.size, 0, none⟩ = some (.int .i64 MC.T) := boxed (Below.refl (ay.heap.size + 1) (ay.alloc (.cells #[.int .i64 MC.T, .slice ya1 f.n yc1, .slice ya2 f.k yc2, .slice ya3 M.E.length yc3, .bool true] 46))) 0
  have cy1 : (ay.alloc (.cells #[.int .i64 MC.T, .slice ya1 f.n yc1, .slice ya2 f.k yc2, .slice ya3 M.E.length yc3, .bool true] 46)).cell? ⟨ay.heap.size, 1, none⟩ = some (.slice ya1 f.n yc1) := boxed (Below.refl (ay.heap.size + 1) (ay.alloc (.cells #[.int .i64 MC.T, .slice ya1 f.n yc1, .slice ya2 f.k yc2, .slice ya3 M.E.length yc3, .bool true] 46))) 1
  have cy2 : (ay.alloc (.cells #[.int .i64 MC.T, .slice ya1 f.n yc1, .slice ya2 f.k yc2, .slice ya3 M.E.length yc3, .bool true] 46)).cell? ⟨ay.heap.size, 2, none⟩ = some (.slice ya2 f.k yc2) := boxed (Below.refl (ay.heap.size + 1) (ay.alloc (.cells #[.int .i64 MC.T, .slice ya1 f.n yc1, .slice ya2 f.k yc2, .slice ya3 M.E.length yc3, .bool true] 46))) 2
  have cy3 : (ay.alloc (.cells #[.int .i64 MC.T, .slice ya1 f.n yc1, .slice ya2 f.k yc2, .slice ya3 M.E.length yc3, .bool true] 46)).cell? ⟨ay.heap.size, 3, none⟩ = some (.slice ya3 M.E.length yc3) := boxed (Below.refl (ay.heap.size + 1) (ay.alloc (.cells #[.int .i64 MC.T, .slice ya1 f.n yc1, .slice ya2 f.k yc2, .slice ya3 M.E.length yc3, .bool true] 46))) 3
  have cy4 : (ay.alloc (.cells #[.int .i64 MC.T, .slice ya1 f.n yc1, .slice ya2 f.k yc2, .slice ya3 M.E.length yc3, .bool true] 46)).cell? ⟨ay.heap.size, 4, none⟩ = some (.bool true) := boxed (Below.refl (ay.heap.size + 1) (ay.alloc (.cells #[.int .i64 MC.T, .slice ya1 f.n yc1, .slice ya2 f.k yc2, .slice ya3 M.E.length yc3, .bool true] 46))) 4
  have HZ : Hid (∀ j, j < w0.heap.size → zup Zx y1 (ay.alloc (.cells #[.int .i64 MC.T, .slice ya1 f.n yc1, .slice ya2 f.k yc2, .slice ya3 M.E.length yc3, .bool true] 46)) j) := fun j hj => Or.inl (HZ.out j hj)
  have ZG : Hid (zup Zx y1 (ay.alloc (.cells #[.int .i64 MC.T, .slice ya1 f.n yc1, .slice ya2 f.k yc2, .slice ya3 M.E.length yc3, .bool true] 46)) g) := Or.inl ZG.out
  have SW := hid (SW.out.trans (StZ.of NW.out (fun j hj => by have := SW.out.size; omega)))
  have Ny := hid (K1.out.drop NW.out)
  clear r1 r2 r3 l b BB NW NS LK K1
  go_upto_region 12 with (fail)
  generalize zup Zx y1 (ay.alloc (.cells #[.int .i64 MC.T, .slice ya1 f.n yc1, .slice ya2 f.k yc2, .slice ya3 M.E.length yc3, .bool true] 46)) = Zy at *
  generalize (ay.alloc (.cells #[.int .i64 MC.T, .slice ya1 f.n yc1, .slice ya2 f.k yc2, .slice ya3 M.E.length yc3, .bool true] 46)) = uy at *
  generalize ay.heap.size = gy at *
  go_wp2_with fail
  refine (ON.out _).mono ?_
  rintro e w' ⟨rfl, hw⟩
  rw [hw]
  clear hw w' ON
  have KC := hid ((ladv Ny.out (i := 0) (by omega) (by omega) ta).mono (fun _ _ g => LsC.as g (r' := .int .i64 0) (m' := MA) (congrArg (Value.int .i64) AC.out) HMA.out))
  go_wp2_with fail
  refine KC.out.mono ?_
  rintro e y2 ⟨rfl, q2, l, s⟩
  rw [p4_zero] at l
  have K2 : Hid (LS Zy (1 + mS) 2 (p4 ⟨QA, pA, q2, f, MA⟩ ⟨QB, pB, vB, f, M⟩ ⟨QA, pA, vA, f, beginM f⟩ ⟨QA, pA, vA, f, beginM f⟩) y2) := by exact l
  have SW : Hid (StZ (fun j => j < w0.heap.size) w0 y2) := SW.out.trans (s.less HZ.out)
  have Lx := hid (Lx.out.stays s)
  have cx0 := (s.cell 0 zx.out).trans cx0
  have cx1 := (s.cell 1 zx.out).trans cx1
  have cx2 := (s.cell 2 zx.out).trans cx2
  have cx3 := (s.cell 3 zx.out).trans cx3
  have cx4 := (s.cell 4 zx.out).trans cx4
  have Ly := hid (Ly.out.stays s)
  have cy0 := (s.cell 0 zy.out).trans cy0
  have cy1 := (s.cell 1 zy.out).trans cy1
  have cy2 := (s.cell 2 zy.out).trans cy2
  have cy3 := (s.cell 3 zy.out).trans cy3
  have cy4 := (s.cell 4 zy.out).trans cy4
  have g0 := (s.cell 0 ZG.out).trans g0
  have g1 := (s.cell 1 ZG.out).trans g1
  have g2 := (s.cell 2 ZG.out).trans g2
  have g3 := (s.cell 3 ZG.out).trans g3
  clear l s KC Ny
  have KC := hid ((ladv K2.out (i := 1) (by omega) (by omega) ta).mono (fun _ _ g => LsC.as g (r' := .int .i64 0) (m' := MD) (congrArg (Value.int .i64) AD.out) HMD.out))
  go_wp2_with fail
  refine KC.out.mono ?_
  rintro e y3 ⟨rfl, q3, l, s⟩
  rw [p4_one] at l
  have K3 : Hid (LS Zy (1 + mS) 2 (p4 ⟨QA, pA, q2, f, MA⟩ ⟨QB, pB, q3, f, MD⟩ ⟨QA, pA, vA, f, beginM f⟩ ⟨QA, pA, vA, f, beginM f⟩) y3) := by exact l
  have SW : Hid (StZ (fun j => j < w0.heap.size) w0 y3) := SW.out.trans (s.less HZ.out)
  have Lx := hid (Lx.out.stays s)
  have cx0 := (s.cell 0 zx.out).trans cx0
  have cx1 := (s.cell 1 zx.out).trans cx1
  have cx2 := (s.cell 2 zx.out).trans cx2
  have cx3 := (s.cell 3 zx.out).trans cx3
  have cx4 := (s.cell 4 zx.out).trans cx4
  have Ly := hid (Ly.out.stays s)
  have cy0 := (s.cell 0 zy.out).trans cy0
  have cy1 := (s.cell 1 zy.out).trans cy1
  have cy2 := (s.cell 2 zy.out).trans cy2
  have cy3 := (s.cell 3 zy.out).trans cy3
  have cy4 := (s.cell 4 zy.out).trans cy4
  have g0 := (s.cell 0 ZG.out).trans g0
  have g1 := (s.cell 1 ZG.out).trans g1
  have g2 := (s.cell 2 ZG.out).trans g2
  have g3 := (s.cell 3 ZG.out).trans g3
  clear l s KC K2
  have KC := hid ((lset K3.out (i := 0) (by omega) (by omega) n' v').mono (fun _ _ g => LsC.as g (r' := .int .i64 10) (m' := MA) (congrArg (Value.int .i64) SC.out.1) SC.out.2.1))
  go_wp2_with fail
  refine KC.out.mono ?_
  rintro e y4 ⟨rfl, q4, l, s⟩
  rw [p4_zero] at l
  have K4 : Hid (LS Zy (1 + mS + 1) 2 (p4 ⟨QA, pA, q4, f, MA⟩ ⟨QB, pB, q3, f, MD⟩ ⟨QA, pA, vA, f, beginM f⟩ ⟨QA, pA, vA, f, beginM f⟩) y4) := by exact l
  have SW : Hid (StZ (fun j => j < w0.heap.size) w0 y4) := SW.out.trans (s.less HZ.out)
  have Lx := hid (Lx.out.stays s)
  have cx0 := (s.cell 0 zx.out).trans cx0
  have cx1 := (s.cell 1 zx.out).trans cx1
  have cx2 := (s.cell 2 zx.out).trans cx2
  have cx3 := (s.cell 3 zx.out).trans cx3
  have cx4 := (s.cell 4 zx.out).trans cx4
  have Ly := hid (Ly.out.stays s)
  have cy0 := (s.cell 0 zy.out).trans cy0
  have cy1 := (s.cell 1 zy.out).trans cy1
  have cy2 := (s.cell 2 zy.out).trans cy2
  have cy3 := (s.cell 3 zy.out).trans cy3
  have cy4 := (s.cell 4 zy.out).trans cy4
  have g0 := (s.cell 0 ZG.out).trans g0
  have g1 := (s.cell 1 ZG.out).trans g1
  have g2 := (s.cell 2 ZG.out).trans g2
  have g3 := (s.cell 3 ZG.out).trans g3
  clear l s KC K3
  have KC := hid ((lack K4.out (i := 0) (by omega) n').mono (fun _ _ g => LsC.as g (r' := .int .i64 10) (m' := MA) (congrArg (Value.int .i64) SC.out.2.2.1) SC.out.2.2.2.1))
  go_wp2_with fail
  refine KC.out.mono ?_
  rintro e y5 ⟨rfl, q5, l, s⟩
  rw [p4_zero] at l
  have K5 : Hid (LS Zy (1 + mS + 1) 2 (p4 ⟨QA, pA, q5, f, MA⟩ ⟨QB, pB, q3, f, MD⟩ ⟨QA, pA, vA, f, beginM f⟩ ⟨QA, pA, vA, f, beginM f⟩) y5) := by exact l
  have SW : Hid (StZ (fun j => j < w0.heap.size) w0 y5) := SW.out.trans (s.less HZ.out)
  have Lx := hid (Lx.out.stays s)
  have cx0 := (s.cell 0 zx.out).trans cx0
  have cx1 := (s.cell 1 zx.out).trans cx1
  have cx2 := (s.cell 2 zx.out).trans cx2
  have cx3 := (s.cell 3 zx.out).trans cx3
  have cx4 := (s.cell 4 zx.out).trans cx4
  have Ly := hid (Ly.out.stays s)
  have cy0 := (s.cell 0 zy.out).trans cy0
  have cy1 := (s.cell 1 zy.out).trans cy1
  have cy2 := (s.cell 2 zy.out).trans cy2
  have cy3 := (s.cell 3 zy.out).trans cy3
  have cy4 := (s.cell 4 zy.out).trans cy4
  have g0 := (s.cell 0 ZG.out).trans g0
  have g1 := (s.cell 1 ZG.out).trans g1
  have g2 := (s.cell 2 ZG.out).trans g2
  have g3 := (s.cell 3 ZG.out).trans g3
  clear l s KC K4
  have KC := hid ((lclose K5.out (i := 0) (by omega)).mono (fun _ _ g => LsC.as g (r' := .int .i64 10) (m' := MA) (congrArg (Value.int .i64) SC.out.2.2.2.2.1) SC.out.2.2.2.2.2))
  go_wp2_with fail
  refine KC.out.mono ?_
  rintro e y6 ⟨rfl, q6, l, s⟩
  rw [p4_zero] at l
  have K6 : Hid (LS Zy (1 + mS + 1) 2 (p4 ⟨QA, pA, q6, f, MA⟩ ⟨QB, pB, q3, f, MD⟩ ⟨QA, pA, vA, f, beginM f⟩ ⟨QA, pA, vA, f, beginM f⟩) y6) := by exact l
  have SW : Hid (StZ (fun j => j < w0.heap.size) w0 y6) := SW.out.trans (s.less HZ.out)
  have Lx := hid (Lx.out.stays s)
  have cx0 := (s.cell 0 zx.out).trans cx0
  have cx1 := (s.cell 1 zx.out).trans cx1
  have cx2 := (s.cell 2 zx.out).trans cx2
  have cx3 := (s.cell 3 zx.out).trans cx3
  have cx4 := (s.cell 4 zx.out).trans cx4
  have Ly := hid (Ly.out.stays s)
  have cy0 := (s.cell 0 zy.out).trans cy0
  have cy1 := (s.cell 1 zy.out).trans cy1
  have cy2 := (s.cell 2 zy.out).trans cy2
  have cy3 := (s.cell 3 zy.out).trans cy3
  have cy4 := (s.cell 4 zy.out).trans cy4
  have g0 := (s.cell 0 ZG.out).trans g0
  have g1 := (s.cell 1 ZG.out).trans g1
  have g2 := (s.cell 2 ZG.out).trans g2
  have g3 := (s.cell 3 ZG.out).trans g3
  clear l s KC K5
  have LK : Hid (Calls Tryd.prog 23 #[.pointer (some ⟨pA.bp, 0, none⟩), (.agg #[.slice aC' f.n cC', .slice aR' f.k cR', .int .i64 f.week, .slice aH' f.hol.length cH'])] y6 fun e w' => LoP f MA y6 e w') := llook K6.out (i := 0) (by omega) (by omega) (FA0.out.below (SW.out.below (Below.refl _ _) (fun j hj => hj)))
  go_wp2_with fail
  refine LK.out.mono ?_
  rintro e az ⟨vz, rfl, l, b⟩
  have Lz := hid l
  obtain ⟨zV, zS, zL, rfl, r1, r2, r3⟩ := l.ex
  rw [MAS.out.2.1, CM.out.2.2.2.2.1] at r3
  obtain ⟨za1, zc1, rfl⟩ := own_len r1
  obtain ⟨za2, zc2, rfl⟩ := own_len r2
  obtain ⟨za3, zc3, rfl⟩ := own_len r3
  have BB : Hid (Below az.heap.size az (az.alloc (.cells #[.int .i64 MA.T, .slice za1 f.n zc1, .slice za2 f.k zc2, .slice za3 M.E.length zc3, .bool true] 46))) := boxed_below (Below.refl (az.heap.size + 1) (az.alloc (.cells #[.int .i64 MA.T, .slice za1 f.n zc1, .slice za2 f.k zc2, .slice za3 M.E.length zc3, .bool true] 46)))
  have NW : Hid (Below y6.heap.size y6 (az.alloc (.cells #[.int .i64 MA.T, .slice za1 f.n zc1, .slice za2 f.k zc2, .slice za3 M.E.length zc3, .bool true] 46))) := b.trans (BB.out.mono b.size)
  have NS : Hid (StZ Zy y6 (az.alloc (.cells #[.int .i64 MA.T, .slice za1 f.n zc1, .slice za2 f.k zc2, .slice za3 M.E.length zc3, .bool true] 46))) := StZ.of NW.out K6.out.lt
  have Lz : Hid (LookZ (zup Zy y6 (az.alloc (.cells #[.int .i64 MA.T, .slice za1 f.n zc1, .slice za2 f.k zc2, .slice za3 M.E.length zc3, .bool true] 46))) f MA _ (az.alloc (.cells #[.int .i64 MA.T, .slice za1 f.n zc1, .slice za2 f.k zc2, .slice za3 M.E.length zc3, .bool true] 46))) := LookZ.of (Lz.out.below (B2 := 0) BB.out) (fun j h1 h2 => Or.inr ⟨h1, h2⟩)
  have Lx := hid ((Lx.out.stays NS.out).less (Z' := zup Zy y6 (az.alloc (.cells #[.int .i64 MA.T, .slice za1 f.n zc1, .slice za2 f.k zc2, .slice za3 M.E.length zc3, .bool true] 46))) (fun j hj => Or.inl hj))
  have cx0 := (NS.out.cell 0 zx.out).trans cx0
  have cx1 := (NS.out.cell 1 zx.out).trans cx1
  have cx2 := (NS.out.cell 2 zx.out).trans cx2
  have cx3 := (NS.out.cell 3 zx.out).trans cx3
  have cx4 := (NS.out.cell 4 zx.out).trans cx4
  have zx : Hid (zup Zy y6 (az.alloc (.cells #[.int .i64 MA.T, .slice za1 f.n zc1, .slice za2 f.k zc2, .slice za3 M.E.length zc3, .bool true] 46)) gx) := Or.inl zx.out
  have Ly := hid ((Ly.out.stays NS.out).less (Z' := zup Zy y6 (az.alloc (.cells #[.int .i64 MA.T, .slice za1 f.n zc1, .slice za2 f.k zc2, .slice za3 M.E.length zc3, .bool true] 46))) (fun j hj => Or.inl hj))
  have cy0 := (NS.out.cell 0 zy.out).trans cy0
  have cy1 := (NS.out.cell 1 zy.out).trans cy1
  have cy2 := (NS.out.cell 2 zy.out).trans cy2
  have cy3 := (NS.out.cell 3 zy.out).trans cy3
  have cy4 := (NS.out.cell 4 zy.out).trans cy4
  have zy : Hid (zup Zy y6 (az.alloc (.cells #[.int .i64 MA.T, .slice za1 f.n zc1, .slice za2 f.k zc2, .slice za3 M.E.length zc3, .bool true] 46)) gy) := Or.inl zy.out
  have g0 := (NS.out.cell 0 ZG.out).trans g0
  have g1 := (NS.out.cell 1 ZG.out).trans g1
  have g2 := (NS.out.cell 2 ZG.out).trans g2
  have g3 := (NS.out.cell 3 ZG.out).trans g3
  have zz : Hid (zup Zy y6 (az.alloc (.cells #[.int .i64 MA.T, .slice za1 f.n zc1, .slice za2 f.k zc2, .slice za3 M.E.length zc3, .bool true] 46)) az.heap.size) := Or.inr ⟨b.size, by simp⟩
  have cz0 : (az.alloc (.cells #[.int .i64 MA.T, .slice za1 f.n zc1, .slice za2 f.k zc2, .slice za3 M.E.length zc3, .bool true] 46)).cell? ⟨az.heap.size, 0, none⟩ = some (.int .i64 MA.T) := boxed (Below.refl (az.heap.size + 1) (az.alloc (.cells #[.int .i64 MA.T, .slice za1 f.n zc1, .slice za2 f.k zc2, .slice za3 M.E.length zc3, .bool true] 46))) 0
  have cz1 : (az.alloc (.cells #[.int .i64 MA.T, .slice za1 f.n zc1, .slice za2 f.k zc2, .slice za3 M.E.length zc3, .bool true] 46)).cell? ⟨az.heap.size, 1, none⟩ = some (.slice za1 f.n zc1) := boxed (Below.refl (az.heap.size + 1) (az.alloc (.cells #[.int .i64 MA.T, .slice za1 f.n zc1, .slice za2 f.k zc2, .slice za3 M.E.length zc3, .bool true] 46))) 1
  have cz2 : (az.alloc (.cells #[.int .i64 MA.T, .slice za1 f.n zc1, .slice za2 f.k zc2, .slice za3 M.E.length zc3, .bool true] 46)).cell? ⟨az.heap.size, 2, none⟩ = some (.slice za2 f.k zc2) := boxed (Below.refl (az.heap.size + 1) (az.alloc (.cells #[.int .i64 MA.T, .slice za1 f.n zc1, .slice za2 f.k zc2, .slice za3 M.E.length zc3, .bool true] 46))) 2
  have cz3 : (az.alloc (.cells #[.int .i64 MA.T, .slice za1 f.n zc1, .slice za2 f.k zc2, .slice za3 M.E.length zc3, .bool true] 46)).cell? ⟨az.heap.size, 3, none⟩ = some (.slice za3 M.E.length zc3) := boxed (Below.refl (az.heap.size + 1) (az.alloc (.cells #[.int .i64 MA.T, .slice za1 f.n zc1, .slice za2 f.k zc2, .slice za3 M.E.length zc3, .bool true] 46))) 3
  have cz4 : (az.alloc (.cells #[.int .i64 MA.T, .slice za1 f.n zc1, .slice za2 f.k zc2, .slice za3 M.E.length zc3, .bool true] 46)).cell? ⟨az.heap.size, 4, none⟩ = some (.bool true) := boxed (Below.refl (az.heap.size + 1) (az.alloc (.cells #[.int .i64 MA.T, .slice za1 f.n zc1, .slice za2 f.k zc2, .slice za3 M.E.length zc3, .bool true] 46))) 4
  have HZ : Hid (∀ j, j < w0.heap.size → zup Zy y6 (az.alloc (.cells #[.int .i64 MA.T, .slice za1 f.n zc1, .slice za2 f.k zc2, .slice za3 M.E.length zc3, .bool true] 46)) j) := fun j hj => Or.inl (HZ.out j hj)
  have ZG : Hid (zup Zy y6 (az.alloc (.cells #[.int .i64 MA.T, .slice za1 f.n zc1, .slice za2 f.k zc2, .slice za3 M.E.length zc3, .bool true] 46)) g) := Or.inl ZG.out
  have SW := hid (SW.out.trans (StZ.of NW.out (fun j hj => by have := SW.out.size; omega)))
  have Nz := hid (K6.out.drop NW.out)
  clear r1 r2 r3 l b BB NW NS LK K6
  go_upto_region 19 with (fail)
  generalize zup Zy y6 (az.alloc (.cells #[.int .i64 MA.T, .slice za1 f.n zc1, .slice za2 f.k zc2, .slice za3 M.E.length zc3, .bool true] 46)) = Zz at *
  generalize (az.alloc (.cells #[.int .i64 MA.T, .slice za1 f.n zc1, .slice za2 f.k zc2, .slice za3 M.E.length zc3, .bool true] 46)) = uz at *
  generalize az.heap.size = gz at *
  have LK : Hid (Calls Tryd.prog 23 #[.pointer (some ⟨pB.bp, 0, none⟩), (.agg #[.slice aC' f.n cC', .slice aR' f.k cR', .int .i64 f.week, .slice aH' f.hol.length cH'])] uz fun e w' => LoP f MD uz e w') := llook Nz.out (i := 1) (by omega) (by omega) (FA0.out.below (SW.out.below (Below.refl _ _) (fun j hj => hj)))
  go_wp2_with fail
  refine LK.out.mono ?_
  rintro e ao ⟨vo, rfl, l, b⟩
  have Lo := hid l
  obtain ⟨oV, oS, oL, rfl, r1, r2, r3⟩ := l.ex
  obtain ⟨oa1, oc1, rfl⟩ := own_len r1
  obtain ⟨oa2, oc2, rfl⟩ := own_len r2
  obtain ⟨oa3, oc3, rfl⟩ := own_len r3
  have BB : Hid (Below ao.heap.size ao (ao.alloc (.cells #[.int .i64 MD.T, .slice oa1 f.n oc1, .slice oa2 f.k oc2, .slice oa3 MD.E.length oc3, .bool true] 46))) := boxed_below (Below.refl (ao.heap.size + 1) (ao.alloc (.cells #[.int .i64 MD.T, .slice oa1 f.n oc1, .slice oa2 f.k oc2, .slice oa3 MD.E.length oc3, .bool true] 46)))
  have NW : Hid (Below uz.heap.size uz (ao.alloc (.cells #[.int .i64 MD.T, .slice oa1 f.n oc1, .slice oa2 f.k oc2, .slice oa3 MD.E.length oc3, .bool true] 46))) := b.trans (BB.out.mono b.size)
  have NS : Hid (StZ Zz uz (ao.alloc (.cells #[.int .i64 MD.T, .slice oa1 f.n oc1, .slice oa2 f.k oc2, .slice oa3 MD.E.length oc3, .bool true] 46))) := StZ.of NW.out Nz.out.lt
  have Lo : Hid (LookZ (zup Zz uz (ao.alloc (.cells #[.int .i64 MD.T, .slice oa1 f.n oc1, .slice oa2 f.k oc2, .slice oa3 MD.E.length oc3, .bool true] 46))) f MD _ (ao.alloc (.cells #[.int .i64 MD.T, .slice oa1 f.n oc1, .slice oa2 f.k oc2, .slice oa3 MD.E.length oc3, .bool true] 46))) := LookZ.of (Lo.out.below (B2 := 0) BB.out) (fun j h1 h2 => Or.inr ⟨h1, h2⟩)
  have Lx := hid ((Lx.out.stays NS.out).less (Z' := zup Zz uz (ao.alloc (.cells #[.int .i64 MD.T, .slice oa1 f.n oc1, .slice oa2 f.k oc2, .slice oa3 MD.E.length oc3, .bool true] 46))) (fun j hj => Or.inl hj))
  have cx0 := (NS.out.cell 0 zx.out).trans cx0
  have cx1 := (NS.out.cell 1 zx.out).trans cx1
  have cx2 := (NS.out.cell 2 zx.out).trans cx2
  have cx3 := (NS.out.cell 3 zx.out).trans cx3
  have cx4 := (NS.out.cell 4 zx.out).trans cx4
  have zx : Hid (zup Zz uz (ao.alloc (.cells #[.int .i64 MD.T, .slice oa1 f.n oc1, .slice oa2 f.k oc2, .slice oa3 MD.E.length oc3, .bool true] 46)) gx) := Or.inl zx.out
  have Ly := hid ((Ly.out.stays NS.out).less (Z' := zup Zz uz (ao.alloc (.cells #[.int .i64 MD.T, .slice oa1 f.n oc1, .slice oa2 f.k oc2, .slice oa3 MD.E.length oc3, .bool true] 46))) (fun j hj => Or.inl hj))
  have cy0 := (NS.out.cell 0 zy.out).trans cy0
  have cy1 := (NS.out.cell 1 zy.out).trans cy1
  have cy2 := (NS.out.cell 2 zy.out).trans cy2
  have cy3 := (NS.out.cell 3 zy.out).trans cy3
  have cy4 := (NS.out.cell 4 zy.out).trans cy4
  have zy : Hid (zup Zz uz (ao.alloc (.cells #[.int .i64 MD.T, .slice oa1 f.n oc1, .slice oa2 f.k oc2, .slice oa3 MD.E.length oc3, .bool true] 46)) gy) := Or.inl zy.out
  have Lz := hid ((Lz.out.stays NS.out).less (Z' := zup Zz uz (ao.alloc (.cells #[.int .i64 MD.T, .slice oa1 f.n oc1, .slice oa2 f.k oc2, .slice oa3 MD.E.length oc3, .bool true] 46))) (fun j hj => Or.inl hj))
  have cz0 := (NS.out.cell 0 zz.out).trans cz0
  have cz1 := (NS.out.cell 1 zz.out).trans cz1
  have cz2 := (NS.out.cell 2 zz.out).trans cz2
  have cz3 := (NS.out.cell 3 zz.out).trans cz3
  have cz4 := (NS.out.cell 4 zz.out).trans cz4
  have zz : Hid (zup Zz uz (ao.alloc (.cells #[.int .i64 MD.T, .slice oa1 f.n oc1, .slice oa2 f.k oc2, .slice oa3 MD.E.length oc3, .bool true] 46)) gz) := Or.inl zz.out
  have g0 := (NS.out.cell 0 ZG.out).trans g0
  have g1 := (NS.out.cell 1 ZG.out).trans g1
  have g2 := (NS.out.cell 2 ZG.out).trans g2
  have g3 := (NS.out.cell 3 ZG.out).trans g3
  have zo : Hid (zup Zz uz (ao.alloc (.cells #[.int .i64 MD.T, .slice oa1 f.n oc1, .slice oa2 f.k oc2, .slice oa3 MD.E.length oc3, .bool true] 46)) ao.heap.size) := Or.inr ⟨b.size, by simp⟩
  have co0 : (ao.alloc (.cells #[.int .i64 MD.T, .slice oa1 f.n oc1, .slice oa2 f.k oc2, .slice oa3 MD.E.length oc3, .bool true] 46)).cell? ⟨ao.heap.size, 0, none⟩ = some (.int .i64 MD.T) := boxed (Below.refl (ao.heap.size + 1) (ao.alloc (.cells #[.int .i64 MD.T, .slice oa1 f.n oc1, .slice oa2 f.k oc2, .slice oa3 MD.E.length oc3, .bool true] 46))) 0
  have co1 : (ao.alloc (.cells #[.int .i64 MD.T, .slice oa1 f.n oc1, .slice oa2 f.k oc2, .slice oa3 MD.E.length oc3, .bool true] 46)).cell? ⟨ao.heap.size, 1, none⟩ = some (.slice oa1 f.n oc1) := boxed (Below.refl (ao.heap.size + 1) (ao.alloc (.cells #[.int .i64 MD.T, .slice oa1 f.n oc1, .slice oa2 f.k oc2, .slice oa3 MD.E.length oc3, .bool true] 46))) 1
  have co2 : (ao.alloc (.cells #[.int .i64 MD.T, .slice oa1 f.n oc1, .slice oa2 f.k oc2, .slice oa3 MD.E.length oc3, .bool true] 46)).cell? ⟨ao.heap.size, 2, none⟩ = some (.slice oa2 f.k oc2) := boxed (Below.refl (ao.heap.size + 1) (ao.alloc (.cells #[.int .i64 MD.T, .slice oa1 f.n oc1, .slice oa2 f.k oc2, .slice oa3 MD.E.length oc3, .bool true] 46))) 2
  have co3 : (ao.alloc (.cells #[.int .i64 MD.T, .slice oa1 f.n oc1, .slice oa2 f.k oc2, .slice oa3 MD.E.length oc3, .bool true] 46)).cell? ⟨ao.heap.size, 3, none⟩ = some (.slice oa3 MD.E.length oc3) := boxed (Below.refl (ao.heap.size + 1) (ao.alloc (.cells #[.int .i64 MD.T, .slice oa1 f.n oc1, .slice oa2 f.k oc2, .slice oa3 MD.E.length oc3, .bool true] 46))) 3
  have co4 : (ao.alloc (.cells #[.int .i64 MD.T, .slice oa1 f.n oc1, .slice oa2 f.k oc2, .slice oa3 MD.E.length oc3, .bool true] 46)).cell? ⟨ao.heap.size, 4, none⟩ = some (.bool true) := boxed (Below.refl (ao.heap.size + 1) (ao.alloc (.cells #[.int .i64 MD.T, .slice oa1 f.n oc1, .slice oa2 f.k oc2, .slice oa3 MD.E.length oc3, .bool true] 46))) 4
  have HZ : Hid (∀ j, j < w0.heap.size → zup Zz uz (ao.alloc (.cells #[.int .i64 MD.T, .slice oa1 f.n oc1, .slice oa2 f.k oc2, .slice oa3 MD.E.length oc3, .bool true] 46)) j) := fun j hj => Or.inl (HZ.out j hj)
  have ZG : Hid (zup Zz uz (ao.alloc (.cells #[.int .i64 MD.T, .slice oa1 f.n oc1, .slice oa2 f.k oc2, .slice oa3 MD.E.length oc3, .bool true] 46)) g) := Or.inl ZG.out
  have SW := hid (SW.out.trans (StZ.of NW.out (fun j hj => by have := SW.out.size; omega)))
  have No := hid (Nz.out.drop NW.out)
  clear r1 r2 r3 l b BB NW NS LK Nz
  go_upto_region 20 with (fail)
  generalize zup Zz uz (ao.alloc (.cells #[.int .i64 MD.T, .slice oa1 f.n oc1, .slice oa2 f.k oc2, .slice oa3 MD.E.length oc3, .bool true] 46)) = Zo at *
  generalize (ao.alloc (.cells #[.int .i64 MD.T, .slice oa1 f.n oc1, .slice oa2 f.k oc2, .slice oa3 MD.E.length oc3, .bool true] 46)) = uo at *
  generalize ao.heap.size = go at *
  have qx := No.out.lt gx zx.out
  have qy := No.out.lt gy zy.out
  have qz := No.out.lt gz zz.out
  have qo := No.out.lt go zo.out
  have BA : Hid (Below w.heap.size w uo) := B0.out.trans ((SW.out.below (Below.refl _ _) (fun j hj => hj)).mono B0.out.size)
  obtain ⟨Bx, x1, x2, x3⟩ := Lx.out.rows
  obtain ⟨By, y1, y2, y3⟩ := Ly.out.rows
  obtain ⟨Bz, z1, z2, z3⟩ := Lz.out.rows
  obtain ⟨Bo, o1, o2, o3⟩ := Lo.out.rows
  rw [CM.out.2.2.2.2.1] at y3
  rw [MAS.out.2.1, CM.out.2.2.2.2.1] at z3
  have EA := hid (fun W (hW : Below uo.heap.size uo W) => ksameEv_any (own_of_block x3 (w' := W) (fun g _ hlt => hW.block g hlt)) (own_of_block y3 (w' := W) (fun g _ hlt => hW.block g hlt)) LEN.out)
  have EB := hid (fun W (hW : Below uo.heap.size uo W) => ksameEv_any (own_of_block x3 (w' := W) (fun g _ hlt => hW.block g hlt)) (own_of_block z3 (w' := W) (fun g _ hlt => hW.block g hlt)) LEN.out)
  have RA := hid (fun W (hW : Below uo.heap.size uo W) => kbare_any (own_of_block y2 (w' := W) (fun g _ hlt => hW.block g hlt)) CM.out.2.2.2.2.2 k6)
  have RB := hid (fun W (hW : Below uo.heap.size uo W) => kbare_any (own_of_block z2 (w' := W) (fun g _ hlt => hW.block g hlt)) (fun i hi => by rw [MAS.out.1]; exact CM.out.2.2.2.2.2 i hi) k6)
  have IA := hid (fun W (hW : Below uo.heap.size uo W) => (ksameInts_any (own_of_block x1 (w' := W) (fun g _ hlt => hW.block g hlt)) (own_of_block y1 (w' := W) (fun g _ hlt => hW.block g hlt)) n20).mono (fun e w' g => (show TPost W e w' from by obtain ⟨r, e1, hr, hb⟩ := g; have : r = true := hr.2 (fun i _ => by rw [CM.out.2.2.1, CM.out.2.2.2.1]); subst this; exact ⟨e1, hb⟩)))
  have IB := hid (fun W (hW : Below uo.heap.size uo W) => (ksameInts_any (own_of_block z1 (w' := W) (fun g _ hlt => hW.block g hlt)) (own_of_block o1 (w' := W) (fun g _ hlt => hW.block g hlt)) n20).mono (fun e w' g => (show TPost W e w' from by obtain ⟨r, e1, hr, hb⟩ := g; have : r = true := hr.2 (fun i _ => by rw [MAF.out, MDF.out, MAT.out, MDT.out]); subst this; exact ⟨e1, hb⟩)))
  clear x1 x2 x3 y1 y2 y3 z1 z2 z3 o1 o2 o3 No
  have C0 : Hid (Below uo.heap.size uo uo) := Below.refl _ _
  go_wp2_with fail
  refine (EA.out _ C0.out).mono ?_
  rintro e b1 ⟨rfl, hb⟩
  have cx0 := (hb.cell (p := ⟨gx, 0, none⟩) (by show gx < _; have := C0.out.size; omega)).trans cx0
  have cx1 := (hb.cell (p := ⟨gx, 1, none⟩) (by show gx < _; have := C0.out.size; omega)).trans cx1
  have cx2 := (hb.cell (p := ⟨gx, 2, none⟩) (by show gx < _; have := C0.out.size; omega)).trans cx2
  have cx3 := (hb.cell (p := ⟨gx, 3, none⟩) (by show gx < _; have := C0.out.size; omega)).trans cx3
  have cx4 := (hb.cell (p := ⟨gx, 4, none⟩) (by show gx < _; have := C0.out.size; omega)).trans cx4
  have cy0 := (hb.cell (p := ⟨gy, 0, none⟩) (by show gy < _; have := C0.out.size; omega)).trans cy0
  have cy1 := (hb.cell (p := ⟨gy, 1, none⟩) (by show gy < _; have := C0.out.size; omega)).trans cy1
  have cy2 := (hb.cell (p := ⟨gy, 2, none⟩) (by show gy < _; have := C0.out.size; omega)).trans cy2
  have cy3 := (hb.cell (p := ⟨gy, 3, none⟩) (by show gy < _; have := C0.out.size; omega)).trans cy3
  have cy4 := (hb.cell (p := ⟨gy, 4, none⟩) (by show gy < _; have := C0.out.size; omega)).trans cy4
  have cz0 := (hb.cell (p := ⟨gz, 0, none⟩) (by show gz < _; have := C0.out.size; omega)).trans cz0
  have cz1 := (hb.cell (p := ⟨gz, 1, none⟩) (by show gz < _; have := C0.out.size; omega)).trans cz1
  have cz2 := (hb.cell (p := ⟨gz, 2, none⟩) (by show gz < _; have := C0.out.size; omega)).trans cz2
  have cz3 := (hb.cell (p := ⟨gz, 3, none⟩) (by show gz < _; have := C0.out.size; omega)).trans cz3
  have cz4 := (hb.cell (p := ⟨gz, 4, none⟩) (by show gz < _; have := C0.out.size; omega)).trans cz4
  have co0 := (hb.cell (p := ⟨go, 0, none⟩) (by show go < _; have := C0.out.size; omega)).trans co0
  have co1 := (hb.cell (p := ⟨go, 1, none⟩) (by show go < _; have := C0.out.size; omega)).trans co1
  have co2 := (hb.cell (p := ⟨go, 2, none⟩) (by show go < _; have := C0.out.size; omega)).trans co2
  have co3 := (hb.cell (p := ⟨go, 3, none⟩) (by show go < _; have := C0.out.size; omega)).trans co3
  have co4 := (hb.cell (p := ⟨go, 4, none⟩) (by show go < _; have := C0.out.size; omega)).trans co4
  have C0 := hid (C0.out.trans (hb.mono C0.out.size))
  clear hb EA
  go_wp2_with fail
  refine (EB.out _ C0.out).mono ?_
  rintro e b2 ⟨rfl, hb⟩
  have cx0 := (hb.cell (p := ⟨gx, 0, none⟩) (by show gx < _; have := C0.out.size; omega)).trans cx0
  have cx1 := (hb.cell (p := ⟨gx, 1, none⟩) (by show gx < _; have := C0.out.size; omega)).trans cx1
  have cx2 := (hb.cell (p := ⟨gx, 2, none⟩) (by show gx < _; have := C0.out.size; omega)).trans cx2
  have cx3 := (hb.cell (p := ⟨gx, 3, none⟩) (by show gx < _; have := C0.out.size; omega)).trans cx3
  have cx4 := (hb.cell (p := ⟨gx, 4, none⟩) (by show gx < _; have := C0.out.size; omega)).trans cx4
  have cy0 := (hb.cell (p := ⟨gy, 0, none⟩) (by show gy < _; have := C0.out.size; omega)).trans cy0
  have cy1 := (hb.cell (p := ⟨gy, 1, none⟩) (by show gy < _; have := C0.out.size; omega)).trans cy1
  have cy2 := (hb.cell (p := ⟨gy, 2, none⟩) (by show gy < _; have := C0.out.size; omega)).trans cy2
  have cy3 := (hb.cell (p := ⟨gy, 3, none⟩) (by show gy < _; have := C0.out.size; omega)).trans cy3
  have cy4 := (hb.cell (p := ⟨gy, 4, none⟩) (by show gy < _; have := C0.out.size; omega)).trans cy4
  have cz0 := (hb.cell (p := ⟨gz, 0, none⟩) (by show gz < _; have := C0.out.size; omega)).trans cz0
  have cz1 := (hb.cell (p := ⟨gz, 1, none⟩) (by show gz < _; have := C0.out.size; omega)).trans cz1
  have cz2 := (hb.cell (p := ⟨gz, 2, none⟩) (by show gz < _; have := C0.out.size; omega)).trans cz2
  have cz3 := (hb.cell (p := ⟨gz, 3, none⟩) (by show gz < _; have := C0.out.size; omega)).trans cz3
  have cz4 := (hb.cell (p := ⟨gz, 4, none⟩) (by show gz < _; have := C0.out.size; omega)).trans cz4
  have co0 := (hb.cell (p := ⟨go, 0, none⟩) (by show go < _; have := C0.out.size; omega)).trans co0
  have co1 := (hb.cell (p := ⟨go, 1, none⟩) (by show go < _; have := C0.out.size; omega)).trans co1
  have co2 := (hb.cell (p := ⟨go, 2, none⟩) (by show go < _; have := C0.out.size; omega)).trans co2
  have co3 := (hb.cell (p := ⟨go, 3, none⟩) (by show go < _; have := C0.out.size; omega)).trans co3
  have co4 := (hb.cell (p := ⟨go, 4, none⟩) (by show go < _; have := C0.out.size; omega)).trans co4
  have C0 := hid (C0.out.trans (hb.mono C0.out.size))
  clear hb EB
  go_wp2_with fail
  refine (RA.out _ C0.out).mono ?_
  rintro e b3 ⟨rfl, hb⟩
  have cx0 := (hb.cell (p := ⟨gx, 0, none⟩) (by show gx < _; have := C0.out.size; omega)).trans cx0
  have cx1 := (hb.cell (p := ⟨gx, 1, none⟩) (by show gx < _; have := C0.out.size; omega)).trans cx1
  have cx2 := (hb.cell (p := ⟨gx, 2, none⟩) (by show gx < _; have := C0.out.size; omega)).trans cx2
  have cx3 := (hb.cell (p := ⟨gx, 3, none⟩) (by show gx < _; have := C0.out.size; omega)).trans cx3
  have cx4 := (hb.cell (p := ⟨gx, 4, none⟩) (by show gx < _; have := C0.out.size; omega)).trans cx4
  have cy0 := (hb.cell (p := ⟨gy, 0, none⟩) (by show gy < _; have := C0.out.size; omega)).trans cy0
  have cy1 := (hb.cell (p := ⟨gy, 1, none⟩) (by show gy < _; have := C0.out.size; omega)).trans cy1
  have cy2 := (hb.cell (p := ⟨gy, 2, none⟩) (by show gy < _; have := C0.out.size; omega)).trans cy2
  have cy3 := (hb.cell (p := ⟨gy, 3, none⟩) (by show gy < _; have := C0.out.size; omega)).trans cy3
  have cy4 := (hb.cell (p := ⟨gy, 4, none⟩) (by show gy < _; have := C0.out.size; omega)).trans cy4
  have cz0 := (hb.cell (p := ⟨gz, 0, none⟩) (by show gz < _; have := C0.out.size; omega)).trans cz0
  have cz1 := (hb.cell (p := ⟨gz, 1, none⟩) (by show gz < _; have := C0.out.size; omega)).trans cz1
  have cz2 := (hb.cell (p := ⟨gz, 2, none⟩) (by show gz < _; have := C0.out.size; omega)).trans cz2
  have cz3 := (hb.cell (p := ⟨gz, 3, none⟩) (by show gz < _; have := C0.out.size; omega)).trans cz3
  have cz4 := (hb.cell (p := ⟨gz, 4, none⟩) (by show gz < _; have := C0.out.size; omega)).trans cz4
  have co0 := (hb.cell (p := ⟨go, 0, none⟩) (by show go < _; have := C0.out.size; omega)).trans co0
  have co1 := (hb.cell (p := ⟨go, 1, none⟩) (by show go < _; have := C0.out.size; omega)).trans co1
  have co2 := (hb.cell (p := ⟨go, 2, none⟩) (by show go < _; have := C0.out.size; omega)).trans co2
  have co3 := (hb.cell (p := ⟨go, 3, none⟩) (by show go < _; have := C0.out.size; omega)).trans co3
  have co4 := (hb.cell (p := ⟨go, 4, none⟩) (by show go < _; have := C0.out.size; omega)).trans co4
  have C0 := hid (C0.out.trans (hb.mono C0.out.size))
  clear hb RA
  go_wp2_with fail
  refine (RB.out _ C0.out).mono ?_
  rintro e b4 ⟨rfl, hb⟩
  have cx0 := (hb.cell (p := ⟨gx, 0, none⟩) (by show gx < _; have := C0.out.size; omega)).trans cx0
  have cx1 := (hb.cell (p := ⟨gx, 1, none⟩) (by show gx < _; have := C0.out.size; omega)).trans cx1
  have cx2 := (hb.cell (p := ⟨gx, 2, none⟩) (by show gx < _; have := C0.out.size; omega)).trans cx2
  have cx3 := (hb.cell (p := ⟨gx, 3, none⟩) (by show gx < _; have := C0.out.size; omega)).trans cx3
  have cx4 := (hb.cell (p := ⟨gx, 4, none⟩) (by show gx < _; have := C0.out.size; omega)).trans cx4
  have cy0 := (hb.cell (p := ⟨gy, 0, none⟩) (by show gy < _; have := C0.out.size; omega)).trans cy0
  have cy1 := (hb.cell (p := ⟨gy, 1, none⟩) (by show gy < _; have := C0.out.size; omega)).trans cy1
  have cy2 := (hb.cell (p := ⟨gy, 2, none⟩) (by show gy < _; have := C0.out.size; omega)).trans cy2
  have cy3 := (hb.cell (p := ⟨gy, 3, none⟩) (by show gy < _; have := C0.out.size; omega)).trans cy3
  have cy4 := (hb.cell (p := ⟨gy, 4, none⟩) (by show gy < _; have := C0.out.size; omega)).trans cy4
  have cz0 := (hb.cell (p := ⟨gz, 0, none⟩) (by show gz < _; have := C0.out.size; omega)).trans cz0
  have cz1 := (hb.cell (p := ⟨gz, 1, none⟩) (by show gz < _; have := C0.out.size; omega)).trans cz1
  have cz2 := (hb.cell (p := ⟨gz, 2, none⟩) (by show gz < _; have := C0.out.size; omega)).trans cz2
  have cz3 := (hb.cell (p := ⟨gz, 3, none⟩) (by show gz < _; have := C0.out.size; omega)).trans cz3
  have cz4 := (hb.cell (p := ⟨gz, 4, none⟩) (by show gz < _; have := C0.out.size; omega)).trans cz4
  have co0 := (hb.cell (p := ⟨go, 0, none⟩) (by show go < _; have := C0.out.size; omega)).trans co0
  have co1 := (hb.cell (p := ⟨go, 1, none⟩) (by show go < _; have := C0.out.size; omega)).trans co1
  have co2 := (hb.cell (p := ⟨go, 2, none⟩) (by show go < _; have := C0.out.size; omega)).trans co2
  have co3 := (hb.cell (p := ⟨go, 3, none⟩) (by show go < _; have := C0.out.size; omega)).trans co3
  have co4 := (hb.cell (p := ⟨go, 4, none⟩) (by show go < _; have := C0.out.size; omega)).trans co4
  have C0 := hid (C0.out.trans (hb.mono C0.out.size))
  clear hb RB
  go_wp2_with fail
  refine (IA.out _ C0.out).mono ?_
  rintro e b5 ⟨rfl, hb⟩
  have cx0 := (hb.cell (p := ⟨gx, 0, none⟩) (by show gx < _; have := C0.out.size; omega)).trans cx0
  have cx1 := (hb.cell (p := ⟨gx, 1, none⟩) (by show gx < _; have := C0.out.size; omega)).trans cx1
  have cx2 := (hb.cell (p := ⟨gx, 2, none⟩) (by show gx < _; have := C0.out.size; omega)).trans cx2
  have cx3 := (hb.cell (p := ⟨gx, 3, none⟩) (by show gx < _; have := C0.out.size; omega)).trans cx3
  have cx4 := (hb.cell (p := ⟨gx, 4, none⟩) (by show gx < _; have := C0.out.size; omega)).trans cx4
  have cy0 := (hb.cell (p := ⟨gy, 0, none⟩) (by show gy < _; have := C0.out.size; omega)).trans cy0
  have cy1 := (hb.cell (p := ⟨gy, 1, none⟩) (by show gy < _; have := C0.out.size; omega)).trans cy1
  have cy2 := (hb.cell (p := ⟨gy, 2, none⟩) (by show gy < _; have := C0.out.size; omega)).trans cy2
  have cy3 := (hb.cell (p := ⟨gy, 3, none⟩) (by show gy < _; have := C0.out.size; omega)).trans cy3
  have cy4 := (hb.cell (p := ⟨gy, 4, none⟩) (by show gy < _; have := C0.out.size; omega)).trans cy4
  have cz0 := (hb.cell (p := ⟨gz, 0, none⟩) (by show gz < _; have := C0.out.size; omega)).trans cz0
  have cz1 := (hb.cell (p := ⟨gz, 1, none⟩) (by show gz < _; have := C0.out.size; omega)).trans cz1
  have cz2 := (hb.cell (p := ⟨gz, 2, none⟩) (by show gz < _; have := C0.out.size; omega)).trans cz2
  have cz3 := (hb.cell (p := ⟨gz, 3, none⟩) (by show gz < _; have := C0.out.size; omega)).trans cz3
  have cz4 := (hb.cell (p := ⟨gz, 4, none⟩) (by show gz < _; have := C0.out.size; omega)).trans cz4
  have co0 := (hb.cell (p := ⟨go, 0, none⟩) (by show go < _; have := C0.out.size; omega)).trans co0
  have co1 := (hb.cell (p := ⟨go, 1, none⟩) (by show go < _; have := C0.out.size; omega)).trans co1
  have co2 := (hb.cell (p := ⟨go, 2, none⟩) (by show go < _; have := C0.out.size; omega)).trans co2
  have co3 := (hb.cell (p := ⟨go, 3, none⟩) (by show go < _; have := C0.out.size; omega)).trans co3
  have co4 := (hb.cell (p := ⟨go, 4, none⟩) (by show go < _; have := C0.out.size; omega)).trans co4
  have C0 := hid (C0.out.trans (hb.mono C0.out.size))
  clear hb IA
  go_wp2_with fail
  refine (IB.out _ C0.out).mono ?_
  rintro e b6 ⟨rfl, hb⟩
  have cx0 := (hb.cell (p := ⟨gx, 0, none⟩) (by show gx < _; have := C0.out.size; omega)).trans cx0
  have cx1 := (hb.cell (p := ⟨gx, 1, none⟩) (by show gx < _; have := C0.out.size; omega)).trans cx1
  have cx2 := (hb.cell (p := ⟨gx, 2, none⟩) (by show gx < _; have := C0.out.size; omega)).trans cx2
  have cx3 := (hb.cell (p := ⟨gx, 3, none⟩) (by show gx < _; have := C0.out.size; omega)).trans cx3
  have cx4 := (hb.cell (p := ⟨gx, 4, none⟩) (by show gx < _; have := C0.out.size; omega)).trans cx4
  have cy0 := (hb.cell (p := ⟨gy, 0, none⟩) (by show gy < _; have := C0.out.size; omega)).trans cy0
  have cy1 := (hb.cell (p := ⟨gy, 1, none⟩) (by show gy < _; have := C0.out.size; omega)).trans cy1
  have cy2 := (hb.cell (p := ⟨gy, 2, none⟩) (by show gy < _; have := C0.out.size; omega)).trans cy2
  have cy3 := (hb.cell (p := ⟨gy, 3, none⟩) (by show gy < _; have := C0.out.size; omega)).trans cy3
  have cy4 := (hb.cell (p := ⟨gy, 4, none⟩) (by show gy < _; have := C0.out.size; omega)).trans cy4
  have cz0 := (hb.cell (p := ⟨gz, 0, none⟩) (by show gz < _; have := C0.out.size; omega)).trans cz0
  have cz1 := (hb.cell (p := ⟨gz, 1, none⟩) (by show gz < _; have := C0.out.size; omega)).trans cz1
  have cz2 := (hb.cell (p := ⟨gz, 2, none⟩) (by show gz < _; have := C0.out.size; omega)).trans cz2
  have cz3 := (hb.cell (p := ⟨gz, 3, none⟩) (by show gz < _; have := C0.out.size; omega)).trans cz3
  have cz4 := (hb.cell (p := ⟨gz, 4, none⟩) (by show gz < _; have := C0.out.size; omega)).trans cz4
  have co0 := (hb.cell (p := ⟨go, 0, none⟩) (by show go < _; have := C0.out.size; omega)).trans co0
  have co1 := (hb.cell (p := ⟨go, 1, none⟩) (by show go < _; have := C0.out.size; omega)).trans co1
  have co2 := (hb.cell (p := ⟨go, 2, none⟩) (by show go < _; have := C0.out.size; omega)).trans co2
  have co3 := (hb.cell (p := ⟨go, 3, none⟩) (by show go < _; have := C0.out.size; omega)).trans co3
  have co4 := (hb.cell (p := ⟨go, 4, none⟩) (by show go < _; have := C0.out.size; omega)).trans co4
  have C0 := hid (C0.out.trans (hb.mono C0.out.size))
  clear hb IB
  have R : Hid (TPost w (.returned (.bool true)) b6) := ⟨rfl, BA.out.trans (C0.out.mono BA.out.size)⟩
  rw [MAT.out] at cz0
  go_wp2
  go_ret
  exact R.out

end Go.Proofs.YtnkolbngeibhpaaDoor
