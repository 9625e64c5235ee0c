/-
  THE CODE: a case's calls, exactly: Advance, Set, Value.
-/
import Derived.Test.YtmofidaojmiepaaGreatDoorGK5
set_option linter.unusedVariables false
set_option linter.unusedSimpArgs false
namespace Go.Proofs.YtmofidaojmiepaaGreatDoor

open Go.RowKit

attribute [local go_sem ↓] Go.wp_at_zero Go.wp_at_succ

/-- The case is that one. -/
def KAt (Q : Nat → Prop) (f : Frm) (p : KPl) (m : Cs) (vE : Value) (w : World) : Prop := KSt Q f p m.F m.T m.op m.S vE m.E w

def KStP (Q : Nat → Prop) (f : Frm) (p : KPl) (m : Cs) (vE : Value) (w : World) (e : Ending) (w' : World) : Prop := ∃ vE', e = .returned (.tuple #[]) ∧ KAt Q f p m vE' w' ∧ KGone p vE vE' w w'

def KInP (Q : Nat → Prop) (f : Frm) (p : KPl) (r : Int) (m : Cs) (vE : Value) (w : World) (e : Ending) (w' : World) : Prop := ∃ vE', e = .returned (.int .i64 r) ∧ KAt Q f p m vE' w' ∧ KGone p vE vE' w w'

theorem KAt.time {Q : Nat → Prop} {f : Frm} {p : KPl} {m : Cs} {vE : Value} {w : World} (h : KAt Q f p m vE w) : w.cell? ⟨p.bp, 4, none⟩ = some (.int .i64 m.T) := by
  have r4 := (show KSt Q f p m.F m.T m.op m.S vE m.E w from h).row.cell (i := 4) (by omega)
  rw [r4]
  simp [kf]

theorem ksettle_cs {Q : Nat → Prop} {f : Frm} {p : KPl} {m : Cs} {vE : Value} {w : World} {bv : Nat} (hS : KAt Q f p m vE w) (hf : f.Ok) (hSt : ∀ i, i < f.k → StOk (m.S i)) (hE : m.E.length ≤ 999999999000) (hv : w.rowIs bv 3 f.n (fun i => .int .i64 (f.vals m.F m.T i))) (hnb : ¬ KOwn p vE bv) :
    Calls Tryz.prog 48 #[.pointer (some ⟨p.bp, 0, none⟩), .slice (some ⟨bv, 0, none⟩) f.n f.n] w fun e w' => KStP Q f p (m.settle f) vE w e w' := by
  by_cases ho : m.op = true
  · have h1 : KSt Q f p m.F m.T true m.S vE m.E w := by rw [← ho]; exact hS
    refine (ksettle_any h1 hf hSt hE hv hnb).mono (fun e w' h => ?_)
    obtain ⟨vE', a1, a2, a3⟩ := h
    refine ⟨vE', a1, ?_, a3⟩
    unfold Cs.settle
    rw [if_pos ho]
    show KSt Q f p m.F m.T m.op _ vE' _ w'
    rw [ho]
    exact a2
  · have ho' : m.op = false := by simpa using ho
    have e : m.settle f = m := by unfold Cs.settle; rw [if_neg ho]
    have r5 := (show KSt Q f p m.F m.T m.op m.S vE m.E w from hS).row.cell (i := 5) (by omega)
    simp [kf] at r5
    rw [ho'] at r5
    have R : Hid (KStP Q f p (m.settle f) vE w (.returned (.tuple #[])) w) := ⟨vE, rfl, by rw [e]; exact hS, KGone.refl _ _ _⟩
    clear e hS hSt hf ho
    go_enter Tryz.func48, Tryz.ntmps48
    go_wp2
    go_end0
    exact R.out

theorem now_any {Q : Nat → Prop} {f : Frm} {p : KPl} {m : Cs} {vE : Value} {w : World} (h : KAt Q f p m vE w) : Calls Tryz.prog 28 #[.pointer (some ⟨p.bp, 0, none⟩)] w fun e w' => e = .returned (.int .i64 m.T) ∧ w' = w := by
  have r4 := h.time
  clear h
  go_enter Tryz.func28, Tryz.ntmps28
  go_wp2
  go_ret
  simp

set_option maxRecDepth 100000 in
set_option maxHeartbeats 2000000 in
theorem kadvance_any {Q : Nat → Prop} {f : Frm} {p : KPl} {m : Cs} {vE : Value} {w : World} {b : Nat} (to : Int) (hS : KAt Q f p m vE w) (hf : f.Ok) (hm : m.Ok f) (hE : Few b m) (hb : b ≤ 10000000000) :
    Calls Tryz.prog 27 #[.pointer (some ⟨p.bp, 0, none⟩), .int .i64 to] w fun e w' => KInP Q f p (advAns m.T to) (advM f m to) vE w e w' := by
  have r4 := hS.time
  by_cases e1 : to < m.T
  · have R : Hid (KInP Q f p (advAns m.T to) (advM f m to) vE w (.returned (.int .i64 9)) w) := ⟨vE, by unfold advAns; rw [if_pos (Or.inl e1)], by unfold advM; rw [if_pos (Or.inl e1)]; exact hS, KGone.refl _ _ _⟩
    clear hS hf hm hE
    go_enter Tryz.func27, Tryz.ntmps27
    go_wp2
    go_ret
    exact R.out
  by_cases e2 : 1000000000 < to
  · have R : Hid (KInP Q f p (advAns m.T to) (advM f m to) vE w (.returned (.int .i64 9)) w) := ⟨vE, by unfold advAns; rw [if_pos (Or.inr e2)], by unfold advM; rw [if_pos (Or.inr e2)]; exact hS, KGone.refl _ _ _⟩
    clear hS hf hm hE
    go_enter Tryz.func27, Tryz.ntmps27
    go_wp2
    go_ret
    exact R.out
  have W0 : Hid (Way f b m to m) := ⟨rfl, by omega, hm, hE⟩
  have HS := hid hS
  have HF := hid hf
  have VC := hid (kvalues_any (show KSt Q f p m.F m.T m.op m.S vE m.E w from hS) hf hm.fv hm.t0 hm.t1)
  have AN : Hid (advAns m.T to = 0 ∧ advM f m to = m.go f (to - m.T).toNat) := ⟨by unfold advAns; rw [if_neg (by omega)], by unfold advM; rw [if_neg (by omega)]⟩
  clear hS hf hm hE
  go_enter Tryz.func27, Tryz.ntmps27
  go_wp2_with fail
  refine VC.out.mono ?_
  rintro e w1 ⟨bv, rfl, q1, q2, q3⟩
  have S1 : Hid (KAt Q f p m vE w1) := KSt.drop HS.out q3
  have V1 := hid q2
  have G1 : Hid (KGone p vE vE w w1) := (KGone.refl p vE w).low q3
  have N1 : Hid (¬ KOwn p vE bv) := fun h => by have := KSt.own_lt HS.out _ h; omega
  clear q1 q2 q3 VC HS r4
  have M0 : Hid (m.Ok f) := W0.out.2.2.1
  go_wp2_with fail
  refine (knext_any S1.out HF.out M0.out.fv M0.out.st M0.out.t0 M0.out.t1 V1.out).mono ?_
  rintro e w2 ⟨c, t, ok, rfl, q1, q2, q3⟩
  have C2 : Hid (Cand f m c) := q1.1.cand m.op m.E
  have L2 := hid q2
  have S2 : Hid (KAt Q f p m vE w2) := KSt.drop S1.out q3
  have G2 := hid (G1.out.low q3)
  clear q1 q2 q3 S1 G1 V1 N1
  go_wp2
  go_loopw [5, 6, 7] (fun _ tt tb wr => ∃ (m' : Cs) (vE' : Value) (c t : Int) (ok : Bool), tt = .int .i64 t ∧ tb = .bool ok ∧ Hid (Way f b m to m') ∧ Hid (Cand f m' c) ∧ Hid (Tell m'.T c t ok) ∧ Hid (KAt Q f p m' vE' wr) ∧ Hid (KGone p vE vE' w wr)) (fun _ _ _ wr => (to - (match wr.cell? ⟨p.bp, 4, none⟩ with | some (.int _ v) => v | _ => 0)).toNat)
  case atStart => exact ⟨m, vE, c, t, ok, rfl, rfl, W0, C2, L2, S2, G2⟩
  case round =>
    clear S2 G2 W0 C2 L2
    obtain ⟨m', vE', c, t, ok, rfl, rfl, hw, hc, hl, hs, hg⟩ := hrel
    have hok := hid hw.out.2.2.1
    have r4 := hs.out.time
    have hfew : m'.E.length ≤ 999999999000 := by
      have h1 := hw.out.2.2.2
      have h2 := hok.out.t1
      unfold Few at h1
      omega
    have END : Hid (c < 0 ∨ to < c → KInP Q f p (advAns m.T to) (advM f m to) vE w (.returned (.int .i64 0)) (wr.setCell ⟨p.bp, 4, none⟩ (.int .i64 to))) := fun h => by
      refine ⟨vE', by rw [AN.out.1], ?_, hg.out.setP _ _⟩
      rw [AN.out.2, hw.out.last HF.out hc.out h (by omega)]
      exact KSt.setP hs.out 4 _ (fun j => kf_set4 j)
    have f4 := (show KSt Q f p m'.F m'.T m'.op m'.S vE' m'.E wr from hs.out).row.frozen 4
    have zP := (show KSt Q f p m'.F m'.T m'.op m'.S vE' m'.E wr from hs.out).row.lt
    rcases hl.out with ⟨rfl, rfl, rfl⟩ | ⟨rfl, g1, g2, rfl⟩
    · have R := hid (END.out (Or.inl (by omega)))
      clear hs hg hl hc END
      go_wp2
      go_ret
      exact R.out
    by_cases hlt : c ≤ to
    · have R4 := hid r4
      have W2 := hid (hw.out.next HF.out hc.out (by have := hok.out.t0; omega) hlt (by omega)).1
      have S3 : Hid (KAt Q f p (m'.at c) vE' (wr.setCell ⟨p.bp, 4, none⟩ (.int .i64 c))) := KSt.setP hs.out 4 _ (fun j => kf_set4 j)
      have G3 : Hid (KGone p vE vE' w (wr.setCell ⟨p.bp, 4, none⟩ (.int .i64 c))) := hg.out.setP _ _
      have HT : Hid (0 ≤ c ∧ c ≤ 1000000000) := ⟨by have := hok.out.t0; omega, by omega⟩
      have HLT : Hid (m'.T < c) := g1
      clear hs hg hl hc END g1
      go_wp2_with fail
      refine (kvalues_any (show KSt Q f p (m'.at c).F (m'.at c).T (m'.at c).op (m'.at c).S vE' (m'.at c).E _ from S3.out) HF.out hok.out.fv HT.out.1 HT.out.2).mono ?_
      rintro e w4 ⟨bn, rfl, y1, y2, y3⟩
      have S4 : Hid (KAt Q f p (m'.at c) vE' w4) := KSt.drop S3.out y3
      have V4 := hid y2
      have G4 := hid (G3.out.low y3)
      have N4 : Hid (¬ KOwn p vE' bn) := fun h => by have := KSt.own_lt S3.out _ h; omega
      clear y1 y2 y3 S3 G3 r4 f4 zP
      go_wp2_with fail
      refine (ksettle_cs S4.out HF.out hok.out.st hfew V4.out N4.out).mono ?_
      rintro e w5 ⟨vE2, rfl, x1, x2⟩
      have S5 := hid x1
      have V5 : Hid (w5.rowIs bn 3 f.n (fun i => .int .i64 (f.vals (Cs.settle f (m'.at c)).F (Cs.settle f (m'.at c)).T i))) := by
        show World.rowIs _ _ _ _ _
        rw [settle_F, settle_T]
        exact x2.row V4.out N4.out
      have G5 := hid (G4.out.trans x2)
      have HT5 : Hid ((Cs.settle f (m'.at c)).T = c) := settle_T f _
      have OK5 : Hid ((Cs.settle f (m'.at c)).Ok f) := W2.out.2.2.1
      clear x1 x2 hok
      generalize Cs.settle f (m'.at c) = m2 at *
      go_wp2_with fail
      refine (knext_any S5.out HF.out OK5.out.fv OK5.out.st OK5.out.t0 OK5.out.t1 V5.out).mono ?_
      rintro e w6 ⟨c2, t2, ok2, rfl, q1, q2, q3⟩
      have C6 : Hid (Cand f m2 c2) := q1.1.cand m2.op m2.E
      have L6 := hid q2
      have S6 : Hid (KAt Q f p m2 vE2 w6) := KSt.drop S5.out q3
      have G6 := hid (G5.out.low q3)
      have Y6 := hid S6.out.time
      clear q1 q2 q3 S5 V5 G5
      go_wp2
      go_roundw
      case rel => exact ⟨m2, vE2, c2, t2, ok2, rfl, rfl, W2, C6, L6, S6, G6⟩
      case measure => rw [R4.out, Y6.out, HT5.out]; have := HLT.out; simp only; omega
    · have R := hid (END.out (Or.inr (by omega)))
      clear hs hg hl hc END
      go_wp2
      go_ret
      exact R.out

end Go.Proofs.YtmofidaojmiepaaGreatDoor
