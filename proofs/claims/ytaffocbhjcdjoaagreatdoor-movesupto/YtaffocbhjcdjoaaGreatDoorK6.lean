/-
  THE CODE: a case's calls, exactly: Advance, Set, Value.
-/
import Derived.Test.YtaffocbhjcdjoaaGreatDoorK5
set_option linter.unusedVariables false
set_option linter.unusedSimpArgs false
namespace Go.Proofs.YtaffocbhjcdjoaaGreatDoor
open Go.RowKit
attribute [local go_sem ↓] Go.wp_at_zero Go.wp_at_succ

/-- The case is that one. -/
def KAt (Q : Nat → Prop) (f : Frm) (p : KPl) (m : Cs) (vE : Value) (w : World) : Prop := KSt Q f p m.F m.T m.op m.S vE m.E w

def KStP (Q : Nat → Prop) (f : Frm) (p : KPl) (m : Cs) (vE : Value) (w : World) (e : Ending) (w' : World) : Prop := ∃ vE', e = .returned (.tuple #[]) ∧ KAt Q f p m vE' w' ∧ KGone p vE vE' w w'
def KInP (Q : Nat → Prop) (f : Frm) (p : KPl) (r : Int) (m : Cs) (vE : Value) (w : World) (e : Ending) (w' : World) : Prop := ∃ vE', e = .returned (.int .i64 r) ∧ KAt Q f p m vE' w' ∧ KGone p vE vE' w w'

theorem KAt.time {Q : Nat → Prop} {f : Frm} {p : KPl} {m : Cs} {vE : Value} {w : World} (h : KAt Q f p m vE w) : w.cell? ⟨p.bp, 4, none⟩ = some (.int .i64 m.T) := by
  have r4 := (show KSt Q f p m.F m.T m.op m.S vE m.E w from h).row.cell (i := 4) (by omega)
  rw [r4]
  simp [kf]

theorem ksettle_cs {Q : Nat → Prop} {f : Frm} {p : KPl} {m : Cs} {vE : Value} {w : World} {bv : Nat} (hS : KAt Q f p m vE w) (hf : f.Ok) (hSt : ∀ i, i < f.k → StOk (m.S i)) (hE : m.E.length ≤ 999999999000) (hv : w.rowIs bv 3 f.n (fun i => .int .i64 (f.vals m.F m.T i))) (hnb : ¬ KOwn p vE bv) :
    Calls Tryz.prog 43 #[.pointer (some ⟨p.bp, 0, none⟩), .slice (some ⟨bv, 0, none⟩) f.n f.n] w fun e w' => KStP Q f p (m.settle f) vE w e w' := by
  by_cases ho : m.op = true
  · have h1 : KSt Q f p m.F m.T true m.S vE m.E w := by rw [← ho]; exact hS
    refine (ksettle_any h1 hf hSt hE hv hnb).mono (fun e w' h => ?_)
    obtain ⟨vE', a1, a2, a3⟩ := h
    refine ⟨vE', a1, ?_, a3⟩
    unfold Cs.settle
    rw [if_pos ho]
    show KSt Q f p m.F m.T m.op _ vE' _ w'
    rw [ho]
    exact a2
  · have ho' : m.op = false := by simpa using ho
    have e : m.settle f = m := by unfold Cs.settle; rw [if_neg ho]
    have r5 := (show KSt Q f p m.F m.T m.op m.S vE m.E w from hS).row.cell (i := 5) (by omega)
    simp [kf] at r5
    rw [ho'] at r5
    have R : Hid (KStP Q f p (m.settle f) vE w (.returned (.tuple #[])) w) := ⟨vE, rfl, by rw [e]; exact hS, KGone.refl _ _ _⟩
    clear e hS hSt hf ho
    go_enter Tryz.func43, Tryz.ntmps43
    go_wp2
    go_end0
    exact R.out

theorem now_any {Q : Nat → Prop} {f : Frm} {p : KPl} {m : Cs} {vE : Value} {w : World} (h : KAt Q f p m vE w) : Calls Tryz.prog 48 #[.pointer (some ⟨p.bp, 0, none⟩)] w fun e w' => e = .returned (.int .i64 m.T) ∧ w' = w := by
  have r4 := h.time
  clear h
  go_enter Tryz.func48, Tryz.ntmps48
  go_wp2
  go_ret
  simp

theorem Way.turn {f : Frm} (hf : f.Ok) {b : Nat} {m m' : Cs} {to t : Int} (h : Way f b m to m') (hq : LQ f m'.F m'.T m'.S to f.k t) (h3 : to ≤ 1000000000) : Way f b m to (Cs.settle f (m'.at t)) := by
  obtain ⟨a1, a2, a3, a4⟩ := h
  obtain ⟨c1, c2, c3, c4⟩ := hq
  have e := go_next hf a3 c1 (fun u u1 u2 => ⟨fun j hj => c3 j hj u u1 u2, fun j hj => c4 j hj u u1 u2⟩)
  have hT : (Cs.settle f (m'.at t)).T = t := settle_T f _
  refine ⟨?_, by rw [hT]; exact c2, ?_, ?_⟩
  · rw [a1, hT, ← e, ← go_add]
    congr 1
    omega
  · rw [← e]
    exact go_ok hf a3 _ (by omega)
  · rw [← e]
    exact go_few hf a4 _

set_option maxRecDepth 100000 in
set_option maxHeartbeats 2000000 in
theorem kadvance_any {Q : Nat → Prop} {f : Frm} {p : KPl} {m : Cs} {vE : Value} {w : World} {b : Nat} (to : Int) (hS : KAt Q f p m vE w) (hf : f.Ok) (hm : m.Ok f) (hE : Few b m) (hb : b ≤ 10000000000) :
    Calls Tryz.prog 26 #[.pointer (some ⟨p.bp, 0, none⟩), .int .i64 to] w fun e w' => KInP Q f p (advAns m.T to) (advM f m to) vE w e w' := by
  have r4 := hS.time
  by_cases e1 : to < m.T
  · have R : Hid (KInP Q f p (advAns m.T to) (advM f m to) vE w (.returned (.int .i64 9)) w) := ⟨vE, by unfold advAns; rw [if_pos (Or.inl e1)], by unfold advM; rw [if_pos (Or.inl e1)]; exact hS, KGone.refl _ _ _⟩
    clear hS hf hm hE
    go_enter Tryz.func26, Tryz.ntmps26
    go_wp2
    go_ret
    exact R.out
  by_cases e2 : 1000000000 < to
  · have R : Hid (KInP Q f p (advAns m.T to) (advM f m to) vE w (.returned (.int .i64 9)) w) := ⟨vE, by unfold advAns; rw [if_pos (Or.inr e2)], by unfold advM; rw [if_pos (Or.inr e2)]; exact hS, KGone.refl _ _ _⟩
    clear hS hf hm hE
    go_enter Tryz.func26, Tryz.ntmps26
    go_wp2
    go_ret
    exact R.out
  have W0 : Hid (Way f b m to m) := ⟨rfl, by omega, hm, hE⟩
  have HS := hid hS
  have HF := hid hf
  have VC := hid (kvalues_any (show KSt Q f p m.F m.T m.op m.S vE m.E w from hS) hf hm.fv hm.t0 hm.t1)
  have AN : Hid (advAns m.T to = 0 ∧ advM f m to = m.go f (to - m.T).toNat) := ⟨by unfold advAns; rw [if_neg (by omega)], by unfold advM; rw [if_neg (by omega)]⟩
  clear hS hf hm hE
  go_enter Tryz.func26, Tryz.ntmps26
  go_wp2_with fail
  refine VC.out.mono ?_
  rintro e w1 ⟨bv, rfl, q1, q2, q3⟩
  have S1 : Hid (KAt Q f p m vE w1) := KSt.drop HS.out q3
  have V1 := hid q2
  have G1 : Hid (KGone p vE vE w w1) := (KGone.refl p vE w).low q3
  have N1 : Hid (¬ KOwn p vE bv) := fun h => by have := KSt.own_lt HS.out _ h; omega
  clear q1 q2 q3 VC HS r4
  go_wp2
  go_loopw [5] (fun t wr => ∃ (m' : Cs) (vE' : Value) (bv : Nat), t = .slice (some ⟨bv, 0, none⟩) f.n f.n ∧ Hid (Way f b m to m') ∧ Hid (KAt Q f p m' vE' wr) ∧ Hid (wr.rowIs bv 3 f.n (fun i => .int .i64 (f.vals m'.F m'.T i))) ∧ Hid (¬ KOwn p vE' bv) ∧ Hid (KGone p vE vE' w wr)) (fun _ wr => (to - (match wr.cell? ⟨p.bp, 4, none⟩ with | some (.int _ v) => v | _ => 0)).toNat)
  case atStart => exact ⟨m, vE, bv, rfl, W0, S1, V1, N1, G1⟩
  case round =>
    clear S1 V1 G1 N1 W0
    obtain ⟨m', vE', bv, rfl, hw, hs, hv, hnb, hg⟩ := hrel
    have hok := hid hw.out.2.2.1
    have r4 := hs.out.time
    have hfew : m'.E.length ≤ 999999999000 := by
      have h1 := hw.out.2.2.2
      have h2 := hok.out.t1
      unfold Few at h1
      omega
    by_cases hlt : m'.T < to
    · have R4 := hid r4
      go_wp2_with fail
      refine (knext_any to hs.out HF.out hok.out.fv hok.out.st hok.out.t0 hlt (by omega) hv.out).mono ?_
      rintro e w2 ⟨t, rfl, q1, q2⟩
      have t1 := q1.1
      have t2 := q1.2.1
      have W2 := hid (hw.out.turn HF.out q1 (by omega))
      have S2 : KAt Q f p m' vE' w2 := KSt.drop hs.out q2
      have G2 := hid (hg.out.low q2)
      have y4 := S2.time
      have f4 := (show KSt Q f p m'.F m'.T m'.op m'.S vE' m'.E w2 from S2).row.frozen 4
      have S3 : Hid (KAt Q f p (m'.at t) vE' (w2.setCell ⟨p.bp, 4, none⟩ (.int .i64 t))) := KSt.setP S2 4 _ (fun j => kf_set4 j)
      have G3 : Hid (KGone p vE vE' w (w2.setCell ⟨p.bp, 4, none⟩ (.int .i64 t))) := G2.out.setP _ _
      have zP := (show KSt Q f p m'.F m'.T m'.op m'.S vE' m'.E w2 from S2).row.lt
      have HT : Hid (0 ≤ t ∧ t ≤ 1000000000) := ⟨by have := hok.out.t0; omega, by omega⟩
      clear q1 q2 S2 G2 hs hv hnb hg r4
      go_wp2_with fail
      refine (kvalues_any (show KSt Q f p (m'.at t).F (m'.at t).T (m'.at t).op (m'.at t).S vE' (m'.at t).E _ from S3.out) HF.out hok.out.fv HT.out.1 HT.out.2).mono ?_
      rintro e w4 ⟨bn, rfl, y1, y2, y3⟩
      have S4 : Hid (KAt Q f p (m'.at t) vE' w4) := KSt.drop S3.out y3
      have V4 := hid y2
      have G4 := hid (G3.out.low y3)
      have N4 : Hid (¬ KOwn p vE' bn) := fun h => by have := KSt.own_lt S3.out _ h; omega
      clear y1 y2 y3 S3 G3 y4 f4 zP
      go_wp2_with fail
      refine (ksettle_cs S4.out HF.out hok.out.st hfew V4.out N4.out).mono ?_
      rintro e w5 ⟨vE2, rfl, x1, x2⟩
      have S5 := hid x1
      have V5 : Hid (w5.rowIs bn 3 f.n (fun i => .int .i64 (f.vals (Cs.settle f (m'.at t)).F (Cs.settle f (m'.at t)).T i))) := by
        show World.rowIs _ _ _ _ _
        rw [settle_F, settle_T]
        exact x2.row V4.out N4.out
      have G5 := hid (G4.out.trans x2)
      have N5 : Hid (¬ KOwn p vE2 bn) := fun h => N4.out (KOwn.grew x2.2 bn V4.out.lt h)
      have y5 := x1.time
      rw [show (Cs.settle f (m'.at t)).T = t from settle_T f _] at y5
      have Y5 := hid y5
      clear x1 x2 y5
      go_wp2
      go_roundw
      case rel => exact ⟨_, vE2, bn, rfl, W2, S5, V5, N5, G5⟩
      case measure => rw [R4.out, Y5.out]; simp only; omega
    · have e : m'.T = to := by have := hw.out.2.1; omega
      have R : Hid (KInP Q f p (advAns m.T to) (advM f m to) vE w (.returned (.int .i64 0)) wr) := by
        refine ⟨vE', by rw [AN.out.1], ?_, hg.out⟩
        rw [AN.out.2, hw.out.1, e, Int.sub_self]
        exact hs.out
      clear e
      go_wp2
      go_ret
      exact R.out

end Go.Proofs.YtaffocbhjcdjoaaGreatDoor
