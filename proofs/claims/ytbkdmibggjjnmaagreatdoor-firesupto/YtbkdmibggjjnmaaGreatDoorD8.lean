/-
  MEMORY: the document's world, exactly: Advance.
-/
import Derived.Test.YtbkdmibggjjnmaaGreatDoorD7
set_option linter.unusedVariables false
set_option linter.unusedSimpArgs false
namespace Go.Proofs.YtbkdmibggjjnmaaGreatDoor
open Go.RowKit
attribute [local go_sem ↓] Go.wp_at_zero Go.wp_at_succ

theorem wf_set5 {bc n : Nat} {aO : Option Addr} {k cO : Nat} {week : Int} {bh nh : Nat} {vF : Value} {T T' : Int} {op : Bool} {vS vE : Value} (j : Nat) : (if j = 5 then .int .i64 T' else wf bc n aO k cO week bh nh vF T op vS vE j) = wf bc n aO k cO week bh nh vF T' op vS vE j := by
  unfold wf
  by_cases h : j = 5
  · subst h; rfl
  · simp only [h, if_false]
theorem wf_set6 {bc n : Nat} {aO : Option Addr} {k cO : Nat} {week : Int} {bh nh : Nat} {vF : Value} {T : Int} {op op' : Bool} {vS vE : Value} (j : Nat) : (if j = 6 then .bool op' else wf bc n aO k cO week bh nh vF T op vS vE j) = wf bc n aO k cO week bh nh vF T op' vS vE j := by
  unfold wf
  by_cases h : j = 6
  · subst h; rfl
  · simp only [h, if_false]

/-- The world is that case. -/
def DAt (Q : Nat → Prop) (f : Frm) (p : Pl) (m : Cs) (vE : Value) (w : World) : Prop := DSt Q f p m.F m.T m.op m.S vE m.E w

section
variable {Q : Nat → Prop} {f : Frm} {p : Pl} {F : Nat → Int} {T : Int} {op : Bool} {S : Nat → St} {vE : Value} {E : List Ev} {w : World}

theorem DSt.setW (h : DSt Q f p F T op S vE E w) (i : Nat) (v : Value) {T' : Int} {op' : Bool} (hs : ∀ j, (if j = i then v else wf p.bc f.n p.aO f.k p.cO f.week p.bh f.hol.length (.slice (some ⟨p.bF, 0, none⟩) f.n p.cF) T op (.slice (some ⟨p.bS, 0, none⟩) f.k f.k) vE j) = wf p.bc f.n p.aO f.k p.cO f.week p.bh f.hol.length (.slice (some ⟨p.bF, 0, none⟩) f.n p.cF) T' op' (.slice (some ⟨p.bS, 0, none⟩) f.k f.k) vE j) :
    DSt Q f p F T' op' S vE E (w.setCell ⟨p.bw, i, none⟩ v) := by
  obtain ⟨g, N, f1, f2, f3⟩ := h.fil
  obtain ⟨n1, n2, n3, n4, n5, n6⟩ := h.nbw
  exact ⟨h.base.move ⟨by simp, fun j q _ => Below.heap_setCell _ _ _ _ (h.dis j q).1⟩, fun j q => by simpa using h.qlt j q, h.dis, (h.row.set i v).congr (fun j _ => hs j), ⟨g, N, f1.setOther n1 _, f2, f3⟩, h.sta.setOther n2 _, ownsRow_setCell_other h.ev n4 _⟩

end

theorem Gone.setW {p : Pl} {vE vE' : Value} {w w1 : World} (h : Gone p vE vE' w w1) (q : Nat) (v : Value) : Gone p vE vE' w (w1.setCell ⟨p.bw, q, none⟩ v) := ⟨h.1.setCell _ _ (Or.inl rfl), h.2⟩
theorem Gone.refl (p : Pl) (vE : Value) (w : World) : Gone p vE vE w w := ⟨Chg.refl _ _, Grew.refl _ _⟩

/-- What a call that answers nothing leaves. -/
def StP (Q : Nat → Prop) (f : Frm) (p : Pl) (m : Cs) (vE : Value) (w : World) (e : Ending) (w' : World) : Prop := ∃ vE', e = .returned (.tuple #[]) ∧ DAt Q f p m vE' w' ∧ Gone p vE vE' w w'

theorem dsettle_cs {Q : Nat → Prop} {f : Frm} {p : Pl} {m : Cs} {vE : Value} {w : World} (hS : DAt Q f p m vE w) (hf : f.Ok) (t0 : 0 ≤ m.T) (t1 : m.T ≤ 1000000000) (hF : FV f m.F) (hSt : ∀ i, i < f.k → StOk (m.S i)) (hE : m.E.length ≤ 999999999000) :
    Calls Tryz.prog 50 #[.pointer (some ⟨p.bw, 0, none⟩)] w fun e w' => StP Q f p (m.settle f) vE w e w' := by
  by_cases ho : m.op = true
  · have h1 : DSt Q f p m.F m.T true m.S vE m.E w := by rw [← ho]; exact hS
    refine (dsettle_any h1 hf hF hSt hE t0 t1).mono (fun e w' h => ?_)
    obtain ⟨vE', a1, a2, a3⟩ := h
    refine ⟨vE', a1, ?_, a3⟩
    unfold Cs.settle
    rw [if_pos ho]
    show DSt Q f p m.F m.T m.op _ vE' _ w'
    rw [ho]
    exact a2
  · have ho' : m.op = false := by simpa using ho
    have e : m.settle f = m := by unfold Cs.settle; rw [if_neg ho]
    have r6 := (show DSt Q f p m.F m.T m.op m.S vE m.E w from hS).row.cell (i := 6) (by omega)
    simp [wf] at r6
    rw [ho'] at r6
    have R : Hid (StP Q f p (m.settle f) vE w (.returned (.tuple #[])) w) := ⟨vE, rfl, by rw [e]; exact hS, Gone.refl _ _ _⟩
    clear e hS hF hSt hf ho
    go_enter Tryz.func50, Tryz.ntmps50
    go_wp2
    go_end0
    exact R.out

/-- P6's answer, and what it leaves. -/
def advAns (T to : Int) : Int := if to < T ∨ 1000000000 < to then 9 else 0
def advM (f : Frm) (m : Cs) (to : Int) : Cs := if to < m.T ∨ 1000000000 < to then m else m.go f (to - m.T).toNat

/-- What a call leaves that answers a number. -/
def InP (Q : Nat → Prop) (f : Frm) (p : Pl) (r : Int) (m : Cs) (vE : Value) (w : World) (e : Ending) (w' : World) : Prop := ∃ vE', e = .returned (.int .i64 r) ∧ DAt Q f p m vE' w' ∧ Gone p vE vE' w w'

def timeOf (b : Nat) (w : World) : Int := match w.cell? ⟨b, 5, none⟩ with
  | some (.int _ v) => v
  | _ => 0

theorem DAt.time {Q : Nat → Prop} {f : Frm} {p : Pl} {m : Cs} {vE : Value} {w : World} (h : DAt Q f p m vE w) : timeOf p.bw w = m.T := by
  have r5 := (show DSt Q f p m.F m.T m.op m.S vE m.E w from h).row.cell (i := 5) (by omega)
  unfold timeOf
  rw [r5]
  simp [wf]

/-- The clock has come so far. -/
def Way (f : Frm) (b : Nat) (m : Cs) (to : Int) (m' : Cs) : Prop := m.go f (to - m.T).toNat = m'.go f (to - m'.T).toNat ∧ m'.T ≤ to ∧ m'.Ok f ∧ Few b m'

theorem Way.next {f : Frm} (hf : f.Ok) {b : Nat} {m m' : Cs} {to t : Int} (h : Way f b m to m') (hc : Cand f m' t) (h1 : t ≠ -1) (h2 : t ≤ to) (_h3 : to ≤ 1000000000) : Way f b m to (Cs.settle f (m'.at t)) ∧ m'.T < t ∧ t ≤ 1000000000 := by
  obtain ⟨a1, a2, a3, a4⟩ := h
  obtain ⟨c1, c2⟩ := hc
  have lo : m'.T < t ∧ t ≤ 1000000000 := by
    rcases c1 with c | c
    · exact (h1 c).elim
    · exact c
  have e := go_next hf a3 lo.1 (fun u u1 u2 => c2 u u1 (by omega) (Or.inr u2))
  have hT : (Cs.settle f (m'.at t)).T = t := settle_T f _
  refine ⟨⟨?_, by rw [hT]; exact h2, ?_, ?_⟩, lo⟩
  · rw [a1, hT, ← e, ← go_add]
    congr 1
    omega
  · rw [← e]
    exact go_ok hf a3 _ (by omega)
  · rw [← e]
    exact go_few hf a4 _

theorem Way.last {f : Frm} (hf : f.Ok) {b : Nat} {m m' : Cs} {to t : Int} (h : Way f b m to m') (hc : Cand f m' t) (h1 : t < 0 ∨ to < t) (h3 : to ≤ 1000000000) : m.go f (to - m.T).toNat = m'.at to := by
  obtain ⟨a1, a2, a3, a4⟩ := h
  obtain ⟨c1, c2⟩ := hc
  have t0 := a3.t0
  rw [a1, go_quiet hf a3 _ (fun i i1 i2 => c2 _ (by omega) (by omega) ?_), show m'.T + ((to - m'.T).toNat : Int) = to by omega]
  rcases c1 with c | c
  · exact Or.inl c
  · exact Or.inr (by omega)

set_option maxRecDepth 100000 in
set_option maxHeartbeats 2000000 in
theorem dadvance_any {Q : Nat → Prop} {f : Frm} {p : Pl} {m : Cs} {vE : Value} {w : World} {b : Nat} (to : Int) (hS : DAt Q f p m vE w) (hf : f.Ok) (hm : m.Ok f) (hE : Few b m) (hb : b ≤ 10000000000) :
    Calls Tryz.prog 30 #[.pointer (some ⟨p.bw, 0, none⟩), .int .i64 to] w fun e w' => InP Q f p (advAns m.T to) (advM f m to) vE w e w' := by
  have r5 := (show DSt Q f p m.F m.T m.op m.S vE m.E w from hS).row.cell (i := 5) (by omega)
  simp [wf] at r5
  by_cases e1 : to < m.T
  · have R : Hid (InP Q f p (advAns m.T to) (advM f m to) vE w (.returned (.int .i64 9)) w) := ⟨vE, by unfold advAns; rw [if_pos (Or.inl e1)], by unfold advM; rw [if_pos (Or.inl e1)]; exact hS, Gone.refl _ _ _⟩
    clear hS hf hm hE
    go_enter Tryz.func30, Tryz.ntmps30
    go_wp2
    go_ret
    exact R.out
  by_cases e2 : 1000000000 < to
  · have R : Hid (InP Q f p (advAns m.T to) (advM f m to) vE w (.returned (.int .i64 9)) w) := ⟨vE, by unfold advAns; rw [if_pos (Or.inr e2)], by unfold advM; rw [if_pos (Or.inr e2)]; exact hS, Gone.refl _ _ _⟩
    clear hS hf hm hE
    go_enter Tryz.func30, Tryz.ntmps30
    go_wp2
    go_ret
    exact R.out
  have W0 : Hid (Way f b m to m) := ⟨rfl, by omega, hm, hE⟩
  have HS := hid hS
  have HF := hid hf
  have G0 := hid (Gone.refl p vE w)
  have AN : Hid (advAns m.T to = 0 ∧ advM f m to = m.go f (to - m.T).toNat) := ⟨by unfold advAns; rw [if_neg (by omega)], by unfold advM; rw [if_neg (by omega)]⟩
  clear hS hf hm hE
  go_enter Tryz.func30, Tryz.ntmps30
  go_wp2
  go_loopw [5] (fun _ wr => ∃ (m' : Cs) (vE' : Value), Hid (Way f b m to m') ∧ Hid (DAt Q f p m' vE' wr) ∧ Hid (Gone p vE vE' w wr)) (fun _ wr => (to - timeOf p.bw wr).toNat)
  case atStart => exact ⟨m, vE, W0, HS, G0⟩
  case round =>
    clear W0 HS G0 r5
    obtain ⟨m', vE', hw, hs, hg⟩ := hrel
    have hok := hid hw.out.2.2.1
    have hT := hs.out.time
    have hfew : m'.E.length ≤ 999999999000 := by
      have h1 := hw.out.2.2.2
      have h2 := hok.out.t1
      unfold Few at h1
      omega
    go_wp2_with fail
    refine (dcand_any hs.out HF.out hok.out.fv hok.out.st hok.out.t0 hok.out.t1).mono ?_
    rintro e w1 ⟨t, rfl, q1, q2⟩
    have HC : Hid (Cand f m' t) := q1.cand m'.op m'.E
    have hs1 := hid (show DAt Q f p m' vE' w1 from DSt.drop hs.out q2)
    have hg1 := hid (hg.out.low q2)
    clear q1 q2 hs hg
    have r5 := (show DSt Q f p m'.F m'.T m'.op m'.S vE' m'.E w1 from hs1.out).row.cell (i := 5) (by omega)
    have f5 := (show DSt Q f p m'.F m'.T m'.op m'.S vE' m'.E w1 from hs1.out).row.frozen 5
    simp [wf] at r5
    by_cases t1 : t < 0
    · have R : Hid (InP Q f p (advAns m.T to) (advM f m to) vE w (.returned (.int .i64 0)) (w1.setCell ⟨p.bw, 5, none⟩ (.int .i64 to))) := by
        refine ⟨vE', by rw [AN.out.1], ?_, hg1.out.setW _ _⟩
        rw [AN.out.2, hw.out.last HF.out HC.out (Or.inl t1) (by omega)]
        exact DSt.setW hs1.out 5 _ (fun j => wf_set5 j)
      clear hT
      go_wp2
      go_ret
      exact R.out
    by_cases t2 : to < t
    · have R : Hid (InP Q f p (advAns m.T to) (advM f m to) vE w (.returned (.int .i64 0)) (w1.setCell ⟨p.bw, 5, none⟩ (.int .i64 to))) := by
        refine ⟨vE', by rw [AN.out.1], ?_, hg1.out.setW _ _⟩
        rw [AN.out.2, hw.out.last HF.out HC.out (Or.inr t2) (by omega)]
        exact DSt.setW hs1.out 5 _ (fun j => wf_set5 j)
      clear hT
      go_wp2
      go_ret
      exact R.out
    obtain ⟨nw, nt, nt2⟩ := hw.out.next HF.out HC.out (by omega) (by omega) (by omega)
    have NW := hid nw
    have hs2 : Hid (DAt Q f p (m'.at t) vE' (w1.setCell ⟨p.bw, 5, none⟩ (.int .i64 t))) := DSt.setW hs1.out 5 _ (fun j => wf_set5 j)
    have hg2 : Hid (Gone p vE vE' w (w1.setCell ⟨p.bw, 5, none⟩ (.int .i64 t))) := hg1.out.setW _ _
    clear nw
    go_wp2_with fail
    refine (dsettle_cs hs2.out HF.out (by show 0 ≤ t; omega) (by show t ≤ _; omega) hok.out.fv hok.out.st hfew).mono ?_
    rintro e w3 ⟨vE2, rfl, q1, q2⟩
    have hs3 := hid q1
    have hg3 := hid (hg2.out.trans q2)
    have hT3 := q1.time
    rw [show (Cs.settle f (m'.at t)).T = t from settle_T f _] at hT3
    clear q1 q2
    go_wp2
    go_roundw
    case rel => exact ⟨_, vE2, NW, hs3, hg3⟩
    case measure => rw [hT, hT3]; omega

end Go.Proofs.YtbkdmibggjjnmaaGreatDoor
