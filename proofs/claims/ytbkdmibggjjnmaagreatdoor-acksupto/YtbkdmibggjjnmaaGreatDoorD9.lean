/-
  MEMORY: the document's world, exactly: Set, Rule, Ack, Close.
-/
import Derived.Test.YtbkdmibggjjnmaaGreatDoorD8
set_option linter.unusedVariables false
set_option linter.unusedSimpArgs false
namespace Go.Proofs.YtbkdmibggjjnmaaGreatDoor
open Go.RowKit
attribute [local go_sem ↓] Go.wp_at_zero Go.wp_at_succ

/-- P5's answer and what it leaves. -/
def setNo (f : Frm) (m : Cs) (c v : Int) : Int := if m.op = false then 10 else setAns f.C f.n c v
def Cs.fill (m : Cs) (i : Nat) (v : Int) : Cs := ⟨upd m.F i v, m.T, m.op, m.S, m.E⟩
def setM (f : Frm) (m : Cs) (c v : Int) : Cs := if setNo f m c v = 0 then Cs.settle f (m.fill c.toNat v) else m

theorem setAns_zero {C : Nat → Cel} {n : Nat} {c v : Int} (h : setAns C n c v = 0) : 0 ≤ c ∧ c.toNat < n ∧ (C c.toNat).kind = 0 ∧ IsV v := by
  unfold setAns at h
  split at h
  · cases h
  split at h
  · cases h
  split at h
  · cases h
  rename_i h1 h2 h3
  simp [M.isv] at h3
  exact ⟨by omega, by omega, by simpa using h2, by omega, by omega⟩

theorem setM_ok {f : Frm} (hf : f.Ok) {m : Cs} (h : m.Ok f) (c v : Int) : (setM f m c v).Ok f := by
  unfold setM
  split
  · rename_i h0
    have ho : m.op = true := by
      unfold setNo at h0
      split at h0
      · cases h0
      · rename_i h1; simpa using h1
    have hz : setAns f.C f.n c v = 0 := by
      unfold setNo at h0
      rw [if_neg (by simp [ho])] at h0
      exact h0
    obtain ⟨_, _, _, hv⟩ := setAns_zero hz
    refine settle_ok hf h.t0 h.t1 (fun i hi hk => ?_) h.st (fun e => ?_)
    · show IsV (upd m.F c.toNat v i)
      by_cases e : i = c.toNat
      · subst e; rw [upd_same]; exact hv
      · rw [upd_other _ _ e]; exact h.fv i hi hk
    · have e' : m.op = false := e
      rw [ho] at e'
      cases e'
  · exact h

section
variable {Q : Nat → Prop} {f : Frm} {p : Pl} {F : Nat → Int} {T : Int} {op : Bool} {S : Nat → St} {vE : Value} {E : List Ev} {w : World}

theorem DSt.fill (h : DSt Q f p F T op S vE E w) (i : Nat) (v : Int) : DSt Q f p (upd F i v) T op S vE E (w.setCell ⟨p.bF, i, none⟩ (.int .i64 v)) := by
  obtain ⟨g, N, f1, f2, f3⟩ := h.fil
  obtain ⟨n1, n2, n3, n4, n5, n6⟩ := h.nbw
  refine ⟨h.base.move ⟨by simp, fun j q _ => Below.heap_setCell _ _ _ _ (h.dis j q).2.1⟩, fun j q => by simpa using h.qlt j q, h.dis, h.row.setOther (Ne.symm n1) _, ⟨_, N, f1.set i _, f2, fun j hj => ?_⟩, h.sta.setOther (Ne.symm n3) _, ownsRow_setCell_other h.ev n5 _⟩
  unfold upd
  by_cases e : j = i
  · simp [e]
  · simp [e, f3 j hj]

end

theorem Gone.setF {p : Pl} {vE vE' : Value} {w w1 : World} (h : Gone p vE vE' w w1) (q : Nat) (v : Value) : Gone p vE vE' w (w1.setCell ⟨p.bF, q, none⟩ v) := ⟨h.1.setCell _ _ (Or.inr (Or.inl rfl)), h.2⟩

set_option maxRecDepth 100000 in
set_option maxHeartbeats 2000000 in
theorem dSet_any {Q : Nat → Prop} {f : Frm} {p : Pl} {m : Cs} {vE : Value} {w : World} (c v : Int) (hS : DAt Q f p m vE w) (hf : f.Ok) (hm : m.Ok f) (hE : m.E.length ≤ 999999999000) :
    Calls Tryz.prog 28 #[.pointer (some ⟨p.bw, 0, none⟩), .int .i64 c, .int .i64 v] w fun e w' => InP Q f p (setNo f m c v) (setM f m c v) vE w e w' := by
  have hD : DSt Q f p m.F m.T m.op m.S vE m.E w := hS
  have r0 := hD.row.cell (i := 0) (by omega)
  have r4 := hD.row.cell (i := 4) (by omega)
  have r6 := hD.row.cell (i := 6) (by omega)
  simp [wf] at r0 r4 r6
  have KEEP : setNo f m c v ≠ 0 → Hid (InP Q f p (setNo f m c v) (setM f m c v) vE w (.returned (.int .i64 (setNo f m c v))) w) := fun h => ⟨vE, rfl, by unfold setM; rw [if_neg h]; exact hS, Gone.refl _ _ _⟩
  by_cases ho : m.op = false
  · have A : setNo f m c v = 10 := by unfold setNo; rw [if_pos ho]
    have R := KEEP (by rw [A]; decide)
    rw [A] at R
    rw [ho] at r6
    rw [A]
    clear KEEP hS hD hf hm A ho
    go_enter Tryz.func28, Tryz.ntmps28
    go_wp2
    go_ret
    exact R.out
  have B : setNo f m c v = setAns f.C f.n c v := by unfold setNo; rw [if_neg ho]
  have ho' : m.op = true := by simpa using ho
  rw [ho'] at r6
  by_cases c0 : c < 0
  · have A : setNo f m c v = 6 := by rw [B]; unfold setAns; rw [if_pos (Or.inl c0)]
    have R := KEEP (by rw [A]; decide)
    rw [A] at R
    rw [A]
    clear KEEP hS hD hf hm A B
    go_enter Tryz.func28, Tryz.ntmps28
    go_wp2
    go_ret
    exact R.out
  by_cases c1 : (f.n : Int) ≤ c
  · have A : setNo f m c v = 6 := by rw [B]; unfold setAns; rw [if_pos (Or.inr c1)]
    have R := KEEP (by rw [A]; decide)
    rw [A] at R
    rw [A]
    clear KEEP hS hD hf hm A B
    go_enter Tryz.func28, Tryz.ntmps28
    go_wp2
    go_ret
    exact R.out
  obtain ⟨i, rfl⟩ := Int.eq_ofNat_of_zero_le (show 0 ≤ c by omega)
  have i1 : i < f.n := by omega
  obtain ⟨b1, _, _⟩ := hD.base.now
  have d0 := (cellf_cel b1 i1).1
  rw [Nat.zero_add] at d0
  have zc := b1.lt
  clear b1
  have IV := hid (fun W => risv_any v W)
  by_cases k0 : (f.C i).kind = 0
  · cases ev : M.isv v
    · have A : setNo f m i v = 8 := by rw [B]; unfold setAns; rw [if_neg (by omega), if_neg (by simpa using k0), if_pos ev]
      have R := KEEP (by rw [A]; decide)
      rw [A] at R
      rw [k0] at d0
      rw [A]
      clear KEEP hS hD hf hm A B
      go_enter Tryz.func28, Tryz.ntmps28
      go_wp2_with (go_at_call 61; refine (IV.out _).mono ?_; rintro e w' ⟨rfl, rfl⟩)
      go_ret
      exact R.out
    · have A : setNo f m i v = 0 := by rw [B]; unfold setAns; rw [if_neg (by omega), if_neg (by simpa using k0), if_neg (by simp [ev])]
      have hz : setAns f.C f.n i v = 0 := by rw [← B]; exact A
      obtain ⟨_, _, _, hv⟩ := setAns_zero hz
      have A2 : Hid (setM f m i v = Cs.settle f (m.fill i v)) := by show _ = _; unfold setM; rw [if_pos A]; rfl
      have HFV : FV f (m.fill i v).F := fun j hj hk => by
        show IsV (upd m.F i v j)
        by_cases e : j = i
        · subst e; rw [upd_same]; exact hv
        · rw [upd_other _ _ e]; exact hm.fv j hj hk
      obtain ⟨g, N, f1, f2, f3⟩ := hD.fil
      have d9 := f1.frozen i
      have bF1 := f1.lt
      have dF := f1.cell (i := i) (by omega)
      have hs2 : DAt Q f p (m.fill i v) vE (w.setCell ⟨p.bF, i, none⟩ (.int .i64 v)) := hD.fill i v
      have CALL := hid (dsettle_cs hs2 hf hm.t0 hm.t1 HFV hm.st hE)
      have GN : Hid (Gone p vE vE w (w.setCell ⟨p.bF, i, none⟩ (.int .i64 v))) := (Gone.refl p vE w).setF i _
      rw [k0] at d0
      rw [A]
      clear KEEP hS hD hf hm A B f1 f2 f3 hs2 HFV hz hv
      go_enter Tryz.func28, Tryz.ntmps28
      go_wp2_with fail
      refine (IV.out _).mono ?_
      rintro e w' ⟨rfl, rfl⟩
      go_wp2_with fail
      refine CALL.out.mono ?_
      rintro e w3 ⟨vE', rfl, x1, x2⟩
      have R : Hid (InP Q f p 0 (setM f m i v) vE w' (.returned (.int .i64 0)) w3) := ⟨vE', rfl, by rw [A2.out]; exact x1, GN.out.trans x2⟩
      clear x1 x2
      go_wp2
      go_ret
      exact R.out
  · have A : setNo f m i v = 7 := by rw [B]; unfold setAns; rw [if_neg (by omega), if_pos (by simpa using k0)]
    have R := KEEP (by rw [A]; decide)
    rw [A] at R
    rw [A]
    clear KEEP hS hD hf hm A B
    go_enter Tryz.func28, Tryz.ntmps28
    go_wp2
    go_ret
    exact R.out

/-- P8's answer and what it leaves. -/
def ackNo (f : Frm) (m : Cs) (r : Int) : Int := if m.op = false then 10 else if r < 0 ∨ (f.k : Int) ≤ r then 6 else if (m.S r.toNat).lit = false ∨ (m.S r.toNat).acked = true then 11 else 0
def ackM (f : Frm) (m : Cs) (r : Int) : Cs := if ackNo f m r = 0 then ⟨m.F, m.T, m.op, upd m.S r.toNat ⟨(m.S r.toNat).lit, (m.S r.toNat).since, (m.S r.toNat).level, true⟩, m.E⟩ else m

theorem ackM_ok {f : Frm} {m : Cs} (h : m.Ok f) (r : Int) : (ackM f m r).Ok f := by
  unfold ackM
  split
  · rename_i h0
    have ho : m.op = true := by
      unfold ackNo at h0
      split at h0
      · cases h0
      · rename_i h1; simpa using h1
    refine ⟨h.t0, h.t1, h.fv, fun i hi => ?_, fun _ i hi => ?_, fun e => ?_⟩
    · show StOk (upd m.S r.toNat _ i)
      by_cases e : i = r.toNat
      · subst e; rw [upd_same]; exact h.st _ hi
      · rw [upd_other _ _ e]; exact h.st i hi
    · show (_ → upd m.S r.toNat _ i = _) ∧ (_ → (upd m.S r.toNat _ i).lit = true)
      have hc := h.lit ho i hi
      by_cases e : i = r.toNat
      · subst e
        rw [upd_same]
        refine ⟨fun g => ?_, fun g => hc.2 g⟩
        have := hc.1 g
        unfold ackNo at h0
        rw [if_neg (by simp [ho])] at h0
        split at h0
        · cases h0
        split at h0
        · cases h0
        · rename_i h2
          rw [this] at h2
          simp at h2
      · rw [upd_other _ _ e]; exact hc
    · have e' : m.op = false := e
      rw [ho] at e'
      cases e'
  · exact h

set_option maxRecDepth 100000 in
set_option maxHeartbeats 2000000 in
theorem dAck_any {Q : Nat → Prop} {f : Frm} {p : Pl} {m : Cs} {vE : Value} {w : World} (r : Int) (hS : DAt Q f p m vE w) (hf : f.Ok) :
    Calls Tryz.prog 32 #[.pointer (some ⟨p.bw, 0, none⟩), .int .i64 r] w fun e w' => InP Q f p (ackNo f m r) (ackM f m r) vE w e w' := by
  have hD : DSt Q f p m.F m.T m.op m.S vE m.E w := hS
  obtain ⟨n1, hn, hk, wk1, wk2⟩ := hf.sizes
  have r6 := hD.row.cell (i := 6) (by omega)
  have r7 := hD.row.cell (i := 7) (by omega)
  simp [wf] at r6 r7
  have KEEP : ackNo f m r ≠ 0 → Hid (InP Q f p (ackNo f m r) (ackM f m r) vE w (.returned (.int .i64 (ackNo f m r))) w) := fun h => ⟨vE, rfl, by unfold ackM; rw [if_neg h]; exact hS, Gone.refl _ _ _⟩
  by_cases ho : m.op = false
  · have A : ackNo f m r = 10 := by unfold ackNo; rw [if_pos ho]
    have R := KEEP (by rw [A]; decide)
    rw [A] at R
    rw [ho] at r6
    rw [A]
    clear KEEP hS hD hf A ho
    go_enter Tryz.func32, Tryz.ntmps32
    go_wp2
    go_ret
    exact R.out
  have ho' : m.op = true := by simpa using ho
  rw [ho'] at r6
  by_cases c0 : r < 0
  · have A : ackNo f m r = 6 := by unfold ackNo; rw [if_neg ho, if_pos (Or.inl c0)]
    have R := KEEP (by rw [A]; decide)
    rw [A] at R
    rw [A]
    clear KEEP hS hD hf A
    go_enter Tryz.func32, Tryz.ntmps32
    go_wp2
    go_ret
    exact R.out
  by_cases c1 : (f.k : Int) ≤ r
  · have A : ackNo f m r = 6 := by unfold ackNo; rw [if_neg ho, if_pos (Or.inr c1)]
    have R := KEEP (by rw [A]; decide)
    rw [A] at R
    rw [A]
    clear KEEP hS hD hf A
    go_enter Tryz.func32, Tryz.ntmps32
    go_wp2
    go_ret
    exact R.out
  obtain ⟨i, rfl⟩ := Int.eq_ofNat_of_zero_le (show 0 ≤ r by omega)
  have i1 : i < f.k := by omega
  have s0 := hD.sta.cell (i := i * 4) (by omega)
  have s3 := hD.sta.cell (i := i * 4 + 3) (by omega)
  rw [stf0] at s0
  rw [stf3] at s3
  have zS := hD.sta.lt
  have fz := hD.sta.frozen (i * 4 + 3)
  cases hl : (m.S i).lit
  · have A : ackNo f m i = 11 := by unfold ackNo; rw [if_neg ho, if_neg (by omega)]; exact if_pos (Or.inl hl)
    have R := KEEP (by rw [A]; decide)
    rw [A] at R
    rw [hl] at s0
    rw [A]
    clear KEEP hS hD hf A hl
    go_enter Tryz.func32, Tryz.ntmps32
    go_wp2
    go_ret
    exact R.out
  · cases ha : (m.S i).acked
    · have A : ackNo f m i = 0 := by unfold ackNo; rw [if_neg ho, if_neg (by omega), if_neg (by show ¬ ((m.S i).lit = false ∨ (m.S i).acked = true); simp [hl, ha])]
      have R : Hid (InP Q f p 0 (ackM f m i) vE w (.returned (.int .i64 0)) (w.setCell ⟨p.bS, i * 4 + 3, none⟩ (.bool true))) := by
        refine ⟨vE, rfl, ?_, (Gone.refl p vE w).setS _ _⟩
        unfold ackM
        rw [if_pos A]
        exact hD.setS (i * 4 + 3) (.bool true) (fun j => stf_ack j)
      rw [hl] at s0
      rw [ha] at s3
      rw [A]
      clear KEEP hS hD hf A hl ha
      go_enter Tryz.func32, Tryz.ntmps32
      go_wp2
      go_ret
      exact R.out
    · have A : ackNo f m i = 11 := by unfold ackNo; rw [if_neg ho, if_neg (by omega)]; exact if_pos (Or.inr ha)
      have R := KEEP (by rw [A]; decide)
      rw [A] at R
      rw [hl] at s0
      rw [ha] at s3
      rw [A]
      clear KEEP hS hD hf A hl ha
      go_enter Tryz.func32, Tryz.ntmps32
      go_wp2
      go_ret
      exact R.out

/-- P9's answer and what it leaves. -/
def closeNo (m : Cs) : Int := if m.op = false then 10 else 0
def closeM (f : Frm) (m : Cs) : Cs := if m.op = false then m else ⟨m.F, m.T, false, fun i => if i < f.k then noSt else m.S i, m.E⟩

theorem closeM_ok {f : Frm} {m : Cs} (h : m.Ok f) : (closeM f m).Ok f := by
  unfold closeM
  split
  · exact h
  · refine ⟨h.t0, h.t1, h.fv, fun i hi => ?_, fun e => (by cases e), fun _ i hi => ?_⟩
    · show StOk (if i < f.k then noSt else m.S i)
      rw [if_pos hi]
      exact ⟨Int.le_refl _, by show (0 : Int) ≤ _; omega, Int.le_refl _, by show (0 : Int) ≤ _; omega⟩
    · show (if i < f.k then noSt else m.S i) = _
      rw [if_pos hi]

def shutTo (S : Nat → St) (i : Nat) : Nat → St := fun j => if j < i then noSt else S j
theorem shut_next (S : Nat → St) (i : Nat) : upd (shutTo S i) i ⟨false, 0, 0, false⟩ = shutTo S (i + 1) := by
  funext j
  unfold upd shutTo
  by_cases e : j = i
  · subst e; rw [if_pos rfl, if_pos (by omega)]; rfl
  · rw [if_neg e]
    by_cases h : j < i
    · rw [if_pos h, if_pos (by omega)]
    · rw [if_neg h, if_neg (by omega)]

set_option maxRecDepth 100000 in
set_option maxHeartbeats 2000000 in
theorem dClose_any {Q : Nat → Prop} {f : Frm} {p : Pl} {m : Cs} {vE : Value} {w : World} (hS : DAt Q f p m vE w) (hf : f.Ok) :
    Calls Tryz.prog 34 #[.pointer (some ⟨p.bw, 0, none⟩)] w fun e w' => InP Q f p (closeNo m) (closeM f m) vE w e w' := by
  have hD : DSt Q f p m.F m.T m.op m.S vE m.E w := hS
  obtain ⟨n1, hn, hk, wk1, wk2⟩ := hf.sizes
  have r6 := hD.row.cell (i := 6) (by omega)
  have f6 := hD.row.frozen 6
  have zw := hD.row.lt
  simp [wf] at r6
  by_cases ho : m.op = false
  · have R : Hid (InP Q f p 10 (closeM f m) vE w (.returned (.int .i64 10)) w) := ⟨vE, rfl, by unfold closeM; rw [if_pos ho]; exact hS, Gone.refl _ _ _⟩
    rw [ho] at r6
    rw [show closeNo m = 10 by unfold closeNo; rw [if_pos ho]]
    clear hS hD hf ho
    go_enter Tryz.func34, Tryz.ntmps34
    go_wp2
    go_ret
    exact R.out
  have ho' : m.op = true := by simpa using ho
  rw [ho'] at r6
  have H0 : Hid (DSt Q f p m.F m.T false (shutTo m.S 0) vE m.E (w.setCell ⟨p.bw, 6, none⟩ (.bool false))) := by
    have := hD.setW 6 (.bool false) (T' := m.T) (op' := false) (fun j => wf_set6 j)
    rw [show shutTo m.S 0 = m.S by funext j; unfold shutTo; rw [if_neg (by omega)]]
    exact this
  have G0 : Hid (Gone p vE vE w (w.setCell ⟨p.bw, 6, none⟩ (.bool false))) := (Gone.refl p vE w).setW 6 _
  have CM : Hid (closeM f m = ⟨m.F, m.T, false, shutTo m.S f.k, m.E⟩) := by show _ = _; unfold closeM; rw [if_neg ho]; rfl
  rw [show closeNo m = 0 by unfold closeNo; rw [if_neg ho]]
  clear hS hD hf ho ho'
  go_enter Tryz.func34, Tryz.ntmps34
  go_wp2
  go_loopw [3] (fun t wr => ∃ i : Nat, i ≤ f.k ∧ t = .int .i64 i ∧ Hid (DSt Q f p m.F m.T false (shutTo m.S i) vE m.E wr) ∧ Hid (Gone p vE vE w wr)) (fun t _ => f.k - (intOf t).toNat)
  case atStart => exact ⟨0, by omega, rfl, H0, G0⟩
  case round =>
    clear H0 G0 r6 f6
    obtain ⟨i, i1, rfl, hs, hg⟩ := hrel
    have r7 := hs.out.row.cell (i := 7) (by omega)
    simp [wf] at r7
    by_cases hit : i < f.k
    · have lt' : (i : Int) < (f.k : Int) := by omega
      have c0 := hs.out.sta.cell (i := i * 4) (by omega)
      have c1 := hs.out.sta.cell (i := i * 4 + 1) (by omega)
      have c2 := hs.out.sta.cell (i := i * 4 + 2) (by omega)
      have c3 := hs.out.sta.cell (i := i * 4 + 3) (by omega)
      have cz : ∀ j, wr.frozen? ⟨p.bS, j, none⟩ = false := fun j => hs.out.sta.frozen j
      have zS := hs.out.sta.lt
      have A1 := hs.out.set4 i false 0 0 false
      rw [shut_next] at A1
      have A1 := hid A1
      have A2 : Hid (Gone p vE vE w ((((wr.setCell ⟨p.bS, i * 4, none⟩ (.bool false)).setCell ⟨p.bS, i * 4 + 1, none⟩ (.int .i64 0)).setCell ⟨p.bS, i * 4 + 2, none⟩ (.int .i64 0)).setCell ⟨p.bS, i * 4 + 3, none⟩ (.bool false))) := (((hg.out.setS _ _).setS _ _).setS _ _).setS _ _
      go_wp2
      go_roundw
      case rel => exact ⟨i + 1, by omega, by go_num, by assumption, by assumption⟩
      case measure => simp [intOf]; omega
    · obtain rfl : i = f.k := by omega
      have R : Hid (InP Q f p 0 (closeM f m) vE w (.returned (.int .i64 0)) wr) := ⟨vE, rfl, by rw [CM.out]; exact hs.out, hg.out⟩
      go_wp2
      go_ret
      exact R.out

/-- P7: a rule's state. -/
def rulS (f : Frm) (m : Cs) (r : Int) : St := if 0 ≤ r ∧ r < f.k then m.S r.toNat else noSt
def rulE (f : Frm) (r : Int) : Int := if 0 ≤ r ∧ r < f.k then 0 else 6
def St.val (s : St) : Value := .agg #[.bool s.lit, .int .i64 s.since, .int .i64 s.level, .bool s.acked]
def RAns (f : Frm) (m : Cs) (r : Int) (w : World) (e : Ending) (w' : World) : Prop := e = .returned (.tuple #[(rulS f m r).val, .int .i64 (rulE f r)]) ∧ Below w.heap.size w w'

theorem rans_no {f : Frm} {m : Cs} {r : Int} {w w' : World} (h : ¬ (0 ≤ r ∧ r < f.k)) (hb : Below w.heap.size w w') : RAns f m r w (.returned (.tuple #[.agg #[.bool false, .int .i64 0, .int .i64 0, .bool false], .int .i64 6])) w' := ⟨by unfold rulS rulE; rw [if_neg h, if_neg h]; rfl, hb⟩
theorem rans_yes {f : Frm} {m : Cs} {i : Nat} {w w' : World} (h : i < f.k) (hb : Below w.heap.size w w') : RAns f m i w (.returned (.tuple #[.agg #[.bool (m.S i).lit, .int .i64 (m.S i).since, .int .i64 (m.S i).level, .bool (m.S i).acked], .int .i64 0])) w' := ⟨by unfold rulS rulE; rw [if_pos (by omega), if_pos (by omega)]; rfl, hb⟩

end Go.Proofs.YtbkdmibggjjnmaaGreatDoor
