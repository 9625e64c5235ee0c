/-
  MEMORY: the document's world, exactly: Set, Rule, Ack, Close.
-/
import Derived.Test.YtnkolbngeibhpaaDoorD8
set_option linter.unusedVariables false
set_option linter.unusedSimpArgs false
namespace Go.Proofs.YtnkolbngeibhpaaDoor

open Go.RowKit

attribute [local go_sem ↓] Go.wp_at_zero Go.wp_at_succ

/-- P5's answer and what it leaves. -/
def setNo (f : Frm) (m : Cs) (c v : Int) : Int := if m.op = false then 10 else setAns f.C f.n c v

def Cs.fill (m : Cs) (i : Nat) (v : Int) : Cs := ⟨upd m.F i v, m.T, m.op, m.S, m.E⟩

def setM (f : Frm) (m : Cs) (c v : Int) : Cs := if setNo f m c v = 0 then Cs.settle f (m.fill c.toNat v) else m

theorem setAns_zero {C : Nat → Cel} {n : Nat} {c v : Int} (h : setAns C n c v = 0) : 0 ≤ c ∧ c.toNat < n ∧ (C c.toNat).kind = 0 ∧ IsV v := by
  unfold setAns at h
  split at h
  · cases h
  split at h
  · cases h
  split at h
  · cases h
  rename_i h1 h2 h3
  simp [M.isv] at h3
  exact ⟨by omega, by omega, by simpa using h2, by omega, by omega⟩

theorem setM_ok {f : Frm} (hf : f.Ok) {m : Cs} (h : m.Ok f) (c v : Int) : (setM f m c v).Ok f := by
  unfold setM
  split
  · rename_i h0
    have ho : m.op = true := by
      unfold setNo at h0
      split at h0
      · cases h0
      · rename_i h1; simpa using h1
    have hz : setAns f.C f.n c v = 0 := by
      unfold setNo at h0
      rw [if_neg (by simp [ho])] at h0
      exact h0
    obtain ⟨_, _, _, hv⟩ := setAns_zero hz
    refine settle_ok hf h.t0 h.t1 (fun i hi hk => ?_) h.st (fun e => ?_)
    · show IsV (upd m.F c.toNat v i)
      by_cases e : i = c.toNat
      · subst e; rw [upd_same]; exact hv
      · rw [upd_other _ _ e]; exact h.fv i hi hk
    · have e' : m.op = false := e
      rw [ho] at e'
      cases e'
  · exact h

section

variable {Q : Nat → Prop} {f : Frm} {p : Pl} {F : Nat → Int} {T : Int} {op : Bool} {S : Nat → St} {vE : Value} {E : List Ev} {w : World}

end

theorem Gone.setF {p : Pl} {vE vE' : Value} {w w1 : World} (h : Gone p vE vE' w w1) (q : Nat) (v : Value) : Gone p vE vE' w (w1.setCell ⟨p.bF, q, none⟩ v) := ⟨h.1.setCell _ _ (Or.inr (Or.inl rfl)), h.2⟩

/-- P8's answer and what it leaves. -/
def ackNo (f : Frm) (m : Cs) (r : Int) : Int := if m.op = false then 10 else if r < 0 ∨ (f.k : Int) ≤ r then 6 else if (m.S r.toNat).lit = false ∨ (m.S r.toNat).acked = true then 11 else 0

def ackM (f : Frm) (m : Cs) (r : Int) : Cs := if ackNo f m r = 0 then ⟨m.F, m.T, m.op, upd m.S r.toNat ⟨(m.S r.toNat).lit, (m.S r.toNat).since, (m.S r.toNat).level, true⟩, m.E⟩ else m

theorem ackM_ok {f : Frm} {m : Cs} (h : m.Ok f) (r : Int) : (ackM f m r).Ok f := by
  unfold ackM
  split
  · rename_i h0
    have ho : m.op = true := by
      unfold ackNo at h0
      split at h0
      · cases h0
      · rename_i h1; simpa using h1
    refine ⟨h.t0, h.t1, h.fv, fun i hi => ?_, fun _ i hi => ?_, fun e => ?_⟩
    · show StOk (upd m.S r.toNat _ i)
      by_cases e : i = r.toNat
      · subst e; rw [upd_same]; exact h.st _ hi
      · rw [upd_other _ _ e]; exact h.st i hi
    · show (_ → upd m.S r.toNat _ i = _) ∧ (_ → (upd m.S r.toNat _ i).lit = true)
      have hc := h.lit ho i hi
      by_cases e : i = r.toNat
      · subst e
        rw [upd_same]
        refine ⟨fun g => ?_, fun g => hc.2 g⟩
        have := hc.1 g
        unfold ackNo at h0
        rw [if_neg (by simp [ho])] at h0
        split at h0
        · cases h0
        split at h0
        · cases h0
        · rename_i h2
          rw [this] at h2
          simp at h2
      · rw [upd_other _ _ e]; exact hc
    · have e' : m.op = false := e
      rw [ho] at e'
      cases e'
  · exact h

/-- P9's answer and what it leaves. -/
def closeNo (m : Cs) : Int := if m.op = false then 10 else 0

def closeM (f : Frm) (m : Cs) : Cs := if m.op = false then m else ⟨m.F, m.T, false, fun i => if i < f.k then noSt else m.S i, m.E⟩

theorem closeM_ok {f : Frm} {m : Cs} (h : m.Ok f) : (closeM f m).Ok f := by
  unfold closeM
  split
  · exact h
  · refine ⟨h.t0, h.t1, h.fv, fun i hi => ?_, fun e => (by cases e), fun _ i hi => ?_⟩
    · show StOk (if i < f.k then noSt else m.S i)
      rw [if_pos hi]
      exact ⟨Int.le_refl _, by show (0 : Int) ≤ _; omega, Int.le_refl _, by show (0 : Int) ≤ _; omega⟩
    · show (if i < f.k then noSt else m.S i) = _
      rw [if_pos hi]

def shutTo (S : Nat → St) (i : Nat) : Nat → St := fun j => if j < i then noSt else S j

theorem shut_next (S : Nat → St) (i : Nat) : upd (shutTo S i) i ⟨false, 0, 0, false⟩ = shutTo S (i + 1) := by
  funext j
  unfold upd shutTo
  by_cases e : j = i
  · subst e; rw [if_pos rfl, if_pos (by omega)]; rfl
  · rw [if_neg e]
    by_cases h : j < i
    · rw [if_pos h, if_pos (by omega)]
    · rw [if_neg h, if_neg (by omega)]

/-- P7: a rule's state. -/
def rulS (f : Frm) (m : Cs) (r : Int) : St := if 0 ≤ r ∧ r < f.k then m.S r.toNat else noSt

def rulE (f : Frm) (r : Int) : Int := if 0 ≤ r ∧ r < f.k then 0 else 6

def St.val (s : St) : Value := .agg #[.bool s.lit, .int .i64 s.since, .int .i64 s.level, .bool s.acked]

def RAns (f : Frm) (m : Cs) (r : Int) (w : World) (e : Ending) (w' : World) : Prop := e = .returned (.tuple #[(rulS f m r).val, .int .i64 (rulE f r)]) ∧ Below w.heap.size w w'

theorem rans_no {f : Frm} {m : Cs} {r : Int} {w w' : World} (h : ¬ (0 ≤ r ∧ r < f.k)) (hb : Below w.heap.size w w') : RAns f m r w (.returned (.tuple #[.agg #[.bool false, .int .i64 0, .int .i64 0, .bool false], .int .i64 6])) w' := ⟨by unfold rulS rulE; rw [if_neg h, if_neg h]; rfl, hb⟩

theorem rans_yes {f : Frm} {m : Cs} {i : Nat} {w w' : World} (h : i < f.k) (hb : Below w.heap.size w w') : RAns f m i w (.returned (.tuple #[.agg #[.bool (m.S i).lit, .int .i64 (m.S i).since, .int .i64 (m.S i).level, .bool (m.S i).acked], .int .i64 0])) w' := ⟨by unfold rulS rulE; rw [if_pos (by omega), if_pos (by omega)]; rfl, hb⟩

end Go.Proofs.YtnkolbngeibhpaaDoor
