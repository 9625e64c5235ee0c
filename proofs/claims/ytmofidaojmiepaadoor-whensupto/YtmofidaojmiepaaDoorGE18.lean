/-
  ONE CASE: its calls, the room of its log left unsaid.
-/
import Derived.Test.YtmofidaojmiepaaDoorGE15
set_option linter.unusedVariables false
set_option linter.unusedSimpArgs false
namespace Go.Proofs.YtmofidaojmiepaaDoor
open Go.RowKit
attribute [local go_sem ↓] Go.wp_at_zero Go.wp_at_succ

section
variable {Z : Nat → Prop} {b np : Nat} {P : Nat → KP} {w w' : World}
theorem lvalue (h : LS Z b np P w) {i : Nat} (hi : i < np) (c : Int) : Calls Tryd.prog 31 #[.pointer (some ⟨(P i).p.bp, 0, none⟩), .int .i64 c] w fun e w' => VAns (P i).f (P i).c.F (P i).c.T c w e w' := by
  obtain ⟨tag, h1, _⟩ := h
  exact kValue_any c (h1.kst i hi) (h1.fok i hi) (h1.kok i hi).1
theorem lwhen (h : LS Z b np P w) {i : Nat} (hi : i < np) (c : Int) : Calls Tryd.prog 32 #[.pointer (some ⟨(P i).p.bp, 0, none⟩), .int .i64 c] w fun e w' => WnP (P i).f (P i).c c w e w' := by
  obtain ⟨tag, h1, _⟩ := h
  exact kWhen_any c (h1.kst i hi) (h1.fok i hi) (h1.kok i hi).1
theorem lnext (h : LS Z b np P w) {i : Nat} (hi : i < np) : Calls Tryd.prog 33 #[.pointer (some ⟨(P i).p.bp, 0, none⟩)] w fun e w' => NxP (P i).f (P i).c w e w' := by
  obtain ⟨tag, h1, _⟩ := h
  exact kNext_any (h1.kst i hi) (h1.fok i hi) (h1.kok i hi).1
theorem lrule (h : LS Z b np P w) {i : Nat} (hi : i < np) (r : Int) : Calls Tryd.prog 59 #[.pointer (some ⟨(P i).p.bp, 0, none⟩), .int .i64 r] w fun e w' => RAns (P i).f (P i).c r w e w' := by
  obtain ⟨tag, h1, _⟩ := h
  exact kRule_any r (h1.kst i hi)
theorem LS.qlt (h : LS Z b np P w) {i : Nat} (hi : i < np) : ∀ j, (P i).Q j → j < w.heap.size := by
  obtain ⟨tag, h1, _⟩ := h
  exact KSt.qlt (h1.kst i hi)
end

/-- One case, and blocks that are nobody's. -/
def C1 (Z : Nat → Prop) (b : Nat) (f : Frm) (Q : Nat → Prop) (p : KPl) (m : Cs) (w : World) : Prop := ∃ v, LS Z b 1 (fun _ => ⟨Q, p, v, f, m⟩) w
/-- What a call on it leaves. -/
def C1P (r : Value) (Z : Nat → Prop) (b : Nat) (f : Frm) (Q : Nat → Prop) (p : KPl) (m : Cs) (w : World) (e : Ending) (w' : World) : Prop := e = .returned r ∧ C1 Z b f Q p m w' ∧ StZ Z w w'
/-- What makes it. -/
def C1A (Z : Nat → Prop) (b : Nat) (f : Frm) (m : Cs) (w : World) (e : Ending) (w' : World) : Prop := ∃ Q p, e = .returned (.pointer (some ⟨p.bp, 0, none⟩)) ∧ C1 Z b f Q p m w' ∧ StZ Z w w'

section
variable {Z : Nat → Prop} {b : Nat} {f : Frm} {Q : Nat → Prop} {p : KPl} {m : Cs} {w w' : World}

theorem C1P.of {r : Value} {m' : Cs} {v : Value} {e : Ending} (g : LsC r Z b 1 (fun _ => ⟨Q, p, v, f, m⟩) 0 m' w e w') : C1P r Z b f Q p m' w e w' := by
  obtain ⟨g0, v', g1, g2⟩ := g
  exact ⟨g0, ⟨v', g1.congr (fun i hi => by
    have e : i = 0 := by omega
    subst e
    exact upd_same _ _ _)⟩, g2⟩
theorem C1A.of {P : Nat → KP} {m' : Cs} {e : Ending} (g : LsA Z b 0 P f m' w e w') : C1A Z b f m' w e w' := by
  obtain ⟨Q, p, v, g0, g1, g2⟩ := g
  exact ⟨Q, p, g0, ⟨v, g1.congr (fun i hi => by
    have e : i = 0 := by omega
    subst e
    exact upd_same _ _ _)⟩, g2⟩
theorem C1P.as {r r' : Value} {m' : Cs} {e : Ending} (h : C1P r Z b f Q p m w e w') (hr : r = r') (hm : m = m') : C1P r' Z b f Q p m' w e w' := by
  subst hr hm
  exact h

theorem C1.lt (h : C1 Z b f Q p m w) : ∀ j, Z j → j < w.heap.size := by obtain ⟨v, h⟩ := h; exact h.lt
theorem C1.drop (h : C1 Z b f Q p m w) (hb : Below w.heap.size w w') : C1 (zup Z w w') b f Q p m w' := by obtain ⟨v, h⟩ := h; exact ⟨v, h.drop hb⟩
theorem C1.less (h : C1 Z b f Q p m w) {Z' : Nat → Prop} (hz : ∀ j, Z' j → Z j) : C1 Z' b f Q p m w := by obtain ⟨v, h⟩ := h; exact ⟨v, h.less hz⟩
theorem C1.keep (h : C1 Z b f Q p m w) (hb : Below w.heap.size w w') : C1 Z b f Q p m w' := by obtain ⟨v, h⟩ := h; exact ⟨v, h.keep hb⟩
theorem C1.up (h : C1 Z b f Q p m w) {b2 : Nat} (hb : b ≤ b2) : C1 Z b2 f Q p m w := by obtain ⟨v, h⟩ := h; exact ⟨v, h.up hb⟩
theorem C1.fok (h : C1 Z b f Q p m w) : f.Ok := by obtain ⟨v, h⟩ := h; exact h.fok (i := 0) (by omega)
theorem C1.mok (h : C1 Z b f Q p m w) : m.Ok f := by obtain ⟨v, h⟩ := h; exact h.mok (i := 0) (by omega)
theorem C1.len (h : C1 Z b f Q p m w) (hb : b ≤ 10000000000) : m.E.length ≤ 999999999000 := by obtain ⟨v, h⟩ := h; exact h.len (i := 0) (by omega) hb
theorem C1.qlt (h : C1 Z b f Q p m w) : ∀ j, Q j → j < w.heap.size := by obtain ⟨v, h⟩ := h; exact h.qlt (i := 0) (by omega)

theorem c1opened (ht : Tab w) (hf : f.Ok) {fv : Value} (hfv : FAt w f fv) : Calls Tryd.prog 13 #[fv] w fun e w' => C1A (fun j => j < w.heap.size) 1 f (beginM f) w e w' :=
  (lopened (LS.start ht (fun _ => ⟨fun _ => False, kpl0, .bool false, f, beginM f⟩) 1) (by omega) hf hfv).mono (fun _ _ g => C1A.of g)
theorem c1begun (ht : Tab w) (hf : f.Ok) {fv : Value} (hfv : FAt w f fv) {aS : Option Addr} {mm cS : Nat} {S : Nat → StK} (hsc : ScK w aS mm S) (hm : mm ≤ 1048576) (at' : Int) (ha0 : 0 ≤ at') (ha1 : at' ≤ 1000000000) :
    Calls Tryd.prog 28 #[fv, .slice aS mm cS, .int .i64 at'] w fun e w' => C1A (fun j => j < w.heap.size) (1 + mm) f (advM f (fillM f S mm) at') w e w' :=
  (lbegun (LS.start ht (fun _ => ⟨fun _ => False, kpl0, .bool false, f, beginM f⟩) 1) (Below.refl _ _) (fun j hj => hj) hf hfv hsc hm (by omega) (by omega) at' ha0 ha1).mono (fun _ _ g => C1A.of g)
theorem c1set (h : C1 Z b f Q p m w) (hb : b ≤ 10000000000) (c v : Int) : Calls Tryd.prog 18 #[.pointer (some ⟨p.bp, 0, none⟩), .int .i64 c, .int .i64 v] w fun e w' => C1P (.int .i64 (setNo f m c v)) Z (b + 1) f Q p (setM f m c v) w e w' := by
  obtain ⟨v', h⟩ := h
  exact (lset h (i := 0) (by omega) hb c v).mono (fun _ _ g => C1P.of g)
theorem c1adv (h : C1 Z b f Q p m w) (hb : b ≤ 10000000000) (tq : Int) : Calls Tryd.prog 20 #[.pointer (some ⟨p.bp, 0, none⟩), .int .i64 tq] w fun e w' => C1P (.int .i64 (advAns m.T tq)) Z b f Q p (advM f m tq) w e w' := by
  obtain ⟨v', h⟩ := h
  exact (ladv h (i := 0) (by omega) hb tq).mono (fun _ _ g => C1P.of g)
theorem c1ack (h : C1 Z b f Q p m w) (r : Int) : Calls Tryd.prog 39 #[.pointer (some ⟨p.bp, 0, none⟩), .int .i64 r] w fun e w' => C1P (.int .i64 (ackNo f m r)) Z b f Q p (ackM f m r) w e w' := by
  obtain ⟨v', h⟩ := h
  exact (lack h (i := 0) (by omega) r).mono (fun _ _ g => C1P.of g)
theorem c1close (h : C1 Z b f Q p m w) : Calls Tryd.prog 38 #[.pointer (some ⟨p.bp, 0, none⟩)] w fun e w' => C1P (.int .i64 (closeNo m)) Z b f Q p (closeM f m) w e w' := by
  obtain ⟨v', h⟩ := h
  exact (lclose h (i := 0) (by omega)).mono (fun _ _ g => C1P.of g)
theorem c1look (h : C1 Z b f Q p m w) (hb : b ≤ 10000000000) {fv : Value} (hfv : FAt w f fv) : Calls Tryd.prog 23 #[.pointer (some ⟨p.bp, 0, none⟩), fv] w fun e w' => LoP f m w e w' := by
  obtain ⟨v', h⟩ := h
  exact llook h (i := 0) (by omega) hb hfv
theorem c1now (h : C1 Z b f Q p m w) : Calls Tryd.prog 21 #[.pointer (some ⟨p.bp, 0, none⟩)] w fun e w' => e = .returned (.int .i64 m.T) ∧ w' = w := by
  obtain ⟨v', h⟩ := h
  exact lnow h (i := 0) (by omega)
theorem c1value (h : C1 Z b f Q p m w) (c : Int) : Calls Tryd.prog 31 #[.pointer (some ⟨p.bp, 0, none⟩), .int .i64 c] w fun e w' => VAns f m.F m.T c w e w' := by
  obtain ⟨v', h⟩ := h
  exact lvalue h (i := 0) (by omega) c
theorem c1when (h : C1 Z b f Q p m w) (c : Int) : Calls Tryd.prog 32 #[.pointer (some ⟨p.bp, 0, none⟩), .int .i64 c] w fun e w' => WnP f m c w e w' := by
  obtain ⟨v', h⟩ := h
  exact lwhen h (i := 0) (by omega) c
theorem c1next (h : C1 Z b f Q p m w) : Calls Tryd.prog 33 #[.pointer (some ⟨p.bp, 0, none⟩)] w fun e w' => NxP f m w e w' := by
  obtain ⟨v', h⟩ := h
  exact lnext h (i := 0) (by omega)
theorem c1rule (h : C1 Z b f Q p m w) (r : Int) : Calls Tryd.prog 59 #[.pointer (some ⟨p.bp, 0, none⟩), .int .i64 r] w fun e w' => RAns f m r w e w' := by
  obtain ⟨v', h⟩ := h
  exact lrule h (i := 0) (by omega) r
theorem c1play (h : C1 Z b f Q p m w) {w0 : World} (hw0 : Below w0.heap.size w0 w) (hz : ∀ j, j < w0.heap.size → Z j) {fv : Value} (hfv : FAt w0 f fv) {aS : Option Addr} {mm cS : Nat} {S : Nat → StK} (hsc : ScK w0 aS mm S) (hop : m.op = true) (hm : mm ≤ 1048576) (hbb : b ≤ 8000000000) :
    Calls Tryd.prog 35 #[.pointer (some ⟨p.bp, 0, none⟩), fv, .slice aS mm cS] w fun e w' => C1P (.bool true) Z (b + mm) f Q p (playM f m S mm) w e w' := by
  obtain ⟨v', h⟩ := h
  exact (lplay h hw0 hz hfv hsc (i := 0) (by omega) rfl hop hm hbb).mono (fun _ _ g => C1P.of g)

/-- A call made over a box, and what of it is seen without the box. -/
theorem C1P.out {r : Value} {m' : Cs} {e : Ending} {b' : Nat} {w1 : World} (hb : Below w.heap.size w w1) (hz : ∀ j, Z j → j < w.heap.size) (h : C1P r (zup Z w w1) b' f Q p m' w1 e w') : C1P r Z b' f Q p m' w e w' := by
  obtain ⟨h0, h1, h2⟩ := h
  exact ⟨h0, h1.less (fun _ h => Or.inl h), (StZ.of hb hz).trans (h2.less (fun _ h => Or.inl h))⟩
end

end Go.Proofs.YtmofidaojmiepaaDoor

/-
  PLAIN MATHEMATICS: up to the instant that Next tells.
-/
set_option linter.unusedVariables false
set_option linter.unusedSimpArgs false
namespace Go.Proofs.YtmofidaojmiepaaDoor
open Go.RowKit

/-- Where values stay and nothing is logged, settling does nothing. -/
theorem same_settle {f : Frm} (hf : f.Ok) {m : Cs} (h : m.Ok f) {t : Int} (s1 : ∀ i, i < f.n → f.vals m.F t i = f.vals m.F m.T i) (s2 : (Cs.settle f (m.at t)).E.length = m.E.length) : Cs.settle f (m.at t) = m.at t := by
  by_cases ho : (m.at t).op = true
  · have hg := grd_eq (fun i hi => ⟨(hf.rules i hi).1, (hf.rules i hi).2.1⟩) s1
    have hc := h.lit ho
    have e0 : Cs.settle f (m.at t) = ⟨m.F, t, m.op, setS f (f.vals m.F t) t m.S, m.E ++ setE f (f.vals m.F t) t m.S⟩ := by unfold Cs.settle; rw [if_pos ho]; rfl
    rw [e0] at s2 ⊢
    have e2 : setE f (f.vals m.F t) t m.S = [] := by
      have h2 : (m.E ++ setE f (f.vals m.F t) t m.S).length = m.E.length := s2
      rw [List.length_append] at h2
      exact List.eq_nil_of_length_eq_zero (by omega)
    have e3 := e2
    unfold setE at e3
    rw [List.flatMap_eq_nil_iff] at e3
    have e1 : setS f (f.vals m.F t) t m.S = m.S := by
      funext i
      unfold setS
      by_cases hi : i < f.k
      · rw [if_pos hi]
        obtain ⟨c0, c1⟩ := hc i hi
        have h3 := e3 i (List.mem_range.2 hi)
        rw [hg i hi] at h3 ⊢
        unfold stepSt
        unfold stepEv at h3
        by_cases g0 : grd f.R (f.vals m.F m.T) i = 0
        · rw [if_pos g0]; exact (c0 g0).symm
        · have hl : ¬ (m.S i).lit = false := by have := c1 g0; simp [this]
          rw [if_neg g0, if_neg hl] at h3 ⊢
          split at h3
          · cases h3
          · rename_i hn
            rw [if_neg hn]
      · rw [if_neg hi]
    rw [e1, e2, List.append_nil]
    rfl
  · unfold Cs.settle
    rw [if_neg ho]

theorem go_same {f : Frm} (hf : f.Ok) {m : Cs} (h : m.Ok f) : ∀ j : Nat, (∀ u, m.T < u → u ≤ m.T + j → SameAt f m u) → m.go f j = m.at (m.T + j) := by
  intro j
  induction j with
  | zero =>
    intro _
    show m = m.at (m.T + (0 : Nat))
    rw [show m.T + ((0 : Nat) : Int) = m.T by omega]
    rfl
  | succ j ih =>
    intro hs
    have e : m.go f (j + 1) = Cs.settle f (m.at (m.T + (j + 1 : Nat))) := by
      show Cs.settle f ((Cs.go f m j).at _) = _
      rw [ih (fun u a b => hs u a (by omega))]
      rfl
    obtain ⟨s1, s2⟩ := hs (m.T + (j + 1 : Nat)) (by omega) (Int.le_refl _)
    rw [show (m.T + ((j + 1 : Nat) : Int) - m.T).toNat = j + 1 by omega, e] at s2
    rw [e]
    exact same_settle hf h s1 s2

/-- The clock goes on where nothing comes about. -/
theorem adv_same {f : Frm} (hf : f.Ok) {m : Cs} (h : m.Ok f) {t : Int} (h0 : m.T ≤ t) (h1 : t ≤ 1000000000) (hs : ∀ u, m.T < u → u ≤ t → SameAt f m u) : advM f m t = m.at t := by
  unfold advM
  rw [if_neg (by omega), go_same hf h _ (fun u a b => hs u a (by omega)), show m.T + (((t - m.T).toNat : Nat) : Int) = t by omega]

/-- To the instant that Next tells, or to one ahead of it. -/
theorem adv_hop {f : Frm} (hf : f.Ok) {m : Cs} (h : m.Ok f) {t : Int} (h0 : m.T < t) (h1 : t ≤ 1000000000) (hs : ∀ u, m.T < u → u < t → SameAt f m u) : advM f m t = Cs.settle f (m.at t) := by
  unfold advM
  rw [if_neg (by omega)]
  obtain ⟨j, hj⟩ : ∃ j : Nat, (t - m.T).toNat = j + 1 := ⟨(t - m.T).toNat - 1, by omega⟩
  rw [hj]
  show Cs.settle f ((Cs.go f m j).at (m.T + (j + 1 : Nat))) = _
  rw [go_same hf h j (fun u a b => hs u a (by omega)), show m.T + ((j + 1 : Nat) : Int) = t by omega]
  rfl

theorem at_self (m : Cs) : m.at m.T = m := rfl

/-- What Next's answer says of the clock. -/
structure HopSay (f : Frm) (m : Cs) (t : Int) : Prop where
  lt : m.T < t
  le : t ≤ 1000000000
  a0 : advM f m (t - 1) = m.at (t - 1)
  v0 : ∀ i, i < f.n → f.vals m.F (t - 1) i = f.vals m.F m.T i
  a1 : advM f (m.at (t - 1)) t = advM f m t
  no : (¬ ∀ i, i < f.n → f.vals m.F m.T i = f.vals m.F t i) ∨ m.E.length < (advM f m t).E.length

theorem hop_yes {f : Frm} (hf : f.Ok) {m : Cs} (h : m.Ok f) {t : Int} (hx : NexIs f m t true) : HopSay f m t := by
  rcases hx with ⟨_, h1, h2, h3, h4⟩ | ⟨e, _⟩
  · have e0 : advM f m (t - 1) = m.at (t - 1) := adv_same hf h (by omega) (by omega) (fun u a b => h4 u a (by omega))
    refine ⟨h1, h2, e0, fun i hi => ?_, ?_, ?_⟩
    · rcases Int.lt_or_le m.T (t - 1) with hl | hl
      · exact (h4 (t - 1) hl (by omega)).1 i hi
      · rw [show t - 1 = m.T by omega]
    · rw [← e0]
      exact adv_adv f m (by omega) (by omega) h2
    · by_cases hv : ∀ i, i < f.n → f.vals m.F m.T i = f.vals m.F t i
      · refine Or.inr ?_
        have e2 : advM f m t = m.go f (t - m.T).toNat := by unfold advM; rw [if_neg (by omega)]
        rw [e2]
        have := go_grows f m (t - m.T).toNat
        have hne : (m.go f (t - m.T).toNat).E.length ≠ m.E.length := fun e => h3 ⟨fun i hi => (hv i hi).symm, e⟩
        omega
      · exact Or.inl hv
  · cases e

theorem hop_no {f : Frm} (hf : f.Ok) {m : Cs} (h : m.Ok f) {t : Int} (hx : NexIs f m t false) : t = 0 ∧ advM f m 1000000000 = m.at 1000000000 ∧ ∀ i, i < f.n → f.vals m.F m.T i = f.vals m.F 1000000000 i := by
  rcases hx with ⟨e, _⟩ | ⟨_, h1, h2⟩
  · cases e
  · refine ⟨h1, adv_same hf h h.t1 (by omega) (fun u a b => h2 u a b), fun i hi => ?_⟩
    rcases Int.lt_or_le m.T 1000000000 with hl | hl
    · exact ((h2 1000000000 hl (by omega)).1 i hi).symm
    · rw [show m.T = 1000000000 by have := h.t1; omega]

end Go.Proofs.YtmofidaojmiepaaDoor

/-
  THE WALKS: docketkeep's valueAt; what When and Next tell of each other.
-/
set_option linter.unusedVariables false
set_option linter.unusedSimpArgs false
namespace Go.Proofs.YtmofidaojmiepaaDoor
open Go.RowKit
attribute [local go_sem ↓] Go.wp_at_zero Go.wp_at_succ

theorem when_next {f : Frm} {m : Cs} {k : Nat} {t n : Int} {ok : Bool} (hk : k < f.n) (hx : WhenIs f m k t true) (hn : NexIs f m n ok) : ok = true ∧ n ≤ t := by
  rcases hx with ⟨_, h1, h2, h3, h4⟩ | ⟨e, _⟩
  · have no : ¬ SameAt f m t := fun h => h3 (h.1 k hk)
    rcases hn with ⟨e, n1, n2, n3, n4⟩ | ⟨e, n1, n2⟩
    · refine ⟨e, ?_⟩
      rcases Int.lt_or_le t n with hl | hl
      · exact (no (n4 t h1 hl)).elim
      · exact hl
    · exact (no (n2 t h1 h2)).elim
  · cases e

def VtP (v : Int) (w : World) (e : Ending) (w' : World) : Prop := e = .returned (.tuple #[.int .i64 v, .bool true]) ∧ Below w.heap.size w w'

set_option maxRecDepth 100000 in
set_option maxHeartbeats 1000000 in
theorem kvalueAt_any {f : Frm} (hf : f.Ok) {w : World} (ht : Tab w) {fv : Value} (hfv : FAt w f fv) {aS : Option Addr} {mm cS : Nat} {S : Nat → StK} (hsc : ScK w aS mm S) (hm : mm ≤ 1048576) (at' : Int) (ha0 : 0 ≤ at') (ha1 : at' ≤ 1000000000) {k : Nat} (hk : k < f.n) :
    Calls Tryd.prog 34 #[fv, .slice aS mm cS, .int .i64 at', .int .i64 k] w fun e w' => VtP (f.vals (fillM f S mm).F at' k) w e w' := by
  have HFV := hid hfv
  obtain ⟨aC, cC, aR, cR, aH, cH, rfl, _, _, _⟩ := hfv
  have BX := hid (Below.refl (w.heap.size + 1) (w.alloc (.cells #[.slice aC f.n cC, .slice aR f.k cR, .int .i64 f.week, .slice aH f.hol.length cH] 26)))
  have BW := hid (boxed_below BX.out)
  have BG := hid (c1begun (cS := cS) (ht.below BW.out (Nat.le_refl _)) hf (HFV.out.below BW.out) (hsc.below BW.out) hm at' ha0 ha1)
  have EV : Hid (valV f (advM f (fillM f S mm) at').F (advM f (fillM f S mm) at').T (k : Int) = f.vals (fillM f S mm).F at' k ∧ valE f (k : Int) = 0) := by
    refine ⟨?_, by unfold valE; rw [if_pos (by omega)]⟩
    show valV _ _ _ _ = _
    rw [advM_F, advM_T f _ (by rw [fillM_T]; exact ha0) ha1]
    unfold valV
    rw [if_pos (by omega)]
    rfl
  clear hf ht hsc HFV BX
  generalize advM f (fillM f S mm) at' = ma at *
  generalize f.vals (fillM f S mm).F at' k = v at *
  go_enter Tryd.func34, Tryd.ntmps34
  go_wp2_with fail
  refine BG.out.mono ?_
  rintro e w1 ⟨Q, p, rfl, c1, s1⟩
  have B1 : Hid (Below w.heap.size w w1) := BW.out.trans ((s1.below (Below.refl _ _) (fun j hj => hj)).mono (by simp))
  have VA : Hid (Calls Tryd.prog 31 #[.pointer (some ⟨p.bp, 0, none⟩), .int .i64 k] w1 fun e w' => e = .returned (.tuple #[.int .i64 v, .int .i64 0]) ∧ Below w1.heap.size w1 w') := (c1value c1 k).mono (fun e w' g => by
    obtain ⟨g1, g2⟩ := g
    rw [EV.out.1, EV.out.2] at g1
    exact ⟨g1, g2⟩)
  clear c1 s1 BG EV BW
  go_wp2_with fail
  refine VA.out.mono ?_
  rintro e w2 ⟨rfl, hb2⟩
  have R : Hid (VtP v w (.returned (.tuple #[.int .i64 v, .bool true])) w2) := ⟨rfl, B1.out.trans (hb2.mono B1.out.size)⟩
  clear hb2 VA B1
  go_wp2
  go_ret2
  exact R.out

end Go.Proofs.YtmofidaojmiepaaDoor

/-
  THE WALKS: docketkeep.Whens.
-/
set_option linter.unusedVariables false
set_option linter.unusedSimpArgs false
namespace Go.Proofs.YtmofidaojmiepaaDoor
open Go.RowKit
attribute [local go_sem ↓] Go.wp_at_zero Go.wp_at_succ

set_option maxRecDepth 100000 in
set_option maxHeartbeats 4000000 in
theorem kwhens_any (C : Nat → Cel) (R : Nat → Rul) (hol : List Int) (aC aR aH : Option Addr) (n cC k cR cH : Nat) (week : Int) (w : World) (ht : Tab w) (hn : n ≤ 1000000000) (hk : k ≤ 1000000000) (hhl : hol.length ≤ 1000000000) (h64 : Raw64 C n R k week hol)
    (hcs : CAt w aC n C) (hrs : RAt w aR k R) (hhs : IntsAt w (.slice aH hol.length cH) hol) {aS : Option Addr} {mS cS : Nat} {S : Nat → StK} (hsc : ScK w aS mS S) (hm : mS ≤ 1048576) (at' cell by' : Int) (h1 : I64k at') (h2 : I64k cell) (h3 : I64k by') :
    Calls Tryd.prog 8 #[.agg #[.slice aC n cC, .slice aR k cR, .int .i64 week, .slice aH hol.length cH], .slice aS mS cS, .int .i64 at', .int .i64 cell, .int .i64 by'] w fun e w' => TPost w e w' := by
  have BX := hid (Below.refl (w.heap.size + 1) (w.alloc (.cells #[.slice aC n cC, .slice aR k cR, .int .i64 week, .slice aH hol.length cH] 26)))
  have BW := hid (boxed_below BX.out)
  have SH := hid (kshaped_any C R hol aC aR aH n cC k cR cH week _ hn hk hhl h64 (hcs.below BW.out) (hrs.below BW.out) (SlAt.below hhs BW.out (Nat.le_refl _)))
  have FSO := hid (shF_ok C n R k week hol)
  have HT := hid ht
  have HSC := hid hsc
  clear hcs hrs hhs h64 ht hsc
  generalize shF C n R k week hol = f at *
  go_enter Tryd.func8, Tryd.ntmps8
  go_wp2_with fail
  refine SH.out.mono ?_
  rintro e w1 ⟨fv, rfl, fa, hb1⟩
  have FA := hid fa
  obtain ⟨aC', cC', aR', cR', aH', cH', rfl, fa1, fa2, fa3⟩ := fa
  clear fa1 fa2 fa3
  have B1 : Hid (Below w.heap.size w w1) := BW.out.trans (hb1.mono (by simp))
  clear hb1 BX BW SH
  have BX := hid (Below.refl (w1.heap.size + 1) (w1.alloc (.cells #[.slice aC' f.n cC', .slice aR' f.k cR', .int .i64 f.week, .slice aH' f.hol.length cH'] 26)))
  have BB := hid (boxed_below BX.out)
  have f0 : (w1.alloc (.cells #[.slice aC' f.n cC', .slice aR' f.k cR', .int .i64 f.week, .slice aH' f.hol.length cH'] 26)).cell? ⟨w1.heap.size, 0, none⟩ = some (Value.slice aC' f.n cC') := boxed BX.out 0
  have f1 : (w1.alloc (.cells #[.slice aC' f.n cC', .slice aR' f.k cR', .int .i64 f.week, .slice aH' f.hol.length cH'] 26)).cell? ⟨w1.heap.size, 1, none⟩ = some (Value.slice aR' f.k cR') := boxed BX.out 1
  have f2 : (w1.alloc (.cells #[.slice aC' f.n cC', .slice aR' f.k cR', .int .i64 f.week, .slice aH' f.hol.length cH'] 26)).cell? ⟨w1.heap.size, 2, none⟩ = some (.int .i64 f.week) := boxed BX.out 2
  have f3 : (w1.alloc (.cells #[.slice aC' f.n cC', .slice aR' f.k cR', .int .i64 f.week, .slice aH' f.hol.length cH'] 26)).cell? ⟨w1.heap.size, 3, none⟩ = some (Value.slice aH' f.hol.length cH') := boxed BX.out 3
  have zg : w1.heap.size < (w1.alloc (.cells #[.slice aC' f.n cC', .slice aR' f.k cR', .int .i64 f.week, .slice aH' f.hol.length cH'] 26)).heap.size := by simp
  have B0 : Hid (Below w.heap.size w (w1.alloc (.cells #[.slice aC' f.n cC', .slice aR' f.k cR', .int .i64 f.week, .slice aH' f.hol.length cH'] 26))) := B1.out.trans (BB.out.mono B1.out.size)
  have FA0 := hid (FA.out.below BB.out)
  have SC0 := hid (HSC.out.below B0.out)
  have T0 := hid (HT.out.below B0.out (Nat.le_refl _))
  clear BX BB FA B1 HT HSC
  go_upto_region 2 with (fail)
  generalize w1.alloc (.cells #[.slice aC' f.n cC', .slice aR' f.k cR', .int .i64 f.week, .slice aH' f.hol.length cH'] 26) = w0 at *
  generalize w1.heap.size = g at *
  obtain ⟨n1, n20, k6, _, _⟩ := FSO.out.ok.sizes
  have INS := hid (fun W => kinstant_any at' W h1)
  obtain ⟨p0, p1⟩ := pickI_bd at' (n := 1000000001) (by omega)
  have PC := hid (fun W => kpick_any cell f.n W h2 (by omega) (by omega))
  obtain ⟨kk, hkk⟩ := Int.eq_ofNat_of_zero_le (pickI_bd cell (n := f.n) (by omega)).1
  have hk' : kk < f.n := by have := (pickI_bd cell (n := f.n) (by omega)).2; omega
  rw [hkk] at PC
  clear hkk
  generalize pickI at' 1000000001 = ta at *
  go_wp2_with fail
  refine (INS.out _).mono ?_
  rintro e w' ⟨rfl, hw⟩
  rw [hw]
  clear hw w' INS
  go_wp2_with fail
  refine (PC.out _).mono ?_
  rintro e w' ⟨rfl, hw⟩
  rw [hw]
  clear hw w' PC
  have BG := hid (c1begun (cS := cS) T0.out FSO.out.ok FA0.out SC0.out hm ta p0 (by omega))
  have VT : Hid (∀ W u, Below w0.heap.size w0 W → 0 ≤ u → u ≤ 1000000000 → Calls Tryd.prog 34 #[.agg #[.slice aC' f.n cC', .slice aR' f.k cR', .int .i64 f.week, .slice aH' f.hol.length cH'], .slice aS mS cS, .int .i64 u, .int .i64 kk] W fun e w' => VtP (f.vals (fillM f S mS).F u kk) W e w') := fun W u hW u0 u1 => kvalueAt_any FSO.out.ok (T0.out.below hW (Nat.le_refl _)) (FA0.out.below hW) (SC0.out.below hW) hm u u0 u1 hk'
  have EM : Hid ((advM f (fillM f S mS) ta).F = (fillM f S mS).F ∧ (advM f (fillM f S mS) ta).T = ta) := ⟨advM_F _ _ _, advM_T f _ (by rw [fillM_T]; exact p0) (by omega)⟩
  generalize advM f (fillM f S mS) ta = m at *
  generalize (fillM f S mS).F = F at *
  go_wp2_with fail
  refine BG.out.mono ?_
  rintro e w1 ⟨Q, p, rfl, c1, s1⟩
  have B1 : Hid (Below w0.heap.size w0 w1) := s1.below (Below.refl _ _) (fun j hj => hj)
  have VA : Hid (Calls Tryd.prog 31 #[.pointer (some ⟨p.bp, 0, none⟩), .int .i64 kk] w1 fun e w' => e = .returned (.tuple #[.int .i64 (f.vals F ta kk), .int .i64 0]) ∧ Below w1.heap.size w1 w') := (c1value c1 kk).mono (fun e w' g => by
    obtain ⟨g1, g2⟩ := g
    refine ⟨?_, g2⟩
    rw [g1, EM.out.1, EM.out.2]
    unfold valV valE
    rw [if_pos (by omega), if_pos (by omega)]
    rfl)
  have C1' := hid c1
  clear c1 s1 BG
  go_wp2_with fail
  refine VA.out.mono ?_
  rintro e w2 ⟨rfl, hb2⟩
  have C2 := hid (C1'.out.keep hb2)
  have B2 := hid (B1.out.trans (hb2.mono B1.out.size))
  have WN := hid (c1when C2.out kk)
  clear hb2 VA B1 C1'
  go_wp2_with fail
  refine WN.out.mono ?_
  rintro e w3 ⟨t, ok, er, rfl, hw, hb3⟩
  have HW : Hid (er = 0 ∧ WhenIs f m kk t ok) := by
    rcases hw with ⟨h, _⟩ | ⟨i, h, _, e, g⟩
    · exact (h (by omega)).elim
    · have : i = kk := by omega
      subst this
      exact ⟨e, g⟩
  have C3 := hid (C2.out.keep hb3)
  have B3 := hid (B2.out.trans (hb3.mono B2.out.size))
  have NX := hid (c1next C3.out)
  clear hb3 hw C2 B2 WN
  go_wp2_with fail
  refine NX.out.mono ?_
  rintro e w4 ⟨n', ok', rfl, hn', hb4⟩
  have HN := hid hn'
  have B4 := hid (B3.out.trans (hb4.mono B3.out.size))
  have m0 := (B4.out.cell (p := ⟨g, 0, none⟩) zg).trans f0
  have m1 := (B4.out.cell (p := ⟨g, 1, none⟩) zg).trans f1
  have m2 := (B4.out.cell (p := ⟨g, 2, none⟩) zg).trans f2
  have m3 := (B4.out.cell (p := ⟨g, 3, none⟩) zg).trans f3
  have zg4 : g < w4.heap.size := by have := B4.out.size; omega
  have e0 := HW.out.1
  subst e0
  clear hb4 hn' C3 B3 NX f0 f1 f2 f3
  cases ok
  · rcases HW.out.2 with ⟨e, _⟩ | ⟨_, t1, t4⟩
    · cases e
    rw [EM.out.2, EM.out.1] at t4
    have hlast : ta ≤ 1000000000 ∧ (1000000000 : Int) ≤ 1000000000 := by omega
    have SAME : Hid (∀ u, ta ≤ u → u ≤ 1000000000 → f.vals F u kk = f.vals F ta kk) := fun u u0 u1 => by
      rcases Int.lt_or_le ta u with hl | hl
      · exact t4 u hl (by omega)
      · rw [show u = ta by omega]
    subst t1
    clear t4 HN HW EM
    obtain ⟨b0, b1⟩ := pickI_bd by' (n := 1000000000 - ta + 1) (by omega)
    have PB : Hid (∀ x W, x = 1000000000 - ta + 1 → Calls Tryd.prog 16 #[.int .i64 by', .int .i64 x] W fun e w' => e = .returned (.int .i64 (pickI by' (1000000000 - ta + 1))) ∧ w' = W) := fun x W hx => by subst hx; exact kpick_any by' _ W h3 (by omega) (by omega)
    generalize pickI by' (1000000000 - ta + 1) = pb at *
    have V1 : Hid (∀ u W, u = ta + pb → Below w4.heap.size w4 W → Calls Tryd.prog 34 #[.agg #[.slice aC' f.n cC', .slice aR' f.k cR', .int .i64 f.week, .slice aH' f.hol.length cH'], .slice aS mS cS, .int .i64 u, .int .i64 kk] W fun e w' => e = .returned (.tuple #[.int .i64 (f.vals F ta kk), .bool true]) ∧ Below w4.heap.size w4 w') := fun u W hu hW => (VT.out W u (B4.out.trans (hW.mono B4.out.size)) (by omega) (by omega)).mono (fun e w' g => ⟨by rw [g.1, SAME.out _ (by omega) (by omega)], hW.trans (g.2.mono hW.size)⟩)
    have V2 : Hid (∀ W, Below w4.heap.size w4 W → Calls Tryd.prog 34 #[.agg #[.slice aC' f.n cC', .slice aR' f.k cR', .int .i64 f.week, .slice aH' f.hol.length cH'], .slice aS mS cS, .int .i64 1000000000, .int .i64 kk] W fun e w' => e = .returned (.tuple #[.int .i64 (f.vals F ta kk), .bool true]) ∧ Below w4.heap.size w4 w') := fun W hW => (VT.out W 1000000000 (B4.out.trans (hW.mono B4.out.size)) (by omega) (by omega)).mono (fun e w' g => ⟨by rw [g.1, SAME.out _ (by omega) (by omega)], hW.trans (g.2.mono hW.size)⟩)
    clear VT SAME
    generalize f.vals F ta kk = wa at *
    go_upto_region 19 with (fail)
    go_region_held3 (fun w' => w'.cell? ⟨g, 0, none⟩ = some (.slice aC' f.n cC') ∧ w'.cell? ⟨g, 1, none⟩ = some (.slice aR' f.k cR') ∧ w'.cell? ⟨g, 2, none⟩ = some (.int .i64 f.week) ∧ w'.cell? ⟨g, 3, none⟩ = some (.slice aH' f.hol.length cH'))
      (refine ⟨?_, ?_, ?_, ?_⟩ <;> assumption)
      (first
        | (go_at_call 16; refine (PB.out _ _ (by simp only [IntKind.wrap_i64]; omega)).mono ?_; rintro e w' ⟨rfl, hw⟩; rw [hw]; clear hw w')
        | (go_at_call 34; refine (V1.out _ _ (by simp only [IntKind.wrap_i64]; omega) (Below.refl _ _).drew).mono ?_; rintro e w5 ⟨rfl, hb5⟩; have m0 : w5.cell? ⟨g, 0, none⟩ = some (.slice aC' f.n cC') := (hb5.cell (p := ⟨g, 0, none⟩) zg4).trans m0; have m1 : w5.cell? ⟨g, 1, none⟩ = some (.slice aR' f.k cR') := (hb5.cell (p := ⟨g, 1, none⟩) zg4).trans m1; have m2 : w5.cell? ⟨g, 2, none⟩ = some (.int .i64 f.week) := (hb5.cell (p := ⟨g, 2, none⟩) zg4).trans m2; have m3 : w5.cell? ⟨g, 3, none⟩ = some (.slice aH' f.hol.length cH') := (hb5.cell (p := ⟨g, 3, none⟩) zg4).trans m3)
        | fail)
    all_goals (
      have B5 := hid hb5
      clear hb5
      go_wp2_with fail
      refine (V2.out _ B5.out).mono ?_
      rintro e w6 ⟨rfl, hb6⟩
      have R : Hid (TPost w (.returned (.bool true)) w6) := ⟨rfl, B0.out.trans ((B4.out.trans (hb6.mono B4.out.size)).mono B0.out.size)⟩
      clear hb6
      go_wp2
      go_ret
      exact R.out)
  · obtain ⟨t1, t2, t3, t4⟩ : m.T < t ∧ t ≤ 1000000000 ∧ f.vals m.F t kk ≠ f.vals m.F m.T kk ∧ ∀ u, m.T < u → u < t → f.vals m.F u kk = f.vals m.F m.T kk := by
      rcases HW.out.2 with ⟨_, t1, t2, t3, t4⟩ | ⟨e, _⟩
      · exact ⟨t1, t2, t3, t4⟩
      · cases e
    rw [EM.out.2] at t1 t4 t3
    rw [EM.out.1] at t3 t4
    obtain ⟨hok, hnt⟩ := when_next hk' HW.out.2 HN.out
    subst hok
    have q1 : ¬ (t ≤ ta) := by omega
    have q2 : ¬ (1000000000 < t) := by omega
    have q3 : ¬ (t < n') := by omega
    have hlast : ta ≤ t - 1 ∧ t - 1 ≤ 1000000000 := by omega
    have SAME : Hid (∀ u, ta ≤ u → u ≤ t - 1 → f.vals F u kk = f.vals F ta kk) := fun u u0 u1 => by
      rcases Int.lt_or_le ta u with hl | hl
      · exact t4 u hl (by omega)
      · rw [show u = ta by omega]
    have WNE : Hid (f.vals F t kk ≠ f.vals F ta kk) := t3
    have tpos : 0 ≤ t := by omega
    clear t3 t4 HN HW EM
    obtain ⟨last, hl⟩ : ∃ l, t - 1 = l := ⟨_, rfl⟩
    rw [hl] at hlast SAME
    obtain ⟨b0, b1⟩ := pickI_bd by' (n := last - ta + 1) (by omega)
    have PB : Hid (∀ x W, x = last - ta + 1 → Calls Tryd.prog 16 #[.int .i64 by', .int .i64 x] W fun e w' => e = .returned (.int .i64 (pickI by' (last - ta + 1))) ∧ w' = W) := fun x W hx => by subst hx; exact kpick_any by' _ W h3 (by omega) (by omega)
    generalize pickI by' (last - ta + 1) = pb at *
    have V1 : Hid (∀ u W, u = ta + pb → Below w4.heap.size w4 W → Calls Tryd.prog 34 #[.agg #[.slice aC' f.n cC', .slice aR' f.k cR', .int .i64 f.week, .slice aH' f.hol.length cH'], .slice aS mS cS, .int .i64 u, .int .i64 kk] W fun e w' => e = .returned (.tuple #[.int .i64 (f.vals F ta kk), .bool true]) ∧ Below w4.heap.size w4 w') := fun u W hu hW => (VT.out W u (B4.out.trans (hW.mono B4.out.size)) (by omega) (by omega)).mono (fun e w' g => ⟨by rw [g.1, SAME.out _ (by omega) (by omega)], hW.trans (g.2.mono hW.size)⟩)
    have V2 : Hid (∀ W, Below w4.heap.size w4 W → Calls Tryd.prog 34 #[.agg #[.slice aC' f.n cC', .slice aR' f.k cR', .int .i64 f.week, .slice aH' f.hol.length cH'], .slice aS mS cS, .int .i64 last, .int .i64 kk] W fun e w' => e = .returned (.tuple #[.int .i64 (f.vals F ta kk), .bool true]) ∧ Below w4.heap.size w4 w') := fun W hW => (VT.out W last (B4.out.trans (hW.mono B4.out.size)) (by omega) (by omega)).mono (fun e w' g => ⟨by rw [g.1, SAME.out _ (by omega) (by omega)], hW.trans (g.2.mono hW.size)⟩)
    have V3 : Hid (∀ W, Below w4.heap.size w4 W → Calls Tryd.prog 34 #[.agg #[.slice aC' f.n cC', .slice aR' f.k cR', .int .i64 f.week, .slice aH' f.hol.length cH'], .slice aS mS cS, .int .i64 t, .int .i64 kk] W fun e w' => e = .returned (.tuple #[.int .i64 (f.vals F t kk), .bool true]) ∧ Below w4.heap.size w4 w') := fun W hW => (VT.out W t (B4.out.trans (hW.mono B4.out.size)) (by omega) (by omega)).mono (fun e w' g => ⟨g.1, hW.trans (g.2.mono hW.size)⟩)
    have dne : (f.vals F t kk != f.vals F ta kk) = true := by have := WNE.out; simp [this]
    clear VT SAME WNE
    have M0 := hid m0
    have M1 := hid m1
    have M2 := hid m2
    have M3 := hid m3
    generalize f.vals F t kk = wt at *
    generalize f.vals F ta kk = wa at *
    go_upto_region 19 with (fail)
    go_region_held3 (fun w' => w'.cell? ⟨g, 0, none⟩ = some (.slice aC' f.n cC') ∧ w'.cell? ⟨g, 1, none⟩ = some (.slice aR' f.k cR') ∧ w'.cell? ⟨g, 2, none⟩ = some (.int .i64 f.week) ∧ w'.cell? ⟨g, 3, none⟩ = some (.slice aH' f.hol.length cH'))
      (refine ⟨?_, ?_, ?_, ?_⟩ <;> assumption)
      (first
        | (go_at_call 16; refine (PB.out _ _ (by simp only [IntKind.wrap_i64]; omega)).mono ?_; rintro e w' ⟨rfl, hw⟩; rw [hw]; clear hw w')
        | (go_at_call 34; refine (V1.out _ _ (by simp only [IntKind.wrap_i64]; omega) (Below.refl _ _).drew).mono ?_; rintro e w5 ⟨rfl, hb5⟩; have m0 : w5.cell? ⟨g, 0, none⟩ = some (.slice aC' f.n cC') := (hb5.cell (p := ⟨g, 0, none⟩) zg4).trans m0; have m1 : w5.cell? ⟨g, 1, none⟩ = some (.slice aR' f.k cR') := (hb5.cell (p := ⟨g, 1, none⟩) zg4).trans m1; have m2 : w5.cell? ⟨g, 2, none⟩ = some (.int .i64 f.week) := (hb5.cell (p := ⟨g, 2, none⟩) zg4).trans m2; have m3 : w5.cell? ⟨g, 3, none⟩ = some (.slice aH' f.hol.length cH') := (hb5.cell (p := ⟨g, 3, none⟩) zg4).trans m3)
        | fail)
    all_goals (
      have B5 := hid hb5
      clear hb5
      go_wp2_with fail
      refine (V2.out _ B5.out).mono ?_
      rintro e w6 ⟨rfl, hb6⟩
      have m0 := (hb6.cell (p := ⟨g, 0, none⟩) zg4).trans M0.out
      have m1 := (hb6.cell (p := ⟨g, 1, none⟩) zg4).trans M1.out
      have m2 := (hb6.cell (p := ⟨g, 2, none⟩) zg4).trans M2.out
      have m3 := (hb6.cell (p := ⟨g, 3, none⟩) zg4).trans M3.out
      have B6 := hid hb6
      clear hb6
      go_wp2_with fail
      refine (V3.out _ B6.out).mono ?_
      rintro e w7 ⟨rfl, hb7⟩
      have R : Hid (TPost w (.returned (.bool true)) w7) := ⟨rfl, B0.out.trans ((B4.out.trans (hb7.mono B4.out.size)).mono B0.out.size)⟩
      clear hb7
      go_wp2
      go_ret
      exact R.out)

end Go.Proofs.YtmofidaojmiepaaDoor
