/-
  ONE CASE: its calls, the room of its log left unsaid.
-/
import Derived.Test.YtmofidaojmiepaaDoorGE15
import Derived.BigQuiet
set_option linter.unusedVariables false
set_option linter.unusedSimpArgs false
namespace Go.Proofs.YtmofidaojmiepaaDoor
open Go.RowKit
attribute [local go_sem ↓] Go.wp_at_zero Go.wp_at_succ

section
variable {Z : Nat → Prop} {b np : Nat} {P : Nat → KP} {w w' : World}
theorem lvalue (h : LS Z b np P w) {i : Nat} (hi : i < np) (c : Int) : Calls Tryd.prog 31 #[.pointer (some ⟨(P i).p.bp, 0, none⟩), .int .i64 c] w fun e w' => VAns (P i).f (P i).c.F (P i).c.T c w e w' := by
  obtain ⟨tag, h1, _⟩ := h
  exact kValue_any c (h1.kst i hi) (h1.fok i hi) (h1.kok i hi).1
theorem lwhen (h : LS Z b np P w) {i : Nat} (hi : i < np) (c : Int) : Calls Tryd.prog 32 #[.pointer (some ⟨(P i).p.bp, 0, none⟩), .int .i64 c] w fun e w' => WnP (P i).f (P i).c c w e w' := by
  obtain ⟨tag, h1, _⟩ := h
  exact kWhen_any c (h1.kst i hi) (h1.fok i hi) (h1.kok i hi).1
theorem lnext (h : LS Z b np P w) {i : Nat} (hi : i < np) : Calls Tryd.prog 33 #[.pointer (some ⟨(P i).p.bp, 0, none⟩)] w fun e w' => NxP (P i).f (P i).c w e w' := by
  obtain ⟨tag, h1, _⟩ := h
  exact kNext_any (h1.kst i hi) (h1.fok i hi) (h1.kok i hi).1
theorem lrule (h : LS Z b np P w) {i : Nat} (hi : i < np) (r : Int) : Calls Tryd.prog 59 #[.pointer (some ⟨(P i).p.bp, 0, none⟩), .int .i64 r] w fun e w' => RAns (P i).f (P i).c r w e w' := by
  obtain ⟨tag, h1, _⟩ := h
  exact kRule_any r (h1.kst i hi)
theorem LS.qlt (h : LS Z b np P w) {i : Nat} (hi : i < np) : ∀ j, (P i).Q j → j < w.heap.size := by
  obtain ⟨tag, h1, _⟩ := h
  exact KSt.qlt (h1.kst i hi)
end

/-- One case, and blocks that are nobody's. -/
def C1 (Z : Nat → Prop) (b : Nat) (f : Frm) (Q : Nat → Prop) (p : KPl) (m : Cs) (w : World) : Prop := ∃ v, LS Z b 1 (fun _ => ⟨Q, p, v, f, m⟩) w
/-- What a call on it leaves. -/
def C1P (r : Value) (Z : Nat → Prop) (b : Nat) (f : Frm) (Q : Nat → Prop) (p : KPl) (m : Cs) (w : World) (e : Ending) (w' : World) : Prop := e = .returned r ∧ C1 Z b f Q p m w' ∧ StZ Z w w'
/-- What makes it. -/
def C1A (Z : Nat → Prop) (b : Nat) (f : Frm) (m : Cs) (w : World) (e : Ending) (w' : World) : Prop := ∃ Q p, e = .returned (.pointer (some ⟨p.bp, 0, none⟩)) ∧ C1 Z b f Q p m w' ∧ StZ Z w w'

section
variable {Z : Nat → Prop} {b : Nat} {f : Frm} {Q : Nat → Prop} {p : KPl} {m : Cs} {w w' : World}

theorem C1P.of {r : Value} {m' : Cs} {v : Value} {e : Ending} (g : LsC r Z b 1 (fun _ => ⟨Q, p, v, f, m⟩) 0 m' w e w') : C1P r Z b f Q p m' w e w' := by
  obtain ⟨g0, v', g1, g2⟩ := g
  exact ⟨g0, ⟨v', g1.congr (fun i hi => by
    have e : i = 0 := by omega
    subst e
    exact upd_same _ _ _)⟩, g2⟩
theorem C1A.of {P : Nat → KP} {m' : Cs} {e : Ending} (g : LsA Z b 0 P f m' w e w') : C1A Z b f m' w e w' := by
  obtain ⟨Q, p, v, g0, g1, g2⟩ := g
  exact ⟨Q, p, g0, ⟨v, g1.congr (fun i hi => by
    have e : i = 0 := by omega
    subst e
    exact upd_same _ _ _)⟩, g2⟩
theorem C1P.as {r r' : Value} {m' : Cs} {e : Ending} (h : C1P r Z b f Q p m w e w') (hr : r = r') (hm : m = m') : C1P r' Z b f Q p m' w e w' := by
  subst hr hm
  exact h

theorem C1.lt (h : C1 Z b f Q p m w) : ∀ j, Z j → j < w.heap.size := by obtain ⟨v, h⟩ := h; exact h.lt
theorem C1.drop (h : C1 Z b f Q p m w) (hb : Below w.heap.size w w') : C1 (zup Z w w') b f Q p m w' := by obtain ⟨v, h⟩ := h; exact ⟨v, h.drop hb⟩
theorem C1.less (h : C1 Z b f Q p m w) {Z' : Nat → Prop} (hz : ∀ j, Z' j → Z j) : C1 Z' b f Q p m w := by obtain ⟨v, h⟩ := h; exact ⟨v, h.less hz⟩
theorem C1.keep (h : C1 Z b f Q p m w) (hb : Below w.heap.size w w') : C1 Z b f Q p m w' := by obtain ⟨v, h⟩ := h; exact ⟨v, h.keep hb⟩
theorem C1.up (h : C1 Z b f Q p m w) {b2 : Nat} (hb : b ≤ b2) : C1 Z b2 f Q p m w := by obtain ⟨v, h⟩ := h; exact ⟨v, h.up hb⟩
theorem C1.fok (h : C1 Z b f Q p m w) : f.Ok := by obtain ⟨v, h⟩ := h; exact h.fok (i := 0) (by omega)
theorem C1.mok (h : C1 Z b f Q p m w) : m.Ok f := by obtain ⟨v, h⟩ := h; exact h.mok (i := 0) (by omega)
theorem C1.len (h : C1 Z b f Q p m w) (hb : b ≤ 10000000000) : m.E.length ≤ 999999999000 := by obtain ⟨v, h⟩ := h; exact h.len (i := 0) (by omega) hb
theorem C1.qlt (h : C1 Z b f Q p m w) : ∀ j, Q j → j < w.heap.size := by obtain ⟨v, h⟩ := h; exact h.qlt (i := 0) (by omega)

theorem c1opened (ht : Tab w) (hf : f.Ok) {fv : Value} (hfv : FAt w f fv) : Calls Tryd.prog 13 #[fv] w fun e w' => C1A (fun j => j < w.heap.size) 1 f (beginM f) w e w' :=
  (lopened (LS.start ht (fun _ => ⟨fun _ => False, kpl0, .bool false, f, beginM f⟩) 1) (by omega) hf hfv).mono (fun _ _ g => C1A.of g)
theorem c1begun (ht : Tab w) (hf : f.Ok) {fv : Value} (hfv : FAt w f fv) {aS : Option Addr} {mm cS : Nat} {S : Nat → StK} (hsc : ScK w aS mm S) (hm : mm ≤ 1048576) (at' : Int) (ha0 : 0 ≤ at') (ha1 : at' ≤ 1000000000) :
    Calls Tryd.prog 28 #[fv, .slice aS mm cS, .int .i64 at'] w fun e w' => C1A (fun j => j < w.heap.size) (1 + mm) f (advM f (fillM f S mm) at') w e w' :=
  (lbegun (LS.start ht (fun _ => ⟨fun _ => False, kpl0, .bool false, f, beginM f⟩) 1) (Below.refl _ _) (fun j hj => hj) hf hfv hsc hm (by omega) (by omega) at' ha0 ha1).mono (fun _ _ g => C1A.of g)
theorem c1set (h : C1 Z b f Q p m w) (hb : b ≤ 10000000000) (c v : Int) : Calls Tryd.prog 18 #[.pointer (some ⟨p.bp, 0, none⟩), .int .i64 c, .int .i64 v] w fun e w' => C1P (.int .i64 (setNo f m c v)) Z (b + 1) f Q p (setM f m c v) w e w' := by
  obtain ⟨v', h⟩ := h
  exact (lset h (i := 0) (by omega) hb c v).mono (fun _ _ g => C1P.of g)
theorem c1adv (h : C1 Z b f Q p m w) (hb : b ≤ 10000000000) (tq : Int) : Calls Tryd.prog 20 #[.pointer (some ⟨p.bp, 0, none⟩), .int .i64 tq] w fun e w' => C1P (.int .i64 (advAns m.T tq)) Z b f Q p (advM f m tq) w e w' := by
  obtain ⟨v', h⟩ := h
  exact (ladv h (i := 0) (by omega) hb tq).mono (fun _ _ g => C1P.of g)
theorem c1ack (h : C1 Z b f Q p m w) (r : Int) : Calls Tryd.prog 39 #[.pointer (some ⟨p.bp, 0, none⟩), .int .i64 r] w fun e w' => C1P (.int .i64 (ackNo f m r)) Z b f Q p (ackM f m r) w e w' := by
  obtain ⟨v', h⟩ := h
  exact (lack h (i := 0) (by omega) r).mono (fun _ _ g => C1P.of g)
theorem c1close (h : C1 Z b f Q p m w) : Calls Tryd.prog 38 #[.pointer (some ⟨p.bp, 0, none⟩)] w fun e w' => C1P (.int .i64 (closeNo m)) Z b f Q p (closeM f m) w e w' := by
  obtain ⟨v', h⟩ := h
  exact (lclose h (i := 0) (by omega)).mono (fun _ _ g => C1P.of g)
theorem c1look (h : C1 Z b f Q p m w) (hb : b ≤ 10000000000) {fv : Value} (hfv : FAt w f fv) : Calls Tryd.prog 23 #[.pointer (some ⟨p.bp, 0, none⟩), fv] w fun e w' => LoP f m w e w' := by
  obtain ⟨v', h⟩ := h
  exact llook h (i := 0) (by omega) hb hfv
theorem c1now (h : C1 Z b f Q p m w) : Calls Tryd.prog 21 #[.pointer (some ⟨p.bp, 0, none⟩)] w fun e w' => e = .returned (.int .i64 m.T) ∧ w' = w := by
  obtain ⟨v', h⟩ := h
  exact lnow h (i := 0) (by omega)
theorem c1value (h : C1 Z b f Q p m w) (c : Int) : Calls Tryd.prog 31 #[.pointer (some ⟨p.bp, 0, none⟩), .int .i64 c] w fun e w' => VAns f m.F m.T c w e w' := by
  obtain ⟨v', h⟩ := h
  exact lvalue h (i := 0) (by omega) c
theorem c1when (h : C1 Z b f Q p m w) (c : Int) : Calls Tryd.prog 32 #[.pointer (some ⟨p.bp, 0, none⟩), .int .i64 c] w fun e w' => WnP f m c w e w' := by
  obtain ⟨v', h⟩ := h
  exact lwhen h (i := 0) (by omega) c
theorem c1next (h : C1 Z b f Q p m w) : Calls Tryd.prog 33 #[.pointer (some ⟨p.bp, 0, none⟩)] w fun e w' => NxP f m w e w' := by
  obtain ⟨v', h⟩ := h
  exact lnext h (i := 0) (by omega)
theorem c1rule (h : C1 Z b f Q p m w) (r : Int) : Calls Tryd.prog 59 #[.pointer (some ⟨p.bp, 0, none⟩), .int .i64 r] w fun e w' => RAns f m r w e w' := by
  obtain ⟨v', h⟩ := h
  exact lrule h (i := 0) (by omega) r
theorem c1play (h : C1 Z b f Q p m w) {w0 : World} (hw0 : Below w0.heap.size w0 w) (hz : ∀ j, j < w0.heap.size → Z j) {fv : Value} (hfv : FAt w0 f fv) {aS : Option Addr} {mm cS : Nat} {S : Nat → StK} (hsc : ScK w0 aS mm S) (hop : m.op = true) (hm : mm ≤ 1048576) (hbb : b ≤ 8000000000) :
    Calls Tryd.prog 35 #[.pointer (some ⟨p.bp, 0, none⟩), fv, .slice aS mm cS] w fun e w' => C1P (.bool true) Z (b + mm) f Q p (playM f m S mm) w e w' := by
  obtain ⟨v', h⟩ := h
  exact (lplay h hw0 hz hfv hsc (i := 0) (by omega) rfl hop hm hbb).mono (fun _ _ g => C1P.of g)

/-- A call made over a box, and what of it is seen without the box. -/
theorem C1P.out {r : Value} {m' : Cs} {e : Ending} {b' : Nat} {w1 : World} (hb : Below w.heap.size w w1) (hz : ∀ j, Z j → j < w.heap.size) (h : C1P r (zup Z w w1) b' f Q p m' w1 e w') : C1P r Z b' f Q p m' w e w' := by
  obtain ⟨h0, h1, h2⟩ := h
  exact ⟨h0, h1.less (fun _ h => Or.inl h), (StZ.of hb hz).trans (h2.less (fun _ h => Or.inl h))⟩
end

end Go.Proofs.YtmofidaojmiepaaDoor

/-
  PLAIN MATHEMATICS: up to the instant that Next tells.
-/
set_option linter.unusedVariables false
set_option linter.unusedSimpArgs false
namespace Go.Proofs.YtmofidaojmiepaaDoor
open Go.RowKit

/-- Where values stay and nothing is logged, settling does nothing. -/
theorem same_settle {f : Frm} (hf : f.Ok) {m : Cs} (h : m.Ok f) {t : Int} (s1 : ∀ i, i < f.n → f.vals m.F t i = f.vals m.F m.T i) (s2 : (Cs.settle f (m.at t)).E.length = m.E.length) : Cs.settle f (m.at t) = m.at t := by
  by_cases ho : (m.at t).op = true
  · have hg := grd_eq (fun i hi => ⟨(hf.rules i hi).1, (hf.rules i hi).2.1⟩) s1
    have hc := h.lit ho
    have e0 : Cs.settle f (m.at t) = ⟨m.F, t, m.op, setS f (f.vals m.F t) t m.S, m.E ++ setE f (f.vals m.F t) t m.S⟩ := by unfold Cs.settle; rw [if_pos ho]; rfl
    rw [e0] at s2 ⊢
    have e2 : setE f (f.vals m.F t) t m.S = [] := by
      have h2 : (m.E ++ setE f (f.vals m.F t) t m.S).length = m.E.length := s2
      rw [List.length_append] at h2
      exact List.eq_nil_of_length_eq_zero (by omega)
    have e3 := e2
    unfold setE at e3
    rw [List.flatMap_eq_nil_iff] at e3
    have e1 : setS f (f.vals m.F t) t m.S = m.S := by
      funext i
      unfold setS
      by_cases hi : i < f.k
      · rw [if_pos hi]
        obtain ⟨c0, c1⟩ := hc i hi
        have h3 := e3 i (List.mem_range.2 hi)
        rw [hg i hi] at h3 ⊢
        unfold stepSt
        unfold stepEv at h3
        by_cases g0 : grd f.R (f.vals m.F m.T) i = 0
        · rw [if_pos g0]; exact (c0 g0).symm
        · have hl : ¬ (m.S i).lit = false := by have := c1 g0; simp [this]
          rw [if_neg g0, if_neg hl] at h3 ⊢
          split at h3
          · cases h3
          · rename_i hn
            rw [if_neg hn]
      · rw [if_neg hi]
    rw [e1, e2, List.append_nil]
    rfl
  · unfold Cs.settle
    rw [if_neg ho]

theorem go_same {f : Frm} (hf : f.Ok) {m : Cs} (h : m.Ok f) : ∀ j : Nat, (∀ u, m.T < u → u ≤ m.T + j → SameAt f m u) → m.go f j = m.at (m.T + j) := by
  intro j
  induction j with
  | zero =>
    intro _
    show m = m.at (m.T + (0 : Nat))
    rw [show m.T + ((0 : Nat) : Int) = m.T by omega]
    rfl
  | succ j ih =>
    intro hs
    have e : m.go f (j + 1) = Cs.settle f (m.at (m.T + (j + 1 : Nat))) := by
      show Cs.settle f ((Cs.go f m j).at _) = _
      rw [ih (fun u a b => hs u a (by omega))]
      rfl
    obtain ⟨s1, s2⟩ := hs (m.T + (j + 1 : Nat)) (by omega) (Int.le_refl _)
    rw [show (m.T + ((j + 1 : Nat) : Int) - m.T).toNat = j + 1 by omega, e] at s2
    rw [e]
    exact same_settle hf h s1 s2

/-- The clock goes on where nothing comes about. -/
theorem adv_same {f : Frm} (hf : f.Ok) {m : Cs} (h : m.Ok f) {t : Int} (h0 : m.T ≤ t) (h1 : t ≤ 1000000000) (hs : ∀ u, m.T < u → u ≤ t → SameAt f m u) : advM f m t = m.at t := by
  unfold advM
  rw [if_neg (by omega), go_same hf h _ (fun u a b => hs u a (by omega)), show m.T + (((t - m.T).toNat : Nat) : Int) = t by omega]

/-- To the instant that Next tells, or to one ahead of it. -/
theorem adv_hop {f : Frm} (hf : f.Ok) {m : Cs} (h : m.Ok f) {t : Int} (h0 : m.T < t) (h1 : t ≤ 1000000000) (hs : ∀ u, m.T < u → u < t → SameAt f m u) : advM f m t = Cs.settle f (m.at t) := by
  unfold advM
  rw [if_neg (by omega)]
  obtain ⟨j, hj⟩ : ∃ j : Nat, (t - m.T).toNat = j + 1 := ⟨(t - m.T).toNat - 1, by omega⟩
  rw [hj]
  show Cs.settle f ((Cs.go f m j).at (m.T + (j + 1 : Nat))) = _
  rw [go_same hf h j (fun u a b => hs u a (by omega)), show m.T + ((j + 1 : Nat) : Int) = t by omega]
  rfl

theorem at_self (m : Cs) : m.at m.T = m := rfl

/-- What Next's answer says of the clock. -/
structure HopSay (f : Frm) (m : Cs) (t : Int) : Prop where
  lt : m.T < t
  le : t ≤ 1000000000
  a0 : advM f m (t - 1) = m.at (t - 1)
  v0 : ∀ i, i < f.n → f.vals m.F (t - 1) i = f.vals m.F m.T i
  a1 : advM f (m.at (t - 1)) t = advM f m t
  no : (¬ ∀ i, i < f.n → f.vals m.F m.T i = f.vals m.F t i) ∨ m.E.length < (advM f m t).E.length

theorem hop_yes {f : Frm} (hf : f.Ok) {m : Cs} (h : m.Ok f) {t : Int} (hx : NexIs f m t true) : HopSay f m t := by
  rcases hx with ⟨_, h1, h2, h3, h4⟩ | ⟨e, _⟩
  · have e0 : advM f m (t - 1) = m.at (t - 1) := adv_same hf h (by omega) (by omega) (fun u a b => h4 u a (by omega))
    refine ⟨h1, h2, e0, fun i hi => ?_, ?_, ?_⟩
    · rcases Int.lt_or_le m.T (t - 1) with hl | hl
      · exact (h4 (t - 1) hl (by omega)).1 i hi
      · rw [show t - 1 = m.T by omega]
    · rw [← e0]
      exact adv_adv f m (by omega) (by omega) h2
    · by_cases hv : ∀ i, i < f.n → f.vals m.F m.T i = f.vals m.F t i
      · refine Or.inr ?_
        have e2 : advM f m t = m.go f (t - m.T).toNat := by unfold advM; rw [if_neg (by omega)]
        rw [e2]
        have := go_grows f m (t - m.T).toNat
        have hne : (m.go f (t - m.T).toNat).E.length ≠ m.E.length := fun e => h3 ⟨fun i hi => (hv i hi).symm, e⟩
        omega
      · exact Or.inl hv
  · cases e

theorem hop_no {f : Frm} (hf : f.Ok) {m : Cs} (h : m.Ok f) {t : Int} (hx : NexIs f m t false) : t = 0 ∧ advM f m 1000000000 = m.at 1000000000 ∧ ∀ i, i < f.n → f.vals m.F m.T i = f.vals m.F 1000000000 i := by
  rcases hx with ⟨e, _⟩ | ⟨_, h1, h2⟩
  · cases e
  · refine ⟨h1, adv_same hf h h.t1 (by omega) (fun u a b => h2 u a b), fun i hi => ?_⟩
    rcases Int.lt_or_le m.T 1000000000 with hl | hl
    · exact ((h2 1000000000 hl (by omega)).1 i hi).symm
    · rw [show m.T = 1000000000 by have := h.t1; omega]

end Go.Proofs.YtmofidaojmiepaaDoor

/-
  THE WALKS: docketkeep's unmoved, hop, Walk.
-/
set_option linter.unusedVariables false
set_option linter.unusedSimpArgs false
namespace Go.Proofs.YtmofidaojmiepaaDoor
open Go.RowKit
attribute [local go_sem ↓] Go.wp_at_zero Go.wp_at_succ

/-- Both show the same, but for the clock. -/
theorem kunmoved_any {f : Frm} {m m' : Cs} {Ba Bb : Nat} {va vb : Value} {w : World} (ha : LookAt Ba f m va w) (hb : LookAt Bb f m' vb w) (hV : ∀ i, i < f.n → f.vals m.F m.T i = f.vals m'.F m'.T i) (hS : ∀ i, i < f.k → m.S i = m'.S i) (hE : m.E = m'.E) (n20 : f.n ≤ 20) (k6 : f.k ≤ 6) (hl : m.E.length ≤ 1000000000000) :
    Calls Tryd.prog 65 #[va, vb] w fun e w' => TPost w e w' := by
  obtain ⟨vV, vS, vL, rfl, a1, a2, a3⟩ := ha.ex
  obtain ⟨uV, uS, uL, rfl, b1, b2, b3⟩ := hb.ex
  have b2' : w.ownsRow Bb 80 4 uS f.k (stas4 m.S f.k) := by
    have e : stas4 m.S f.k = stas4 m'.S f.k := by
      unfold stas4
      refine List.map_congr_left (fun j hj => ?_)
      have hj' : j < f.k * 4 := List.mem_range.1 hj
      exact stf_congr hS j hj'
    rw [e]
    exact b2
  rw [← hE] at b3
  have SI := hid (fun W (hW : Below w.heap.size w W) => ksameInts_any (own_of_block a1 (w' := W) (fun g _ hlt => hW.block g hlt)) (own_of_block b1 (w' := W) (fun g _ hlt => hW.block g hlt)) n20)
  have SS := hid (fun W (hW : Below w.heap.size w W) => ksameSt_any (own_of_block a2 (w' := W) (fun g _ hlt => hW.block g hlt)) (own_of_block b2' (w' := W) (fun g _ hlt => hW.block g hlt)) k6)
  have SE := hid (fun W (hW : Below w.heap.size w W) => ksameEv_any (own_of_block a3 (w' := W) (fun g _ hlt => hW.block g hlt)) (own_of_block b3 (w' := W) (fun g _ hlt => hW.block g hlt)) hl)
  have HV := hid hV
  clear a1 a2 a3 b1 b2 b2' b3 ha hb hV hS hE
  generalize m.T = mT at *
  generalize m'.T = mT' at *
  have BX := hid (Below.refl (w.heap.size + 1 + 1) ((w.alloc (.cells #[.int .i64 mT, vV, vS, vL, .bool true] 46)).alloc (.cells #[.int .i64 mT', uV, uS, uL, .bool true] 46)))
  have p1 := two_boxes BX.out 1
  simp at p1
  obtain ⟨p1, q1⟩ := p1
  go_enter Tryd.func65, Tryd.ntmps65
  go_wp2_with fail
  refine (SI.out _ (two_boxes_below BX.out)).mono ?_
  rintro e w1 ⟨r, rfl, hr, hb1⟩
  have er : r = true := hr.2 HV.out
  subst er
  have B1 : Hid (Below (w.heap.size + 1 + 1) ((w.alloc (.cells #[.int .i64 mT, vV, vS, vL, .bool true] 46)).alloc (.cells #[.int .i64 mT', uV, uS, uL, .bool true] 46)) w1) := by have h := hb1; simp only [World.size_alloc] at h; exact h
  clear hr hb1 BX
  have p2 := two_boxes B1.out 2
  simp at p2
  obtain ⟨p2, q2⟩ := p2
  go_wp2_with fail
  refine (SS.out _ (two_boxes_below B1.out)).mono ?_
  rintro e w2 ⟨rfl, hb2⟩
  have B2 := hid (B1.out.trans (hb2.mono (by have := B1.out.size; simpa using this)))
  clear hb2 B1
  have p3 := two_boxes B2.out 3
  simp at p3
  obtain ⟨p3, q3⟩ := p3
  go_wp2_with fail
  refine (SE.out _ (two_boxes_below B2.out)).mono ?_
  rintro e w3 ⟨rfl, hb3⟩
  have B3 := hid (B2.out.trans (hb3.mono (by have := B2.out.size; simpa using this)))
  clear hb3 B2
  have p4 := two_boxes B3.out 4
  simp at p4
  obtain ⟨p4, q4⟩ := p4
  have R : Hid (TPost w (.returned (.bool true)) w3) := ⟨rfl, two_boxes_below B3.out⟩
  clear B3
  go_wp2
  go_ret
  exact R.out

theorem LookZ.lk {Z : Nat → Prop} {f : Frm} {m : Cs} {v : Value} {w : World} (h : LookZ Z f m v w) : ∃ B, LookAt B f m v w := by
  obtain ⟨B, h1, _⟩ := h
  exact ⟨B, h1⟩

/-- What hop leaves. -/
def HopP (Z : Nat → Prop) (b : Nat) (f : Frm) (Q : Nat → Prop) (p : KPl) (w : World) (e : Ending) (w' : World) : Prop := ∃ more m', e = .returned (.tuple #[.bool true, .bool more]) ∧ C1 Z b f Q p m' w' ∧ StZ Z w w'

set_option maxRecDepth 100000 in
set_option maxHeartbeats 4000000 in
theorem khop_any {ZA : Nat → Prop} {b : Nat} {f : Frm} {Q : Nat → Prop} {p : KPl} {m : Cs} {w w0 : World} (h : C1 ZA b f Q p m w) (hb : b ≤ 10000000000) (hw0 : StZ (fun j => j < w0.heap.size) w0 w) (hz : ∀ j, j < w0.heap.size → ZA j) {fv : Value} (hfv : FAt w0 f fv) :
    Calls Tryd.prog 30 #[.pointer (some ⟨p.bp, 0, none⟩), fv] w fun e w' => HopP ZA b f Q p w e w' := by
  have HF := hid h.fok
  have HM := hid h.mok
  have HL : Hid (m.E.length ≤ 1000000000000) := by show _ ≤ _; have := h.len hb; omega
  obtain ⟨n1, n20, k6, _, _⟩ := HF.out.sizes
  have FA0 := hid hfv
  obtain ⟨aC', cC', aR', cR', aH', cH', rfl, _, _, _⟩ := hfv
  have BX := hid (Below.refl (w.heap.size + 1) (w.alloc (.cells #[.slice aC' f.n cC', .slice aR' f.k cR', .int .i64 f.week, .slice aH' f.hol.length cH'] 26)))
  have BW := hid (boxed_below BX.out)
  have g0 : (w.alloc (.cells #[.slice aC' f.n cC', .slice aR' f.k cR', .int .i64 f.week, .slice aH' f.hol.length cH'] 26)).cell? ⟨w.heap.size, 0, none⟩ = some (Value.slice aC' f.n cC') := boxed BX.out 0
  have g1 : (w.alloc (.cells #[.slice aC' f.n cC', .slice aR' f.k cR', .int .i64 f.week, .slice aH' f.hol.length cH'] 26)).cell? ⟨w.heap.size, 1, none⟩ = some (Value.slice aR' f.k cR') := boxed BX.out 1
  have g2 : (w.alloc (.cells #[.slice aC' f.n cC', .slice aR' f.k cR', .int .i64 f.week, .slice aH' f.hol.length cH'] 26)).cell? ⟨w.heap.size, 2, none⟩ = some (.int .i64 f.week) := boxed BX.out 2
  have g3 : (w.alloc (.cells #[.slice aC' f.n cC', .slice aR' f.k cR', .int .i64 f.week, .slice aH' f.hol.length cH'] 26)).cell? ⟨w.heap.size, 3, none⟩ = some (Value.slice aH' f.hol.length cH') := boxed BX.out 3
  have ZG : Hid (zup ZA w (w.alloc (.cells #[.slice aC' f.n cC', .slice aR' f.k cR', .int .i64 f.week, .slice aH' f.hol.length cH'] 26)) w.heap.size) := Or.inr ⟨Nat.le_refl _, by simp⟩
  have C0 := hid (h.drop BW.out)
  have ZS : Hid (∀ j, ZA j → zup ZA w (w.alloc (.cells #[.slice aC' f.n cC', .slice aR' f.k cR', .int .i64 f.week, .slice aH' f.hol.length cH'] 26)) j) := fun j hj => Or.inl hj
  have SZ : Hid (StZ ZA w (w.alloc (.cells #[.slice aC' f.n cC', .slice aR' f.k cR', .int .i64 f.week, .slice aH' f.hol.length cH'] 26))) := StZ.of BW.out h.lt
  have HZ : Hid (∀ j, j < w0.heap.size → zup ZA w (w.alloc (.cells #[.slice aC' f.n cC', .slice aR' f.k cR', .int .i64 f.week, .slice aH' f.hol.length cH'] 26)) j) := fun j hj => Or.inl (hz j hj)
  have SW : Hid (StZ (fun j => j < w0.heap.size) w0 (w.alloc (.cells #[.slice aC' f.n cC', .slice aR' f.k cR', .int .i64 f.week, .slice aH' f.hol.length cH'] 26))) := hw0.trans (SZ.out.less hz)
  clear h hw0 hz BX BW
  go_enter Tryd.func30, Tryd.ntmps30
  go_upto_region 1 with (fail)
  generalize zup ZA w (w.alloc (.cells #[.slice aC' f.n cC', .slice aR' f.k cR', .int .i64 f.week, .slice aH' f.hol.length cH'] 26)) = Z0 at *
  generalize w.alloc (.cells #[.slice aC' f.n cC', .slice aR' f.k cR', .int .i64 f.week, .slice aH' f.hol.length cH'] 26) = wB at *
  generalize w.heap.size = g at *
  have LK : Hid (Calls Tryd.prog 23 #[.pointer (some ⟨p.bp, 0, none⟩), (.agg #[.slice aC' f.n cC', .slice aR' f.k cR', .int .i64 f.week, .slice aH' f.hol.length cH'])] wB fun e w' => LoP f m wB e w') := c1look C0.out hb (FA0.out.below (SW.out.below (Below.refl _ _) (fun j hj => hj)))
  go_wp2_with fail
  refine LK.out.mono ?_
  rintro e ax ⟨vx, rfl, l, b⟩
  have Lx := hid l
  obtain ⟨xV, xS, xL, rfl, r1, r2, r3⟩ := l.ex
  obtain ⟨xa1, xc1, rfl⟩ := own_len r1
  obtain ⟨xa2, xc2, rfl⟩ := own_len r2
  obtain ⟨xa3, xc3, rfl⟩ := own_len r3
  have BB : Hid (Below ax.heap.size ax (ax.alloc (.cells #[.int .i64 m.T, .slice xa1 f.n xc1, .slice xa2 f.k xc2, .slice xa3 m.E.length xc3, .bool true] 46))) := boxed_below (Below.refl (ax.heap.size + 1) (ax.alloc (.cells #[.int .i64 m.T, .slice xa1 f.n xc1, .slice xa2 f.k xc2, .slice xa3 m.E.length xc3, .bool true] 46)))
  have NW : Hid (Below wB.heap.size wB (ax.alloc (.cells #[.int .i64 m.T, .slice xa1 f.n xc1, .slice xa2 f.k xc2, .slice xa3 m.E.length xc3, .bool true] 46))) := b.trans (BB.out.mono b.size)
  have NS : Hid (StZ Z0 wB (ax.alloc (.cells #[.int .i64 m.T, .slice xa1 f.n xc1, .slice xa2 f.k xc2, .slice xa3 m.E.length xc3, .bool true] 46))) := StZ.of NW.out C0.out.lt
  have Lx : Hid (LookZ (zup Z0 wB (ax.alloc (.cells #[.int .i64 m.T, .slice xa1 f.n xc1, .slice xa2 f.k xc2, .slice xa3 m.E.length xc3, .bool true] 46))) f m _ (ax.alloc (.cells #[.int .i64 m.T, .slice xa1 f.n xc1, .slice xa2 f.k xc2, .slice xa3 m.E.length xc3, .bool true] 46))) := LookZ.of (Lx.out.below (B2 := 0) BB.out) (fun j h1 h2 => Or.inr ⟨h1, h2⟩)
  have g0 := (NS.out.cell 0 ZG.out).trans g0
  have g1 := (NS.out.cell 1 ZG.out).trans g1
  have g2 := (NS.out.cell 2 ZG.out).trans g2
  have g3 := (NS.out.cell 3 ZG.out).trans g3
  have zx : Hid (zup Z0 wB (ax.alloc (.cells #[.int .i64 m.T, .slice xa1 f.n xc1, .slice xa2 f.k xc2, .slice xa3 m.E.length xc3, .bool true] 46)) ax.heap.size) := Or.inr ⟨b.size, by simp⟩
  have cx0 : (ax.alloc (.cells #[.int .i64 m.T, .slice xa1 f.n xc1, .slice xa2 f.k xc2, .slice xa3 m.E.length xc3, .bool true] 46)).cell? ⟨ax.heap.size, 0, none⟩ = some (.int .i64 m.T) := boxed (Below.refl (ax.heap.size + 1) (ax.alloc (.cells #[.int .i64 m.T, .slice xa1 f.n xc1, .slice xa2 f.k xc2, .slice xa3 m.E.length xc3, .bool true] 46))) 0
  have cx1 : (ax.alloc (.cells #[.int .i64 m.T, .slice xa1 f.n xc1, .slice xa2 f.k xc2, .slice xa3 m.E.length xc3, .bool true] 46)).cell? ⟨ax.heap.size, 1, none⟩ = some (.slice xa1 f.n xc1) := boxed (Below.refl (ax.heap.size + 1) (ax.alloc (.cells #[.int .i64 m.T, .slice xa1 f.n xc1, .slice xa2 f.k xc2, .slice xa3 m.E.length xc3, .bool true] 46))) 1
  have cx2 : (ax.alloc (.cells #[.int .i64 m.T, .slice xa1 f.n xc1, .slice xa2 f.k xc2, .slice xa3 m.E.length xc3, .bool true] 46)).cell? ⟨ax.heap.size, 2, none⟩ = some (.slice xa2 f.k xc2) := boxed (Below.refl (ax.heap.size + 1) (ax.alloc (.cells #[.int .i64 m.T, .slice xa1 f.n xc1, .slice xa2 f.k xc2, .slice xa3 m.E.length xc3, .bool true] 46))) 2
  have cx3 : (ax.alloc (.cells #[.int .i64 m.T, .slice xa1 f.n xc1, .slice xa2 f.k xc2, .slice xa3 m.E.length xc3, .bool true] 46)).cell? ⟨ax.heap.size, 3, none⟩ = some (.slice xa3 m.E.length xc3) := boxed (Below.refl (ax.heap.size + 1) (ax.alloc (.cells #[.int .i64 m.T, .slice xa1 f.n xc1, .slice xa2 f.k xc2, .slice xa3 m.E.length xc3, .bool true] 46))) 3
  have cx4 : (ax.alloc (.cells #[.int .i64 m.T, .slice xa1 f.n xc1, .slice xa2 f.k xc2, .slice xa3 m.E.length xc3, .bool true] 46)).cell? ⟨ax.heap.size, 4, none⟩ = some (.bool true) := boxed (Below.refl (ax.heap.size + 1) (ax.alloc (.cells #[.int .i64 m.T, .slice xa1 f.n xc1, .slice xa2 f.k xc2, .slice xa3 m.E.length xc3, .bool true] 46))) 4
  have HZ0 := hid HZ.out
  have HZ : Hid (∀ j, j < w0.heap.size → zup Z0 wB (ax.alloc (.cells #[.int .i64 m.T, .slice xa1 f.n xc1, .slice xa2 f.k xc2, .slice xa3 m.E.length xc3, .bool true] 46)) j) := fun j hj => Or.inl (HZ.out j hj)
  have ZG : Hid (zup Z0 wB (ax.alloc (.cells #[.int .i64 m.T, .slice xa1 f.n xc1, .slice xa2 f.k xc2, .slice xa3 m.E.length xc3, .bool true] 46)) g) := Or.inl ZG.out
  have SW := hid (SW.out.trans (NS.out.less (fun j hj => HZ0.out j hj)))
  have Nx := hid (C0.out.drop NW.out)
  have SZ := hid (SZ.out.trans (NS.out.less ZS.out))
  have ZS : Hid (∀ j, ZA j → zup Z0 wB (ax.alloc (.cells #[.int .i64 m.T, .slice xa1 f.n xc1, .slice xa2 f.k xc2, .slice xa3 m.E.length xc3, .bool true] 46)) j) := fun j hj => Or.inl (ZS.out j hj)
  clear r1 r2 r3 l b BB NW NS LK C0
  go_upto_region 2 with (fail)
  generalize zup Z0 wB (ax.alloc (.cells #[.int .i64 m.T, .slice xa1 f.n xc1, .slice xa2 f.k xc2, .slice xa3 m.E.length xc3, .bool true] 46)) = Zx at *
  generalize (ax.alloc (.cells #[.int .i64 m.T, .slice xa1 f.n xc1, .slice xa2 f.k xc2, .slice xa3 m.E.length xc3, .bool true] 46)) = ux at *
  generalize ax.heap.size = gx at *
  have KC := hid (c1next Nx.out)
  go_wp2_with fail
  refine KC.out.mono ?_
  rintro e y1 ⟨t, ok, rfl, hnx, hb⟩
  have NS : StZ Zx ux y1 := StZ.of hb Nx.out.lt
  have HN := hid hnx
  clear hnx
  have Lx := hid (Lx.out.stays NS)
  have cx0 := (NS.cell 0 zx.out).trans cx0
  have cx1 := (NS.cell 1 zx.out).trans cx1
  have cx2 := (NS.cell 2 zx.out).trans cx2
  have cx3 := (NS.cell 3 zx.out).trans cx3
  have cx4 := (NS.cell 4 zx.out).trans cx4
  have g0 := (NS.cell 0 ZG.out).trans g0
  have g1 := (NS.cell 1 ZG.out).trans g1
  have g2 := (NS.cell 2 ZG.out).trans g2
  have g3 := (NS.cell 3 ZG.out).trans g3
  have SW := hid (SW.out.trans (NS.less HZ.out))
  have SZ := hid (SZ.out.trans (NS.less ZS.out))
  have K1 := hid (Nx.out.keep hb)
  clear KC NS hb Nx
  cases ok
  · obtain ⟨ht0, ha, hv⟩ := hop_no HF.out HM.out HN.out
    have HV := hid hv
    subst ht0
    obtain ⟨me, hme⟩ : ∃ me, m.at 1000000000 = me := ⟨_, rfl⟩
    have ME : Hid (me.T = 1000000000 ∧ me.F = m.F ∧ me.S = m.S ∧ me.E = m.E) := by rw [← hme]; exact ⟨rfl, rfl, rfl, rfl⟩
    have AE : Hid (advM f m 1000000000 = me) := ha.trans hme
    have AN : Hid (advAns m.T 1000000000 = 0) := by show advAns _ _ = _; unfold advAns; rw [if_neg (by have := HM.out.t1; omega)]
    clear ha hme hv HN
    have KC := hid ((c1adv K1.out hb 1000000000).mono (fun _ _ g => C1P.as g (r' := .int .i64 0) (m' := me) (congrArg (Value.int .i64) AN.out) AE.out))
    go_wp2_with fail
    refine KC.out.mono ?_
    rintro e y2 ⟨rfl, l, s⟩
    have K2 : Hid (C1 Zx (b) f Q p me y2) := l
    have SW : Hid (StZ (fun j => j < w0.heap.size) w0 y2) := SW.out.trans (s.less HZ.out)
    have SZ := hid (SZ.out.trans (s.less ZS.out))
    have Lx := hid (Lx.out.stays s)
    have cx0 := (s.cell 0 zx.out).trans cx0
    have cx1 := (s.cell 1 zx.out).trans cx1
    have cx2 := (s.cell 2 zx.out).trans cx2
    have cx3 := (s.cell 3 zx.out).trans cx3
    have cx4 := (s.cell 4 zx.out).trans cx4
    have g0 := (s.cell 0 ZG.out).trans g0
    have g1 := (s.cell 1 ZG.out).trans g1
    have g2 := (s.cell 2 ZG.out).trans g2
    have g3 := (s.cell 3 ZG.out).trans g3
    clear l s KC K1
    have LK : Hid (Calls Tryd.prog 23 #[.pointer (some ⟨p.bp, 0, none⟩), (.agg #[.slice aC' f.n cC', .slice aR' f.k cR', .int .i64 f.week, .slice aH' f.hol.length cH'])] y2 fun e w' => LoP f me y2 e w') := c1look K2.out hb (FA0.out.below (SW.out.below (Below.refl _ _) (fun j hj => hj)))
    go_wp2_with fail
    refine LK.out.mono ?_
    rintro e ay ⟨vy, rfl, l, b⟩
    have Ly := hid l
    obtain ⟨yV, yS, yL, rfl, r1, r2, r3⟩ := l.ex
    obtain ⟨ya1, yc1, rfl⟩ := own_len r1
    obtain ⟨ya2, yc2, rfl⟩ := own_len r2
    obtain ⟨ya3, yc3, rfl⟩ := own_len r3
    have BB : Hid (Below ay.heap.size ay (ay.alloc (.cells #[.int .i64 me.T, .slice ya1 f.n yc1, .slice ya2 f.k yc2, .slice ya3 me.E.length yc3, .bool true] 46))) := boxed_below (Below.refl (ay.heap.size + 1) (ay.alloc (.cells #[.int .i64 me.T, .slice ya1 f.n yc1, .slice ya2 f.k yc2, .slice ya3 me.E.length yc3, .bool true] 46)))
    have NW : Hid (Below y2.heap.size y2 (ay.alloc (.cells #[.int .i64 me.T, .slice ya1 f.n yc1, .slice ya2 f.k yc2, .slice ya3 me.E.length yc3, .bool true] 46))) := b.trans (BB.out.mono b.size)
    have NS : Hid (StZ Zx y2 (ay.alloc (.cells #[.int .i64 me.T, .slice ya1 f.n yc1, .slice ya2 f.k yc2, .slice ya3 me.E.length yc3, .bool true] 46))) := StZ.of NW.out K2.out.lt
    have Ly : Hid (LookZ (zup Zx y2 (ay.alloc (.cells #[.int .i64 me.T, .slice ya1 f.n yc1, .slice ya2 f.k yc2, .slice ya3 me.E.length yc3, .bool true] 46))) f me _ (ay.alloc (.cells #[.int .i64 me.T, .slice ya1 f.n yc1, .slice ya2 f.k yc2, .slice ya3 me.E.length yc3, .bool true] 46))) := LookZ.of (Ly.out.below (B2 := 0) BB.out) (fun j h1 h2 => Or.inr ⟨h1, h2⟩)
    have Lx := hid ((Lx.out.stays NS.out).less (Z' := zup Zx y2 (ay.alloc (.cells #[.int .i64 me.T, .slice ya1 f.n yc1, .slice ya2 f.k yc2, .slice ya3 me.E.length yc3, .bool true] 46))) (fun j hj => Or.inl hj))
    have cx0 := (NS.out.cell 0 zx.out).trans cx0
    have cx1 := (NS.out.cell 1 zx.out).trans cx1
    have cx2 := (NS.out.cell 2 zx.out).trans cx2
    have cx3 := (NS.out.cell 3 zx.out).trans cx3
    have cx4 := (NS.out.cell 4 zx.out).trans cx4
    have zx : Hid (zup Zx y2 (ay.alloc (.cells #[.int .i64 me.T, .slice ya1 f.n yc1, .slice ya2 f.k yc2, .slice ya3 me.E.length yc3, .bool true] 46)) gx) := Or.inl zx.out
    have g0 := (NS.out.cell 0 ZG.out).trans g0
    have g1 := (NS.out.cell 1 ZG.out).trans g1
    have g2 := (NS.out.cell 2 ZG.out).trans g2
    have g3 := (NS.out.cell 3 ZG.out).trans g3
    have zy : Hid (zup Zx y2 (ay.alloc (.cells #[.int .i64 me.T, .slice ya1 f.n yc1, .slice ya2 f.k yc2, .slice ya3 me.E.length yc3, .bool true] 46)) ay.heap.size) := Or.inr ⟨b.size, by simp⟩
    have cy0 : (ay.alloc (.cells #[.int .i64 me.T, .slice ya1 f.n yc1, .slice ya2 f.k yc2, .slice ya3 me.E.length yc3, .bool true] 46)).cell? ⟨ay.heap.size, 0, none⟩ = some (.int .i64 me.T) := boxed (Below.refl (ay.heap.size + 1) (ay.alloc (.cells #[.int .i64 me.T, .slice ya1 f.n yc1, .slice ya2 f.k yc2, .slice ya3 me.E.length yc3, .bool true] 46))) 0
    have cy1 : (ay.alloc (.cells #[.int .i64 me.T, .slice ya1 f.n yc1, .slice ya2 f.k yc2, .slice ya3 me.E.length yc3, .bool true] 46)).cell? ⟨ay.heap.size, 1, none⟩ = some (.slice ya1 f.n yc1) := boxed (Below.refl (ay.heap.size + 1) (ay.alloc (.cells #[.int .i64 me.T, .slice ya1 f.n yc1, .slice ya2 f.k yc2, .slice ya3 me.E.length yc3, .bool true] 46))) 1
    have cy2 : (ay.alloc (.cells #[.int .i64 me.T, .slice ya1 f.n yc1, .slice ya2 f.k yc2, .slice ya3 me.E.length yc3, .bool true] 46)).cell? ⟨ay.heap.size, 2, none⟩ = some (.slice ya2 f.k yc2) := boxed (Below.refl (ay.heap.size + 1) (ay.alloc (.cells #[.int .i64 me.T, .slice ya1 f.n yc1, .slice ya2 f.k yc2, .slice ya3 me.E.length yc3, .bool true] 46))) 2
    have cy3 : (ay.alloc (.cells #[.int .i64 me.T, .slice ya1 f.n yc1, .slice ya2 f.k yc2, .slice ya3 me.E.length yc3, .bool true] 46)).cell? ⟨ay.heap.size, 3, none⟩ = some (.slice ya3 me.E.length yc3) := boxed (Below.refl (ay.heap.size + 1) (ay.alloc (.cells #[.int .i64 me.T, .slice ya1 f.n yc1, .slice ya2 f.k yc2, .slice ya3 me.E.length yc3, .bool true] 46))) 3
    have cy4 : (ay.alloc (.cells #[.int .i64 me.T, .slice ya1 f.n yc1, .slice ya2 f.k yc2, .slice ya3 me.E.length yc3, .bool true] 46)).cell? ⟨ay.heap.size, 4, none⟩ = some (.bool true) := boxed (Below.refl (ay.heap.size + 1) (ay.alloc (.cells #[.int .i64 me.T, .slice ya1 f.n yc1, .slice ya2 f.k yc2, .slice ya3 me.E.length yc3, .bool true] 46))) 4
    have HZ0 := hid HZ.out
    have HZ : Hid (∀ j, j < w0.heap.size → zup Zx y2 (ay.alloc (.cells #[.int .i64 me.T, .slice ya1 f.n yc1, .slice ya2 f.k yc2, .slice ya3 me.E.length yc3, .bool true] 46)) j) := fun j hj => Or.inl (HZ.out j hj)
    have ZG : Hid (zup Zx y2 (ay.alloc (.cells #[.int .i64 me.T, .slice ya1 f.n yc1, .slice ya2 f.k yc2, .slice ya3 me.E.length yc3, .bool true] 46)) g) := Or.inl ZG.out
    have SW := hid (SW.out.trans (NS.out.less (fun j hj => HZ0.out j hj)))
    have Ny := hid (K2.out.drop NW.out)
    have SZ := hid (SZ.out.trans (NS.out.less ZS.out))
    have ZS : Hid (∀ j, ZA j → zup Zx y2 (ay.alloc (.cells #[.int .i64 me.T, .slice ya1 f.n yc1, .slice ya2 f.k yc2, .slice ya3 me.E.length yc3, .bool true] 46)) j) := fun j hj => Or.inl (ZS.out j hj)
    clear r1 r2 r3 l b BB NW NS LK K2
    go_upto_region 6 with (fail)
    generalize zup Zx y2 (ay.alloc (.cells #[.int .i64 me.T, .slice ya1 f.n yc1, .slice ya2 f.k yc2, .slice ya3 me.E.length yc3, .bool true] 46)) = Zy at *
    generalize (ay.alloc (.cells #[.int .i64 me.T, .slice ya1 f.n yc1, .slice ya2 f.k yc2, .slice ya3 me.E.length yc3, .bool true] 46)) = uy at *
    generalize ay.heap.size = gy at *
    obtain ⟨Bx, lx⟩ := Lx.out.lk
    obtain ⟨By, ly⟩ := Ly.out.lk
    have UN := hid (kunmoved_any lx ly (by rw [ME.out.1, ME.out.2.1]; exact HV.out) (fun i _ => by rw [ME.out.2.2.1]) ME.out.2.2.2.symm n20 k6 HL.out)
    clear lx ly
    go_wp2_with fail
    refine UN.out.mono ?_
    rintro e w9 ⟨rfl, hb9⟩
    have R : Hid (HopP ZA b f Q p w (.returned (.tuple #[.bool true, .bool false])) w9) := ⟨false, me, rfl, (Ny.out.keep hb9).less ZS.out, SZ.out.trans ((StZ.of hb9 Ny.out.lt).less ZS.out)⟩
    clear hb9
    go_wp2
    go_ret2
    exact R.out
  · obtain ⟨t1, t2, a0, v0, a1, no⟩ := hop_yes HF.out HM.out HN.out
    have tp : 0 < t := by have := HM.out.t0; omega
    have q1 : ¬ (t ≤ m.T) := by omega
    have q2 : ¬ (1000000000 < t) := by omega
    obtain ⟨ma, hma⟩ : ∃ ma, m.at (t - 1) = ma := ⟨_, rfl⟩
    have MA : Hid (ma.T = t - 1 ∧ ma.F = m.F ∧ ma.S = m.S ∧ ma.E = m.E) := by rw [← hma]; exact ⟨rfl, rfl, rfl, rfl⟩
    obtain ⟨mb, hmb⟩ : ∃ mb, advM f m t = mb := ⟨_, rfl⟩
    have MB : Hid (mb.T = t ∧ mb.F = m.F) := by rw [← hmb]; exact ⟨advM_T f m (by omega) t2, advM_F f m t⟩
    have AE : Hid (advM f m (t - 1) = ma) := a0.trans hma
    have BE : Hid (advM f ma t = mb) := by show advM f ma t = mb; rw [← hma, a1, hmb]
    have AN : Hid (advAns m.T (t - 1) = 0) := by show advAns _ _ = _; unfold advAns; rw [if_neg (by omega)]
    have BN : Hid (advAns ma.T t = 0) := by show advAns _ _ = _; rw [MA.out.1]; unfold advAns; rw [if_neg (by omega)]
    have HV := hid v0
    rw [hmb] at no
    have NO := hid no
    clear a0 v0 a1 no hma hmb HN
    have KC := hid ((c1adv K1.out hb (t - 1)).mono (fun _ _ g => C1P.as g (r' := .int .i64 0) (m' := ma) (congrArg (Value.int .i64) AN.out) AE.out))
    go_wp2_with fail
    refine KC.out.mono ?_
    rintro e y2 ⟨rfl, l, s⟩
    have K2 : Hid (C1 Zx (b) f Q p ma y2) := l
    have SW : Hid (StZ (fun j => j < w0.heap.size) w0 y2) := SW.out.trans (s.less HZ.out)
    have SZ := hid (SZ.out.trans (s.less ZS.out))
    have Lx := hid (Lx.out.stays s)
    have cx0 := (s.cell 0 zx.out).trans cx0
    have cx1 := (s.cell 1 zx.out).trans cx1
    have cx2 := (s.cell 2 zx.out).trans cx2
    have cx3 := (s.cell 3 zx.out).trans cx3
    have cx4 := (s.cell 4 zx.out).trans cx4
    have g0 := (s.cell 0 ZG.out).trans g0
    have g1 := (s.cell 1 ZG.out).trans g1
    have g2 := (s.cell 2 ZG.out).trans g2
    have g3 := (s.cell 3 ZG.out).trans g3
    clear l s KC K1
    have LK : Hid (Calls Tryd.prog 23 #[.pointer (some ⟨p.bp, 0, none⟩), (.agg #[.slice aC' f.n cC', .slice aR' f.k cR', .int .i64 f.week, .slice aH' f.hol.length cH'])] y2 fun e w' => LoP f ma y2 e w') := c1look K2.out hb (FA0.out.below (SW.out.below (Below.refl _ _) (fun j hj => hj)))
    go_wp2_with fail
    refine LK.out.mono ?_
    rintro e ay ⟨vy, rfl, l, b⟩
    have Ly := hid l
    obtain ⟨yV, yS, yL, rfl, r1, r2, r3⟩ := l.ex
    obtain ⟨ya1, yc1, rfl⟩ := own_len r1
    obtain ⟨ya2, yc2, rfl⟩ := own_len r2
    obtain ⟨ya3, yc3, rfl⟩ := own_len r3
    have BB : Hid (Below ay.heap.size ay (ay.alloc (.cells #[.int .i64 ma.T, .slice ya1 f.n yc1, .slice ya2 f.k yc2, .slice ya3 ma.E.length yc3, .bool true] 46))) := boxed_below (Below.refl (ay.heap.size + 1) (ay.alloc (.cells #[.int .i64 ma.T, .slice ya1 f.n yc1, .slice ya2 f.k yc2, .slice ya3 ma.E.length yc3, .bool true] 46)))
    have NW : Hid (Below y2.heap.size y2 (ay.alloc (.cells #[.int .i64 ma.T, .slice ya1 f.n yc1, .slice ya2 f.k yc2, .slice ya3 ma.E.length yc3, .bool true] 46))) := b.trans (BB.out.mono b.size)
    have NS : Hid (StZ Zx y2 (ay.alloc (.cells #[.int .i64 ma.T, .slice ya1 f.n yc1, .slice ya2 f.k yc2, .slice ya3 ma.E.length yc3, .bool true] 46))) := StZ.of NW.out K2.out.lt
    have Ly : Hid (LookZ (zup Zx y2 (ay.alloc (.cells #[.int .i64 ma.T, .slice ya1 f.n yc1, .slice ya2 f.k yc2, .slice ya3 ma.E.length yc3, .bool true] 46))) f ma _ (ay.alloc (.cells #[.int .i64 ma.T, .slice ya1 f.n yc1, .slice ya2 f.k yc2, .slice ya3 ma.E.length yc3, .bool true] 46))) := LookZ.of (Ly.out.below (B2 := 0) BB.out) (fun j h1 h2 => Or.inr ⟨h1, h2⟩)
    have Lx := hid ((Lx.out.stays NS.out).less (Z' := zup Zx y2 (ay.alloc (.cells #[.int .i64 ma.T, .slice ya1 f.n yc1, .slice ya2 f.k yc2, .slice ya3 ma.E.length yc3, .bool true] 46))) (fun j hj => Or.inl hj))
    have cx0 := (NS.out.cell 0 zx.out).trans cx0
    have cx1 := (NS.out.cell 1 zx.out).trans cx1
    have cx2 := (NS.out.cell 2 zx.out).trans cx2
    have cx3 := (NS.out.cell 3 zx.out).trans cx3
    have cx4 := (NS.out.cell 4 zx.out).trans cx4
    have zx : Hid (zup Zx y2 (ay.alloc (.cells #[.int .i64 ma.T, .slice ya1 f.n yc1, .slice ya2 f.k yc2, .slice ya3 ma.E.length yc3, .bool true] 46)) gx) := Or.inl zx.out
    have g0 := (NS.out.cell 0 ZG.out).trans g0
    have g1 := (NS.out.cell 1 ZG.out).trans g1
    have g2 := (NS.out.cell 2 ZG.out).trans g2
    have g3 := (NS.out.cell 3 ZG.out).trans g3
    have zy : Hid (zup Zx y2 (ay.alloc (.cells #[.int .i64 ma.T, .slice ya1 f.n yc1, .slice ya2 f.k yc2, .slice ya3 ma.E.length yc3, .bool true] 46)) ay.heap.size) := Or.inr ⟨b.size, by simp⟩
    have cy0 : (ay.alloc (.cells #[.int .i64 ma.T, .slice ya1 f.n yc1, .slice ya2 f.k yc2, .slice ya3 ma.E.length yc3, .bool true] 46)).cell? ⟨ay.heap.size, 0, none⟩ = some (.int .i64 ma.T) := boxed (Below.refl (ay.heap.size + 1) (ay.alloc (.cells #[.int .i64 ma.T, .slice ya1 f.n yc1, .slice ya2 f.k yc2, .slice ya3 ma.E.length yc3, .bool true] 46))) 0
    have cy1 : (ay.alloc (.cells #[.int .i64 ma.T, .slice ya1 f.n yc1, .slice ya2 f.k yc2, .slice ya3 ma.E.length yc3, .bool true] 46)).cell? ⟨ay.heap.size, 1, none⟩ = some (.slice ya1 f.n yc1) := boxed (Below.refl (ay.heap.size + 1) (ay.alloc (.cells #[.int .i64 ma.T, .slice ya1 f.n yc1, .slice ya2 f.k yc2, .slice ya3 ma.E.length yc3, .bool true] 46))) 1
    have cy2 : (ay.alloc (.cells #[.int .i64 ma.T, .slice ya1 f.n yc1, .slice ya2 f.k yc2, .slice ya3 ma.E.length yc3, .bool true] 46)).cell? ⟨ay.heap.size, 2, none⟩ = some (.slice ya2 f.k yc2) := boxed (Below.refl (ay.heap.size + 1) (ay.alloc (.cells #[.int .i64 ma.T, .slice ya1 f.n yc1, .slice ya2 f.k yc2, .slice ya3 ma.E.length yc3, .bool true] 46))) 2
    have cy3 : (ay.alloc (.cells #[.int .i64 ma.T, .slice ya1 f.n yc1, .slice ya2 f.k yc2, .slice ya3 ma.E.length yc3, .bool true] 46)).cell? ⟨ay.heap.size, 3, none⟩ = some (.slice ya3 ma.E.length yc3) := boxed (Below.refl (ay.heap.size + 1) (ay.alloc (.cells #[.int .i64 ma.T, .slice ya1 f.n yc1, .slice ya2 f.k yc2, .slice ya3 ma.E.length yc3, .bool true] 46))) 3
    have cy4 : (ay.alloc (.cells #[.int .i64 ma.T, .slice ya1 f.n yc1, .slice ya2 f.k yc2, .slice ya3 ma.E.length yc3, .bool true] 46)).cell? ⟨ay.heap.size, 4, none⟩ = some (.bool true) := boxed (Below.refl (ay.heap.size + 1) (ay.alloc (.cells #[.int .i64 ma.T, .slice ya1 f.n yc1, .slice ya2 f.k yc2, .slice ya3 ma.E.length yc3, .bool true] 46))) 4
    have HZ0 := hid HZ.out
    have HZ : Hid (∀ j, j < w0.heap.size → zup Zx y2 (ay.alloc (.cells #[.int .i64 ma.T, .slice ya1 f.n yc1, .slice ya2 f.k yc2, .slice ya3 ma.E.length yc3, .bool true] 46)) j) := fun j hj => Or.inl (HZ.out j hj)
    have ZG : Hid (zup Zx y2 (ay.alloc (.cells #[.int .i64 ma.T, .slice ya1 f.n yc1, .slice ya2 f.k yc2, .slice ya3 ma.E.length yc3, .bool true] 46)) g) := Or.inl ZG.out
    have SW := hid (SW.out.trans (NS.out.less (fun j hj => HZ0.out j hj)))
    have Ny := hid (K2.out.drop NW.out)
    have SZ := hid (SZ.out.trans (NS.out.less ZS.out))
    have ZS : Hid (∀ j, ZA j → zup Zx y2 (ay.alloc (.cells #[.int .i64 ma.T, .slice ya1 f.n yc1, .slice ya2 f.k yc2, .slice ya3 ma.E.length yc3, .bool true] 46)) j) := fun j hj => Or.inl (ZS.out j hj)
    clear r1 r2 r3 l b BB NW NS LK K2
    go_upto_region 12 with (fail)
    generalize zup Zx y2 (ay.alloc (.cells #[.int .i64 ma.T, .slice ya1 f.n yc1, .slice ya2 f.k yc2, .slice ya3 ma.E.length yc3, .bool true] 46)) = Zy at *
    generalize (ay.alloc (.cells #[.int .i64 ma.T, .slice ya1 f.n yc1, .slice ya2 f.k yc2, .slice ya3 ma.E.length yc3, .bool true] 46)) = uy at *
    generalize ay.heap.size = gy at *
    have KC := hid ((c1adv Ny.out hb t).mono (fun _ _ g => C1P.as g (r' := .int .i64 0) (m' := mb) (congrArg (Value.int .i64) BN.out) BE.out))
    go_wp2_with fail
    refine KC.out.mono ?_
    rintro e y3 ⟨rfl, l, s⟩
    have K3 : Hid (C1 Zy (b) f Q p mb y3) := l
    have SW : Hid (StZ (fun j => j < w0.heap.size) w0 y3) := SW.out.trans (s.less HZ.out)
    have SZ := hid (SZ.out.trans (s.less ZS.out))
    have Lx := hid (Lx.out.stays s)
    have cx0 := (s.cell 0 zx.out).trans cx0
    have cx1 := (s.cell 1 zx.out).trans cx1
    have cx2 := (s.cell 2 zx.out).trans cx2
    have cx3 := (s.cell 3 zx.out).trans cx3
    have cx4 := (s.cell 4 zx.out).trans cx4
    have Ly := hid (Ly.out.stays s)
    have cy0 := (s.cell 0 zy.out).trans cy0
    have cy1 := (s.cell 1 zy.out).trans cy1
    have cy2 := (s.cell 2 zy.out).trans cy2
    have cy3 := (s.cell 3 zy.out).trans cy3
    have cy4 := (s.cell 4 zy.out).trans cy4
    have g0 := (s.cell 0 ZG.out).trans g0
    have g1 := (s.cell 1 ZG.out).trans g1
    have g2 := (s.cell 2 ZG.out).trans g2
    have g3 := (s.cell 3 ZG.out).trans g3
    clear l s KC Ny
    have LK : Hid (Calls Tryd.prog 23 #[.pointer (some ⟨p.bp, 0, none⟩), (.agg #[.slice aC' f.n cC', .slice aR' f.k cR', .int .i64 f.week, .slice aH' f.hol.length cH'])] y3 fun e w' => LoP f mb y3 e w') := c1look K3.out hb (FA0.out.below (SW.out.below (Below.refl _ _) (fun j hj => hj)))
    go_wp2_with fail
    refine LK.out.mono ?_
    rintro e az ⟨vz, rfl, l, b⟩
    have Lz := hid l
    obtain ⟨zV, zS, zL, rfl, r1, r2, r3⟩ := l.ex
    obtain ⟨za1, zc1, rfl⟩ := own_len r1
    obtain ⟨za2, zc2, rfl⟩ := own_len r2
    obtain ⟨za3, zc3, rfl⟩ := own_len r3
    have BB : Hid (Below az.heap.size az (az.alloc (.cells #[.int .i64 mb.T, .slice za1 f.n zc1, .slice za2 f.k zc2, .slice za3 mb.E.length zc3, .bool true] 46))) := boxed_below (Below.refl (az.heap.size + 1) (az.alloc (.cells #[.int .i64 mb.T, .slice za1 f.n zc1, .slice za2 f.k zc2, .slice za3 mb.E.length zc3, .bool true] 46)))
    have NW : Hid (Below y3.heap.size y3 (az.alloc (.cells #[.int .i64 mb.T, .slice za1 f.n zc1, .slice za2 f.k zc2, .slice za3 mb.E.length zc3, .bool true] 46))) := b.trans (BB.out.mono b.size)
    have NS : Hid (StZ Zy y3 (az.alloc (.cells #[.int .i64 mb.T, .slice za1 f.n zc1, .slice za2 f.k zc2, .slice za3 mb.E.length zc3, .bool true] 46))) := StZ.of NW.out K3.out.lt
    have Lz : Hid (LookZ (zup Zy y3 (az.alloc (.cells #[.int .i64 mb.T, .slice za1 f.n zc1, .slice za2 f.k zc2, .slice za3 mb.E.length zc3, .bool true] 46))) f mb _ (az.alloc (.cells #[.int .i64 mb.T, .slice za1 f.n zc1, .slice za2 f.k zc2, .slice za3 mb.E.length zc3, .bool true] 46))) := LookZ.of (Lz.out.below (B2 := 0) BB.out) (fun j h1 h2 => Or.inr ⟨h1, h2⟩)
    have Lx := hid ((Lx.out.stays NS.out).less (Z' := zup Zy y3 (az.alloc (.cells #[.int .i64 mb.T, .slice za1 f.n zc1, .slice za2 f.k zc2, .slice za3 mb.E.length zc3, .bool true] 46))) (fun j hj => Or.inl hj))
    have cx0 := (NS.out.cell 0 zx.out).trans cx0
    have cx1 := (NS.out.cell 1 zx.out).trans cx1
    have cx2 := (NS.out.cell 2 zx.out).trans cx2
    have cx3 := (NS.out.cell 3 zx.out).trans cx3
    have cx4 := (NS.out.cell 4 zx.out).trans cx4
    have zx : Hid (zup Zy y3 (az.alloc (.cells #[.int .i64 mb.T, .slice za1 f.n zc1, .slice za2 f.k zc2, .slice za3 mb.E.length zc3, .bool true] 46)) gx) := Or.inl zx.out
    have Ly := hid ((Ly.out.stays NS.out).less (Z' := zup Zy y3 (az.alloc (.cells #[.int .i64 mb.T, .slice za1 f.n zc1, .slice za2 f.k zc2, .slice za3 mb.E.length zc3, .bool true] 46))) (fun j hj => Or.inl hj))
    have cy0 := (NS.out.cell 0 zy.out).trans cy0
    have cy1 := (NS.out.cell 1 zy.out).trans cy1
    have cy2 := (NS.out.cell 2 zy.out).trans cy2
    have cy3 := (NS.out.cell 3 zy.out).trans cy3
    have cy4 := (NS.out.cell 4 zy.out).trans cy4
    have zy : Hid (zup Zy y3 (az.alloc (.cells #[.int .i64 mb.T, .slice za1 f.n zc1, .slice za2 f.k zc2, .slice za3 mb.E.length zc3, .bool true] 46)) gy) := Or.inl zy.out
    have g0 := (NS.out.cell 0 ZG.out).trans g0
    have g1 := (NS.out.cell 1 ZG.out).trans g1
    have g2 := (NS.out.cell 2 ZG.out).trans g2
    have g3 := (NS.out.cell 3 ZG.out).trans g3
    have zz : Hid (zup Zy y3 (az.alloc (.cells #[.int .i64 mb.T, .slice za1 f.n zc1, .slice za2 f.k zc2, .slice za3 mb.E.length zc3, .bool true] 46)) az.heap.size) := Or.inr ⟨b.size, by simp⟩
    have cz0 : (az.alloc (.cells #[.int .i64 mb.T, .slice za1 f.n zc1, .slice za2 f.k zc2, .slice za3 mb.E.length zc3, .bool true] 46)).cell? ⟨az.heap.size, 0, none⟩ = some (.int .i64 mb.T) := boxed (Below.refl (az.heap.size + 1) (az.alloc (.cells #[.int .i64 mb.T, .slice za1 f.n zc1, .slice za2 f.k zc2, .slice za3 mb.E.length zc3, .bool true] 46))) 0
    have cz1 : (az.alloc (.cells #[.int .i64 mb.T, .slice za1 f.n zc1, .slice za2 f.k zc2, .slice za3 mb.E.length zc3, .bool true] 46)).cell? ⟨az.heap.size, 1, none⟩ = some (.slice za1 f.n zc1) := boxed (Below.refl (az.heap.size + 1) (az.alloc (.cells #[.int .i64 mb.T, .slice za1 f.n zc1, .slice za2 f.k zc2, .slice za3 mb.E.length zc3, .bool true] 46))) 1
    have cz2 : (az.alloc (.cells #[.int .i64 mb.T, .slice za1 f.n zc1, .slice za2 f.k zc2, .slice za3 mb.E.length zc3, .bool true] 46)).cell? ⟨az.heap.size, 2, none⟩ = some (.slice za2 f.k zc2) := boxed (Below.refl (az.heap.size + 1) (az.alloc (.cells #[.int .i64 mb.T, .slice za1 f.n zc1, .slice za2 f.k zc2, .slice za3 mb.E.length zc3, .bool true] 46))) 2
    have cz3 : (az.alloc (.cells #[.int .i64 mb.T, .slice za1 f.n zc1, .slice za2 f.k zc2, .slice za3 mb.E.length zc3, .bool true] 46)).cell? ⟨az.heap.size, 3, none⟩ = some (.slice za3 mb.E.length zc3) := boxed (Below.refl (az.heap.size + 1) (az.alloc (.cells #[.int .i64 mb.T, .slice za1 f.n zc1, .slice za2 f.k zc2, .slice za3 mb.E.length zc3, .bool true] 46))) 3
    have cz4 : (az.alloc (.cells #[.int .i64 mb.T, .slice za1 f.n zc1, .slice za2 f.k zc2, .slice za3 mb.E.length zc3, .bool true] 46)).cell? ⟨az.heap.size, 4, none⟩ = some (.bool true) := boxed (Below.refl (az.heap.size + 1) (az.alloc (.cells #[.int .i64 mb.T, .slice za1 f.n zc1, .slice za2 f.k zc2, .slice za3 mb.E.length zc3, .bool true] 46))) 4
    have HZ0 := hid HZ.out
    have HZ : Hid (∀ j, j < w0.heap.size → zup Zy y3 (az.alloc (.cells #[.int .i64 mb.T, .slice za1 f.n zc1, .slice za2 f.k zc2, .slice za3 mb.E.length zc3, .bool true] 46)) j) := fun j hj => Or.inl (HZ.out j hj)
    have ZG : Hid (zup Zy y3 (az.alloc (.cells #[.int .i64 mb.T, .slice za1 f.n zc1, .slice za2 f.k zc2, .slice za3 mb.E.length zc3, .bool true] 46)) g) := Or.inl ZG.out
    have SW := hid (SW.out.trans (NS.out.less (fun j hj => HZ0.out j hj)))
    have Nz := hid (K3.out.drop NW.out)
    have SZ := hid (SZ.out.trans (NS.out.less ZS.out))
    have ZS : Hid (∀ j, ZA j → zup Zy y3 (az.alloc (.cells #[.int .i64 mb.T, .slice za1 f.n zc1, .slice za2 f.k zc2, .slice za3 mb.E.length zc3, .bool true] 46)) j) := fun j hj => Or.inl (ZS.out j hj)
    clear r1 r2 r3 l b BB NW NS LK K3
    go_upto_region 14 with (fail)
    generalize zup Zy y3 (az.alloc (.cells #[.int .i64 mb.T, .slice za1 f.n zc1, .slice za2 f.k zc2, .slice za3 mb.E.length zc3, .bool true] 46)) = Zz at *
    generalize (az.alloc (.cells #[.int .i64 mb.T, .slice za1 f.n zc1, .slice za2 f.k zc2, .slice za3 mb.E.length zc3, .bool true] 46)) = uz at *
    generalize az.heap.size = gz at *
    have zz1 := Nz.out.lt gz zz.out
    have zx1 := Nz.out.lt gx zx.out
    obtain ⟨Bx, lx⟩ := Lx.out.lk
    obtain ⟨By, ly⟩ := Ly.out.lk
    obtain ⟨Bx', rx1, rx2, rx3⟩ := Lx.out.rows
    obtain ⟨Bz', rz1, rz2, rz3⟩ := Lz.out.rows
    have UN := hid (kunmoved_any lx ly (fun i hi => by rw [MA.out.1, MA.out.2.1]; exact (HV.out i hi).symm) (fun i _ => by rw [MA.out.2.2.1]) MA.out.2.2.2.symm n20 k6 HL.out)
    have SI := hid (fun W (hW : Below uz.heap.size uz W) => ksameInts_any (own_of_block rx1 (w' := W) (fun g _ hlt => hW.block g hlt)) (own_of_block rz1 (w' := W) (fun g _ hlt => hW.block g hlt)) n20)
    clear lx ly rx1 rx2 rx3 rz1 rz2 rz3
    go_wp2_with fail
    refine UN.out.mono ?_
    rintro e w9 ⟨rfl, hb9⟩
    have B9 := hid hb9
    have cx1 := (hb9.cell (p := ⟨gx, 1, none⟩) zx1).trans cx1
    have cx3 := (hb9.cell (p := ⟨gx, 3, none⟩) zx1).trans cx3
    have cz1 := (hb9.cell (p := ⟨gz, 1, none⟩) zz1).trans cz1
    have cz3 := (hb9.cell (p := ⟨gz, 3, none⟩) zz1).trans cz3
    have cz4 := (hb9.cell (p := ⟨gz, 4, none⟩) zz1).trans cz4
    clear hb9 UN
    go_wp2_with fail
    refine (SI.out _ B9.out).mono ?_
    rintro e w10 ⟨r, rfl, hr, hb10⟩
    have B10 := hid (B9.out.trans (hb10.mono B9.out.size))
    have zx9 : gx < w9.heap.size := by have := B9.out.size; omega
    have zz9 : gz < w9.heap.size := by have := B9.out.size; omega
    have cx3 := (hb10.cell (p := ⟨gx, 3, none⟩) zx9).trans cx3
    have cz3 := (hb10.cell (p := ⟨gz, 3, none⟩) zz9).trans cz3
    have cz4 := (hb10.cell (p := ⟨gz, 4, none⟩) zz9).trans cz4
    have R : Hid (HopP ZA b f Q p w (.returned (.tuple #[.bool true, .bool true])) w10) := ⟨true, mb, rfl, (Nz.out.keep B10.out).less ZS.out, SZ.out.trans ((StZ.of B10.out Nz.out.lt).less ZS.out)⟩
    have HR : Hid (r = true → (m.E.length : Int) < (mb.E.length : Int)) := fun e => by
      rcases NO.out with h | h
      · refine (h (fun i hi => ?_)).elim
        have := hr.1 e i hi
        rw [MB.out.1, MB.out.2] at this
        exact this
      · omega
    clear hb10 hr B9 SI
    cases r
    · go_wp2
      go_ret2
      exact R.out
    · have hlt := HR.out rfl
      go_wp2
      go_ret2
      exact R.out

set_option maxRecDepth 100000 in
set_option maxHeartbeats 4000000 in
theorem kwalk_any (C : Nat → Cel) (R : Nat → Rul) (hol : List Int) (aC aR aH : Option Addr) (n cC k cR cH : Nat) (week : Int) (w : World) (ht : Tab w) (hn : n ≤ 1000000000) (hk : k ≤ 1000000000) (hhl : hol.length ≤ 1000000000) (h64 : Raw64 C n R k week hol)
    (hcs : CAt w aC n C) (hrs : RAt w aR k R) (hhs : IntsAt w (.slice aH hol.length cH) hol) {aS : Option Addr} {mS cS : Nat} {S : Nat → StK} (hsc : ScK w aS mS S) (hm : mS ≤ 1048576) (at' hops : Int) (h1 : I64k at') (h2 : I64k hops) :
    Calls Tryd.prog 6 #[.agg #[.slice aC n cC, .slice aR k cR, .int .i64 week, .slice aH hol.length cH], .slice aS mS cS, .int .i64 at', .int .i64 hops] w fun e w' => TPost w e w' := by
  have BX := hid (Below.refl (w.heap.size + 1) (w.alloc (.cells #[.slice aC n cC, .slice aR k cR, .int .i64 week, .slice aH hol.length cH] 26)))
  have BW := hid (boxed_below BX.out)
  have SH := hid (kshaped_any C R hol aC aR aH n cC k cR cH week _ hn hk hhl h64 (hcs.below BW.out) (hrs.below BW.out) (SlAt.below hhs BW.out (Nat.le_refl _)))
  have FSO := hid (shF_ok C n R k week hol)
  have HT := hid ht
  have HSC := hid hsc
  clear hcs hrs hhs h64 ht hsc
  generalize shF C n R k week hol = f at *
  go_enter Tryd.func6, Tryd.ntmps6
  go_wp2_with fail
  refine SH.out.mono ?_
  rintro e w1 ⟨fv, rfl, fa, hb1⟩
  have FA := hid fa
  obtain ⟨aC', cC', aR', cR', aH', cH', rfl, fa1, fa2, fa3⟩ := fa
  clear fa1 fa2 fa3
  have B1 : Hid (Below w.heap.size w w1) := BW.out.trans (hb1.mono (by simp))
  clear hb1 BX BW SH
  have BX := hid (Below.refl (w1.heap.size + 1) (w1.alloc (.cells #[.slice aC' f.n cC', .slice aR' f.k cR', .int .i64 f.week, .slice aH' f.hol.length cH'] 26)))
  have BB := hid (boxed_below BX.out)
  have f0 : (w1.alloc (.cells #[.slice aC' f.n cC', .slice aR' f.k cR', .int .i64 f.week, .slice aH' f.hol.length cH'] 26)).cell? ⟨w1.heap.size, 0, none⟩ = some (Value.slice aC' f.n cC') := boxed BX.out 0
  have f1 : (w1.alloc (.cells #[.slice aC' f.n cC', .slice aR' f.k cR', .int .i64 f.week, .slice aH' f.hol.length cH'] 26)).cell? ⟨w1.heap.size, 1, none⟩ = some (Value.slice aR' f.k cR') := boxed BX.out 1
  have f2 : (w1.alloc (.cells #[.slice aC' f.n cC', .slice aR' f.k cR', .int .i64 f.week, .slice aH' f.hol.length cH'] 26)).cell? ⟨w1.heap.size, 2, none⟩ = some (.int .i64 f.week) := boxed BX.out 2
  have f3 : (w1.alloc (.cells #[.slice aC' f.n cC', .slice aR' f.k cR', .int .i64 f.week, .slice aH' f.hol.length cH'] 26)).cell? ⟨w1.heap.size, 3, none⟩ = some (Value.slice aH' f.hol.length cH') := boxed BX.out 3
  have zg : w1.heap.size < (w1.alloc (.cells #[.slice aC' f.n cC', .slice aR' f.k cR', .int .i64 f.week, .slice aH' f.hol.length cH'] 26)).heap.size := by simp
  have B0 : Hid (Below w.heap.size w (w1.alloc (.cells #[.slice aC' f.n cC', .slice aR' f.k cR', .int .i64 f.week, .slice aH' f.hol.length cH'] 26))) := B1.out.trans (BB.out.mono B1.out.size)
  have FA0 := hid (FA.out.below BB.out)
  have SC0 := hid (HSC.out.below B0.out)
  have T0 := hid (HT.out.below B0.out (Nat.le_refl _))
  clear BX BB FA B1 HT HSC
  go_upto_region 2 with (fail)
  generalize w1.alloc (.cells #[.slice aC' f.n cC', .slice aR' f.k cR', .int .i64 f.week, .slice aH' f.hol.length cH'] 26) = w0 at *
  generalize w1.heap.size = g at *
  obtain ⟨n1, n20, k6, _, _⟩ := FSO.out.ok.sizes
  have INS := hid (fun W => kinstant_any at' W h1)
  obtain ⟨p0, p1⟩ := pickI_bd at' (n := 1000000001) (by omega)
  generalize pickI at' 1000000001 = ta at *
  have BG := hid (fun W (hW : Below w0.heap.size w0 W) => c1begun (cS := cS) (T0.out.below hW (Nat.le_refl _)) FSO.out.ok (FA0.out.below hW) (SC0.out.below hW) hm ta p0 (by omega))
  generalize advM f (fillM f S mS) ta = m at *
  go_region_held3 (fun w' => w'.cell? ⟨g, 0, none⟩ = some (.slice aC' f.n cC') ∧ w'.cell? ⟨g, 1, none⟩ = some (.slice aR' f.k cR') ∧ w'.cell? ⟨g, 2, none⟩ = some (.int .i64 f.week) ∧ w'.cell? ⟨g, 3, none⟩ = some (.slice aH' f.hol.length cH'))
    (refine ⟨?_, ?_, ?_, ?_⟩ <;> assumption)
    (first
      | (go_at_call 29; refine (INS.out _).mono ?_; rintro e w' ⟨rfl, hw⟩; rw [hw]; clear hw w')
      | (go_at_call 28; refine (BG.out _ (Below.refl _ _).drew).mono ?_; rintro e w2 ⟨Q, p, rfl, c1, s1⟩; have m0 : w2.cell? ⟨g, 0, none⟩ = some (.slice aC' f.n cC') := (s1.cell 0 zg).trans f0; have m1 : w2.cell? ⟨g, 1, none⟩ = some (.slice aR' f.k cR') := (s1.cell 1 zg).trans f1; have m2 : w2.cell? ⟨g, 2, none⟩ = some (.int .i64 f.week) := (s1.cell 2 zg).trans f2; have m3 : w2.cell? ⟨g, 3, none⟩ = some (.slice aH' f.hol.length cH') := (s1.cell 3 zg).trans f3)
      | fail)
  all_goals (
    have C1' : Hid (C1 (fun j => j < w0.heap.size) (1 + mS) f Q p m w2) := c1
    have S1 : Hid (StZ (fun j => j < w0.heap.size) w0 w2) := ⟨s1.os, s1.tape, s1.output, s1.size, s1.block⟩
    have PK := hid (fun W => kpick_any hops 60 W h2 (by omega) (by omega))
    obtain ⟨q0, q1⟩ := pickI_bd hops (n := 60) (by omega)
    generalize pickI hops 60 = ho at *
    clear c1 s1 m0 m1 m2 m3
    go_wp2_with fail
    refine (PK.out _).mono ?_
    rintro e w' ⟨rfl, hw⟩
    rw [hw]
    clear hw w' PK
    go_wp2_with fail
    go_loopw [11] (fun t wr => ∃ (j : Int) (m' : Cs), -1 ≤ j ∧ j < 60 ∧ t = .int .i64 j ∧ Hid (C1 (fun j => j < w0.heap.size) (1 + mS) f Q p m' wr) ∧ Hid (StZ (fun j => j < w0.heap.size) w0 wr)) (fun t _ => (intOf t + 1).toNat)
    case atStart => exact ⟨ho, m, by omega, by omega, rfl, C1', S1⟩
    case round =>
      clear C1' S1
      obtain ⟨j, m', j0, j1, rfl, hc, hs⟩ := hrel
      by_cases hj : 0 ≤ j
      · have x0 := (hs.out.cell 0 zg).trans f0
        have x1 := (hs.out.cell 1 zg).trans f1
        have x2 := (hs.out.cell 2 zg).trans f2
        have x3 := (hs.out.cell 3 zg).trans f3
        have HP := hid (khop_any hc.out (by omega) hs.out (fun j hj => hj) FA0.out)
        clear hc
        go_wp2_with fail
        refine HP.out.mono ?_
        rintro e w5 ⟨more, m2, rfl, c5, s5⟩
        have C5 := hid c5
        have S5 := hid (hs.out.trans s5)
        clear c5 s5 hs HP
        cases more
        · have R : Hid (TPost w (.returned (.bool true)) w5) := ⟨rfl, B0.out.trans ((S5.out.below (Below.refl _ _) (fun j hj => hj)).mono B0.out.size)⟩
          go_wp2
          go_ret
          exact R.out
        · go_wp2
          go_roundw
          case rel => exact ⟨j - 1, m2, by omega, by omega, by go_num, C5, S5⟩
          case measure => simp [intOf]; omega
      · have R : Hid (TPost w (.returned (.bool true)) wr) := ⟨rfl, B0.out.trans ((hs.out.below (Below.refl _ _) (fun j hj => hj)).mono B0.out.size)⟩
        go_wp2
        go_ret
        exact R.out)

end Go.Proofs.YtmofidaojmiepaaDoor

/-
  SEVERAL CASES: their calls, the rooms of their logs left unsaid.
-/
set_option linter.unusedVariables false
set_option linter.unusedSimpArgs false
namespace Go.Proofs.YtmofidaojmiepaaDoor
open Go.RowKit
attribute [local go_sem ↓] Go.wp_at_zero Go.wp_at_succ

/-- Four things by name. -/
def q4 {α : Type} (A B C D : α) : Nat → α
  | 0 => A
  | 1 => B
  | 2 => C
  | _ => D
section
variable {α : Type} (A B C D X : α)
theorem q4_0 : upd (q4 A B C D) 0 X = q4 X B C D := by
  funext i
  match i with
  | 0 => exact upd_same _ _ _
  | 1 => exact upd_other _ _ (by omega)
  | 2 => exact upd_other _ _ (by omega)
  | n + 3 => exact upd_other _ _ (by omega)
theorem q4_1 : upd (q4 A B C D) 1 X = q4 A X C D := by
  funext i
  match i with
  | 0 => exact upd_other _ _ (by omega)
  | 1 => exact upd_same _ _ _
  | 2 => exact upd_other _ _ (by omega)
  | n + 3 => exact upd_other _ _ (by omega)
theorem q4_2 : upd (q4 A B C D) 2 X = q4 A B X D := by
  funext i
  match i with
  | 0 => exact upd_other _ _ (by omega)
  | 1 => exact upd_other _ _ (by omega)
  | 2 => exact upd_same _ _ _
  | n + 3 => exact upd_other _ _ (by omega)
theorem q4_3 (i : Nat) (hi : i < 4) : upd (q4 A B C D) 3 X i = q4 A B C X i := by
  have : i = 0 ∨ i = 1 ∨ i = 2 ∨ i = 3 := by omega
  rcases this with rfl | rfl | rfl | rfl
  · exact upd_other _ _ (by omega)
  · exact upd_other _ _ (by omega)
  · exact upd_other _ _ (by omega)
  · exact upd_same _ _ _
end

/-- Of a case: what it stands on, its places, its form. -/
structure KS where
  Q : Nat → Prop
  p : KPl
  f : Frm

/-- Cases, and blocks that are nobody's. -/
def CN (Z : Nat → Prop) (b np : Nat) (K : Nat → KS) (M : Nat → Cs) (w : World) : Prop := ∃ V : Nat → Value, LS Z b np (fun i => ⟨(K i).Q, (K i).p, V i, (K i).f, M i⟩) w
def CNP (r : Value) (Z : Nat → Prop) (b np : Nat) (K : Nat → KS) (M : Nat → Cs) (w : World) (e : Ending) (w' : World) : Prop := e = .returned r ∧ CN Z b np K M w' ∧ StZ Z w w'
def CNA (Z : Nat → Prop) (b np : Nat) (K : Nat → KS) (M : Nat → Cs) (f : Frm) (m : Cs) (w : World) (e : Ending) (w' : World) : Prop := ∃ Q p, e = .returned (.pointer (some ⟨p.bp, 0, none⟩)) ∧ CN Z b (np + 1) (upd K np ⟨Q, p, f⟩) (upd M np m) w' ∧ StZ Z w w'

section
variable {Z : Nat → Prop} {b np : Nat} {K : Nat → KS} {M : Nat → Cs} {w w' : World}

theorem CNP.of {r : Value} {b' i : Nat} {m' : Cs} {V : Nat → Value} {e : Ending} (g : LsC r Z b' np (fun i => ⟨(K i).Q, (K i).p, V i, (K i).f, M i⟩) i m' w e w') : CNP r Z b' np K (upd M i m') w e w' := by
  obtain ⟨g0, v', g1, g2⟩ := g
  refine ⟨g0, ⟨upd V i v', g1.congr (fun j hj => ?_)⟩, g2⟩
  by_cases e : j = i
  · subst e
    rw [upd_same, upd_same, upd_same]
  · rw [upd_other _ _ e, upd_other _ _ e, upd_other _ _ e]
theorem CNA.of {b' : Nat} {f : Frm} {m' : Cs} {V : Nat → Value} {e : Ending} (g : LsA Z b' np (fun i => ⟨(K i).Q, (K i).p, V i, (K i).f, M i⟩) f m' w e w') : CNA Z b' np K M f m' w e w' := by
  obtain ⟨Q, p, v, g0, g1, g2⟩ := g
  refine ⟨Q, p, g0, ⟨upd V np v, g1.congr (fun j hj => ?_)⟩, g2⟩
  by_cases e : j = np
  · subst e
    rw [upd_same, upd_same, upd_same, upd_same]
  · rw [upd_other _ _ e, upd_other _ _ e, upd_other _ _ e, upd_other _ _ e]
theorem CN.congr (h : CN Z b np K M w) {K' : Nat → KS} {M' : Nat → Cs} (hK : ∀ i, i < np → K i = K' i) (hM : ∀ i, i < np → M i = M' i) : CN Z b np K' M' w := by
  obtain ⟨V, h⟩ := h
  exact ⟨V, h.congr (fun i hi => by rw [hK i hi, hM i hi])⟩
theorem CN.start (ht : Tab w) (K : Nat → KS) (M : Nat → Cs) (b : Nat) : CN (fun j => j < w.heap.size) b 0 K M w := ⟨fun _ => .bool false, LS.start ht _ b⟩
theorem CN.lt (h : CN Z b np K M w) : ∀ j, Z j → j < w.heap.size := by obtain ⟨v, h⟩ := h; exact h.lt
theorem CN.drop (h : CN Z b np K M w) (hb : Below w.heap.size w w') : CN (zup Z w w') b np K M w' := by obtain ⟨v, h⟩ := h; exact ⟨v, h.drop hb⟩
theorem CN.less (h : CN Z b np K M w) {Z' : Nat → Prop} (hz : ∀ j, Z' j → Z j) : CN Z' b np K M w := by obtain ⟨v, h⟩ := h; exact ⟨v, h.less hz⟩
theorem CN.keep (h : CN Z b np K M w) (hb : Below w.heap.size w w') : CN Z b np K M w' := by obtain ⟨v, h⟩ := h; exact ⟨v, h.keep hb⟩
theorem CN.up (h : CN Z b np K M w) {b2 : Nat} (hb : b ≤ b2) : CN Z b2 np K M w := by obtain ⟨v, h⟩ := h; exact ⟨v, h.up hb⟩
theorem CN.fok (h : CN Z b np K M w) {i : Nat} (hi : i < np) : (K i).f.Ok := by obtain ⟨v, h⟩ := h; exact h.fok hi
theorem CN.mok (h : CN Z b np K M w) {i : Nat} (hi : i < np) : (M i).Ok (K i).f := by obtain ⟨v, h⟩ := h; exact h.mok hi
theorem CN.len (h : CN Z b np K M w) {i : Nat} (hi : i < np) (hb : b ≤ 10000000000) : (M i).E.length ≤ 999999999000 := by obtain ⟨v, h⟩ := h; exact h.len hi hb
theorem CN.qlt (h : CN Z b np K M w) {i : Nat} (hi : i < np) : ∀ j, (K i).Q j → j < w.heap.size := by obtain ⟨v, h⟩ := h; exact h.qlt hi

theorem cnopened (h : CN Z b np K M w) (hb : 1 ≤ b) {f : Frm} (hf : f.Ok) {fv : Value} (hfv : FAt w f fv) : Calls Tryd.prog 13 #[fv] w fun e w' => CNA Z b np K M f (beginM f) w e w' := by
  obtain ⟨v, h⟩ := h
  exact (lopened h hb hf hfv).mono (fun _ _ g => CNA.of g)
theorem cnbegun (h : CN Z b np K M w) {w0 : World} (hw0 : Below w0.heap.size w0 w) (hz : ∀ j, j < w0.heap.size → Z j) {f : Frm} (hf : f.Ok) {fv : Value} (hfv : FAt w0 f fv) {aS : Option Addr} {m cS : Nat} {S : Nat → StK} (hsc : ScK w0 aS m S) (hm : m ≤ 1048576) (hb1 : 1 ≤ b) (hbb : b ≤ 8000000000) (at' : Int) (ha0 : 0 ≤ at') (ha1 : at' ≤ 1000000000) :
    Calls Tryd.prog 28 #[fv, .slice aS m cS, .int .i64 at'] w fun e w' => CNA Z (b + m) np K M f (advM f (fillM f S m) at') w e w' := by
  obtain ⟨v, h⟩ := h
  exact (lbegun h hw0 hz hf hfv hsc hm hb1 hbb at' ha0 ha1).mono (fun _ _ g => CNA.of g)
theorem cnfork (h : CN Z b np K M w) {i : Nat} (hi : i < np) (hb : b ≤ 10000000000) : Calls Tryd.prog 36 #[.pointer (some ⟨(K i).p.bp, 0, none⟩)] w fun e w' => CNA Z b np K M (K i).f (M i) w e w' := by
  obtain ⟨v, h⟩ := h
  exact (lfork h hi hb).mono (fun _ _ g => CNA.of g)
theorem cnset (h : CN Z b np K M w) {i : Nat} (hi : i < np) (hb : b ≤ 10000000000) (c v : Int) : Calls Tryd.prog 18 #[.pointer (some ⟨(K i).p.bp, 0, none⟩), .int .i64 c, .int .i64 v] w fun e w' => CNP (.int .i64 (setNo (K i).f (M i) c v)) Z (b + 1) np K (upd M i (setM (K i).f (M i) c v)) w e w' := by
  obtain ⟨v', h⟩ := h
  exact (lset h hi hb c v).mono (fun _ _ g => CNP.of g)
theorem cnadv (h : CN Z b np K M w) {i : Nat} (hi : i < np) (hb : b ≤ 10000000000) (tq : Int) : Calls Tryd.prog 20 #[.pointer (some ⟨(K i).p.bp, 0, none⟩), .int .i64 tq] w fun e w' => CNP (.int .i64 (advAns (M i).T tq)) Z b np K (upd M i (advM (K i).f (M i) tq)) w e w' := by
  obtain ⟨v', h⟩ := h
  exact (ladv h hi hb tq).mono (fun _ _ g => CNP.of g)
theorem cnlook (h : CN Z b np K M w) {i : Nat} (hi : i < np) (hb : b ≤ 10000000000) {fv : Value} (hfv : FAt w (K i).f fv) : Calls Tryd.prog 23 #[.pointer (some ⟨(K i).p.bp, 0, none⟩), fv] w fun e w' => LoP (K i).f (M i) w e w' := by
  obtain ⟨v, h⟩ := h
  exact llook h hi hb hfv
theorem cnplay (h : CN Z b np K M w) {w0 : World} (hw0 : Below w0.heap.size w0 w) (hz : ∀ j, j < w0.heap.size → Z j) {f : Frm} {fv : Value} (hfv : FAt w0 f fv) {aS : Option Addr} {m cS : Nat} {S : Nat → StK} (hsc : ScK w0 aS m S) {i : Nat} (hi : i < np) (hfi : (K i).f = f) (hop : (M i).op = true) (hm : m ≤ 1048576) (hbb : b ≤ 8000000000) :
    Calls Tryd.prog 35 #[.pointer (some ⟨(K i).p.bp, 0, none⟩), fv, .slice aS m cS] w fun e w' => CNP (.bool true) Z (b + m) np K (upd M i (playM f (M i) S m)) w e w' := by
  obtain ⟨v, h⟩ := h
  exact (lplay h hw0 hz hfv hsc hi hfi hop hm hbb).mono (fun _ _ g => CNP.of g)
theorem cnone (h : CN Z b np K M w) {f : Frm} {fv : Value} (hfv : FAt w f fv) {i : Nat} (hi : i < np) (hfi : (K i).f = f) (hop : (M i).op = true) (hbb : b ≤ 9000000000) (kd a b' : Int) (h0 : I64k kd) (h1 : I64k a) (h2 : I64k b') :
    Calls Tryd.prog 37 #[.pointer (some ⟨(K i).p.bp, 0, none⟩), fv, .agg #[.int .i64 kd, .int .i64 a, .int .i64 b']] w fun e w' => CNP (.bool true) Z (b + 1) np K (upd M i (oneM f (M i) kd a b')) w e w' := by
  obtain ⟨v, h⟩ := h
  exact (lone h hfv hi hfi hop hbb kd a b' h0 h1 h2).mono (fun _ _ g => CNP.of g)

/-- A store into a block that is nobody's, and that no case stands on. -/
theorem CN.store (h : CN Z b np K M w) {g : Nat} (hg : Z g) (hq : ∀ i, i < np → ¬ (K i).Q g) (hg0 : g ≠ 0) (hs : w.heap.size ≤ w'.heap.size) (hb : ∀ j, j < w.heap.size → j ≠ g → w'.heap[j]? = w.heap[j]?) : CN Z b np K M w' := by
  obtain ⟨V, tag, h1, h2⟩ := h
  refine ⟨V, ntag tag w.heap.size 0, ⟨fun i hi => ?_, fun i hi j hj => ?_, fun i hi j hj => ?_, h1.kok, h1.fok, ⟨by have := h1.tab.1; omega, fun q hq' => ?_⟩, ?_⟩, fun j hj => ?_⟩
  · refine KSt.move (h1.kst i hi) hs (fun j hj => ?_)
    rcases hj with hj | hj
    · exact hb j (KSt.qlt (h1.kst i hi) j hj) (fun e => hq i hi (e ▸ hj))
    · refine hb j (KSt.own_lt (h1.kst i hi) j hj) (fun e => ?_)
      have t1 := h1.kown i hi j hj
      rw [e, (h2 g hg).2] at t1
      omega
  · rw [ntag_old (KSt.own_lt (h1.kst i hi) j hj)]; exact h1.kown i hi j hj
  · rw [ntag_old (KSt.qlt (h1.kst i hi) j hj)]; exact h1.kq i hi j hj
  · have := h1.tab.2 q hq'
    have e : w'.heap[0]? = w.heap[0]? := hb 0 h1.tab.1 (fun e => hg0 e.symm)
    unfold World.cell? at this ⊢
    rw [e]
    exact this
  · rw [ntag_old h1.tab.1]; exact h1.t0
  · obtain ⟨a, c⟩ := h2 j hj
    exact ⟨by omega, by rw [ntag_old a]; exact c⟩
end

end Go.Proofs.YtmofidaojmiepaaDoor

/-
  THE WALKS: docketkeep's cutTo, dayOf, works, between, number, plain.
-/
set_option linter.unusedVariables false
set_option linter.unusedSimpArgs false
namespace Go.Proofs.YtmofidaojmiepaaDoor
open Go.RowKit
attribute [local go_sem ↓] Go.wp_at_zero Go.wp_at_succ

set_option maxHeartbeats 400000 in
theorem kcutTo_any (v : Int) (w : World) : Calls Tryd.prog 88 #[.int .i64 v] w fun e w' => e = .returned (.int .i64 (M.cutv v)) ∧ w' = w := by
  go_enter Tryd.func88, Tryd.ntmps88
  go_wp2
  all_goals go_ret
  all_goals exact ⟨ret_int (by unfold M.cutv; repeat' split
                               all_goals omega), rfl⟩

set_option maxHeartbeats 400000 in
theorem knumber_any (b : Bool) (w : World) : Calls Tryd.prog 71 #[.bool b] w fun e w' => e = .returned (.int .i64 (M.num b)) ∧ w' = w := by
  cases b <;> (go_enter Tryd.func71, Tryd.ntmps71; go_wp2; go_ret; exact ⟨rfl, rfl⟩)

theorem tdiv_day {v : Int} : (v.tdiv 86400 * 86400 > v → v / 86400 = v.tdiv 86400 - 1) ∧ (¬ v.tdiv 86400 * 86400 > v → v / 86400 = v.tdiv 86400) := by
  by_cases h : 0 ≤ v
  · have e : v.tdiv 86400 = v / 86400 := Int.tdiv_eq_ediv_of_nonneg h
    omega
  · have e : v.tdiv 86400 = -((-v) / 86400) := by
      have h1 : v.tdiv 86400 = -((-v).tdiv 86400) := by rw [Int.neg_tdiv, Int.neg_neg]
      rw [h1, Int.tdiv_eq_ediv_of_nonneg (by omega)]
    omega
theorem tdiv_bd {v : Int} (h0 : -2000000000 ≤ v) (h1 : v ≤ 2000000000) : -30000 ≤ v.tdiv 86400 ∧ v.tdiv 86400 ≤ 30000 := by
  have h := tdiv_day (v := v)
  by_cases c : v.tdiv 86400 * 86400 > v
  · have := h.1 c; omega
  · have := h.2 c; omega

set_option maxHeartbeats 400000 in
theorem kdayOf_any (v : Int) (w : World) (hv : -2000000000 ≤ v) (hv' : v ≤ 2000000000) : Calls Tryd.prog 85 #[.int .i64 v] w fun e w' => e = .returned (.int .i64 (v / 86400)) ∧ w' = w := by
  obtain ⟨b0, b1⟩ := tdiv_bd hv hv'
  obtain ⟨t1, t2⟩ := tdiv_day (v := v)
  have T1 := hid t1
  have T2 := hid t2
  clear t1 t2
  by_cases c : v < v.tdiv 86400 * 86400
  · have e := T1.out c
    rw [e]
    clear e T1 T2
    go_enter Tryd.func85, Tryd.ntmps85
    go_wp2
    go_ret
    simp
  · have e := T2.out (by omega)
    rw [e]
    clear e T1 T2
    go_enter Tryd.func85, Tryd.ntmps85
    go_wp2
    go_ret
    simp

theorem kwork_eq {week : Int} (h1 : 0 ≤ week) (h2 : week ≤ 127) (d : Int) : (bits BinOp.and IntKind.i64 (week / 2 ^ (d % 7).toNat) 1 == 1) = M.atw week d := atWork_eq h1 h2 d rfl rfl

def WkP (r : Bool) (w : World) (e : Ending) (w' : World) : Prop := e = .returned (.bool r) ∧ Below w.heap.size w w'

set_option maxRecDepth 100000 in
set_option maxHeartbeats 1000000 in
theorem kworks_any {f : Frm} (hf : f.Ok) {fv : Value} {w : World} (hfv : FAt w f fv) (d : Int) (hd : -1000000 ≤ d) (hd' : d ≤ 1000000) : Calls Tryd.prog 87 #[fv, .int .i64 d] w fun e w' => WkP (M.wkd f.week f.hol d) w e w' := by
  obtain ⟨_, _, _, w1, w2⟩ := hf.sizes
  have hl := hf.hol.1
  obtain ⟨aC, cC, aR, cR, aH, cH, rfl, _, _, h3⟩ := hfv
  have HC := hid (IntsAt.cases h3)
  have hq := kwork_eq (by omega) w2 d
  have BX := hid (Below.refl (w.heap.size + 1) (w.alloc (.cells #[.slice aC f.n cC, .slice aR f.k cR, .int .i64 f.week, .slice aH f.hol.length cH] 26)))
  have BW := hid (boxed_below BX.out)
  have g2 : (w.alloc (.cells #[.slice aC f.n cC, .slice aR f.k cR, .int .i64 f.week, .slice aH f.hol.length cH] 26)).cell? ⟨w.heap.size, 2, none⟩ = some (.int .i64 f.week) := boxed BX.out 2
  have g3 : (w.alloc (.cells #[.slice aC f.n cC, .slice aR f.k cR, .int .i64 f.week, .slice aH f.hol.length cH] 26)).cell? ⟨w.heap.size, 3, none⟩ = some (.slice aH f.hol.length cH) := boxed BX.out 3
  have NO : Hid (∀ k, k < f.hol.length → f.hol.getD k 0 = d → M.wkd f.week f.hol d = false) := fun k hk e => wkd_no hk e
  have YES : Hid ((∀ i : Nat, i < f.hol.length → f.hol.getD i 0 ≠ d) → M.wkd f.week f.hol d = M.atw f.week d) := fun h => by
    have : f.hol.contains d = false := by
      rw [Bool.eq_false_iff]; intro hc
      obtain ⟨i, hi, e⟩ := List.mem_iff_getElem.1 (List.contains_iff_mem.1 hc)
      exact h i hi (by simp [List.getD, hi, e])
    simp only [M.wkd, this]; simp
  have m1 : d.tmod 7 < 0 → d.tmod 7 + 7 = d % 7 := fun h => M.mod_neg (by omega) h
  have m2 : ¬ d.tmod 7 < 0 → d.tmod 7 = d % 7 := fun h => M.mod_pos (by omega) (by omega)
  have s2 : (0 ≤ d % 7 ∧ d % 7 < 7) := by omega
  generalize M.wkd f.week f.hol d = rr at *
  generalize M.atw f.week d = ra at *
  generalize f.week = wk at *
  have M1 := hid m1
  have M2 := hid m2
  clear m1 m2 h3 hf
  go_enter Tryd.func87, Tryd.ntmps87
  go_upto_region 1 with (fail)
  generalize w.alloc (.cells #[.slice aC f.n cC, .slice aR f.k cR, .int .i64 wk, .slice aH f.hol.length cH] 26) = wB at *
  by_cases hneg : d.tmod 7 < 0
  all_goals (
    first | (have e := M1.out hneg) | (have e := M2.out hneg)
    clear M1 M2
    go_upto_region 4 with (fail)
    clear e hneg
    generalize d % 7 = dm at *
    go_wp2_with fail
    go_loop [6] (fun t => ∃ k : Nat, k ≤ f.hol.length ∧ t = .int .i64 k ∧ Hid (∀ i : Nat, i < k → f.hol.getD i 0 ≠ d)) (fun t => f.hol.length - (intOf t).toNat)
    case atStart => exact ⟨0, by omega, rfl, fun i hi => by omega⟩
    case round =>
      obtain ⟨k, k1, rfl, hk⟩ := hrel
      by_cases hlt : k < f.hol.length
      · have lt' : (k : Int) < (f.hol.length : Int) := by omega
        rcases HC.out with h0 | ⟨b, off, rfl, hb, hcell⟩
        · omega
        have hx := (BW.out.cell (p := ⟨b, off + k, none⟩) hb).trans (hcell k hlt)
        by_cases e : f.hol.getD k 0 = d
        · have R : Hid (WkP rr w (.returned (.bool false)) wB) := ⟨by rw [NO.out k hlt e], BW.out⟩
          rw [e] at hx
          clear hcell e
          go_wp2
          go_ret
          exact R.out
        · have A : Hid (∀ i : Nat, i < k + 1 → f.hol.getD i 0 ≠ d) := fun i hi => by
            by_cases c : i = k
            · subst c; exact e
            · exact hk.out i (by omega)
          have de : (f.hol.getD k 0 == d) = false := beq_eq_false_iff_ne.2 e
          clear hcell e
          generalize f.hol.getD k 0 = hx' at hx de
          go_wp2
          go_round
          case rel => exact ⟨k + 1, by omega, by go_num, A⟩
          case measure => simp [intOf]; omega
      · have R : Hid (WkP rr w (.returned (.bool ra)) wB) := ⟨by rw [YES.out (fun i hi => hk.out i (by omega))], BW.out⟩
        go_wp2
        go_ret
        exact R.out)

theorem mcnt_le (p : Int → Bool) (d : Int) : ∀ n : Nat, M.cnt p d n ≤ n
  | 0 => Nat.le_refl _
  | n + 1 => by
    have := mcnt_le p d n
    simp only [M.cnt]
    split <;> omega

def BtP (r : Nat) (w : World) (e : Ending) (w' : World) : Prop := e = .returned (.int .i64 r) ∧ Below w.heap.size w w'

set_option maxRecDepth 100000 in
set_option maxHeartbeats 1000000 in
theorem kbetween_any {f : Frm} (hf : f.Ok) {fv : Value} {w : World} (hfv : FAt w f fv) (a b : Int) (ha : -30000 ≤ a) (ha' : a ≤ 30000) (hb : -30000 ≤ b) (hb' : b ≤ 30000) : Calls Tryd.prog 86 #[fv, .int .i64 a, .int .i64 b] w fun e w' => BtP (M.cnt (M.wkd f.week f.hol) a (b - a).toNat) w e w' := by
  have HF := hid hf
  have FV := hid hfv
  obtain ⟨aC, cC, aR, cR, aH, cH, rfl, _, _, _⟩ := hfv
  have BX := hid (Below.refl (w.heap.size + 1) (w.alloc (.cells #[.slice aC f.n cC, .slice aR f.k cR, .int .i64 f.week, .slice aH f.hol.length cH] 26)))
  clear hf
  go_enter Tryd.func86, Tryd.ntmps86
  go_wp2_with fail
  go_loopw [7, 8] (fun tn td wr => ∃ j : Nat, j ≤ (b - a).toNat ∧ tn = .int .i64 (M.cnt (M.wkd f.week f.hol) a j : Nat) ∧ td = .int .i64 (a + 1 + j) ∧ Hid (Below (w.heap.size + 1) (w.alloc (.cells #[.slice aC f.n cC, .slice aR f.k cR, .int .i64 f.week, .slice aH f.hol.length cH] 26)) wr)) (fun _ td _ => (b + 1 - intOf td).toNat)
  case atStart => exact ⟨0, by omega, rfl, by go_num, BX⟩
  case round =>
    clear BX
    obtain ⟨j, j1, rfl, rfl, hbx⟩ := hrel
    have BW := hid (boxed_below hbx.out)
    have x0 := boxed hbx.out 0
    have x1 := boxed hbx.out 1
    have x2 := boxed hbx.out 2
    have x3 := boxed hbx.out 3
    simp at x0 x1 x2 x3
    have cl := mcnt_le (M.wkd f.week f.hol) a j
    by_cases hj : a + 1 + (j : Int) ≤ b
    · have WK := hid (kworks_any HF.out (FV.out.below BW.out) (a + 1 + j) (by omega) (by omega))
      have NX : Hid (M.cnt (M.wkd f.week f.hol) a (j + 1) = M.cnt (M.wkd f.week f.hol) a j + if M.wkd f.week f.hol (a + 1 + j) = true then 1 else 0) := by
        show M.cnt _ _ _ = _
        simp only [M.cnt]
        rw [show a + ((j + 1 : Nat) : Int) = a + 1 + j by omega]
      generalize M.wkd f.week f.hol (a + 1 + j) = rr at *
      generalize M.cnt (M.wkd f.week f.hol) a j = cj at *
      obtain ⟨cj1, hc1⟩ : ∃ c, M.cnt (M.wkd f.week f.hol) a (j + 1) = c := ⟨_, rfl⟩
      rw [hc1] at NX
      have HC1 := hid hc1
      clear hc1
      go_wp2_with fail
      refine WK.out.mono ?_
      rintro e w2 ⟨rfl, hb2⟩
      have N1 := hid (hbx.out.trans (hb2.mono (by have := hbx.out.size; simpa using this)))
      clear hb2 WK hbx BW
      cases rr
      · have e1 : cj1 = cj := by have := NX.out; simpa using this
        subst e1
        clear NX
        go_wp2
        go_roundw
        case rel => exact ⟨j + 1, by omega, by have := HC1.out; go_num, by go_num, N1⟩
        case measure => simp [intOf]; omega
      · have e1 : cj1 = cj + 1 := by have := NX.out; simpa using this
        clear NX
        go_wp2
        go_roundw
        case rel => exact ⟨j + 1, by omega, by have := HC1.out; go_num, by go_num, N1⟩
        case measure => simp [intOf]; omega
    · have e : j = (b - a).toNat := by omega
      have R : Hid (BtP (M.cnt (M.wkd f.week f.hol) a (b - a).toNat) w (.returned (.int .i64 (M.cnt (M.wkd f.week f.hol) a j : Nat))) wr) := ⟨by rw [e], BW.out⟩
      clear e
      generalize M.cnt (M.wkd f.week f.hol) a j = cj at *
      go_wp2
      go_ret
      exact R.out

end Go.Proofs.YtmofidaojmiepaaDoor

/-
  THE WALKS: docketkeep's plain, dueRight.
-/
set_option linter.unusedVariables false
set_option linter.unusedSimpArgs false
namespace Go.Proofs.YtmofidaojmiepaaDoor
open Go.RowKit
attribute [local go_sem ↓] Go.wp_at_zero Go.wp_at_succ

set_option maxHeartbeats 1000000 in
theorem kplain_any (kd a b : Int) (w : World) (hk : 2 ≤ kd) (hk' : kd ≤ 8) (ha : -2000000000 ≤ a) (ha' : a ≤ 2000000000) (hb : -2000000000 ≤ b) (hb' : b ≤ 2000000000) :
    Calls Tryd.prog 73 #[.int .i64 kd, .int .i64 a, .int .i64 b] w fun e w' => e = .returned (.int .i64 (M.two kd a b)) ∧ w' = w := by
  obtain ⟨hm1, hm2⟩ := mul_bd ha ha' hb hb'
  rcases two_cases hk hk' with rfl | rfl | rfl | rfl | rfl | rfl | rfl
  · go_enter Tryd.func73, Tryd.ntmps73
    go_wp2_with (go_at_call 88; refine (kcutTo_any _ _).mono ?_; rintro e w' ⟨rfl, rfl⟩)
    go_ret
    exact ⟨ret_int (by rw [two2]), rfl⟩
  · go_enter Tryd.func73, Tryd.ntmps73
    go_wp2_with (go_at_call 88; refine (kcutTo_any _ _).mono ?_; rintro e w' ⟨rfl, rfl⟩)
    go_ret
    exact ⟨ret_int (by rw [two3]), rfl⟩
  · go_enter Tryd.func73, Tryd.ntmps73
    go_wp2_with (go_at_call 88; refine (kcutTo_any _ _).mono ?_; rintro e w' ⟨rfl, rfl⟩)
    go_ret
    exact ⟨ret_int (by rw [two4]), rfl⟩
  · go_enter Tryd.func73, Tryd.ntmps73
    go_wp2_with (go_at_call 71; refine (knumber_any _ _).mono ?_; rintro e w' ⟨rfl, rfl⟩)
    go_ret
    exact ⟨ret_int (by rw [two7]), rfl⟩
  · go_enter Tryd.func73, Tryd.ntmps73
    go_wp2_with (go_at_call 71; refine (knumber_any _ _).mono ?_; rintro e w' ⟨rfl, rfl⟩)
    go_ret
    exact ⟨ret_int (by rw [two8]), rfl⟩
  · go_enter Tryd.func73, Tryd.ntmps73
    go_wp2
    all_goals go_ret
    all_goals exact ⟨ret_int (by rw [two5]; unfold M.minv; split <;> omega), rfl⟩
  · go_enter Tryd.func73, Tryd.ntmps73
    go_wp2
    all_goals go_ret
    all_goals exact ⟨ret_int (by rw [two6]; unfold M.maxv; split <;> omega), rfl⟩

/-- What is due, and what is cut. -/
theorem due_says {week : Int} {hol : List Int} {x T : Int} {k : Nat} (x0 : -2000000000 ≤ x) (x1 : x ≤ 2000000000) (h : M.IsDue (M.wkd week hol) (x / 86400) k T) :
    (M.cutv (T * 86400) = 2000000000 ∧ M.cnt (M.wkd week hol) (x / 86400) (23148 - x / 86400).toNat < k) ∨ (M.cutv (T * 86400) = -2000000000 ∧ k = 0 ∧ x / 86400 = -23149)
    ∨ (M.cutv (T * 86400) = T * 86400 ∧ -23148 ≤ T ∧ T ≤ 23148 ∧ x / 86400 ≤ T ∧ (k = 0 → T = x / 86400) ∧ (k ≠ 0 → M.cnt (M.wkd week hol) (x / 86400) (T - x / 86400).toNat = k ∧ M.wkd week hol T = true)) := by
  obtain ⟨n, rfl, h1, h2⟩ := h
  have xd : -23149 ≤ x / 86400 ∧ x / 86400 ≤ 23148 := by omega
  generalize x / 86400 = d at *
  by_cases c1 : 2000000000 < (d + n) * 86400
  · refine Or.inl ⟨by unfold M.cutv; rw [if_pos c1], ?_⟩
    have hn : 23148 < d + n := by omega
    rcases h2 with h2 | h2
    · omega
    · obtain ⟨m, rfl⟩ : ∃ m, n = m + 1 := ⟨n - 1, by omega⟩
      have hm := M.cnt_mono (M.wkd week hol) d (n := (23148 - d).toNat) (m := m) (by omega)
      have e : M.cnt (M.wkd week hol) d (m + 1) = M.cnt (M.wkd week hol) d m + 1 := by
        simp only [M.cnt]
        rw [if_pos h2]
      omega
  · by_cases c2 : (d + n) * 86400 < -2000000000
    · refine Or.inr (Or.inl ⟨by unfold M.cutv; rw [if_neg c1, if_pos c2], ?_, by omega⟩)
      have : n = 0 := by omega
      subst this
      exact h1.symm
    · refine Or.inr (Or.inr ⟨by unfold M.cutv; rw [if_neg c1, if_neg c2], by omega, by omega, by omega, fun hk => ?_, fun hk => ?_⟩)
      · rcases h2 with h2 | h2
        · omega
        · rcases Nat.eq_zero_or_pos n with e | e
          · omega
          · obtain ⟨m, rfl⟩ : ∃ m, n = m + 1 := ⟨n - 1, by omega⟩
            have e : M.cnt (M.wkd week hol) d (m + 1) = M.cnt (M.wkd week hol) d m + 1 := by
              simp only [M.cnt]
              rw [if_pos h2]
            omega
      · have e : (d + (n : Int) - d).toNat = n := by omega
        rw [e]
        refine ⟨h1, ?_⟩
        rcases h2 with h2 | h2
        · subst h2
          exact (hk h1.symm).elim
        · exact h2

set_option maxRecDepth 100000 in
set_option maxHeartbeats 2000000 in
theorem kdueRight_any {f : Frm} (hf : f.Ok) {fv : Value} {w : World} (hfv : FAt w f fv) (x T k : Int) (x0 : -2000000000 ≤ x) (x1 : x ≤ 2000000000) (k0 : 0 ≤ k) (k1 : k ≤ 250) (hd : M.IsDue (M.wkd f.week f.hol) (x / 86400) k.toNat T) :
    Calls Tryd.prog 72 #[fv, .int .i64 (M.cutv (T * 86400)), .int .i64 x, .int .i64 k] w fun e w' => TPost w e w' := by
  have FV := hid hfv
  have HF := hid hf
  have DX := hid (fun W => kdayOf_any x W x0 x1)
  have sd := due_says x0 x1 hd
  obtain ⟨aC, cC, aR, cR, aH, cH, rfl, _, _, _⟩ := hfv
  have BX := hid (Below.refl (w.heap.size + 1) (w.alloc (.cells #[.slice aC f.n cC, .slice aR f.k cR, .int .i64 f.week, .slice aH f.hol.length cH] 26)))
  have BW := hid (boxed_below BX.out)
  have g0 : (w.alloc (.cells #[.slice aC f.n cC, .slice aR f.k cR, .int .i64 f.week, .slice aH f.hol.length cH] 26)).cell? ⟨w.heap.size, 0, none⟩ = some (.slice aC f.n cC) := boxed BX.out 0
  have g1 : (w.alloc (.cells #[.slice aC f.n cC, .slice aR f.k cR, .int .i64 f.week, .slice aH f.hol.length cH] 26)).cell? ⟨w.heap.size, 1, none⟩ = some (.slice aR f.k cR) := boxed BX.out 1
  have g2 : (w.alloc (.cells #[.slice aC f.n cC, .slice aR f.k cR, .int .i64 f.week, .slice aH f.hol.length cH] 26)).cell? ⟨w.heap.size, 2, none⟩ = some (.int .i64 f.week) := boxed BX.out 2
  have g3 : (w.alloc (.cells #[.slice aC f.n cC, .slice aR f.k cR, .int .i64 f.week, .slice aH f.hol.length cH] 26)).cell? ⟨w.heap.size, 3, none⟩ = some (.slice aH f.hol.length cH) := boxed BX.out 3
  have zg : w.heap.size < (w.alloc (.cells #[.slice aC f.n cC, .slice aR f.k cR, .int .i64 f.week, .slice aH f.hol.length cH] 26)).heap.size := by simp
  have BT := hid (fun a b h1 h2 h3 h4 W (hW : Below w.heap.size w W) => kbetween_any HF.out (FV.out.below hW) a b h1 h2 h3 h4)
  have WK := hid (fun d h1 h2 W (hW : Below w.heap.size w W) => kworks_any HF.out (FV.out.below hW) d h1 h2)
  have xd : -23149 ≤ x / 86400 ∧ x / 86400 ≤ 23148 := by omega
  clear hf hd
  generalize M.cutv (T * 86400) = v at *
  generalize x / 86400 = fr at *
  go_enter Tryd.func72, Tryd.ntmps72
  go_upto_region 1 with (fail)
  generalize w.alloc (.cells #[.slice aC f.n cC, .slice aR f.k cR, .int .i64 f.week, .slice aH f.hol.length cH] 26) = wB at *
  go_wp2_with fail
  refine (DX.out _).mono ?_
  rintro e w' ⟨rfl, hw⟩
  rw [hw]
  clear hw w' DX
  rcases sd with ⟨rfl, hn⟩ | ⟨rfl, hk, hfr⟩ | ⟨hv, t0, t1, t2, hk0, hk1⟩
  · have DV := hid (fun W => kdayOf_any 2000000000 W (by omega) (by omega))
    rw [show (2000000000 : Int) / 86400 = 23148 by decide] at DV
    have hn' : ((M.cnt (M.wkd f.week f.hol) fr (23148 - fr).toNat : Nat) : Int) < k := by omega
    have BB := hid (BT.out fr 23148 (by omega) (by omega) (by omega) (by omega) wB BW.out)
    clear hn BT WK
    generalize M.cnt (M.wkd f.week f.hol) fr (23148 - fr).toNat = cn at *
    go_wp2_with fail
    refine (DV.out _).mono ?_
    rintro e w' ⟨rfl, hw⟩
    rw [hw]
    clear hw w' DV
    go_wp2_with fail
    refine BB.out.mono ?_
    rintro e w2 ⟨rfl, hb2⟩
    have R : Hid (TPost w (.returned (.bool true)) w2) := ⟨rfl, BW.out.trans (hb2.mono BW.out.size)⟩
    clear hb2
    go_wp2
    go_ret
    exact R.out
  · have DV := hid (fun W => kdayOf_any (-2000000000) W (by omega) (by omega))
    rw [show (-2000000000 : Int) / 86400 = -23149 by decide] at DV
    have ek : k = 0 := by omega
    subst ek hfr
    have R : Hid (TPost w (.returned (.bool true)) wB) := ⟨rfl, BW.out⟩
    go_wp2_with fail
    refine (DV.out _).mono ?_
    rintro e w' ⟨rfl, hw⟩
    rw [hw]
    clear hw w' DV
    go_wp2
    go_ret
    exact R.out
  · have hv2 : v ≠ 2000000000 ∧ v ≠ -2000000000 := by omega
    have d1 : (v == 2000000000) = false := beq_eq_false_iff_ne.2 hv2.1
    have d2 : (v == -2000000000) = false := beq_eq_false_iff_ne.2 hv2.2
    have DV := hid (fun W => kdayOf_any v W (by omega) (by omega))
    rw [show v / 86400 = T by omega] at DV
    have HV := hid hv
    have HK0 := hid hk0
    have HK1 := hid hk1
    have d3 : (T * 86400 != v) = false := by simp [hv]
    have d4 : ¬ (T < fr) := by omega
    clear hv hk0 hk1 hv2
    go_wp2_with fail
    refine (DV.out _).mono ?_
    rintro e w' ⟨rfl, hw⟩
    rw [hw]
    clear hw w' DV
    by_cases hk : k = 0
    · have e := HK0.out (by omega)
      subst hk e
      have R : Hid (TPost w (.returned (.bool true)) wB) := ⟨rfl, BW.out⟩
      clear HK0 HK1 BT WK
      go_wp2
      go_ret
      exact R.out
    · obtain ⟨c1, c2⟩ := HK1.out (by omega)
      have BB := hid (BT.out fr T (by omega) (by omega) (by omega) (by omega) wB BW.out)
      have WW := hid (fun W hW => WK.out T (by omega) (by omega) W hW)
      rw [c1] at BB
      rw [c2] at WW
      have kk : ((k.toNat : Nat) : Int) = k := by omega
      have dk : (k == 0) = false := beq_eq_false_iff_ne.2 hk
      unfold BtP at BB
      rw [kk] at BB
      clear c1 c2 BT WK HK0 HK1 kk hk
      go_wp2_with fail
      refine BB.out.mono ?_
      rintro e w2 ⟨rfl, hb2⟩
      have B2 := hid (BW.out.trans (hb2.mono BW.out.size))
      have g0 := (hb2.cell (p := ⟨w.heap.size, 0, none⟩) zg).trans g0
      have g1 := (hb2.cell (p := ⟨w.heap.size, 1, none⟩) zg).trans g1
      have g2 := (hb2.cell (p := ⟨w.heap.size, 2, none⟩) zg).trans g2
      have g3 := (hb2.cell (p := ⟨w.heap.size, 3, none⟩) zg).trans g3
      clear hb2 BB
      go_wp2_with fail
      refine (WW.out _ B2.out).mono ?_
      rintro e w3 ⟨rfl, hb3⟩
      have R : Hid (TPost w (.returned (.bool true)) w3) := ⟨rfl, B2.out.trans (hb3.mono B2.out.size)⟩
      clear hb3
      go_wp2
      go_ret
      exact R.out

end Go.Proofs.YtmofidaojmiepaaDoor

/-
  THE WALKS: docketkeep's fits.
-/
set_option linter.unusedVariables false
set_option linter.unusedSimpArgs false
namespace Go.Proofs.YtmofidaojmiepaaDoor
open Go.RowKit
attribute [local go_sem ↓] Go.wp_at_zero Go.wp_at_succ

theorem intsV_at (V : Nat → Int) {n j : Nat} (h : j < n) : (intsV V n)[j]? = some (.int .i64 (V j)) := by simp [intsV, h]
theorem pk_at {V : Nat → Int} {n j : Nat} (h : j < n) : pk V n (j : Int) = V j := by
  unfold pk
  rw [if_pos (by omega)]
  rfl
theorem age_says {v k g : Int} (hk : 1000000 ≤ k) (hk' : k ≤ 1000000000) (g0 : 0 ≤ g) (g1 : g ≤ 3000000000) (h : v = g / k) : 0 ≤ v ∧ v ≤ 3000 ∧ v * k ≤ g ∧ g < (v + 1) * k ∧ v * k ≤ 3000000000 ∧ (v + 1) * k ≤ 4000000000 ∧ 0 ≤ v * k ∧ 0 ≤ (v + 1) * k := by
  subst h
  have a1 : 0 ≤ g / k := Int.ediv_nonneg g0 (by omega)
  have a2 : g / k * k ≤ g := Int.ediv_mul_le _ (by omega)
  have a3 : g < (g / k + 1) * k := Int.lt_ediv_add_one_mul_self g (by omega)
  have a5 : (g / k + 1) * k = g / k * k + k := by rw [Int.add_mul, Int.one_mul]
  have a6 : g / k ≤ 3000 := by
    rcases Int.lt_or_le 3000 (g / k) with h | h
    · exfalso
      have h1 : 3001 * k ≤ g / k * k := Int.mul_le_mul_of_nonneg_right (by omega) (by omega)
      omega
    · exact h
  have a7 : 0 ≤ g / k * k := Int.mul_nonneg a1 (by omega)
  exact ⟨a1, a6, a2, a3, by omega, by omega, a7, by omega⟩

set_option maxRecDepth 100000 in
set_option maxHeartbeats 8000000 in
theorem kfits_any {f : Frm} (hs : f.Shaped) {fv : Value} {w : World} (hfv : FAt w f fv) {Bv Bf : Nat} {vV vF : Value} {V F : Nat → Int} {now : Int} (hV : w.ownsRow Bv 3 1 vV f.n (intsV V f.n)) (hF : w.ownsRow Bf 3 1 vF f.n (intsV F f.n)) (t0 : 0 ≤ now) (t1 : now ≤ 1000000000) {i : Nat} (hi : i < f.n) (hl : LocalAt (effC f.C F) f.n f.week f.hol now V i) (hv : ∀ j, j < f.n → IsV (V j)) :
    Calls Tryd.prog 50 #[fv, vV, vF, .int .i64 i, .int .i64 now] w fun e w' => TPost w e w' := by
  have HF := hid hs.ok
  have FV := hid hfv
  obtain ⟨n1, n20, k6, _, _⟩ := hs.ok.sizes
  obtain ⟨aC, cC, aR, cR, aH, cH, rfl, hc, _, _⟩ := hfv
  obtain ⟨bC, oC, rfl, zC, hC⟩ : ∃ b off, aC = some ⟨b, off, none⟩ ∧ b < w.heap.size ∧ ∀ m, m < f.n → CelIs w b (off + m * 5) (f.C m) := by
    rcases hc with h | h
    · omega
    · exact h
  obtain ⟨gV, cV, rfl, zV, xV⟩ := own_cell hV (by omega)
  obtain ⟨gF, cF, rfl, zF, xF⟩ := own_cell hF (by omega)
  obtain ⟨ia, hia⟩ := Int.eq_ofNat_of_zero_le (hs.a0 i hi).1
  obtain ⟨ib, hib⟩ := Int.eq_ofNat_of_zero_le (hs.b0 i hi).1
  obtain ⟨ic, hic⟩ := Int.eq_ofNat_of_zero_le (hs.c0 i hi).1
  have la : ia < f.n := by have := (hs.a0 i hi).2; omega
  have lb : ib < f.n := by have := (hs.b0 i hi).2; omega
  have lc : ic < f.n := by have := (hs.c0 i hi).2; omega
  have yI := xV i (by omega)
  have yA := xV ia (by omega)
  have yB := xV ib (by omega)
  have yC := xV ic (by omega)
  have yF := xF i (by omega)
  rw [intsV_at V hi] at yI
  rw [intsV_at V la] at yA
  rw [intsV_at V lb] at yB
  rw [intsV_at V lc] at yC
  rw [intsV_at F hi] at yF
  obtain ⟨x0, x1, x2, x3, x4⟩ := hC i hi
  obtain ⟨kd0, kd1, hK, _⟩ := hs.ok.cells i hi
  obtain ⟨r0, r2, r9, r10, r11, r12⟩ := hl
  have vA := hv ia la
  have vB := hv ib lb
  have vI := hv i hi
  have e1 : pk V f.n (effC f.C F i).a = V ia := by show pk V f.n (f.C i).a = _; rw [hia]; exact pk_at la
  have e2 : pk V f.n (effC f.C F i).b = V ib := by show pk V f.n (f.C i).b = _; rw [hib]; exact pk_at lb
  have e3 : pk V f.n (effC f.C F i).c = V ic := by show pk V f.n (f.C i).c = _; rw [hic]; exact pk_at lc
  rw [e1] at r2 r9 r10 r11 r12
  rw [e2] at r2 r9
  rw [e3] at r9
  have r0a : (f.C i).kind = 0 → V i = F i := fun e => by
    have := r0 (Or.inl e)
    rw [this]
    show (if (f.C i).kind = 0 then F i else _) = _
    rw [if_pos e]
  have kk : (f.C i).kind ≠ 0 → (effC f.C F i).k = (f.C i).k := fun e => by
    show (if (f.C i).kind = 0 then F i else _) = _
    rw [if_neg e]
  have r0b : (f.C i).kind = 1 → V i = (f.C i).k := fun e => by rw [r0 (Or.inr e), kk (by omega)]
  have r11b : (f.C i).kind = 11 → V i = if now < V ia then 0 else (now - V ia) / (f.C i).k := fun e => by rw [r11 e, kk (by omega)]
  have r12b : (f.C i).kind = 12 → ∃ T, M.IsDue (M.wkd f.week f.hol) (V ia / 86400) (f.C i).k.toNat T ∧ V i = M.cutv (T * 86400) := fun e => by
    have := r12 e
    rw [kk (by omega)] at this
    exact this
  have R0 := hid r0a
  have R1 := hid r0b
  have R2 : Hid ((2 ≤ (f.C i).kind ∧ (f.C i).kind ≤ 8) → V i = M.two (f.C i).kind (V ia) (V ib)) := r2
  have R9 : Hid ((f.C i).kind = 9 → V i = if V ia = 0 then V ic else V ib) := r9
  have R10 : Hid ((f.C i).kind = 10 → V i = M.num (decide (V ia ≤ now))) := r10
  have R11 := hid r11b
  have R12 := hid r12b
  have HK : Hid (KOk (f.C i)) := hK
  rw [hia] at x1
  rw [hib] at x2
  rw [hic] at x3
  obtain ⟨va0, va1⟩ := vA
  obtain ⟨vb0, vb1⟩ := vB
  have DR : Hid (∀ T k W, Below w.heap.size w W → 0 ≤ k → k ≤ 250 → M.IsDue (M.wkd f.week f.hol) (V ia / 86400) k.toNat T → Calls Tryd.prog 72 #[.agg #[.slice (some ⟨bC, oC, none⟩) f.n cC, .slice aR f.k cR, .int .i64 f.week, .slice aH f.hol.length cH], .int .i64 (M.cutv (T * 86400)), .int .i64 (V ia), .int .i64 k] W fun e w' => TPost W e w') := fun T k W hW k0 k1 hd => kdueRight_any HF.out (FV.out.below hW) (V ia) T k va0 va1 k0 k1 hd
  unfold KOk at HK
  clear r0 r0a r0b r2 r9 r10 r11 r11b r12 r12b kk hia hib hic e1 e2 e3 hK vI hC xV xF hs hc hV hF hv
  generalize (f.C i).kind = kd at *
  generalize (f.C i).k = ck at *
  generalize V i = vi at *
  generalize V ia = va at *
  generalize V ib = vb at *
  generalize V ic = vc at *
  generalize F i = fi at *
  have BX := hid (Below.refl (w.heap.size + 1) (w.alloc (.cells #[.slice (some ⟨bC, oC, none⟩) f.n cC, .slice aR f.k cR, .int .i64 f.week, .slice aH f.hol.length cH] 26)))
  have BW := hid (boxed_below BX.out)
  have g0 : (w.alloc (.cells #[.slice (some ⟨bC, oC, none⟩) f.n cC, .slice aR f.k cR, .int .i64 f.week, .slice aH f.hol.length cH] 26)).cell? ⟨w.heap.size, 0, none⟩ = some (Value.slice (some ⟨bC, oC, none⟩) f.n cC) := boxed BX.out 0
  have g1 : (w.alloc (.cells #[.slice (some ⟨bC, oC, none⟩) f.n cC, .slice aR f.k cR, .int .i64 f.week, .slice aH f.hol.length cH] 26)).cell? ⟨w.heap.size, 1, none⟩ = some (Value.slice aR f.k cR) := boxed BX.out 1
  have g2 : (w.alloc (.cells #[.slice (some ⟨bC, oC, none⟩) f.n cC, .slice aR f.k cR, .int .i64 f.week, .slice aH f.hol.length cH] 26)).cell? ⟨w.heap.size, 2, none⟩ = some (.int .i64 f.week) := boxed BX.out 2
  have g3 : (w.alloc (.cells #[.slice (some ⟨bC, oC, none⟩) f.n cC, .slice aR f.k cR, .int .i64 f.week, .slice aH f.hol.length cH] 26)).cell? ⟨w.heap.size, 3, none⟩ = some (Value.slice aH f.hol.length cH) := boxed BX.out 3
  have zg : w.heap.size < (w.alloc (.cells #[.slice (some ⟨bC, oC, none⟩) f.n cC, .slice aR f.k cR, .int .i64 f.week, .slice aH f.hol.length cH] 26)).heap.size := by simp
  have x0 := (BW.out.cell (p := ⟨bC, oC + i * 5, none⟩) zC).trans x0
  have x1 := (BW.out.cell (p := ⟨bC, oC + i * 5 + 1, none⟩) zC).trans x1
  have x2 := (BW.out.cell (p := ⟨bC, oC + i * 5 + 2, none⟩) zC).trans x2
  have x3 := (BW.out.cell (p := ⟨bC, oC + i * 5 + 3, none⟩) zC).trans x3
  have x4 := (BW.out.cell (p := ⟨bC, oC + i * 5 + 4, none⟩) zC).trans x4
  have yI := (BW.out.cell (p := ⟨gV, i, none⟩) zV).trans yI
  have yA := (BW.out.cell (p := ⟨gV, ia, none⟩) zV).trans yA
  have yB := (BW.out.cell (p := ⟨gV, ib, none⟩) zV).trans yB
  have yC := (BW.out.cell (p := ⟨gV, ic, none⟩) zV).trans yC
  have yF := (BW.out.cell (p := ⟨gF, i, none⟩) zF).trans yF
  have li : (i : Int) < (f.n : Int) := by omega
  have la' : (ia : Int) < (f.n : Int) := by omega
  have lb' : (ib : Int) < (f.n : Int) := by omega
  have lc' : (ic : Int) < (f.n : Int) := by omega
  have zs := BW.out.size
  go_enter Tryd.func50, Tryd.ntmps50
  go_upto_region 1 with (fail)
  generalize w.alloc (.cells #[.slice (some ⟨bC, oC, none⟩) f.n cC, .slice aR f.k cR, .int .i64 f.week, .slice aH f.hol.length cH] 26) = wB at *
  generalize hgg : w.heap.size = g at *
  have HG := hid hgg
  clear hgg BX
  go_upto_region 2 with (fail)
  have BY := hid (Below.refl (wB.heap.size + 1) (wB.alloc (.cells #[.int .i64 kd, .int .i64 ia, .int .i64 ib, .int .i64 ic, .int .i64 ck] 82)))
  have BZ := hid (boxed_below BY.out)
  have c0 : (wB.alloc (.cells #[.int .i64 kd, .int .i64 ia, .int .i64 ib, .int .i64 ic, .int .i64 ck] 82)).cell? ⟨wB.heap.size, 0, none⟩ = some (.int .i64 kd) := boxed BY.out 0
  have c1 : (wB.alloc (.cells #[.int .i64 kd, .int .i64 ia, .int .i64 ib, .int .i64 ic, .int .i64 ck] 82)).cell? ⟨wB.heap.size, 1, none⟩ = some (.int .i64 ia) := boxed BY.out 1
  have c2 : (wB.alloc (.cells #[.int .i64 kd, .int .i64 ia, .int .i64 ib, .int .i64 ic, .int .i64 ck] 82)).cell? ⟨wB.heap.size, 2, none⟩ = some (.int .i64 ib) := boxed BY.out 2
  have c3 : (wB.alloc (.cells #[.int .i64 kd, .int .i64 ia, .int .i64 ib, .int .i64 ic, .int .i64 ck] 82)).cell? ⟨wB.heap.size, 3, none⟩ = some (.int .i64 ic) := boxed BY.out 3
  have c4 : (wB.alloc (.cells #[.int .i64 kd, .int .i64 ia, .int .i64 ib, .int .i64 ic, .int .i64 ck] 82)).cell? ⟨wB.heap.size, 4, none⟩ = some (.int .i64 ck) := boxed BY.out 4
  have yI := (BZ.out.cell (p := ⟨gV, i, none⟩) (by show gV < _; omega)).trans yI
  have yA := (BZ.out.cell (p := ⟨gV, ia, none⟩) (by show gV < _; omega)).trans yA
  have yB := (BZ.out.cell (p := ⟨gV, ib, none⟩) (by show gV < _; omega)).trans yB
  have yC := (BZ.out.cell (p := ⟨gV, ic, none⟩) (by show gV < _; omega)).trans yC
  have yF := (BZ.out.cell (p := ⟨gF, i, none⟩) (by show gF < _; omega)).trans yF
  have g0 := (BZ.out.cell (p := ⟨g, 0, none⟩) zg).trans g0
  have g1 := (BZ.out.cell (p := ⟨g, 1, none⟩) zg).trans g1
  have g2 := (BZ.out.cell (p := ⟨g, 2, none⟩) zg).trans g2
  have g3 := (BZ.out.cell (p := ⟨g, 3, none⟩) zg).trans g3
  have BA : Hid (Below w.heap.size w (wB.alloc (.cells #[.int .i64 kd, .int .i64 ia, .int .i64 ib, .int .i64 ic, .int .i64 ck] 82))) := by
    have h1 := BW.out
    rw [HG.out]
    exact h1.trans (BZ.out.mono (by omega))
  have zz : wB.heap.size < (wB.alloc (.cells #[.int .i64 kd, .int .i64 ia, .int .i64 ib, .int .i64 ic, .int .i64 ck] 82)).heap.size := by simp
  clear BY BZ BW x0 x1 x2 x3 x4
  generalize wB.alloc (.cells #[.int .i64 kd, .int .i64 ia, .int .i64 ib, .int .i64 ic, .int .i64 ck] 82) = wC at *
  generalize wB.heap.size = gc at *
  have RT : Hid (TPost w (.returned (.bool true)) wC) := ⟨rfl, BA.out⟩
  have RW : Hid (∀ W, Below wC.heap.size wC W → TPost w (.returned (.bool true)) W) := fun W hW => ⟨rfl, BA.out.trans (hW.mono BA.out.size)⟩
  go_upto_region 3 with (fail)
  have cs : kd = 0 ∨ kd = 1 ∨ (2 ≤ kd ∧ kd ≤ 8) ∨ kd = 9 ∨ kd = 10 ∨ kd = 11 ∨ kd = 12 := by omega
  rcases cs with rfl | rfl | ⟨k2, k8⟩ | rfl | rfl | rfl | rfl
  · have e := R0.out rfl
    subst e
    clear R0 R1 R2 R9 R10 R11 R12 HK DR
    go_wp2
    go_region
    go_wp2
    go_ret
    exact RW.out _ (Below.refl _ _).drew
  · have e := R1.out rfl
    subst e
    clear R0 R1 R2 R9 R10 R11 R12 HK DR
    go_wp2
    go_region
    go_wp2
    go_ret
    exact RW.out _ (Below.refl _ _).drew
  · have e := R2.out ⟨k2, k8⟩
    have d0 : (kd == 0) = false := beq_eq_false_iff_ne.2 (by omega)
    have d1 : (kd == 1) = false := beq_eq_false_iff_ne.2 (by omega)
    have d9 : (kd == 9) = false := beq_eq_false_iff_ne.2 (by omega)
    have d10 : (kd == 10) = false := beq_eq_false_iff_ne.2 (by omega)
    have d11 : (kd == 11) = false := beq_eq_false_iff_ne.2 (by omega)
    have d12 : (kd == 12) = false := beq_eq_false_iff_ne.2 (by omega)
    have PL := hid (fun W => kplain_any kd va vb W k2 k8 va0 va1 vb0 vb1)
    subst e
    clear R0 R1 R2 R9 R10 R11 R12 HK DR
    generalize M.two kd va vb = tw at *
    go_upto_region 21 with (fail)
    go_region_held3 (fun w' => w'.cell? ⟨gV, i, none⟩ = some (.int .i64 tw) ∧ w'.cell? ⟨gV, ib, none⟩ = some (.int .i64 vb) ∧ w'.cell? ⟨gc, 0, none⟩ = some (.int .i64 kd) ∧ w'.cell? ⟨gc, 2, none⟩ = some (.int .i64 ib))
      (refine ⟨?_, ?_, ?_, ?_⟩ <;> assumption)
      ((go_at_call 73; refine (PL.out _).mono ?_; rintro e w' ⟨rfl, hw⟩; rw [hw]; clear hw w'))
    all_goals (
      go_wp2
      go_ret
      exact RW.out _ (Below.refl _ _).drew)
  · have e := R9.out rfl
    clear R0 R1 R2 R9 R10 R11 R12 HK DR
    by_cases hz : va = 0
    · rw [if_pos hz] at e
      subst e hz
      go_wp2
      go_region
      go_wp2
      go_ret
      exact RW.out _ (Below.refl _ _).drew
    · rw [if_neg hz] at e
      have dz : (va != 0) = true := by simp [hz]
      subst e
      clear hz
      go_wp2
      go_region
      go_wp2
      go_ret
      exact RW.out _ (Below.refl _ _).drew
  · have e := R10.out rfl
    have NU := hid (fun b W => knumber_any b W)
    subst e
    clear R0 R1 R2 R9 R10 R11 R12 HK DR
    go_upto_region 13 with (fail)
    by_cases hle : va ≤ now
    · rw [show decide (va ≤ now) = true from decide_eq_true hle] at yI
      go_region_held3 (fun w' => w'.cell? ⟨gV, i, none⟩ = some (.int .i64 (M.num true)))
        (assumption)
        ((go_at_call 71; refine (NU.out _ _).mono ?_; rintro e w' ⟨rfl, hw⟩; rw [hw]; clear hw w'))
      all_goals (
        go_wp2
        go_ret
        first | exact RW.out _ (Below.refl _ _).drew | (have h := RW.out _ (Below.refl _ _).drew; simpa [hle] using h))
    · rw [show decide (va ≤ now) = false from decide_eq_false hle] at yI
      go_region_held3 (fun w' => w'.cell? ⟨gV, i, none⟩ = some (.int .i64 (M.num false)))
        (assumption)
        ((go_at_call 71; refine (NU.out _ _).mono ?_; rintro e w' ⟨rfl, hw⟩; rw [hw]; clear hw w'))
      all_goals (
        go_wp2
        go_ret
        first | exact RW.out _ (Below.refl _ _).drew | (have h := RW.out _ (Below.refl _ _).drew; simpa [hle] using h))
  · have e := R11.out rfl
    obtain ⟨hk0, hk1⟩ := HK.out.2.1 rfl
    clear R0 R1 R2 R9 R10 R11 R12 HK DR
    by_cases hlt : now < va
    · rw [if_pos hlt] at e
      subst e
      go_wp2
      go_ret
      exact RT.out
    · rw [if_neg hlt] at e
      obtain ⟨a1, a2, a3, a4, a5, a6, a7, a8⟩ := age_says hk0 hk1 (g := now - va) (by omega) (by omega) e
      clear e
      generalize hm1 : vi * ck = m1 at *
      generalize hm2 : (vi + 1) * ck = m2 at *
      have e1 : decide (0 ≤ vi) = true := decide_eq_true a1
      have e2 : decide (vi ≤ 3000) = true := decide_eq_true a2
      have e3 : decide (m1 ≤ now - va) = true := decide_eq_true a3
      have e4 : decide (now - va < m2) = true := decide_eq_true a4
      go_upto_region 18 with (fail)
      go_quiet (fail)
      go_wp2
      go_ret
      exact RW.out _ (below_drewN (Below.refl _ _) _)
  · obtain ⟨Td, hT, e⟩ := R12.out rfl
    obtain ⟨hk0, hk1⟩ := HK.out.2.2 rfl
    have DD := hid (fun W (hW : Below w.heap.size w W) => DR.out Td ck W (by have h := hW; rw [HG.out] at h; exact h) hk0 hk1 hT)
    rw [← e] at DD
    clear R0 R1 R2 R9 R10 R11 R12 HK DR e hT
    have zgC : g < wC.heap.size := by omega
    have zVC : gV < wC.heap.size := by omega
    have zcC : gc < wC.heap.size := by omega
    go_upto_region 20 with (fail)
    go_region_held3 (fun w' => w'.cell? ⟨g, 0, none⟩ = some (.slice (some ⟨bC, oC, none⟩) f.n cC) ∧ w'.cell? ⟨g, 1, none⟩ = some (.slice aR f.k cR) ∧ w'.cell? ⟨g, 2, none⟩ = some (.int .i64 f.week) ∧ w'.cell? ⟨g, 3, none⟩ = some (.slice aH f.hol.length cH) ∧ w'.cell? ⟨gV, i, none⟩ = some (.int .i64 vi) ∧ w'.cell? ⟨gc, 4, none⟩ = some (.int .i64 ck))
      (refine ⟨?_, ?_, ?_, ?_, ?_, ?_⟩ <;> assumption)
      ((go_at_call 72; refine (DD.out _ BA.out.drew).mono ?_; rintro e w5 ⟨rfl, hb5⟩; have m0 := (hb5.cell (p := ⟨g, 0, none⟩) zgC).trans g0; have m1 := (hb5.cell (p := ⟨g, 1, none⟩) zgC).trans g1; have m2 := (hb5.cell (p := ⟨g, 2, none⟩) zgC).trans g2; have m3 := (hb5.cell (p := ⟨g, 3, none⟩) zgC).trans g3; have m4 := (hb5.cell (p := ⟨gV, i, none⟩) zVC).trans yI; have m5 := (hb5.cell (p := ⟨gc, 4, none⟩) zcC).trans c4))
    all_goals (
      have R : Hid (TPost w (.returned (.bool true)) w5) := ⟨rfl, BA.out.trans ((show Below wC.heap.size wC w5 from ⟨hb5.os, hb5.tape, hb5.output, hb5.size, hb5.block⟩).mono BA.out.size)⟩
      clear hb5
      go_wp2
      go_ret
      exact R.out)

end Go.Proofs.YtmofidaojmiepaaDoor

/-
  THE WALKS: docketkeep's defaults, local.
-/
set_option linter.unusedVariables false
set_option linter.unusedSimpArgs false
namespace Go.Proofs.YtmofidaojmiepaaDoor
open Go.RowKit
attribute [local go_sem ↓] Go.wp_at_zero Go.wp_at_succ

theorem C1.store {Z : Nat → Prop} {b : Nat} {f : Frm} {Q : Nat → Prop} {p : KPl} {m : Cs} {w w' : World} (h : C1 Z b f Q p m w) {g : Nat} (hg : Z g) (hq : ¬ Q g) (hg0 : g ≠ 0) (hs : w.heap.size ≤ w'.heap.size) (hb : ∀ j, j < w.heap.size → j ≠ g → w'.heap[j]? = w.heap[j]?) : C1 Z b f Q p m w' := by
  obtain ⟨v, h⟩ := h
  have h1 : CN Z b 1 (fun _ => ⟨Q, p, f⟩) (fun _ => m) w := ⟨fun _ => v, h⟩
  obtain ⟨V, h2⟩ := h1.store hg (fun i hi => hq) hg0 hs hb
  exact ⟨V 0, h2.congr (fun i hi => by
    have e : i = 0 := by omega
    subst e
    rfl)⟩

theorem own_set {w : World} {B g n c : Nat} {F : Nat → Int} (h : w.ownsRow B 3 1 (.slice (some ⟨g, 0, none⟩) n c) n (intsV F n)) {k : Nat} (hk : k < n) (v : Int) : (w.setCell ⟨g, k, none⟩ (.int .i64 v)).ownsRow B 3 1 (.slice (some ⟨g, 0, none⟩) n c) n (intsV (upd F k v) n) := by
  obtain ⟨h1, h2⟩ := h
  refine ⟨by simp [intsV], Or.inr ?_⟩
  rcases h2 with ⟨e, _⟩ | ⟨g', cap, cur, e, a1, a2, a3, a4, a5, a6⟩
  · cases e
  · simp at e
    obtain ⟨rfl, rfl⟩ := e
    refine ⟨g, c, cur.setIfInBounds k (.int .i64 v), rfl, a1, ?_, a3, a4, by simpa using a5, ?_⟩
    · simp [World.setCell, Array.getElem?_modify, a2]
    · apply List.ext_getElem?
      intro j
      have e1 : cur.toList.take (n * 1) = intsV F n := a6
      by_cases hj : j < n
      · rw [List.getElem?_take, if_pos (by omega), intsV_at _ hj]
        have e2 : cur[j]? = some (.int .i64 (F j)) := by
          have : (cur.toList.take (n * 1))[j]? = (intsV F n)[j]? := by rw [e1]
          rw [List.getElem?_take, if_pos (by omega), intsV_at _ hj] at this
          simpa using this
        have hjs : j < cur.size := by
          rcases Nat.lt_or_ge j cur.size with h | h
          · exact h
          · rw [Array.getElem?_eq_none h] at e2; cases e2
        rw [Array.getElem?_toList, Array.getElem?_setIfInBounds]
        by_cases ejk : k = j
        · subst ejk
          rw [if_pos rfl, if_pos hjs, upd_same]
        · rw [if_neg ejk, upd_other _ _ (fun h => ejk h.symm)]
          exact e2
      · rw [List.getElem?_eq_none (by simp [List.length_take]; omega), List.getElem?_eq_none (by simp [intsV]; omega)]
theorem own_frozen {w : World} {B g n c : Nat} {xs : List Value} (h : w.ownsRow B 3 1 (.slice (some ⟨g, 0, none⟩) n c) n xs) (k : Nat) : w.frozen? ⟨g, k, none⟩ = false := by
  rcases h.2 with ⟨e, _⟩ | ⟨g', cap, cur, e, a1, a2, _⟩
  · cases e
  · simp at e
    obtain ⟨rfl, rfl⟩ := e
    simp [World.frozen?, a2]

def DfP (f : Frm) (w : World) (e : Ending) (w' : World) : Prop := ∃ v, e = .returned v ∧ w'.ownsRow w.heap.size 3 1 v f.n (intsV (fun j => (f.C j).k) f.n) ∧ Below w.heap.size w w'

set_option maxRecDepth 100000 in
set_option maxHeartbeats 2000000 in
theorem kdefaults_any {f : Frm} {fv : Value} {w : World} (hn : f.n ≤ 20) (h : FAt w f fv) : Calls Tryd.prog 14 #[fv] w fun e w' => DfP f w e w' := by
  obtain ⟨aC, cC, aR, cR, aH, cH, rfl, h1, _, _⟩ := h
  obtain ⟨i3, y3, y4⟩ := Option.map_eq_some_iff.1 info3
  simp only [Prod.mk.injEq] at y4
  have I3 := hid y3
  have Z3 := hid y4
  clear y3 y4
  have HC := hid h1
  clear h1
  have B0 := hid (Below.refl (w.heap.size + 1) (w.alloc (.cells #[.slice aC f.n cC, .slice aR f.k cR, .int .i64 f.week, .slice aH f.hol.length cH] 26)))
  go_enter Tryd.func14, Tryd.ntmps14
  go_wp2
  go_loopw [3, 4] (fun tq ti wr => ∃ (i : Nat) (v : Value), i ≤ f.n ∧ ti = .int .i64 i ∧ v = tq ∧ Hid (wr.ownsRow (w.heap.size + 1) 3 1 v i (intsV (fun j => (f.C j).k) i)) ∧ Hid (Below (w.heap.size + 1) (w.alloc (.cells #[.slice aC f.n cC, .slice aR f.k cR, .int .i64 f.week, .slice aH f.hol.length cH] 26)) wr)) (fun _ ti _ => f.n - (intOf ti).toNat)
  case atStart => exact ⟨0, .slice none 0 0, by omega, rfl, rfl, ⟨rfl, Or.inl ⟨rfl, rfl⟩⟩, B0⟩
  case round =>
    clear B0
    obtain ⟨i, v, i1, rfl, rfl, hown, hb⟩ := hrel
    have hbw := hid (boxed_below hb.out)
    have f0 := boxed hb.out 0
    simp at f0
    have zw := hb.out.size
    simp at zw
    by_cases hit : i < f.n
    · have lt' : (i : Int) < (f.n : Int) := by omega
      obtain ⟨bC, oC, hac, zC, hC⟩ : ∃ b off, aC = some ⟨b, off, none⟩ ∧ b < wr.heap.size ∧ ∀ m, m < f.n → CelIs wr b (off + m * 5) (f.C m) := by
        rcases HC.out.below hbw.out with h | h
        · omega
        · exact h
      have g4 := (hC i hit).2.2.2.2
      subst hac
      clear hC
      have MR := hid (intsV_more (fun j => (f.C j).k) i)
      go_wp2_with (at_builtin; refine wpList_append_lies _ rfl (.tmp 12) (.tmp 19) 24 rfl (w.heap.size + 1) 3 i3 _ 1 8 Tryd.underlying24 I3.out Z3.out.1 Z3.out.2.1 Z3.out.2.2 rfl (by omega) v i (intsV (fun j => (f.C j).k) i) (by rfl) (own_alloc0 hown.out _) ⟨wr.heap.size, 0, none⟩ 1 1 [.int .i64 (f.C i).k] (by rfl) (by rfl) (news1k _ _ _) (by simp [Value.oneCell']) (by omega) (by unfold maxLen; omega) (by omega) (by simp; omega) (wr.heap.size + 1) (by simp) ?_; intro g cap w6 hown2 hgrow hat hlt; refine stopH ?_)
      have N1 : Hid (w6.ownsRow (w.heap.size + 1) 3 1 (.slice (some ⟨g, 0, none⟩) (i + 1) cap) (i + 1) (intsV (fun j => (f.C j).k) (i + 1))) := by
        rw [MR.out]
        exact hown2
      have N2 := hid (hb.out.trans (grow_below0 hgrow (by omega) (fun g hg' => own_base hown.out hg')))
      clear hown2 hgrow hat hlt hown hb hbw MR
      refine hid ?_
      go_wp2
      go_roundw
      case rel => exact ⟨i + 1, _, by omega, by go_num, rfl, N1, N2⟩
      case measure => simp [intOf]; omega
    · obtain rfl : i = f.n := by omega
      have R : Hid (DfP f w (.returned v) wr) := by
        refine ⟨v, rfl, ?_, hbw.out⟩
        exact own_monoL hown.out (by omega)
      go_wp2
      go_ret
      exact R.out

set_option maxRecDepth 100000 in
set_option maxHeartbeats 4000000 in
theorem klocal_any {Z : Nat → Prop} {b : Nat} {f : Frm} {Q : Nat → Prop} {p : KPl} {m : Cs} {w : World} (h : C1 Z b f Q p m w) (hb : b ≤ 10000000000) (hs : f.Shaped) {fv : Value} (hfv : FAt w f fv) {Bf : Nat} {vF : Value} (hF : w.ownsRow Bf 3 1 vF f.n (intsV m.F f.n)) :
    Calls Tryd.prog 15 #[.pointer (some ⟨p.bp, 0, none⟩), fv, vF] w fun e w' => TPost w e w' := by
  have HM := hid h.mok
  have HS := hid hs
  obtain ⟨n1, n20, k6, _, _⟩ := hs.ok.sizes
  have HV := hid (vals_local hs.ok h.mok.fv h.mok.t0 h.mok.t1)
  have FV := hid hfv
  have HF := hid hF
  obtain ⟨aF, cF, rfl⟩ := own_len hF
  obtain ⟨aC', cC', aR', cR', aH', cH', rfl, _, _, _⟩ := hfv
  have BX := hid (Below.refl (w.heap.size + 1) (w.alloc (.cells #[.slice aC' f.n cC', .slice aR' f.k cR', .int .i64 f.week, .slice aH' f.hol.length cH'] 26)))
  have BW := hid (boxed_below BX.out)
  have g0 : (w.alloc (.cells #[.slice aC' f.n cC', .slice aR' f.k cR', .int .i64 f.week, .slice aH' f.hol.length cH'] 26)).cell? ⟨w.heap.size, 0, none⟩ = some (Value.slice aC' f.n cC') := boxed BX.out 0
  have g1 : (w.alloc (.cells #[.slice aC' f.n cC', .slice aR' f.k cR', .int .i64 f.week, .slice aH' f.hol.length cH'] 26)).cell? ⟨w.heap.size, 1, none⟩ = some (Value.slice aR' f.k cR') := boxed BX.out 1
  have g2 : (w.alloc (.cells #[.slice aC' f.n cC', .slice aR' f.k cR', .int .i64 f.week, .slice aH' f.hol.length cH'] 26)).cell? ⟨w.heap.size, 2, none⟩ = some (.int .i64 f.week) := boxed BX.out 2
  have g3 : (w.alloc (.cells #[.slice aC' f.n cC', .slice aR' f.k cR', .int .i64 f.week, .slice aH' f.hol.length cH'] 26)).cell? ⟨w.heap.size, 3, none⟩ = some (Value.slice aH' f.hol.length cH') := boxed BX.out 3
  have zg : w.heap.size < (w.alloc (.cells #[.slice aC' f.n cC', .slice aR' f.k cR', .int .i64 f.week, .slice aH' f.hol.length cH'] 26)).heap.size := by simp
  have LK : Hid (Calls Tryd.prog 23 #[.pointer (some ⟨p.bp, 0, none⟩), .agg #[.slice aC' f.n cC', .slice aR' f.k cR', .int .i64 f.week, .slice aH' f.hol.length cH']] (w.alloc (.cells #[.slice aC' f.n cC', .slice aR' f.k cR', .int .i64 f.week, .slice aH' f.hol.length cH'] 26)) fun e w' => LoP f m (w.alloc (.cells #[.slice aC' f.n cC', .slice aR' f.k cR', .int .i64 f.week, .slice aH' f.hol.length cH'] 26)) e w') := c1look (h.keep BW.out) hb (FV.out.below BW.out)
  have t0 := HM.out.t0
  have t1 := HM.out.t1
  have zs := BW.out.size
  clear h hs hF BX
  go_enter Tryd.func15, Tryd.ntmps15
  go_upto_region 1 with (fail)
  generalize w.alloc (.cells #[.slice aC' f.n cC', .slice aR' f.k cR', .int .i64 f.week, .slice aH' f.hol.length cH'] 26) = wB at *
  go_wp2_with fail
  refine LK.out.mono ?_
  rintro e ax ⟨vx, rfl, l, bb⟩
  obtain ⟨xV, xS, xL, rfl, r1, r2, r3⟩ := l.ex
  obtain ⟨xa1, xc1, rfl⟩ := own_len r1
  obtain ⟨xa2, xc2, rfl⟩ := own_len r2
  obtain ⟨xa3, xc3, rfl⟩ := own_len r3
  have BB : Hid (Below ax.heap.size ax (ax.alloc (.cells #[.int .i64 m.T, .slice xa1 f.n xc1, .slice xa2 f.k xc2, .slice xa3 m.E.length xc3, .bool true] 46))) := boxed_below (Below.refl (ax.heap.size + 1) (ax.alloc (.cells #[.int .i64 m.T, .slice xa1 f.n xc1, .slice xa2 f.k xc2, .slice xa3 m.E.length xc3, .bool true] 46)))
  have NW : Hid (Below wB.heap.size wB (ax.alloc (.cells #[.int .i64 m.T, .slice xa1 f.n xc1, .slice xa2 f.k xc2, .slice xa3 m.E.length xc3, .bool true] 46))) := bb.trans (BB.out.mono bb.size)
  have RV := hid (own_of_block r1 (w' := ax.alloc (.cells #[.int .i64 m.T, .slice xa1 f.n xc1, .slice xa2 f.k xc2, .slice xa3 m.E.length xc3, .bool true] 46)) (fun g _ hlt => BB.out.block g hlt))
  have B1 : Hid (Below w.heap.size w (ax.alloc (.cells #[.int .i64 m.T, .slice xa1 f.n xc1, .slice xa2 f.k xc2, .slice xa3 m.E.length xc3, .bool true] 46))) := BW.out.trans (NW.out.mono zs)
  have cx0 : (ax.alloc (.cells #[.int .i64 m.T, .slice xa1 f.n xc1, .slice xa2 f.k xc2, .slice xa3 m.E.length xc3, .bool true] 46)).cell? ⟨ax.heap.size, 0, none⟩ = some (.int .i64 m.T) := boxed (Below.refl (ax.heap.size + 1) (ax.alloc (.cells #[.int .i64 m.T, .slice xa1 f.n xc1, .slice xa2 f.k xc2, .slice xa3 m.E.length xc3, .bool true] 46))) 0
  have cx1 : (ax.alloc (.cells #[.int .i64 m.T, .slice xa1 f.n xc1, .slice xa2 f.k xc2, .slice xa3 m.E.length xc3, .bool true] 46)).cell? ⟨ax.heap.size, 1, none⟩ = some (.slice xa1 f.n xc1) := boxed (Below.refl (ax.heap.size + 1) (ax.alloc (.cells #[.int .i64 m.T, .slice xa1 f.n xc1, .slice xa2 f.k xc2, .slice xa3 m.E.length xc3, .bool true] 46))) 1
  have cx2 : (ax.alloc (.cells #[.int .i64 m.T, .slice xa1 f.n xc1, .slice xa2 f.k xc2, .slice xa3 m.E.length xc3, .bool true] 46)).cell? ⟨ax.heap.size, 2, none⟩ = some (.slice xa2 f.k xc2) := boxed (Below.refl (ax.heap.size + 1) (ax.alloc (.cells #[.int .i64 m.T, .slice xa1 f.n xc1, .slice xa2 f.k xc2, .slice xa3 m.E.length xc3, .bool true] 46))) 2
  have cx3 : (ax.alloc (.cells #[.int .i64 m.T, .slice xa1 f.n xc1, .slice xa2 f.k xc2, .slice xa3 m.E.length xc3, .bool true] 46)).cell? ⟨ax.heap.size, 3, none⟩ = some (.slice xa3 m.E.length xc3) := boxed (Below.refl (ax.heap.size + 1) (ax.alloc (.cells #[.int .i64 m.T, .slice xa1 f.n xc1, .slice xa2 f.k xc2, .slice xa3 m.E.length xc3, .bool true] 46))) 3
  have cx4 : (ax.alloc (.cells #[.int .i64 m.T, .slice xa1 f.n xc1, .slice xa2 f.k xc2, .slice xa3 m.E.length xc3, .bool true] 46)).cell? ⟨ax.heap.size, 4, none⟩ = some (.bool true) := boxed (Below.refl (ax.heap.size + 1) (ax.alloc (.cells #[.int .i64 m.T, .slice xa1 f.n xc1, .slice xa2 f.k xc2, .slice xa3 m.E.length xc3, .bool true] 46))) 4
  have g0 := (NW.out.cell (p := ⟨w.heap.size, 0, none⟩) zg).trans g0
  have g1 := (NW.out.cell (p := ⟨w.heap.size, 1, none⟩) zg).trans g1
  have g2 := (NW.out.cell (p := ⟨w.heap.size, 2, none⟩) zg).trans g2
  have g3 := (NW.out.cell (p := ⟨w.heap.size, 3, none⟩) zg).trans g3
  have zg2 : w.heap.size < (ax.alloc (.cells #[.int .i64 m.T, .slice xa1 f.n xc1, .slice xa2 f.k xc2, .slice xa3 m.E.length xc3, .bool true] 46)).heap.size := by have := NW.out.size; omega
  have zx : ax.heap.size < (ax.alloc (.cells #[.int .i64 m.T, .slice xa1 f.n xc1, .slice xa2 f.k xc2, .slice xa3 m.E.length xc3, .bool true] 46)).heap.size := by simp
  clear r1 r2 r3 l bb BB NW LK
  go_upto_region 4 with (fail)
  generalize ax.alloc (.cells #[.int .i64 m.T, .slice xa1 f.n xc1, .slice xa2 f.k xc2, .slice xa3 m.E.length xc3, .bool true] 46) = u at *
  generalize ax.heap.size = gx at *
  go_wp2_with fail
  go_loopw [8] (fun t wr => ∃ i : Nat, i ≤ f.n ∧ t = .int .i64 i ∧ Hid (Below u.heap.size u wr)) (fun t _ => f.n - (intOf t).toNat)
  case atStart => exact ⟨0, by omega, rfl, Below.refl _ _⟩
  case round =>
    obtain ⟨i, i1, rfl, hbu⟩ := hrel
    have y0 := (hbu.out.cell (p := ⟨w.heap.size, 0, none⟩) zg2).trans g0
    by_cases hit : i < f.n
    · have lt' : (i : Int) < (f.n : Int) := by omega
      have y1 := (hbu.out.cell (p := ⟨w.heap.size, 1, none⟩) zg2).trans g1
      have y2 := (hbu.out.cell (p := ⟨w.heap.size, 2, none⟩) zg2).trans g2
      have y3 := (hbu.out.cell (p := ⟨w.heap.size, 3, none⟩) zg2).trans g3
      have d0 := (hbu.out.cell (p := ⟨gx, 0, none⟩) zx).trans cx0
      have d1 := (hbu.out.cell (p := ⟨gx, 1, none⟩) zx).trans cx1
      have BT := hid (B1.out.trans (hbu.out.mono B1.out.size))
      have FT := hid (kfits_any HS.out (FV.out.below BT.out) (own_of_block RV.out (w' := wr) (fun g _ hlt => hbu.out.block g hlt)) (own_of_block HF.out (w' := wr) (fun g _ hlt => BT.out.block g hlt)) t0 t1 hit (HV.out.1 i hit) HV.out.2)
      go_wp2_with fail
      refine FT.out.mono ?_
      rintro e w2 ⟨rfl, hb2⟩
      have N := hid (hbu.out.trans (hb2.mono hbu.out.size))
      clear hb2 FT hbu BT
      go_wp2
      go_roundw
      case rel => exact ⟨i + 1, by omega, by go_num, N⟩
      case measure => simp [intOf]; omega
    · have R : Hid (TPost w (.returned (.bool true)) wr) := ⟨rfl, B1.out.trans (hbu.out.mono B1.out.size)⟩
      go_wp2
      go_ret
      exact R.out


end Go.Proofs.YtmofidaojmiepaaDoor
