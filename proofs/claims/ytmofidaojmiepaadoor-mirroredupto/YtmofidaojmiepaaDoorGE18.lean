/-
  ONE CASE: its calls, the room of its log left unsaid.
-/
import Derived.Test.YtmofidaojmiepaaDoorGE15
set_option linter.unusedVariables false
set_option linter.unusedSimpArgs false
namespace Go.Proofs.YtmofidaojmiepaaDoor
open Go.RowKit
attribute [local go_sem ↓] Go.wp_at_zero Go.wp_at_succ

section
variable {Z : Nat → Prop} {b np : Nat} {P : Nat → KP} {w w' : World}
theorem lvalue (h : LS Z b np P w) {i : Nat} (hi : i < np) (c : Int) : Calls Tryd.prog 31 #[.pointer (some ⟨(P i).p.bp, 0, none⟩), .int .i64 c] w fun e w' => VAns (P i).f (P i).c.F (P i).c.T c w e w' := by
  obtain ⟨tag, h1, _⟩ := h
  exact kValue_any c (h1.kst i hi) (h1.fok i hi) (h1.kok i hi).1
theorem lwhen (h : LS Z b np P w) {i : Nat} (hi : i < np) (c : Int) : Calls Tryd.prog 32 #[.pointer (some ⟨(P i).p.bp, 0, none⟩), .int .i64 c] w fun e w' => WnP (P i).f (P i).c c w e w' := by
  obtain ⟨tag, h1, _⟩ := h
  exact kWhen_any c (h1.kst i hi) (h1.fok i hi) (h1.kok i hi).1
theorem lnext (h : LS Z b np P w) {i : Nat} (hi : i < np) : Calls Tryd.prog 33 #[.pointer (some ⟨(P i).p.bp, 0, none⟩)] w fun e w' => NxP (P i).f (P i).c w e w' := by
  obtain ⟨tag, h1, _⟩ := h
  exact kNext_any (h1.kst i hi) (h1.fok i hi) (h1.kok i hi).1
theorem lrule (h : LS Z b np P w) {i : Nat} (hi : i < np) (r : Int) : Calls Tryd.prog 59 #[.pointer (some ⟨(P i).p.bp, 0, none⟩), .int .i64 r] w fun e w' => RAns (P i).f (P i).c r w e w' := by
  obtain ⟨tag, h1, _⟩ := h
  exact kRule_any r (h1.kst i hi)
theorem LS.qlt (h : LS Z b np P w) {i : Nat} (hi : i < np) : ∀ j, (P i).Q j → j < w.heap.size := by
  obtain ⟨tag, h1, _⟩ := h
  exact KSt.qlt (h1.kst i hi)
end

/-- One case, and blocks that are nobody's. -/
def C1 (Z : Nat → Prop) (b : Nat) (f : Frm) (Q : Nat → Prop) (p : KPl) (m : Cs) (w : World) : Prop := ∃ v, LS Z b 1 (fun _ => ⟨Q, p, v, f, m⟩) w
/-- What a call on it leaves. -/
def C1P (r : Value) (Z : Nat → Prop) (b : Nat) (f : Frm) (Q : Nat → Prop) (p : KPl) (m : Cs) (w : World) (e : Ending) (w' : World) : Prop := e = .returned r ∧ C1 Z b f Q p m w' ∧ StZ Z w w'
/-- What makes it. -/
def C1A (Z : Nat → Prop) (b : Nat) (f : Frm) (m : Cs) (w : World) (e : Ending) (w' : World) : Prop := ∃ Q p, e = .returned (.pointer (some ⟨p.bp, 0, none⟩)) ∧ C1 Z b f Q p m w' ∧ StZ Z w w'

section
variable {Z : Nat → Prop} {b : Nat} {f : Frm} {Q : Nat → Prop} {p : KPl} {m : Cs} {w w' : World}

theorem C1P.of {r : Value} {m' : Cs} {v : Value} {e : Ending} (g : LsC r Z b 1 (fun _ => ⟨Q, p, v, f, m⟩) 0 m' w e w') : C1P r Z b f Q p m' w e w' := by
  obtain ⟨g0, v', g1, g2⟩ := g
  exact ⟨g0, ⟨v', g1.congr (fun i hi => by
    have e : i = 0 := by omega
    subst e
    exact upd_same _ _ _)⟩, g2⟩
theorem C1A.of {P : Nat → KP} {m' : Cs} {e : Ending} (g : LsA Z b 0 P f m' w e w') : C1A Z b f m' w e w' := by
  obtain ⟨Q, p, v, g0, g1, g2⟩ := g
  exact ⟨Q, p, g0, ⟨v, g1.congr (fun i hi => by
    have e : i = 0 := by omega
    subst e
    exact upd_same _ _ _)⟩, g2⟩
theorem C1P.as {r r' : Value} {m' : Cs} {e : Ending} (h : C1P r Z b f Q p m w e w') (hr : r = r') (hm : m = m') : C1P r' Z b f Q p m' w e w' := by
  subst hr hm
  exact h

theorem C1.lt (h : C1 Z b f Q p m w) : ∀ j, Z j → j < w.heap.size := by obtain ⟨v, h⟩ := h; exact h.lt
theorem C1.drop (h : C1 Z b f Q p m w) (hb : Below w.heap.size w w') : C1 (zup Z w w') b f Q p m w' := by obtain ⟨v, h⟩ := h; exact ⟨v, h.drop hb⟩
theorem C1.less (h : C1 Z b f Q p m w) {Z' : Nat → Prop} (hz : ∀ j, Z' j → Z j) : C1 Z' b f Q p m w := by obtain ⟨v, h⟩ := h; exact ⟨v, h.less hz⟩
theorem C1.keep (h : C1 Z b f Q p m w) (hb : Below w.heap.size w w') : C1 Z b f Q p m w' := by obtain ⟨v, h⟩ := h; exact ⟨v, h.keep hb⟩
theorem C1.up (h : C1 Z b f Q p m w) {b2 : Nat} (hb : b ≤ b2) : C1 Z b2 f Q p m w := by obtain ⟨v, h⟩ := h; exact ⟨v, h.up hb⟩
theorem C1.fok (h : C1 Z b f Q p m w) : f.Ok := by obtain ⟨v, h⟩ := h; exact h.fok (i := 0) (by omega)
theorem C1.mok (h : C1 Z b f Q p m w) : m.Ok f := by obtain ⟨v, h⟩ := h; exact h.mok (i := 0) (by omega)
theorem C1.len (h : C1 Z b f Q p m w) (hb : b ≤ 10000000000) : m.E.length ≤ 999999999000 := by obtain ⟨v, h⟩ := h; exact h.len (i := 0) (by omega) hb
theorem C1.qlt (h : C1 Z b f Q p m w) : ∀ j, Q j → j < w.heap.size := by obtain ⟨v, h⟩ := h; exact h.qlt (i := 0) (by omega)

theorem c1opened (ht : Tab w) (hf : f.Ok) {fv : Value} (hfv : FAt w f fv) : Calls Tryd.prog 13 #[fv] w fun e w' => C1A (fun j => j < w.heap.size) 1 f (beginM f) w e w' :=
  (lopened (LS.start ht (fun _ => ⟨fun _ => False, kpl0, .bool false, f, beginM f⟩) 1) (by omega) hf hfv).mono (fun _ _ g => C1A.of g)
theorem c1begun (ht : Tab w) (hf : f.Ok) {fv : Value} (hfv : FAt w f fv) {aS : Option Addr} {mm cS : Nat} {S : Nat → StK} (hsc : ScK w aS mm S) (hm : mm ≤ 1048576) (at' : Int) (ha0 : 0 ≤ at') (ha1 : at' ≤ 1000000000) :
    Calls Tryd.prog 28 #[fv, .slice aS mm cS, .int .i64 at'] w fun e w' => C1A (fun j => j < w.heap.size) (1 + mm) f (advM f (fillM f S mm) at') w e w' :=
  (lbegun (LS.start ht (fun _ => ⟨fun _ => False, kpl0, .bool false, f, beginM f⟩) 1) (Below.refl _ _) (fun j hj => hj) hf hfv hsc hm (by omega) (by omega) at' ha0 ha1).mono (fun _ _ g => C1A.of g)
theorem c1set (h : C1 Z b f Q p m w) (hb : b ≤ 10000000000) (c v : Int) : Calls Tryd.prog 18 #[.pointer (some ⟨p.bp, 0, none⟩), .int .i64 c, .int .i64 v] w fun e w' => C1P (.int .i64 (setNo f m c v)) Z (b + 1) f Q p (setM f m c v) w e w' := by
  obtain ⟨v', h⟩ := h
  exact (lset h (i := 0) (by omega) hb c v).mono (fun _ _ g => C1P.of g)
theorem c1adv (h : C1 Z b f Q p m w) (hb : b ≤ 10000000000) (tq : Int) : Calls Tryd.prog 20 #[.pointer (some ⟨p.bp, 0, none⟩), .int .i64 tq] w fun e w' => C1P (.int .i64 (advAns m.T tq)) Z b f Q p (advM f m tq) w e w' := by
  obtain ⟨v', h⟩ := h
  exact (ladv h (i := 0) (by omega) hb tq).mono (fun _ _ g => C1P.of g)
theorem c1ack (h : C1 Z b f Q p m w) (r : Int) : Calls Tryd.prog 39 #[.pointer (some ⟨p.bp, 0, none⟩), .int .i64 r] w fun e w' => C1P (.int .i64 (ackNo f m r)) Z b f Q p (ackM f m r) w e w' := by
  obtain ⟨v', h⟩ := h
  exact (lack h (i := 0) (by omega) r).mono (fun _ _ g => C1P.of g)
theorem c1close (h : C1 Z b f Q p m w) : Calls Tryd.prog 38 #[.pointer (some ⟨p.bp, 0, none⟩)] w fun e w' => C1P (.int .i64 (closeNo m)) Z b f Q p (closeM f m) w e w' := by
  obtain ⟨v', h⟩ := h
  exact (lclose h (i := 0) (by omega)).mono (fun _ _ g => C1P.of g)
theorem c1look (h : C1 Z b f Q p m w) (hb : b ≤ 10000000000) {fv : Value} (hfv : FAt w f fv) : Calls Tryd.prog 23 #[.pointer (some ⟨p.bp, 0, none⟩), fv] w fun e w' => LoP f m w e w' := by
  obtain ⟨v', h⟩ := h
  exact llook h (i := 0) (by omega) hb hfv
theorem c1now (h : C1 Z b f Q p m w) : Calls Tryd.prog 21 #[.pointer (some ⟨p.bp, 0, none⟩)] w fun e w' => e = .returned (.int .i64 m.T) ∧ w' = w := by
  obtain ⟨v', h⟩ := h
  exact lnow h (i := 0) (by omega)
theorem c1value (h : C1 Z b f Q p m w) (c : Int) : Calls Tryd.prog 31 #[.pointer (some ⟨p.bp, 0, none⟩), .int .i64 c] w fun e w' => VAns f m.F m.T c w e w' := by
  obtain ⟨v', h⟩ := h
  exact lvalue h (i := 0) (by omega) c
theorem c1when (h : C1 Z b f Q p m w) (c : Int) : Calls Tryd.prog 32 #[.pointer (some ⟨p.bp, 0, none⟩), .int .i64 c] w fun e w' => WnP f m c w e w' := by
  obtain ⟨v', h⟩ := h
  exact lwhen h (i := 0) (by omega) c
theorem c1next (h : C1 Z b f Q p m w) : Calls Tryd.prog 33 #[.pointer (some ⟨p.bp, 0, none⟩)] w fun e w' => NxP f m w e w' := by
  obtain ⟨v', h⟩ := h
  exact lnext h (i := 0) (by omega)
theorem c1rule (h : C1 Z b f Q p m w) (r : Int) : Calls Tryd.prog 59 #[.pointer (some ⟨p.bp, 0, none⟩), .int .i64 r] w fun e w' => RAns f m r w e w' := by
  obtain ⟨v', h⟩ := h
  exact lrule h (i := 0) (by omega) r
theorem c1play (h : C1 Z b f Q p m w) {w0 : World} (hw0 : Below w0.heap.size w0 w) (hz : ∀ j, j < w0.heap.size → Z j) {fv : Value} (hfv : FAt w0 f fv) {aS : Option Addr} {mm cS : Nat} {S : Nat → StK} (hsc : ScK w0 aS mm S) (hop : m.op = true) (hm : mm ≤ 1048576) (hbb : b ≤ 8000000000) :
    Calls Tryd.prog 35 #[.pointer (some ⟨p.bp, 0, none⟩), fv, .slice aS mm cS] w fun e w' => C1P (.bool true) Z (b + mm) f Q p (playM f m S mm) w e w' := by
  obtain ⟨v', h⟩ := h
  exact (lplay h hw0 hz hfv hsc (i := 0) (by omega) rfl hop hm hbb).mono (fun _ _ g => C1P.of g)

/-- A call made over a box, and what of it is seen without the box. -/
theorem C1P.out {r : Value} {m' : Cs} {e : Ending} {b' : Nat} {w1 : World} (hb : Below w.heap.size w w1) (hz : ∀ j, Z j → j < w.heap.size) (h : C1P r (zup Z w w1) b' f Q p m' w1 e w') : C1P r Z b' f Q p m' w e w' := by
  obtain ⟨h0, h1, h2⟩ := h
  exact ⟨h0, h1.less (fun _ h => Or.inl h), (StZ.of hb hz).trans (h2.less (fun _ h => Or.inl h))⟩
end

end Go.Proofs.YtmofidaojmiepaaDoor

/-
  PLAIN MATHEMATICS: up to the instant that Next tells.
-/
set_option linter.unusedVariables false
set_option linter.unusedSimpArgs false
namespace Go.Proofs.YtmofidaojmiepaaDoor
open Go.RowKit

/-- Where values stay and nothing is logged, settling does nothing. -/
theorem same_settle {f : Frm} (hf : f.Ok) {m : Cs} (h : m.Ok f) {t : Int} (s1 : ∀ i, i < f.n → f.vals m.F t i = f.vals m.F m.T i) (s2 : (Cs.settle f (m.at t)).E.length = m.E.length) : Cs.settle f (m.at t) = m.at t := by
  by_cases ho : (m.at t).op = true
  · have hg := grd_eq (fun i hi => ⟨(hf.rules i hi).1, (hf.rules i hi).2.1⟩) s1
    have hc := h.lit ho
    have e0 : Cs.settle f (m.at t) = ⟨m.F, t, m.op, setS f (f.vals m.F t) t m.S, m.E ++ setE f (f.vals m.F t) t m.S⟩ := by unfold Cs.settle; rw [if_pos ho]; rfl
    rw [e0] at s2 ⊢
    have e2 : setE f (f.vals m.F t) t m.S = [] := by
      have h2 : (m.E ++ setE f (f.vals m.F t) t m.S).length = m.E.length := s2
      rw [List.length_append] at h2
      exact List.eq_nil_of_length_eq_zero (by omega)
    have e3 := e2
    unfold setE at e3
    rw [List.flatMap_eq_nil_iff] at e3
    have e1 : setS f (f.vals m.F t) t m.S = m.S := by
      funext i
      unfold setS
      by_cases hi : i < f.k
      · rw [if_pos hi]
        obtain ⟨c0, c1⟩ := hc i hi
        have h3 := e3 i (List.mem_range.2 hi)
        rw [hg i hi] at h3 ⊢
        unfold stepSt
        unfold stepEv at h3
        by_cases g0 : grd f.R (f.vals m.F m.T) i = 0
        · rw [if_pos g0]; exact (c0 g0).symm
        · have hl : ¬ (m.S i).lit = false := by have := c1 g0; simp [this]
          rw [if_neg g0, if_neg hl] at h3 ⊢
          split at h3
          · cases h3
          · rename_i hn
            rw [if_neg hn]
      · rw [if_neg hi]
    rw [e1, e2, List.append_nil]
    rfl
  · unfold Cs.settle
    rw [if_neg ho]

theorem go_same {f : Frm} (hf : f.Ok) {m : Cs} (h : m.Ok f) : ∀ j : Nat, (∀ u, m.T < u → u ≤ m.T + j → SameAt f m u) → m.go f j = m.at (m.T + j) := by
  intro j
  induction j with
  | zero =>
    intro _
    show m = m.at (m.T + (0 : Nat))
    rw [show m.T + ((0 : Nat) : Int) = m.T by omega]
    rfl
  | succ j ih =>
    intro hs
    have e : m.go f (j + 1) = Cs.settle f (m.at (m.T + (j + 1 : Nat))) := by
      show Cs.settle f ((Cs.go f m j).at _) = _
      rw [ih (fun u a b => hs u a (by omega))]
      rfl
    obtain ⟨s1, s2⟩ := hs (m.T + (j + 1 : Nat)) (by omega) (Int.le_refl _)
    rw [show (m.T + ((j + 1 : Nat) : Int) - m.T).toNat = j + 1 by omega, e] at s2
    rw [e]
    exact same_settle hf h s1 s2

/-- The clock goes on where nothing comes about. -/
theorem adv_same {f : Frm} (hf : f.Ok) {m : Cs} (h : m.Ok f) {t : Int} (h0 : m.T ≤ t) (h1 : t ≤ 1000000000) (hs : ∀ u, m.T < u → u ≤ t → SameAt f m u) : advM f m t = m.at t := by
  unfold advM
  rw [if_neg (by omega), go_same hf h _ (fun u a b => hs u a (by omega)), show m.T + (((t - m.T).toNat : Nat) : Int) = t by omega]

/-- To the instant that Next tells, or to one ahead of it. -/
theorem adv_hop {f : Frm} (hf : f.Ok) {m : Cs} (h : m.Ok f) {t : Int} (h0 : m.T < t) (h1 : t ≤ 1000000000) (hs : ∀ u, m.T < u → u < t → SameAt f m u) : advM f m t = Cs.settle f (m.at t) := by
  unfold advM
  rw [if_neg (by omega)]
  obtain ⟨j, hj⟩ : ∃ j : Nat, (t - m.T).toNat = j + 1 := ⟨(t - m.T).toNat - 1, by omega⟩
  rw [hj]
  show Cs.settle f ((Cs.go f m j).at (m.T + (j + 1 : Nat))) = _
  rw [go_same hf h j (fun u a b => hs u a (by omega)), show m.T + ((j + 1 : Nat) : Int) = t by omega]
  rfl

theorem at_self (m : Cs) : m.at m.T = m := rfl

/-- What Next's answer says of the clock. -/
structure HopSay (f : Frm) (m : Cs) (t : Int) : Prop where
  lt : m.T < t
  le : t ≤ 1000000000
  a0 : advM f m (t - 1) = m.at (t - 1)
  v0 : ∀ i, i < f.n → f.vals m.F (t - 1) i = f.vals m.F m.T i
  a1 : advM f (m.at (t - 1)) t = advM f m t
  no : (¬ ∀ i, i < f.n → f.vals m.F m.T i = f.vals m.F t i) ∨ m.E.length < (advM f m t).E.length

theorem hop_yes {f : Frm} (hf : f.Ok) {m : Cs} (h : m.Ok f) {t : Int} (hx : NexIs f m t true) : HopSay f m t := by
  rcases hx with ⟨_, h1, h2, h3, h4⟩ | ⟨e, _⟩
  · have e0 : advM f m (t - 1) = m.at (t - 1) := adv_same hf h (by omega) (by omega) (fun u a b => h4 u a (by omega))
    refine ⟨h1, h2, e0, fun i hi => ?_, ?_, ?_⟩
    · rcases Int.lt_or_le m.T (t - 1) with hl | hl
      · exact (h4 (t - 1) hl (by omega)).1 i hi
      · rw [show t - 1 = m.T by omega]
    · rw [← e0]
      exact adv_adv f m (by omega) (by omega) h2
    · by_cases hv : ∀ i, i < f.n → f.vals m.F m.T i = f.vals m.F t i
      · refine Or.inr ?_
        have e2 : advM f m t = m.go f (t - m.T).toNat := by unfold advM; rw [if_neg (by omega)]
        rw [e2]
        have := go_grows f m (t - m.T).toNat
        have hne : (m.go f (t - m.T).toNat).E.length ≠ m.E.length := fun e => h3 ⟨fun i hi => (hv i hi).symm, e⟩
        omega
      · exact Or.inl hv
  · cases e

theorem hop_no {f : Frm} (hf : f.Ok) {m : Cs} (h : m.Ok f) {t : Int} (hx : NexIs f m t false) : t = 0 ∧ advM f m 1000000000 = m.at 1000000000 ∧ ∀ i, i < f.n → f.vals m.F m.T i = f.vals m.F 1000000000 i := by
  rcases hx with ⟨e, _⟩ | ⟨_, h1, h2⟩
  · cases e
  · refine ⟨h1, adv_same hf h h.t1 (by omega) (fun u a b => h2 u a b), fun i hi => ?_⟩
    rcases Int.lt_or_le m.T 1000000000 with hl | hl
    · exact ((h2 1000000000 hl (by omega)).1 i hi).symm
    · rw [show m.T = 1000000000 by have := h.t1; omega]

end Go.Proofs.YtmofidaojmiepaaDoor

/-
  THE WALKS: docketkeep's unmoved, hop, Walk.
-/
set_option linter.unusedVariables false
set_option linter.unusedSimpArgs false
namespace Go.Proofs.YtmofidaojmiepaaDoor
open Go.RowKit
attribute [local go_sem ↓] Go.wp_at_zero Go.wp_at_succ

/-- Both show the same, but for the clock. -/
theorem kunmoved_any {f : Frm} {m m' : Cs} {Ba Bb : Nat} {va vb : Value} {w : World} (ha : LookAt Ba f m va w) (hb : LookAt Bb f m' vb w) (hV : ∀ i, i < f.n → f.vals m.F m.T i = f.vals m'.F m'.T i) (hS : ∀ i, i < f.k → m.S i = m'.S i) (hE : m.E = m'.E) (n20 : f.n ≤ 20) (k6 : f.k ≤ 6) (hl : m.E.length ≤ 1000000000000) :
    Calls Tryd.prog 65 #[va, vb] w fun e w' => TPost w e w' := by
  obtain ⟨vV, vS, vL, rfl, a1, a2, a3⟩ := ha.ex
  obtain ⟨uV, uS, uL, rfl, b1, b2, b3⟩ := hb.ex
  have b2' : w.ownsRow Bb 80 4 uS f.k (stas4 m.S f.k) := by
    have e : stas4 m.S f.k = stas4 m'.S f.k := by
      unfold stas4
      refine List.map_congr_left (fun j hj => ?_)
      have hj' : j < f.k * 4 := List.mem_range.1 hj
      exact stf_congr hS j hj'
    rw [e]
    exact b2
  rw [← hE] at b3
  have SI := hid (fun W (hW : Below w.heap.size w W) => ksameInts_any (own_of_block a1 (w' := W) (fun g _ hlt => hW.block g hlt)) (own_of_block b1 (w' := W) (fun g _ hlt => hW.block g hlt)) n20)
  have SS := hid (fun W (hW : Below w.heap.size w W) => ksameSt_any (own_of_block a2 (w' := W) (fun g _ hlt => hW.block g hlt)) (own_of_block b2' (w' := W) (fun g _ hlt => hW.block g hlt)) k6)
  have SE := hid (fun W (hW : Below w.heap.size w W) => ksameEv_any (own_of_block a3 (w' := W) (fun g _ hlt => hW.block g hlt)) (own_of_block b3 (w' := W) (fun g _ hlt => hW.block g hlt)) hl)
  have HV := hid hV
  clear a1 a2 a3 b1 b2 b2' b3 ha hb hV hS hE
  generalize m.T = mT at *
  generalize m'.T = mT' at *
  have BX := hid (Below.refl (w.heap.size + 1 + 1) ((w.alloc (.cells #[.int .i64 mT, vV, vS, vL, .bool true] 46)).alloc (.cells #[.int .i64 mT', uV, uS, uL, .bool true] 46)))
  have p1 := two_boxes BX.out 1
  simp at p1
  obtain ⟨p1, q1⟩ := p1
  go_enter Tryd.func65, Tryd.ntmps65
  go_wp2_with fail
  refine (SI.out _ (two_boxes_below BX.out)).mono ?_
  rintro e w1 ⟨r, rfl, hr, hb1⟩
  have er : r = true := hr.2 HV.out
  subst er
  have B1 : Hid (Below (w.heap.size + 1 + 1) ((w.alloc (.cells #[.int .i64 mT, vV, vS, vL, .bool true] 46)).alloc (.cells #[.int .i64 mT', uV, uS, uL, .bool true] 46)) w1) := by have h := hb1; simp only [World.size_alloc] at h; exact h
  clear hr hb1 BX
  have p2 := two_boxes B1.out 2
  simp at p2
  obtain ⟨p2, q2⟩ := p2
  go_wp2_with fail
  refine (SS.out _ (two_boxes_below B1.out)).mono ?_
  rintro e w2 ⟨rfl, hb2⟩
  have B2 := hid (B1.out.trans (hb2.mono (by have := B1.out.size; simpa using this)))
  clear hb2 B1
  have p3 := two_boxes B2.out 3
  simp at p3
  obtain ⟨p3, q3⟩ := p3
  go_wp2_with fail
  refine (SE.out _ (two_boxes_below B2.out)).mono ?_
  rintro e w3 ⟨rfl, hb3⟩
  have B3 := hid (B2.out.trans (hb3.mono (by have := B2.out.size; simpa using this)))
  clear hb3 B2
  have p4 := two_boxes B3.out 4
  simp at p4
  obtain ⟨p4, q4⟩ := p4
  have R : Hid (TPost w (.returned (.bool true)) w3) := ⟨rfl, two_boxes_below B3.out⟩
  clear B3
  go_wp2
  go_ret
  exact R.out

theorem LookZ.lk {Z : Nat → Prop} {f : Frm} {m : Cs} {v : Value} {w : World} (h : LookZ Z f m v w) : ∃ B, LookAt B f m v w := by
  obtain ⟨B, h1, _⟩ := h
  exact ⟨B, h1⟩

/-- What hop leaves. -/
def HopP (Z : Nat → Prop) (b : Nat) (f : Frm) (Q : Nat → Prop) (p : KPl) (w : World) (e : Ending) (w' : World) : Prop := ∃ more m', e = .returned (.tuple #[.bool true, .bool more]) ∧ C1 Z b f Q p m' w' ∧ StZ Z w w'

set_option maxRecDepth 100000 in
set_option maxHeartbeats 4000000 in
theorem khop_any {ZA : Nat → Prop} {b : Nat} {f : Frm} {Q : Nat → Prop} {p : KPl} {m : Cs} {w w0 : World} (h : C1 ZA b f Q p m w) (hb : b ≤ 10000000000) (hw0 : StZ (fun j => j < w0.heap.size) w0 w) (hz : ∀ j, j < w0.heap.size → ZA j) {fv : Value} (hfv : FAt w0 f fv) :
    Calls Tryd.prog 30 #[.pointer (some ⟨p.bp, 0, none⟩), fv] w fun e w' => HopP ZA b f Q p w e w' := by
  have HF := hid h.fok
  have HM := hid h.mok
  have HL : Hid (m.E.length ≤ 1000000000000) := by show _ ≤ _; have := h.len hb; omega
  obtain ⟨n1, n20, k6, _, _⟩ := HF.out.sizes
  have FA0 := hid hfv
  obtain ⟨aC', cC', aR', cR', aH', cH', rfl, _, _, _⟩ := hfv
  have BX := hid (Below.refl (w.heap.size + 1) (w.alloc (.cells #[.slice aC' f.n cC', .slice aR' f.k cR', .int .i64 f.week, .slice aH' f.hol.length cH'] 26)))
  have BW := hid (boxed_below BX.out)
  have g0 : (w.alloc (.cells #[.slice aC' f.n cC', .slice aR' f.k cR', .int .i64 f.week, .slice aH' f.hol.length cH'] 26)).cell? ⟨w.heap.size, 0, none⟩ = some (Value.slice aC' f.n cC') := boxed BX.out 0
  have g1 : (w.alloc (.cells #[.slice aC' f.n cC', .slice aR' f.k cR', .int .i64 f.week, .slice aH' f.hol.length cH'] 26)).cell? ⟨w.heap.size, 1, none⟩ = some (Value.slice aR' f.k cR') := boxed BX.out 1
  have g2 : (w.alloc (.cells #[.slice aC' f.n cC', .slice aR' f.k cR', .int .i64 f.week, .slice aH' f.hol.length cH'] 26)).cell? ⟨w.heap.size, 2, none⟩ = some (.int .i64 f.week) := boxed BX.out 2
  have g3 : (w.alloc (.cells #[.slice aC' f.n cC', .slice aR' f.k cR', .int .i64 f.week, .slice aH' f.hol.length cH'] 26)).cell? ⟨w.heap.size, 3, none⟩ = some (Value.slice aH' f.hol.length cH') := boxed BX.out 3
  have ZG : Hid (zup ZA w (w.alloc (.cells #[.slice aC' f.n cC', .slice aR' f.k cR', .int .i64 f.week, .slice aH' f.hol.length cH'] 26)) w.heap.size) := Or.inr ⟨Nat.le_refl _, by simp⟩
  have C0 := hid (h.drop BW.out)
  have ZS : Hid (∀ j, ZA j → zup ZA w (w.alloc (.cells #[.slice aC' f.n cC', .slice aR' f.k cR', .int .i64 f.week, .slice aH' f.hol.length cH'] 26)) j) := fun j hj => Or.inl hj
  have SZ : Hid (StZ ZA w (w.alloc (.cells #[.slice aC' f.n cC', .slice aR' f.k cR', .int .i64 f.week, .slice aH' f.hol.length cH'] 26))) := StZ.of BW.out h.lt
  have HZ : Hid (∀ j, j < w0.heap.size → zup ZA w (w.alloc (.cells #[.slice aC' f.n cC', .slice aR' f.k cR', .int .i64 f.week, .slice aH' f.hol.length cH'] 26)) j) := fun j hj => Or.inl (hz j hj)
  have SW : Hid (StZ (fun j => j < w0.heap.size) w0 (w.alloc (.cells #[.slice aC' f.n cC', .slice aR' f.k cR', .int .i64 f.week, .slice aH' f.hol.length cH'] 26))) := hw0.trans (SZ.out.less hz)
  clear h hw0 hz BX BW
  go_enter Tryd.func30, Tryd.ntmps30
  go_upto_region 1 with (fail)
  generalize zup ZA w (w.alloc (.cells #[.slice aC' f.n cC', .slice aR' f.k cR', .int .i64 f.week, .slice aH' f.hol.length cH'] 26)) = Z0 at *
  generalize w.alloc (.cells #[.slice aC' f.n cC', .slice aR' f.k cR', .int .i64 f.week, .slice aH' f.hol.length cH'] 26) = wB at *
  generalize w.heap.size = g at *
  have LK : Hid (Calls Tryd.prog 23 #[.pointer (some ⟨p.bp, 0, none⟩), (.agg #[.slice aC' f.n cC', .slice aR' f.k cR', .int .i64 f.week, .slice aH' f.hol.length cH'])] wB fun e w' => LoP f m wB e w') := c1look C0.out hb (FA0.out.below (SW.out.below (Below.refl _ _) (fun j hj => hj)))
  go_wp2_with fail
  refine LK.out.mono ?_
  rintro e ax ⟨vx, rfl, l, b⟩
  have Lx := hid l
  obtain ⟨xV, xS, xL, rfl, r1, r2, r3⟩ := l.ex
  obtain ⟨xa1, xc1, rfl⟩ := own_len r1
  obtain ⟨xa2, xc2, rfl⟩ := own_len r2
  obtain ⟨xa3, xc3, rfl⟩ := own_len r3
  have BB : Hid (Below ax.heap.size ax (ax.alloc (.cells #[.int .i64 m.T, .slice xa1 f.n xc1, .slice xa2 f.k xc2, .slice xa3 m.E.length xc3, .bool true] 46))) := boxed_below (Below.refl (ax.heap.size + 1) (ax.alloc (.cells #[.int .i64 m.T, .slice xa1 f.n xc1, .slice xa2 f.k xc2, .slice xa3 m.E.length xc3, .bool true] 46)))
  have NW : Hid (Below wB.heap.size wB (ax.alloc (.cells #[.int .i64 m.T, .slice xa1 f.n xc1, .slice xa2 f.k xc2, .slice xa3 m.E.length xc3, .bool true] 46))) := b.trans (BB.out.mono b.size)
  have NS : Hid (StZ Z0 wB (ax.alloc (.cells #[.int .i64 m.T, .slice xa1 f.n xc1, .slice xa2 f.k xc2, .slice xa3 m.E.length xc3, .bool true] 46))) := StZ.of NW.out C0.out.lt
  have Lx : Hid (LookZ (zup Z0 wB (ax.alloc (.cells #[.int .i64 m.T, .slice xa1 f.n xc1, .slice xa2 f.k xc2, .slice xa3 m.E.length xc3, .bool true] 46))) f m _ (ax.alloc (.cells #[.int .i64 m.T, .slice xa1 f.n xc1, .slice xa2 f.k xc2, .slice xa3 m.E.length xc3, .bool true] 46))) := LookZ.of (Lx.out.below (B2 := 0) BB.out) (fun j h1 h2 => Or.inr ⟨h1, h2⟩)
  have g0 := (NS.out.cell 0 ZG.out).trans g0
  have g1 := (NS.out.cell 1 ZG.out).trans g1
  have g2 := (NS.out.cell 2 ZG.out).trans g2
  have g3 := (NS.out.cell 3 ZG.out).trans g3
  have zx : Hid (zup Z0 wB (ax.alloc (.cells #[.int .i64 m.T, .slice xa1 f.n xc1, .slice xa2 f.k xc2, .slice xa3 m.E.length xc3, .bool true] 46)) ax.heap.size) := Or.inr ⟨b.size, by simp⟩
  have cx0 : (ax.alloc (.cells #[.int .i64 m.T, .slice xa1 f.n xc1, .slice xa2 f.k xc2, .slice xa3 m.E.length xc3, .bool true] 46)).cell? ⟨ax.heap.size, 0, none⟩ = some (.int .i64 m.T) := boxed (Below.refl (ax.heap.size + 1) (ax.alloc (.cells #[.int .i64 m.T, .slice xa1 f.n xc1, .slice xa2 f.k xc2, .slice xa3 m.E.length xc3, .bool true] 46))) 0
  have cx1 : (ax.alloc (.cells #[.int .i64 m.T, .slice xa1 f.n xc1, .slice xa2 f.k xc2, .slice xa3 m.E.length xc3, .bool true] 46)).cell? ⟨ax.heap.size, 1, none⟩ = some (.slice xa1 f.n xc1) := boxed (Below.refl (ax.heap.size + 1) (ax.alloc (.cells #[.int .i64 m.T, .slice xa1 f.n xc1, .slice xa2 f.k xc2, .slice xa3 m.E.length xc3, .bool true] 46))) 1
  have cx2 : (ax.alloc (.cells #[.int .i64 m.T, .slice xa1 f.n xc1, .slice xa2 f.k xc2, .slice xa3 m.E.length xc3, .bool true] 46)).cell? ⟨ax.heap.size, 2, none⟩ = some (.slice xa2 f.k xc2) := boxed (Below.refl (ax.heap.size + 1) (ax.alloc (.cells #[.int .i64 m.T, .slice xa1 f.n xc1, .slice xa2 f.k xc2, .slice xa3 m.E.length xc3, .bool true] 46))) 2
  have cx3 : (ax.alloc (.cells #[.int .i64 m.T, .slice xa1 f.n xc1, .slice xa2 f.k xc2, .slice xa3 m.E.length xc3, .bool true] 46)).cell? ⟨ax.heap.size, 3, none⟩ = some (.slice xa3 m.E.length xc3) := boxed (Below.refl (ax.heap.size + 1) (ax.alloc (.cells #[.int .i64 m.T, .slice xa1 f.n xc1, .slice xa2 f.k xc2, .slice xa3 m.E.length xc3, .bool true] 46))) 3
  have cx4 : (ax.alloc (.cells #[.int .i64 m.T, .slice xa1 f.n xc1, .slice xa2 f.k xc2, .slice xa3 m.E.length xc3, .bool true] 46)).cell? ⟨ax.heap.size, 4, none⟩ = some (.bool true) := boxed (Below.refl (ax.heap.size + 1) (ax.alloc (.cells #[.int .i64 m.T, .slice xa1 f.n xc1, .slice xa2 f.k xc2, .slice xa3 m.E.length xc3, .bool true] 46))) 4
  have HZ0 := hid HZ.out
  have HZ : Hid (∀ j, j < w0.heap.size → zup Z0 wB (ax.alloc (.cells #[.int .i64 m.T, .slice xa1 f.n xc1, .slice xa2 f.k xc2, .slice xa3 m.E.length xc3, .bool true] 46)) j) := fun j hj => Or.inl (HZ.out j hj)
  have ZG : Hid (zup Z0 wB (ax.alloc (.cells #[.int .i64 m.T, .slice xa1 f.n xc1, .slice xa2 f.k xc2, .slice xa3 m.E.length xc3, .bool true] 46)) g) := Or.inl ZG.out
  have SW := hid (SW.out.trans (NS.out.less (fun j hj => HZ0.out j hj)))
  have Nx := hid (C0.out.drop NW.out)
  have SZ := hid (SZ.out.trans (NS.out.less ZS.out))
  have ZS : Hid (∀ j, ZA j → zup Z0 wB (ax.alloc (.cells #[.int .i64 m.T, .slice xa1 f.n xc1, .slice xa2 f.k xc2, .slice xa3 m.E.length xc3, .bool true] 46)) j) := fun j hj => Or.inl (ZS.out j hj)
  clear r1 r2 r3 l b BB NW NS LK C0
  go_upto_region 2 with (fail)
  generalize zup Z0 wB (ax.alloc (.cells #[.int .i64 m.T, .slice xa1 f.n xc1, .slice xa2 f.k xc2, .slice xa3 m.E.length xc3, .bool true] 46)) = Zx at *
  generalize (ax.alloc (.cells #[.int .i64 m.T, .slice xa1 f.n xc1, .slice xa2 f.k xc2, .slice xa3 m.E.length xc3, .bool true] 46)) = ux at *
  generalize ax.heap.size = gx at *
  have KC := hid (c1next Nx.out)
  go_wp2_with fail
  refine KC.out.mono ?_
  rintro e y1 ⟨t, ok, rfl, hnx, hb⟩
  have NS : StZ Zx ux y1 := StZ.of hb Nx.out.lt
  have HN := hid hnx
  clear hnx
  have Lx := hid (Lx.out.stays NS)
  have cx0 := (NS.cell 0 zx.out).trans cx0
  have cx1 := (NS.cell 1 zx.out).trans cx1
  have cx2 := (NS.cell 2 zx.out).trans cx2
  have cx3 := (NS.cell 3 zx.out).trans cx3
  have cx4 := (NS.cell 4 zx.out).trans cx4
  have g0 := (NS.cell 0 ZG.out).trans g0
  have g1 := (NS.cell 1 ZG.out).trans g1
  have g2 := (NS.cell 2 ZG.out).trans g2
  have g3 := (NS.cell 3 ZG.out).trans g3
  have SW := hid (SW.out.trans (NS.less HZ.out))
  have SZ := hid (SZ.out.trans (NS.less ZS.out))
  have K1 := hid (Nx.out.keep hb)
  clear KC NS hb Nx
  cases ok
  · obtain ⟨ht0, ha, hv⟩ := hop_no HF.out HM.out HN.out
    have HV := hid hv
    subst ht0
    obtain ⟨me, hme⟩ : ∃ me, m.at 1000000000 = me := ⟨_, rfl⟩
    have ME : Hid (me.T = 1000000000 ∧ me.F = m.F ∧ me.S = m.S ∧ me.E = m.E) := by rw [← hme]; exact ⟨rfl, rfl, rfl, rfl⟩
    have AE : Hid (advM f m 1000000000 = me) := ha.trans hme
    have AN : Hid (advAns m.T 1000000000 = 0) := by show advAns _ _ = _; unfold advAns; rw [if_neg (by have := HM.out.t1; omega)]
    clear ha hme hv HN
    have KC := hid ((c1adv K1.out hb 1000000000).mono (fun _ _ g => C1P.as g (r' := .int .i64 0) (m' := me) (congrArg (Value.int .i64) AN.out) AE.out))
    go_wp2_with fail
    refine KC.out.mono ?_
    rintro e y2 ⟨rfl, l, s⟩
    have K2 : Hid (C1 Zx (b) f Q p me y2) := l
    have SW : Hid (StZ (fun j => j < w0.heap.size) w0 y2) := SW.out.trans (s.less HZ.out)
    have SZ := hid (SZ.out.trans (s.less ZS.out))
    have Lx := hid (Lx.out.stays s)
    have cx0 := (s.cell 0 zx.out).trans cx0
    have cx1 := (s.cell 1 zx.out).trans cx1
    have cx2 := (s.cell 2 zx.out).trans cx2
    have cx3 := (s.cell 3 zx.out).trans cx3
    have cx4 := (s.cell 4 zx.out).trans cx4
    have g0 := (s.cell 0 ZG.out).trans g0
    have g1 := (s.cell 1 ZG.out).trans g1
    have g2 := (s.cell 2 ZG.out).trans g2
    have g3 := (s.cell 3 ZG.out).trans g3
    clear l s KC K1
    have LK : Hid (Calls Tryd.prog 23 #[.pointer (some ⟨p.bp, 0, none⟩), (.agg #[.slice aC' f.n cC', .slice aR' f.k cR', .int .i64 f.week, .slice aH' f.hol.length cH'])] y2 fun e w' => LoP f me y2 e w') := c1look K2.out hb (FA0.out.below (SW.out.below (Below.refl _ _) (fun j hj => hj)))
    go_wp2_with fail
    refine LK.out.mono ?_
    rintro e ay ⟨vy, rfl, l, b⟩
    have Ly := hid l
    obtain ⟨yV, yS, yL, rfl, r1, r2, r3⟩ := l.ex
    obtain ⟨ya1, yc1, rfl⟩ := own_len r1
    obtain ⟨ya2, yc2, rfl⟩ := own_len r2
    obtain ⟨ya3, yc3, rfl⟩ := own_len r3
    have BB : Hid (Below ay.heap.size ay (ay.alloc (.cells #[.int .i64 me.T, .slice ya1 f.n yc1, .slice ya2 f.k yc2, .slice ya3 me.E.length yc3, .bool true] 46))) := boxed_below (Below.refl (ay.heap.size + 1) (ay.alloc (.cells #[.int .i64 me.T, .slice ya1 f.n yc1, .slice ya2 f.k yc2, .slice ya3 me.E.length yc3, .bool true] 46)))
    have NW : Hid (Below y2.heap.size y2 (ay.alloc (.cells #[.int .i64 me.T, .slice ya1 f.n yc1, .slice ya2 f.k yc2, .slice ya3 me.E.length yc3, .bool true] 46))) := b.trans (BB.out.mono b.size)
    have NS : Hid (StZ Zx y2 (ay.alloc (.cells #[.int .i64 me.T, .slice ya1 f.n yc1, .slice ya2 f.k yc2, .slice ya3 me.E.length yc3, .bool true] 46))) := StZ.of NW.out K2.out.lt
    have Ly : Hid (LookZ (zup Zx y2 (ay.alloc (.cells #[.int .i64 me.T, .slice ya1 f.n yc1, .slice ya2 f.k yc2, .slice ya3 me.E.length yc3, .bool true] 46))) f me _ (ay.alloc (.cells #[.int .i64 me.T, .slice ya1 f.n yc1, .slice ya2 f.k yc2, .slice ya3 me.E.length yc3, .bool true] 46))) := LookZ.of (Ly.out.below (B2 := 0) BB.out) (fun j h1 h2 => Or.inr ⟨h1, h2⟩)
    have Lx := hid ((Lx.out.stays NS.out).less (Z' := zup Zx y2 (ay.alloc (.cells #[.int .i64 me.T, .slice ya1 f.n yc1, .slice ya2 f.k yc2, .slice ya3 me.E.length yc3, .bool true] 46))) (fun j hj => Or.inl hj))
    have cx0 := (NS.out.cell 0 zx.out).trans cx0
    have cx1 := (NS.out.cell 1 zx.out).trans cx1
    have cx2 := (NS.out.cell 2 zx.out).trans cx2
    have cx3 := (NS.out.cell 3 zx.out).trans cx3
    have cx4 := (NS.out.cell 4 zx.out).trans cx4
    have zx : Hid (zup Zx y2 (ay.alloc (.cells #[.int .i64 me.T, .slice ya1 f.n yc1, .slice ya2 f.k yc2, .slice ya3 me.E.length yc3, .bool true] 46)) gx) := Or.inl zx.out
    have g0 := (NS.out.cell 0 ZG.out).trans g0
    have g1 := (NS.out.cell 1 ZG.out).trans g1
    have g2 := (NS.out.cell 2 ZG.out).trans g2
    have g3 := (NS.out.cell 3 ZG.out).trans g3
    have zy : Hid (zup Zx y2 (ay.alloc (.cells #[.int .i64 me.T, .slice ya1 f.n yc1, .slice ya2 f.k yc2, .slice ya3 me.E.length yc3, .bool true] 46)) ay.heap.size) := Or.inr ⟨b.size, by simp⟩
    have cy0 : (ay.alloc (.cells #[.int .i64 me.T, .slice ya1 f.n yc1, .slice ya2 f.k yc2, .slice ya3 me.E.length yc3, .bool true] 46)).cell? ⟨ay.heap.size, 0, none⟩ = some (.int .i64 me.T) := boxed (Below.refl (ay.heap.size + 1) (ay.alloc (.cells #[.int .i64 me.T, .slice ya1 f.n yc1, .slice ya2 f.k yc2, .slice ya3 me.E.length yc3, .bool true] 46))) 0
    have cy1 : (ay.alloc (.cells #[.int .i64 me.T, .slice ya1 f.n yc1, .slice ya2 f.k yc2, .slice ya3 me.E.length yc3, .bool true] 46)).cell? ⟨ay.heap.size, 1, none⟩ = some (.slice ya1 f.n yc1) := boxed (Below.refl (ay.heap.size + 1) (ay.alloc (.cells #[.int .i64 me.T, .slice ya1 f.n yc1, .slice ya2 f.k yc2, .slice ya3 me.E.length yc3, .bool true] 46))) 1
    have cy2 : (ay.alloc (.cells #[.int .i64 me.T, .slice ya1 f.n yc1, .slice ya2 f.k yc2, .slice ya3 me.E.length yc3, .bool true] 46)).cell? ⟨ay.heap.size, 2, none⟩ = some (.slice ya2 f.k yc2) := boxed (Below.refl (ay.heap.size + 1) (ay.alloc (.cells #[.int .i64 me.T, .slice ya1 f.n yc1, .slice ya2 f.k yc2, .slice ya3 me.E.length yc3, .bool true] 46))) 2
    have cy3 : (ay.alloc (.cells #[.int .i64 me.T, .slice ya1 f.n yc1, .slice ya2 f.k yc2, .slice ya3 me.E.length yc3, .bool true] 46)).cell? ⟨ay.heap.size, 3, none⟩ = some (.slice ya3 me.E.length yc3) := boxed (Below.refl (ay.heap.size + 1) (ay.alloc (.cells #[.int .i64 me.T, .slice ya1 f.n yc1, .slice ya2 f.k yc2, .slice ya3 me.E.length yc3, .bool true] 46))) 3
    have cy4 : (ay.alloc (.cells #[.int .i64 me.T, .slice ya1 f.n yc1, .slice ya2 f.k yc2, .slice ya3 me.E.length yc3, .bool true] 46)).cell? ⟨ay.heap.size, 4, none⟩ = some (.bool true) := boxed (Below.refl (ay.heap.size + 1) (ay.alloc (.cells #[.int .i64 me.T, .slice ya1 f.n yc1, .slice ya2 f.k yc2, .slice ya3 me.E.length yc3, .bool true] 46))) 4
    have HZ0 := hid HZ.out
    have HZ : Hid (∀ j, j < w0.heap.size → zup Zx y2 (ay.alloc (.cells #[.int .i64 me.T, .slice ya1 f.n yc1, .slice ya2 f.k yc2, .slice ya3 me.E.length yc3, .bool true] 46)) j) := fun j hj => Or.inl (HZ.out j hj)
    have ZG : Hid (zup Zx y2 (ay.alloc (.cells #[.int .i64 me.T, .slice ya1 f.n yc1, .slice ya2 f.k yc2, .slice ya3 me.E.length yc3, .bool true] 46)) g) := Or.inl ZG.out
    have SW := hid (SW.out.trans (NS.out.less (fun j hj => HZ0.out j hj)))
    have Ny := hid (K2.out.drop NW.out)
    have SZ := hid (SZ.out.trans (NS.out.less ZS.out))
    have ZS : Hid (∀ j, ZA j → zup Zx y2 (ay.alloc (.cells #[.int .i64 me.T, .slice ya1 f.n yc1, .slice ya2 f.k yc2, .slice ya3 me.E.length yc3, .bool true] 46)) j) := fun j hj => Or.inl (ZS.out j hj)
    clear r1 r2 r3 l b BB NW NS LK K2
    go_upto_region 6 with (fail)
    generalize zup Zx y2 (ay.alloc (.cells #[.int .i64 me.T, .slice ya1 f.n yc1, .slice ya2 f.k yc2, .slice ya3 me.E.length yc3, .bool true] 46)) = Zy at *
    generalize (ay.alloc (.cells #[.int .i64 me.T, .slice ya1 f.n yc1, .slice ya2 f.k yc2, .slice ya3 me.E.length yc3, .bool true] 46)) = uy at *
    generalize ay.heap.size = gy at *
    obtain ⟨Bx, lx⟩ := Lx.out.lk
    obtain ⟨By, ly⟩ := Ly.out.lk
    have UN := hid (kunmoved_any lx ly (by rw [ME.out.1, ME.out.2.1]; exact HV.out) (fun i _ => by rw [ME.out.2.2.1]) ME.out.2.2.2.symm n20 k6 HL.out)
    clear lx ly
    go_wp2_with fail
    refine UN.out.mono ?_
    rintro e w9 ⟨rfl, hb9⟩
    have R : Hid (HopP ZA b f Q p w (.returned (.tuple #[.bool true, .bool false])) w9) := ⟨false, me, rfl, (Ny.out.keep hb9).less ZS.out, SZ.out.trans ((StZ.of hb9 Ny.out.lt).less ZS.out)⟩
    clear hb9
    go_wp2
    go_ret2
    exact R.out
  · obtain ⟨t1, t2, a0, v0, a1, no⟩ := hop_yes HF.out HM.out HN.out
    have tp : 0 < t := by have := HM.out.t0; omega
    have q1 : ¬ (t ≤ m.T) := by omega
    have q2 : ¬ (1000000000 < t) := by omega
    obtain ⟨ma, hma⟩ : ∃ ma, m.at (t - 1) = ma := ⟨_, rfl⟩
    have MA : Hid (ma.T = t - 1 ∧ ma.F = m.F ∧ ma.S = m.S ∧ ma.E = m.E) := by rw [← hma]; exact ⟨rfl, rfl, rfl, rfl⟩
    obtain ⟨mb, hmb⟩ : ∃ mb, advM f m t = mb := ⟨_, rfl⟩
    have MB : Hid (mb.T = t ∧ mb.F = m.F) := by rw [← hmb]; exact ⟨advM_T f m (by omega) t2, advM_F f m t⟩
    have AE : Hid (advM f m (t - 1) = ma) := a0.trans hma
    have BE : Hid (advM f ma t = mb) := by show advM f ma t = mb; rw [← hma, a1, hmb]
    have AN : Hid (advAns m.T (t - 1) = 0) := by show advAns _ _ = _; unfold advAns; rw [if_neg (by omega)]
    have BN : Hid (advAns ma.T t = 0) := by show advAns _ _ = _; rw [MA.out.1]; unfold advAns; rw [if_neg (by omega)]
    have HV := hid v0
    rw [hmb] at no
    have NO := hid no
    clear a0 v0 a1 no hma hmb HN
    have KC := hid ((c1adv K1.out hb (t - 1)).mono (fun _ _ g => C1P.as g (r' := .int .i64 0) (m' := ma) (congrArg (Value.int .i64) AN.out) AE.out))
    go_wp2_with fail
    refine KC.out.mono ?_
    rintro e y2 ⟨rfl, l, s⟩
    have K2 : Hid (C1 Zx (b) f Q p ma y2) := l
    have SW : Hid (StZ (fun j => j < w0.heap.size) w0 y2) := SW.out.trans (s.less HZ.out)
    have SZ := hid (SZ.out.trans (s.less ZS.out))
    have Lx := hid (Lx.out.stays s)
    have cx0 := (s.cell 0 zx.out).trans cx0
    have cx1 := (s.cell 1 zx.out).trans cx1
    have cx2 := (s.cell 2 zx.out).trans cx2
    have cx3 := (s.cell 3 zx.out).trans cx3
    have cx4 := (s.cell 4 zx.out).trans cx4
    have g0 := (s.cell 0 ZG.out).trans g0
    have g1 := (s.cell 1 ZG.out).trans g1
    have g2 := (s.cell 2 ZG.out).trans g2
    have g3 := (s.cell 3 ZG.out).trans g3
    clear l s KC K1
    have LK : Hid (Calls Tryd.prog 23 #[.pointer (some ⟨p.bp, 0, none⟩), (.agg #[.slice aC' f.n cC', .slice aR' f.k cR', .int .i64 f.week, .slice aH' f.hol.length cH'])] y2 fun e w' => LoP f ma y2 e w') := c1look K2.out hb (FA0.out.below (SW.out.below (Below.refl _ _) (fun j hj => hj)))
    go_wp2_with fail
    refine LK.out.mono ?_
    rintro e ay ⟨vy, rfl, l, b⟩
    have Ly := hid l
    obtain ⟨yV, yS, yL, rfl, r1, r2, r3⟩ := l.ex
    obtain ⟨ya1, yc1, rfl⟩ := own_len r1
    obtain ⟨ya2, yc2, rfl⟩ := own_len r2
    obtain ⟨ya3, yc3, rfl⟩ := own_len r3
    have BB : Hid (Below ay.heap.size ay (ay.alloc (.cells #[.int .i64 ma.T, .slice ya1 f.n yc1, .slice ya2 f.k yc2, .slice ya3 ma.E.length yc3, .bool true] 46))) := boxed_below (Below.refl (ay.heap.size + 1) (ay.alloc (.cells #[.int .i64 ma.T, .slice ya1 f.n yc1, .slice ya2 f.k yc2, .slice ya3 ma.E.length yc3, .bool true] 46)))
    have NW : Hid (Below y2.heap.size y2 (ay.alloc (.cells #[.int .i64 ma.T, .slice ya1 f.n yc1, .slice ya2 f.k yc2, .slice ya3 ma.E.length yc3, .bool true] 46))) := b.trans (BB.out.mono b.size)
    have NS : Hid (StZ Zx y2 (ay.alloc (.cells #[.int .i64 ma.T, .slice ya1 f.n yc1, .slice ya2 f.k yc2, .slice ya3 ma.E.length yc3, .bool true] 46))) := StZ.of NW.out K2.out.lt
    have Ly : Hid (LookZ (zup Zx y2 (ay.alloc (.cells #[.int .i64 ma.T, .slice ya1 f.n yc1, .slice ya2 f.k yc2, .slice ya3 ma.E.length yc3, .bool true] 46))) f ma _ (ay.alloc (.cells #[.int .i64 ma.T, .slice ya1 f.n yc1, .slice ya2 f.k yc2, .slice ya3 ma.E.length yc3, .bool true] 46))) := LookZ.of (Ly.out.below (B2 := 0) BB.out) (fun j h1 h2 => Or.inr ⟨h1, h2⟩)
    have Lx := hid ((Lx.out.stays NS.out).less (Z' := zup Zx y2 (ay.alloc (.cells #[.int .i64 ma.T, .slice ya1 f.n yc1, .slice ya2 f.k yc2, .slice ya3 ma.E.length yc3, .bool true] 46))) (fun j hj => Or.inl hj))
    have cx0 := (NS.out.cell 0 zx.out).trans cx0
    have cx1 := (NS.out.cell 1 zx.out).trans cx1
    have cx2 := (NS.out.cell 2 zx.out).trans cx2
    have cx3 := (NS.out.cell 3 zx.out).trans cx3
    have cx4 := (NS.out.cell 4 zx.out).trans cx4
    have zx : Hid (zup Zx y2 (ay.alloc (.cells #[.int .i64 ma.T, .slice ya1 f.n yc1, .slice ya2 f.k yc2, .slice ya3 ma.E.length yc3, .bool true] 46)) gx) := Or.inl zx.out
    have g0 := (NS.out.cell 0 ZG.out).trans g0
    have g1 := (NS.out.cell 1 ZG.out).trans g1
    have g2 := (NS.out.cell 2 ZG.out).trans g2
    have g3 := (NS.out.cell 3 ZG.out).trans g3
    have zy : Hid (zup Zx y2 (ay.alloc (.cells #[.int .i64 ma.T, .slice ya1 f.n yc1, .slice ya2 f.k yc2, .slice ya3 ma.E.length yc3, .bool true] 46)) ay.heap.size) := Or.inr ⟨b.size, by simp⟩
    have cy0 : (ay.alloc (.cells #[.int .i64 ma.T, .slice ya1 f.n yc1, .slice ya2 f.k yc2, .slice ya3 ma.E.length yc3, .bool true] 46)).cell? ⟨ay.heap.size, 0, none⟩ = some (.int .i64 ma.T) := boxed (Below.refl (ay.heap.size + 1) (ay.alloc (.cells #[.int .i64 ma.T, .slice ya1 f.n yc1, .slice ya2 f.k yc2, .slice ya3 ma.E.length yc3, .bool true] 46))) 0
    have cy1 : (ay.alloc (.cells #[.int .i64 ma.T, .slice ya1 f.n yc1, .slice ya2 f.k yc2, .slice ya3 ma.E.length yc3, .bool true] 46)).cell? ⟨ay.heap.size, 1, none⟩ = some (.slice ya1 f.n yc1) := boxed (Below.refl (ay.heap.size + 1) (ay.alloc (.cells #[.int .i64 ma.T, .slice ya1 f.n yc1, .slice ya2 f.k yc2, .slice ya3 ma.E.length yc3, .bool true] 46))) 1
    have cy2 : (ay.alloc (.cells #[.int .i64 ma.T, .slice ya1 f.n yc1, .slice ya2 f.k yc2, .slice ya3 ma.E.length yc3, .bool true] 46)).cell? ⟨ay.heap.size, 2, none⟩ = some (.slice ya2 f.k yc2) := boxed (Below.refl (ay.heap.size + 1) (ay.alloc (.cells #[.int .i64 ma.T, .slice ya1 f.n yc1, .slice ya2 f.k yc2, .slice ya3 ma.E.length yc3, .bool true] 46))) 2
    have cy3 : (ay.alloc (.cells #[.int .i64 ma.T, .slice ya1 f.n yc1, .slice ya2 f.k yc2, .slice ya3 ma.E.length yc3, .bool true] 46)).cell? ⟨ay.heap.size, 3, none⟩ = some (.slice ya3 ma.E.length yc3) := boxed (Below.refl (ay.heap.size + 1) (ay.alloc (.cells #[.int .i64 ma.T, .slice ya1 f.n yc1, .slice ya2 f.k yc2, .slice ya3 ma.E.length yc3, .bool true] 46))) 3
    have cy4 : (ay.alloc (.cells #[.int .i64 ma.T, .slice ya1 f.n yc1, .slice ya2 f.k yc2, .slice ya3 ma.E.length yc3, .bool true] 46)).cell? ⟨ay.heap.size, 4, none⟩ = some (.bool true) := boxed (Below.refl (ay.heap.size + 1) (ay.alloc (.cells #[.int .i64 ma.T, .slice ya1 f.n yc1, .slice ya2 f.k yc2, .slice ya3 ma.E.length yc3, .bool true] 46))) 4
    have HZ0 := hid HZ.out
    have HZ : Hid (∀ j, j < w0.heap.size → zup Zx y2 (ay.alloc (.cells #[.int .i64 ma.T, .slice ya1 f.n yc1, .slice ya2 f.k yc2, .slice ya3 ma.E.length yc3, .bool true] 46)) j) := fun j hj => Or.inl (HZ.out j hj)
    have ZG : Hid (zup Zx y2 (ay.alloc (.cells #[.int .i64 ma.T, .slice ya1 f.n yc1, .slice ya2 f.k yc2, .slice ya3 ma.E.length yc3, .bool true] 46)) g) := Or.inl ZG.out
    have SW := hid (SW.out.trans (NS.out.less (fun j hj => HZ0.out j hj)))
    have Ny := hid (K2.out.drop NW.out)
    have SZ := hid (SZ.out.trans (NS.out.less ZS.out))
    have ZS : Hid (∀ j, ZA j → zup Zx y2 (ay.alloc (.cells #[.int .i64 ma.T, .slice ya1 f.n yc1, .slice ya2 f.k yc2, .slice ya3 ma.E.length yc3, .bool true] 46)) j) := fun j hj => Or.inl (ZS.out j hj)
    clear r1 r2 r3 l b BB NW NS LK K2
    go_upto_region 12 with (fail)
    generalize zup Zx y2 (ay.alloc (.cells #[.int .i64 ma.T, .slice ya1 f.n yc1, .slice ya2 f.k yc2, .slice ya3 ma.E.length yc3, .bool true] 46)) = Zy at *
    generalize (ay.alloc (.cells #[.int .i64 ma.T, .slice ya1 f.n yc1, .slice ya2 f.k yc2, .slice ya3 ma.E.length yc3, .bool true] 46)) = uy at *
    generalize ay.heap.size = gy at *
    have KC := hid ((c1adv Ny.out hb t).mono (fun _ _ g => C1P.as g (r' := .int .i64 0) (m' := mb) (congrArg (Value.int .i64) BN.out) BE.out))
    go_wp2_with fail
    refine KC.out.mono ?_
    rintro e y3 ⟨rfl, l, s⟩
    have K3 : Hid (C1 Zy (b) f Q p mb y3) := l
    have SW : Hid (StZ (fun j => j < w0.heap.size) w0 y3) := SW.out.trans (s.less HZ.out)
    have SZ := hid (SZ.out.trans (s.less ZS.out))
    have Lx := hid (Lx.out.stays s)
    have cx0 := (s.cell 0 zx.out).trans cx0
    have cx1 := (s.cell 1 zx.out).trans cx1
    have cx2 := (s.cell 2 zx.out).trans cx2
    have cx3 := (s.cell 3 zx.out).trans cx3
    have cx4 := (s.cell 4 zx.out).trans cx4
    have Ly := hid (Ly.out.stays s)
    have cy0 := (s.cell 0 zy.out).trans cy0
    have cy1 := (s.cell 1 zy.out).trans cy1
    have cy2 := (s.cell 2 zy.out).trans cy2
    have cy3 := (s.cell 3 zy.out).trans cy3
    have cy4 := (s.cell 4 zy.out).trans cy4
    have g0 := (s.cell 0 ZG.out).trans g0
    have g1 := (s.cell 1 ZG.out).trans g1
    have g2 := (s.cell 2 ZG.out).trans g2
    have g3 := (s.cell 3 ZG.out).trans g3
    clear l s KC Ny
    have LK : Hid (Calls Tryd.prog 23 #[.pointer (some ⟨p.bp, 0, none⟩), (.agg #[.slice aC' f.n cC', .slice aR' f.k cR', .int .i64 f.week, .slice aH' f.hol.length cH'])] y3 fun e w' => LoP f mb y3 e w') := c1look K3.out hb (FA0.out.below (SW.out.below (Below.refl _ _) (fun j hj => hj)))
    go_wp2_with fail
    refine LK.out.mono ?_
    rintro e az ⟨vz, rfl, l, b⟩
    have Lz := hid l
    obtain ⟨zV, zS, zL, rfl, r1, r2, r3⟩ := l.ex
    obtain ⟨za1, zc1, rfl⟩ := own_len r1
    obtain ⟨za2, zc2, rfl⟩ := own_len r2
    obtain ⟨za3, zc3, rfl⟩ := own_len r3
    have BB : Hid (Below az.heap.size az (az.alloc (.cells #[.int .i64 mb.T, .slice za1 f.n zc1, .slice za2 f.k zc2, .slice za3 mb.E.length zc3, .bool true] 46))) := boxed_below (Below.refl (az.heap.size + 1) (az.alloc (.cells #[.int .i64 mb.T, .slice za1 f.n zc1, .slice za2 f.k zc2, .slice za3 mb.E.length zc3, .bool true] 46)))
    have NW : Hid (Below y3.heap.size y3 (az.alloc (.cells #[.int .i64 mb.T, .slice za1 f.n zc1, .slice za2 f.k zc2, .slice za3 mb.E.length zc3, .bool true] 46))) := b.trans (BB.out.mono b.size)
    have NS : Hid (StZ Zy y3 (az.alloc (.cells #[.int .i64 mb.T, .slice za1 f.n zc1, .slice za2 f.k zc2, .slice za3 mb.E.length zc3, .bool true] 46))) := StZ.of NW.out K3.out.lt
    have Lz : Hid (LookZ (zup Zy y3 (az.alloc (.cells #[.int .i64 mb.T, .slice za1 f.n zc1, .slice za2 f.k zc2, .slice za3 mb.E.length zc3, .bool true] 46))) f mb _ (az.alloc (.cells #[.int .i64 mb.T, .slice za1 f.n zc1, .slice za2 f.k zc2, .slice za3 mb.E.length zc3, .bool true] 46))) := LookZ.of (Lz.out.below (B2 := 0) BB.out) (fun j h1 h2 => Or.inr ⟨h1, h2⟩)
    have Lx := hid ((Lx.out.stays NS.out).less (Z' := zup Zy y3 (az.alloc (.cells #[.int .i64 mb.T, .slice za1 f.n zc1, .slice za2 f.k zc2, .slice za3 mb.E.length zc3, .bool true] 46))) (fun j hj => Or.inl hj))
    have cx0 := (NS.out.cell 0 zx.out).trans cx0
    have cx1 := (NS.out.cell 1 zx.out).trans cx1
    have cx2 := (NS.out.cell 2 zx.out).trans cx2
    have cx3 := (NS.out.cell 3 zx.out).trans cx3
    have cx4 := (NS.out.cell 4 zx.out).trans cx4
    have zx : Hid (zup Zy y3 (az.alloc (.cells #[.int .i64 mb.T, .slice za1 f.n zc1, .slice za2 f.k zc2, .slice za3 mb.E.length zc3, .bool true] 46)) gx) := Or.inl zx.out
    have Ly := hid ((Ly.out.stays NS.out).less (Z' := zup Zy y3 (az.alloc (.cells #[.int .i64 mb.T, .slice za1 f.n zc1, .slice za2 f.k zc2, .slice za3 mb.E.length zc3, .bool true] 46))) (fun j hj => Or.inl hj))
    have cy0 := (NS.out.cell 0 zy.out).trans cy0
    have cy1 := (NS.out.cell 1 zy.out).trans cy1
    have cy2 := (NS.out.cell 2 zy.out).trans cy2
    have cy3 := (NS.out.cell 3 zy.out).trans cy3
    have cy4 := (NS.out.cell 4 zy.out).trans cy4
    have zy : Hid (zup Zy y3 (az.alloc (.cells #[.int .i64 mb.T, .slice za1 f.n zc1, .slice za2 f.k zc2, .slice za3 mb.E.length zc3, .bool true] 46)) gy) := Or.inl zy.out
    have g0 := (NS.out.cell 0 ZG.out).trans g0
    have g1 := (NS.out.cell 1 ZG.out).trans g1
    have g2 := (NS.out.cell 2 ZG.out).trans g2
    have g3 := (NS.out.cell 3 ZG.out).trans g3
    have zz : Hid (zup Zy y3 (az.alloc (.cells #[.int .i64 mb.T, .slice za1 f.n zc1, .slice za2 f.k zc2, .slice za3 mb.E.length zc3, .bool true] 46)) az.heap.size) := Or.inr ⟨b.size, by simp⟩
    have cz0 : (az.alloc (.cells #[.int .i64 mb.T, .slice za1 f.n zc1, .slice za2 f.k zc2, .slice za3 mb.E.length zc3, .bool true] 46)).cell? ⟨az.heap.size, 0, none⟩ = some (.int .i64 mb.T) := boxed (Below.refl (az.heap.size + 1) (az.alloc (.cells #[.int .i64 mb.T, .slice za1 f.n zc1, .slice za2 f.k zc2, .slice za3 mb.E.length zc3, .bool true] 46))) 0
    have cz1 : (az.alloc (.cells #[.int .i64 mb.T, .slice za1 f.n zc1, .slice za2 f.k zc2, .slice za3 mb.E.length zc3, .bool true] 46)).cell? ⟨az.heap.size, 1, none⟩ = some (.slice za1 f.n zc1) := boxed (Below.refl (az.heap.size + 1) (az.alloc (.cells #[.int .i64 mb.T, .slice za1 f.n zc1, .slice za2 f.k zc2, .slice za3 mb.E.length zc3, .bool true] 46))) 1
    have cz2 : (az.alloc (.cells #[.int .i64 mb.T, .slice za1 f.n zc1, .slice za2 f.k zc2, .slice za3 mb.E.length zc3, .bool true] 46)).cell? ⟨az.heap.size, 2, none⟩ = some (.slice za2 f.k zc2) := boxed (Below.refl (az.heap.size + 1) (az.alloc (.cells #[.int .i64 mb.T, .slice za1 f.n zc1, .slice za2 f.k zc2, .slice za3 mb.E.length zc3, .bool true] 46))) 2
    have cz3 : (az.alloc (.cells #[.int .i64 mb.T, .slice za1 f.n zc1, .slice za2 f.k zc2, .slice za3 mb.E.length zc3, .bool true] 46)).cell? ⟨az.heap.size, 3, none⟩ = some (.slice za3 mb.E.length zc3) := boxed (Below.refl (az.heap.size + 1) (az.alloc (.cells #[.int .i64 mb.T, .slice za1 f.n zc1, .slice za2 f.k zc2, .slice za3 mb.E.length zc3, .bool true] 46))) 3
    have cz4 : (az.alloc (.cells #[.int .i64 mb.T, .slice za1 f.n zc1, .slice za2 f.k zc2, .slice za3 mb.E.length zc3, .bool true] 46)).cell? ⟨az.heap.size, 4, none⟩ = some (.bool true) := boxed (Below.refl (az.heap.size + 1) (az.alloc (.cells #[.int .i64 mb.T, .slice za1 f.n zc1, .slice za2 f.k zc2, .slice za3 mb.E.length zc3, .bool true] 46))) 4
    have HZ0 := hid HZ.out
    have HZ : Hid (∀ j, j < w0.heap.size → zup Zy y3 (az.alloc (.cells #[.int .i64 mb.T, .slice za1 f.n zc1, .slice za2 f.k zc2, .slice za3 mb.E.length zc3, .bool true] 46)) j) := fun j hj => Or.inl (HZ.out j hj)
    have ZG : Hid (zup Zy y3 (az.alloc (.cells #[.int .i64 mb.T, .slice za1 f.n zc1, .slice za2 f.k zc2, .slice za3 mb.E.length zc3, .bool true] 46)) g) := Or.inl ZG.out
    have SW := hid (SW.out.trans (NS.out.less (fun j hj => HZ0.out j hj)))
    have Nz := hid (K3.out.drop NW.out)
    have SZ := hid (SZ.out.trans (NS.out.less ZS.out))
    have ZS : Hid (∀ j, ZA j → zup Zy y3 (az.alloc (.cells #[.int .i64 mb.T, .slice za1 f.n zc1, .slice za2 f.k zc2, .slice za3 mb.E.length zc3, .bool true] 46)) j) := fun j hj => Or.inl (ZS.out j hj)
    clear r1 r2 r3 l b BB NW NS LK K3
    go_upto_region 14 with (fail)
    generalize zup Zy y3 (az.alloc (.cells #[.int .i64 mb.T, .slice za1 f.n zc1, .slice za2 f.k zc2, .slice za3 mb.E.length zc3, .bool true] 46)) = Zz at *
    generalize (az.alloc (.cells #[.int .i64 mb.T, .slice za1 f.n zc1, .slice za2 f.k zc2, .slice za3 mb.E.length zc3, .bool true] 46)) = uz at *
    generalize az.heap.size = gz at *
    have zz1 := Nz.out.lt gz zz.out
    have zx1 := Nz.out.lt gx zx.out
    obtain ⟨Bx, lx⟩ := Lx.out.lk
    obtain ⟨By, ly⟩ := Ly.out.lk
    obtain ⟨Bx', rx1, rx2, rx3⟩ := Lx.out.rows
    obtain ⟨Bz', rz1, rz2, rz3⟩ := Lz.out.rows
    have UN := hid (kunmoved_any lx ly (fun i hi => by rw [MA.out.1, MA.out.2.1]; exact (HV.out i hi).symm) (fun i _ => by rw [MA.out.2.2.1]) MA.out.2.2.2.symm n20 k6 HL.out)
    have SI := hid (fun W (hW : Below uz.heap.size uz W) => ksameInts_any (own_of_block rx1 (w' := W) (fun g _ hlt => hW.block g hlt)) (own_of_block rz1 (w' := W) (fun g _ hlt => hW.block g hlt)) n20)
    clear lx ly rx1 rx2 rx3 rz1 rz2 rz3
    go_wp2_with fail
    refine UN.out.mono ?_
    rintro e w9 ⟨rfl, hb9⟩
    have B9 := hid hb9
    have cx1 := (hb9.cell (p := ⟨gx, 1, none⟩) zx1).trans cx1
    have cx3 := (hb9.cell (p := ⟨gx, 3, none⟩) zx1).trans cx3
    have cz1 := (hb9.cell (p := ⟨gz, 1, none⟩) zz1).trans cz1
    have cz3 := (hb9.cell (p := ⟨gz, 3, none⟩) zz1).trans cz3
    have cz4 := (hb9.cell (p := ⟨gz, 4, none⟩) zz1).trans cz4
    clear hb9 UN
    go_wp2_with fail
    refine (SI.out _ B9.out).mono ?_
    rintro e w10 ⟨r, rfl, hr, hb10⟩
    have B10 := hid (B9.out.trans (hb10.mono B9.out.size))
    have zx9 : gx < w9.heap.size := by have := B9.out.size; omega
    have zz9 : gz < w9.heap.size := by have := B9.out.size; omega
    have cx3 := (hb10.cell (p := ⟨gx, 3, none⟩) zx9).trans cx3
    have cz3 := (hb10.cell (p := ⟨gz, 3, none⟩) zz9).trans cz3
    have cz4 := (hb10.cell (p := ⟨gz, 4, none⟩) zz9).trans cz4
    have R : Hid (HopP ZA b f Q p w (.returned (.tuple #[.bool true, .bool true])) w10) := ⟨true, mb, rfl, (Nz.out.keep B10.out).less ZS.out, SZ.out.trans ((StZ.of B10.out Nz.out.lt).less ZS.out)⟩
    have HR : Hid (r = true → (m.E.length : Int) < (mb.E.length : Int)) := fun e => by
      rcases NO.out with h | h
      · refine (h (fun i hi => ?_)).elim
        have := hr.1 e i hi
        rw [MB.out.1, MB.out.2] at this
        exact this
      · omega
    clear hb10 hr B9 SI
    cases r
    · go_wp2
      go_ret2
      exact R.out
    · have hlt := HR.out rfl
      go_wp2
      go_ret2
      exact R.out

set_option maxRecDepth 100000 in
set_option maxHeartbeats 4000000 in
theorem kwalk_any (C : Nat → Cel) (R : Nat → Rul) (hol : List Int) (aC aR aH : Option Addr) (n cC k cR cH : Nat) (week : Int) (w : World) (ht : Tab w) (hn : n ≤ 1000000000) (hk : k ≤ 1000000000) (hhl : hol.length ≤ 1000000000) (h64 : Raw64 C n R k week hol)
    (hcs : CAt w aC n C) (hrs : RAt w aR k R) (hhs : IntsAt w (.slice aH hol.length cH) hol) {aS : Option Addr} {mS cS : Nat} {S : Nat → StK} (hsc : ScK w aS mS S) (hm : mS ≤ 1048576) (at' hops : Int) (h1 : I64k at') (h2 : I64k hops) :
    Calls Tryd.prog 6 #[.agg #[.slice aC n cC, .slice aR k cR, .int .i64 week, .slice aH hol.length cH], .slice aS mS cS, .int .i64 at', .int .i64 hops] w fun e w' => TPost w e w' := by
  have BX := hid (Below.refl (w.heap.size + 1) (w.alloc (.cells #[.slice aC n cC, .slice aR k cR, .int .i64 week, .slice aH hol.length cH] 26)))
  have BW := hid (boxed_below BX.out)
  have SH := hid (kshaped_any C R hol aC aR aH n cC k cR cH week _ hn hk hhl h64 (hcs.below BW.out) (hrs.below BW.out) (SlAt.below hhs BW.out (Nat.le_refl _)))
  have FSO := hid (shF_ok C n R k week hol)
  have HT := hid ht
  have HSC := hid hsc
  clear hcs hrs hhs h64 ht hsc
  generalize shF C n R k week hol = f at *
  go_enter Tryd.func6, Tryd.ntmps6
  go_wp2_with fail
  refine SH.out.mono ?_
  rintro e w1 ⟨fv, rfl, fa, hb1⟩
  have FA := hid fa
  obtain ⟨aC', cC', aR', cR', aH', cH', rfl, fa1, fa2, fa3⟩ := fa
  clear fa1 fa2 fa3
  have B1 : Hid (Below w.heap.size w w1) := BW.out.trans (hb1.mono (by simp))
  clear hb1 BX BW SH
  have BX := hid (Below.refl (w1.heap.size + 1) (w1.alloc (.cells #[.slice aC' f.n cC', .slice aR' f.k cR', .int .i64 f.week, .slice aH' f.hol.length cH'] 26)))
  have BB := hid (boxed_below BX.out)
  have f0 : (w1.alloc (.cells #[.slice aC' f.n cC', .slice aR' f.k cR', .int .i64 f.week, .slice aH' f.hol.length cH'] 26)).cell? ⟨w1.heap.size, 0, none⟩ = some (Value.slice aC' f.n cC') := boxed BX.out 0
  have f1 : (w1.alloc (.cells #[.slice aC' f.n cC', .slice aR' f.k cR', .int .i64 f.week, .slice aH' f.hol.length cH'] 26)).cell? ⟨w1.heap.size, 1, none⟩ = some (Value.slice aR' f.k cR') := boxed BX.out 1
  have f2 : (w1.alloc (.cells #[.slice aC' f.n cC', .slice aR' f.k cR', .int .i64 f.week, .slice aH' f.hol.length cH'] 26)).cell? ⟨w1.heap.size, 2, none⟩ = some (.int .i64 f.week) := boxed BX.out 2
  have f3 : (w1.alloc (.cells #[.slice aC' f.n cC', .slice aR' f.k cR', .int .i64 f.week, .slice aH' f.hol.length cH'] 26)).cell? ⟨w1.heap.size, 3, none⟩ = some (Value.slice aH' f.hol.length cH') := boxed BX.out 3
  have zg : w1.heap.size < (w1.alloc (.cells #[.slice aC' f.n cC', .slice aR' f.k cR', .int .i64 f.week, .slice aH' f.hol.length cH'] 26)).heap.size := by simp
  have B0 : Hid (Below w.heap.size w (w1.alloc (.cells #[.slice aC' f.n cC', .slice aR' f.k cR', .int .i64 f.week, .slice aH' f.hol.length cH'] 26))) := B1.out.trans (BB.out.mono B1.out.size)
  have FA0 := hid (FA.out.below BB.out)
  have SC0 := hid (HSC.out.below B0.out)
  have T0 := hid (HT.out.below B0.out (Nat.le_refl _))
  clear BX BB FA B1 HT HSC
  go_upto_region 2 with (fail)
  generalize w1.alloc (.cells #[.slice aC' f.n cC', .slice aR' f.k cR', .int .i64 f.week, .slice aH' f.hol.length cH'] 26) = w0 at *
  generalize w1.heap.size = g at *
  obtain ⟨n1, n20, k6, _, _⟩ := FSO.out.ok.sizes
  have INS := hid (fun W => kinstant_any at' W h1)
  obtain ⟨p0, p1⟩ := pickI_bd at' (n := 1000000001) (by omega)
  generalize pickI at' 1000000001 = ta at *
  have BG := hid (fun W (hW : Below w0.heap.size w0 W) => c1begun (cS := cS) (T0.out.below hW (Nat.le_refl _)) FSO.out.ok (FA0.out.below hW) (SC0.out.below hW) hm ta p0 (by omega))
  generalize advM f (fillM f S mS) ta = m at *
  go_region_held3 (fun w' => w'.cell? ⟨g, 0, none⟩ = some (.slice aC' f.n cC') ∧ w'.cell? ⟨g, 1, none⟩ = some (.slice aR' f.k cR') ∧ w'.cell? ⟨g, 2, none⟩ = some (.int .i64 f.week) ∧ w'.cell? ⟨g, 3, none⟩ = some (.slice aH' f.hol.length cH'))
    (refine ⟨?_, ?_, ?_, ?_⟩ <;> assumption)
    (first
      | (go_at_call 29; refine (INS.out _).mono ?_; rintro e w' ⟨rfl, hw⟩; rw [hw]; clear hw w')
      | (go_at_call 28; refine (BG.out _ (Below.refl _ _).drew).mono ?_; rintro e w2 ⟨Q, p, rfl, c1, s1⟩; have m0 : w2.cell? ⟨g, 0, none⟩ = some (.slice aC' f.n cC') := (s1.cell 0 zg).trans f0; have m1 : w2.cell? ⟨g, 1, none⟩ = some (.slice aR' f.k cR') := (s1.cell 1 zg).trans f1; have m2 : w2.cell? ⟨g, 2, none⟩ = some (.int .i64 f.week) := (s1.cell 2 zg).trans f2; have m3 : w2.cell? ⟨g, 3, none⟩ = some (.slice aH' f.hol.length cH') := (s1.cell 3 zg).trans f3)
      | fail)
  all_goals (
    have C1' : Hid (C1 (fun j => j < w0.heap.size) (1 + mS) f Q p m w2) := c1
    have S1 : Hid (StZ (fun j => j < w0.heap.size) w0 w2) := ⟨s1.os, s1.tape, s1.output, s1.size, s1.block⟩
    have PK := hid (fun W => kpick_any hops 60 W h2 (by omega) (by omega))
    obtain ⟨q0, q1⟩ := pickI_bd hops (n := 60) (by omega)
    generalize pickI hops 60 = ho at *
    clear c1 s1 m0 m1 m2 m3
    go_wp2_with fail
    refine (PK.out _).mono ?_
    rintro e w' ⟨rfl, hw⟩
    rw [hw]
    clear hw w' PK
    go_wp2_with fail
    go_loopw [11] (fun t wr => ∃ (j : Int) (m' : Cs), -1 ≤ j ∧ j < 60 ∧ t = .int .i64 j ∧ Hid (C1 (fun j => j < w0.heap.size) (1 + mS) f Q p m' wr) ∧ Hid (StZ (fun j => j < w0.heap.size) w0 wr)) (fun t _ => (intOf t + 1).toNat)
    case atStart => exact ⟨ho, m, by omega, by omega, rfl, C1', S1⟩
    case round =>
      clear C1' S1
      obtain ⟨j, m', j0, j1, rfl, hc, hs⟩ := hrel
      by_cases hj : 0 ≤ j
      · have x0 := (hs.out.cell 0 zg).trans f0
        have x1 := (hs.out.cell 1 zg).trans f1
        have x2 := (hs.out.cell 2 zg).trans f2
        have x3 := (hs.out.cell 3 zg).trans f3
        have HP := hid (khop_any hc.out (by omega) hs.out (fun j hj => hj) FA0.out)
        clear hc
        go_wp2_with fail
        refine HP.out.mono ?_
        rintro e w5 ⟨more, m2, rfl, c5, s5⟩
        have C5 := hid c5
        have S5 := hid (hs.out.trans s5)
        clear c5 s5 hs HP
        cases more
        · have R : Hid (TPost w (.returned (.bool true)) w5) := ⟨rfl, B0.out.trans ((S5.out.below (Below.refl _ _) (fun j hj => hj)).mono B0.out.size)⟩
          go_wp2
          go_ret
          exact R.out
        · go_wp2
          go_roundw
          case rel => exact ⟨j - 1, m2, by omega, by omega, by go_num, C5, S5⟩
          case measure => simp [intOf]; omega
      · have R : Hid (TPost w (.returned (.bool true)) wr) := ⟨rfl, B0.out.trans ((hs.out.below (Below.refl _ _) (fun j hj => hj)).mono B0.out.size)⟩
        go_wp2
        go_ret
        exact R.out)

end Go.Proofs.YtmofidaojmiepaaDoor
