/-
  MEMORY: the document's world, exactly: Next, When.
-/
import Derived.Test.YtcondcffllaaoaaGreatDoorD12
set_option linter.unusedVariables false
set_option linter.unusedSimpArgs false
namespace Go.Proofs.YtcondcffllaaoaaGreatDoor
open Go.RowKit
attribute [local go_sem ↓] Go.wp_at_zero Go.wp_at_succ

def SamePost (n : Nat) (V V' : Nat → Int) (w : World) (e : Ending) (w' : World) : Prop := ∃ r, e = .returned (.bool r) ∧ (r = true ↔ ∀ i, i < n → V i = V' i) ∧ Below w.heap.size w w'

set_option maxRecDepth 100000 in
theorem sameValues_any {w : World} {n a b : Nat} {V V' : Nat → Int} (ha : w.rowIs a 3 n (fun i => .int .i64 (V i))) (hb : w.rowIs b 3 n (fun i => .int .i64 (V' i))) (hn : n ≤ 20) :
    Calls Tryz.prog 85 #[.slice (some ⟨a, 0, none⟩) n n, .slice (some ⟨b, 0, none⟩) n n] w fun e w' => SamePost n V V' w e w' := by
  have HA := hid ha
  have HB := hid hb
  clear ha hb
  go_enter Tryz.func85, Tryz.ntmps85
  go_wp2
  go_loopw [5] (fun t wr => ∃ i : Nat, i ≤ n ∧ t = .int .i64 i ∧ Hid (∀ j, j < i → V j = V' j) ∧ Hid (Below w.heap.size w wr)) (fun t _ => n - (intOf t).toNat)
  case atStart => exact ⟨0, by omega, rfl, fun j hj => by omega, Below.refl _ _⟩
  case round =>
    obtain ⟨i, i1, rfl, hq, hbw⟩ := hrel
    by_cases hit : i < n
    · have x0 := (HA.out.of_block (hbw.out.block _ HA.out.lt)).cell (i := i) hit
      have x1 := (HB.out.of_block (hbw.out.block _ HB.out.lt)).cell (i := i) hit
      have za := (HA.out.of_block (hbw.out.block _ HA.out.lt)).lt
      have zb := (HB.out.of_block (hbw.out.block _ HB.out.lt)).lt
      have lt' : (i : Int) < (n : Int) := by omega
      by_cases e : V i = V' i
      · have d : (V i == V' i) = true := beq_iff_eq.2 e
        have A : Hid (∀ j, j < i + 1 → V j = V' j) := fun j hj => by
          by_cases e' : j = i
          · subst e'; exact e
          · exact hq.out j (by omega)
        rw [← e] at x1
        clear e d
        go_wp2
        go_region
        go_wp2
        go_roundw
        case rel => exact ⟨i + 1, by omega, by go_num, A, hbw.out.drew⟩
        case measure => simp [intOf]; omega
      · have d : (V i == V' i) = false := beq_eq_false_iff_ne.2 e
        have R : Hid (∀ W, Below w.heap.size w W → SamePost n V V' w (.returned (.bool false)) W) := fun W h => ⟨false, rfl, ⟨fun e => (by cases e), fun g => (e (g i hit)).elim⟩, h⟩
        clear e
        go_wp2
        go_region
        go_wp2
        go_ret
        exact R.out _ hbw.out.drew
    · have R : Hid (SamePost n V V' w (.returned (.bool true)) wr) := ⟨true, rfl, ⟨fun _ j hj => hq.out j (by omega), fun _ => rfl⟩, hbw.out⟩
      go_wp2
      go_ret
      exact R.out

/-- At u the case shows what it shows now: no value is another, nothing was logged on the way. -/
def SameAt (f : Frm) (m : Cs) (u : Int) : Prop := (∀ i, i < f.n → f.vals m.F u i = f.vals m.F m.T i) ∧ (m.go f (u - m.T).toNat).E.length = m.E.length

/-- P10's answer. -/
def NexIs (f : Frm) (m : Cs) (t : Int) (ok : Bool) : Prop :=
  (ok = true ∧ m.T < t ∧ t ≤ 1000000000 ∧ ¬ SameAt f m t ∧ ∀ u, m.T < u → u < t → SameAt f m u) ∨ (ok = false ∧ t = 0 ∧ ∀ u, m.T < u → u ≤ 1000000000 → SameAt f m u)
/-- P11's. -/
def WhenIs (f : Frm) (m : Cs) (c : Nat) (t : Int) (ok : Bool) : Prop :=
  (ok = true ∧ m.T < t ∧ t ≤ 1000000000 ∧ f.vals m.F t c ≠ f.vals m.F m.T c ∧ ∀ u, m.T < u → u < t → f.vals m.F u c = f.vals m.F m.T c) ∨ (ok = false ∧ t = 0 ∧ ∀ u, m.T < u → u ≤ 1000000000 → f.vals m.F u c = f.vals m.F m.T c)

theorem next_unique {f : Frm} {m : Cs} {t t' : Int} {ok ok' : Bool} (h : NexIs f m t ok) (g : NexIs f m t' ok') : t = t' ∧ ok = ok' := by
  rcases h with ⟨rfl, h1, h2, h3, h4⟩ | ⟨rfl, rfl, h3⟩ <;> rcases g with ⟨rfl, g1, g2, g3, g4⟩ | ⟨rfl, rfl, g3⟩
  · refine ⟨?_, rfl⟩
    rcases Int.lt_trichotomy t t' with e | e | e
    · exact (h3 (g4 t h1 e)).elim
    · exact e
    · exact (g3 (h4 t' g1 e)).elim
  · exact (h3 (g3 t h1 h2)).elim
  · exact (g3 (h3 t' g1 g2)).elim
  · exact ⟨rfl, rfl⟩
theorem when_unique {f : Frm} {m : Cs} {c : Nat} {t t' : Int} {ok ok' : Bool} (h : WhenIs f m c t ok) (g : WhenIs f m c t' ok') : t = t' ∧ ok = ok' := by
  rcases h with ⟨rfl, h1, h2, h3, h4⟩ | ⟨rfl, rfl, h3⟩ <;> rcases g with ⟨rfl, g1, g2, g3, g4⟩ | ⟨rfl, rfl, g3⟩
  · refine ⟨?_, rfl⟩
    rcases Int.lt_trichotomy t t' with e | e | e
    · exact (h3 (g4 t h1 e)).elim
    · exact e
    · exact (g3 (h4 t' g1 e)).elim
  · exact (h3 (g3 t h1 h2)).elim
  · exact (g3 (h3 t' g1 g2)).elim
  · exact ⟨rfl, rfl⟩

/-- The log only grows. -/
theorem settle_grows (f : Frm) (m : Cs) : m.E.length ≤ (m.settle f).E.length := by
  unfold Cs.settle
  split
  · simp
  · omega
theorem go_grows (f : Frm) (m : Cs) : ∀ j, m.E.length ≤ (m.go f j).E.length := by
  intro j
  induction j with
  | zero => exact Nat.le_refl _
  | succ j ih => exact Nat.le_trans ih (settle_grows f ((m.go f j).at (m.T + (j + 1 : Nat))))

/-- A case that went on, and what it came over held. -/
structure Went (f : Frm) (P : Int → Prop) (m m' : Cs) : Prop where
  way : ∃ j : Nat, m' = m.go f j
  top : m'.T ≤ 1000000000
  low : m.T ≤ m'.T
  held : ∀ u, m.T < u → u ≤ m'.T → P u

theorem Went.start {f : Frm} {P : Int → Prop} {m : Cs} (h : m.Ok f) : Went f P m m := ⟨⟨0, rfl⟩, h.t1, Int.le_refl _, fun u u1 u2 => by omega⟩

theorem Went.F {f : Frm} {P : Int → Prop} {m m' : Cs} (h : Went f P m m') : m'.F = m.F := by
  obtain ⟨j, rfl⟩ := h.way
  exact go_F f m j
theorem Went.ok {f : Frm} (hf : f.Ok) {P : Int → Prop} {m m' : Cs} (hm : m.Ok f) (h : Went f P m m') : m'.Ok f := by
  have t := h.top
  obtain ⟨j, rfl⟩ := h.way
  rw [go_T] at t
  exact go_ok hf hm j t
theorem Went.few {f : Frm} (hf : f.Ok) {P : Int → Prop} {m m' : Cs} {b : Nat} (hm : Few b m) (h : Went f P m m') : Few b m' := by
  obtain ⟨j, rfl⟩ := h.way
  exact go_few hf hm j
theorem Went.at {f : Frm} {P : Int → Prop} {m m' : Cs} (h : Went f P m m') : m' = m.go f (m'.T - m.T).toNat := by
  obtain ⟨j, rfl⟩ := h.way
  rw [go_T]
  congr 1
  omega

/-- Instants at which nothing could come about, ahead of the next at which something could. -/
theorem Went.idle {f : Frm} (hf : f.Ok) {P : Int → Prop} {m m' : Cs} (hm : m.Ok f) (h : Went f P m m') {t : Int} (hc : Cand f m' t) {u : Int} (u1 : m'.T < u) (u2 : u ≤ 1000000000) (hb : Bef t u) :
    (∀ i, i < f.n → f.vals m.F u i = f.vals m.F m'.T i) ∧ (m.go f (u - m.T).toNat).E.length = m'.E.length := by
  have ok := h.ok hf hm
  have hF := h.F
  have hq := hc.2 u u1 u2 hb
  have low := h.low
  refine ⟨fun i hi => ?_, ?_⟩
  · have := quiet_vals hf ok hq i hi
    rw [hF] at this
    exact this.symm
  · have e : (u - m.T).toNat = (m'.T - m.T).toNat + (u - m'.T).toNat := by omega
    rw [e, go_add, ← h.at, go_quiet hf ok _ (fun i i1 i2 => hc.2 _ (by omega) (by omega) ?_)]
    · rfl
    · rcases hb with hb | hb
      · exact Or.inl hb
      · exact Or.inr (by omega)

/-- And on to that one. -/
theorem Went.on {f : Frm} {P : Int → Prop} {m m' : Cs} (h : Went f P m m') {t : Int} (t1 : m'.T < t) (t2 : t ≤ 1000000000) (hp : ∀ u, m'.T < u → u ≤ t → P u) : Went f P m (m'.go f (t - m'.T).toNat) ∧ (m'.go f (t - m'.T).toNat).T = t := by
  have e : (m'.go f (t - m'.T).toNat).T = t := by rw [go_T]; omega
  refine ⟨⟨?_, by rw [e]; exact t2, by rw [e]; have := h.low; omega, fun u u1 u2 => ?_⟩, e⟩
  · obtain ⟨j, rfl⟩ := h.way
    exact ⟨j + (t - (m.go f j).T).toNat, (go_add f m j _).symm⟩
  · rw [e] at u2
    by_cases hu : u ≤ m'.T
    · exact h.held u u1 hu
    · exact hp u (by omega) u2

/-- What Next answers. -/
def NxP (f : Frm) (m : Cs) (w : World) (e : Ending) (w' : World) : Prop := ∃ t ok, e = .returned (.tuple #[.int .i64 t, .bool ok]) ∧ NexIs f m t ok ∧ Below w.heap.size w w'

/-- A world of its own, beside the values as they were. -/
structure Beside (Q : Nat → Prop) (f : Frm) (p : Pl) (bv : Nat) (V : Nat → Int) (m' : Cs) (vE : Value) (w wr : World) : Prop where
  st : DAt Q f p m' vE wr
  bel : Below w.heap.size w wr
  own : ∀ j, Own p vE j → w.heap.size ≤ j
  was : wr.rowIs bv 3 f.n (fun i => .int .i64 (V i))
  not : ¬ Own p vE bv

theorem Beside.drop {Q : Nat → Prop} {f : Frm} {p : Pl} {bv : Nat} {V : Nat → Int} {m' : Cs} {vE : Value} {w wr w2 : World} (h : Beside Q f p bv V m' vE w wr) (hb : Below wr.heap.size wr w2) : Beside Q f p bv V m' vE w w2 :=
  ⟨DSt.drop h.st hb, h.bel.trans (hb.mono h.bel.size), h.own, h.was.of_block (hb.block _ h.was.lt), h.not⟩

theorem Beside.gone {Q : Nat → Prop} {f : Frm} {p : Pl} {bv : Nat} {V : Nat → Int} {m' m2 : Cs} {vE vE2 : Value} {w wr w2 : World} (h : Beside Q f p bv V m' vE w wr) (hs : DAt Q f p m2 vE2 w2) (hg : Gone p vE vE2 wr w2) : Beside Q f p bv V m2 vE2 w w2 := by
  have hsz := h.bel.size
  refine ⟨hs, h.bel.trans (hg.1.below h.own hsz), fun j hj => ?_, hg.row h.was h.not, fun hx => h.not (Own.grew hg.2 bv h.was.lt hx)⟩
  by_cases e : j < wr.heap.size
  · exact h.own j (Own.grew hg.2 j e hj)
  · omega

set_option maxRecDepth 100000 in
set_option maxHeartbeats 2000000 in
theorem dNext_any {Q : Nat → Prop} {f : Frm} {p0 : Pl} {m : Cs} {vE0 : Value} {w : World} {b : Nat} (hS : DAt Q f p0 m vE0 w) (hf : f.Ok) (hm : m.Ok f) (hE : Few b m) (hb : b ≤ 10000000000) :
    Calls Tryz.prog 58 #[.pointer (some ⟨p0.bw, 0, none⟩)] w fun e w' => NxP f m w e w' := by
  obtain ⟨n1, hn, hk, wk1, wk2⟩ := hf.sizes
  have hfew0 : m.E.length ≤ 999999999000 := by
    have h2 := hm.t1
    unfold Few at hE
    omega
  have HF := hid hf
  have HM := hid hm
  have HE := hid hE
  have FK := hid (dFork_any hS hf (by omega))
  clear hS hf hm hE
  go_enter Tryz.func58, Tryz.ntmps58
  go_wp2_with fail
  refine FK.out.mono ?_
  rintro e w1 ⟨p, vE, rfl, s1, s2, s3⟩
  have S1 := hid s1
  have S2 := hid s2
  have S3 := hid s3
  clear s1 s2 s3 FK
  go_wp2_with fail
  refine (dvalues_any (show DSt Q f p m.F m.T m.op m.S vE m.E w1 from S1.out) HF.out HM.out.fv HM.out.t0 HM.out.t1).mono ?_
  rintro e w2 ⟨bv, rfl, q1, q2, q3⟩
  have SB : Hid (Beside Q f p bv (f.vals m.F m.T) m vE w w2) := ⟨DSt.drop S1.out q3, S2.out.trans (q3.mono S2.out.size), S3.out, q2, fun h => by have := DSt.own_lt S1.out _ h; omega⟩
  have W0 : Hid (Went f (SameAt f m) m m) := Went.start HM.out
  clear q1 q2 q3 S1 S2 S3
  have r8 := (show DSt Q f p m.F m.T m.op m.S vE m.E w2 from SB.out.st).row.cell (i := 8) (by omega)
  simp [wf] at r8
  obtain ⟨ae, ce, hvE⟩ := own_len (show DSt Q f p m.F m.T m.op m.S vE m.E w2 from SB.out.st).ev
  rw [hvE] at r8
  clear hvE
  go_wp2
  go_loopw [7, 8, 9] (fun _ _ _ wr => ∃ (m' : Cs) (vE' : Value), Hid (Went f (SameAt f m) m m') ∧ Hid (Beside Q f p bv (f.vals m.F m.T) m' vE' w wr)) (fun _ _ _ wr => (1000000000 - timeOf p.bw wr).toNat)
  case atStart => exact ⟨m, vE, W0, SB⟩
  case round =>
    clear r8 SB W0
    obtain ⟨m', vE', hw, hs⟩ := hrel
    have hok := hid (hw.out.ok HF.out HM.out)
    have hfw := hid (hw.out.few HF.out HE.out)
    have hT := hs.out.st.time
    go_wp2_with fail
    refine (dcand_any hs.out.st HF.out hok.out.fv hok.out.st hok.out.t0 hok.out.t1).mono ?_
    rintro e w3 ⟨t, rfl, q1, q2⟩
    have HC : Hid (Cand f m' t) := q1.cand m'.op m'.E
    have hs1 := hid (hs.out.drop q2)
    clear q1 q2 hs
    have KEY : Hid (∀ u, m'.T < u → u ≤ 1000000000 → Bef t u → SameAt f m u) := fun u u1 u2 hb => by
      obtain ⟨a1, a2⟩ := hw.out.idle HF.out HM.out HC.out u1 u2 hb
      have low := hw.out.low
      refine ⟨fun i hi => ?_, ?_⟩
      · rw [a1 i hi]
        by_cases e : m.T < m'.T
        · exact (hw.out.held m'.T e (Int.le_refl _)).1 i hi
        · rw [show m'.T = m.T by omega]
      · rw [a2]
        by_cases e : m.T < m'.T
        · have := (hw.out.held m'.T e (Int.le_refl _)).2
          rw [← hw.out.at] at this
          exact this
        · have e1 := hw.out.at
          rw [show m'.T = m.T by omega, Int.sub_self] at e1
          rw [e1]
          rfl
    by_cases t1 : t < 0
    · have R : Hid (NxP f m w (.returned (.tuple #[.int .i64 0, .bool false])) w3) := by
        refine ⟨0, false, rfl, Or.inr ⟨rfl, rfl, fun u u1 u2 => ?_⟩, hs1.out.bel⟩
        by_cases hu : u ≤ m'.T
        · exact hw.out.held u u1 hu
        · refine KEY.out u (by omega) u2 ?_
          rcases HC.out.1 with c | c
          · exact Or.inl c
          · have := hok.out.t0; omega
      clear hT
      go_wp2
      go_ret2
      exact R.out
    have lo : m'.T < t ∧ t ≤ 1000000000 := by
      rcases HC.out.1 with c | c
      · omega
      · exact c
    obtain ⟨lo1, lo2⟩ := lo
    go_wp2_with fail
    refine (dadvance_any t hs1.out.st HF.out hok.out hfw.out hb).mono ?_
    rintro e w4 ⟨vE2, rfl, x1, x2⟩
    have AV : advM f m' t = m'.go f (t - m'.T).toNat := by unfold advM; rw [if_neg (by omega)]
    rw [AV] at x1
    have hs2 := hid (hs1.out.gone x1 x2)
    clear x1 x2 AV hs1
    have hT2 : (m'.go f (t - m'.T).toNat).T = t := by rw [go_T]; omega
    have HT2 := hid hT2
    have hok2 := hid (go_ok HF.out hok.out (t - m'.T).toNat (by omega))
    have F2 : Hid ((m'.go f (t - m'.T).toNat).F = m.F) := by show _ = _; rw [go_F]; exact hw.out.F
    have E2 : Hid ((m.go f (t - m.T).toNat).E.length = (m'.go f (t - m'.T).toNat).E.length) := by
      show _ = _
      have low := hw.out.low
      rw [show (t - m.T).toNat = (m'.T - m.T).toNat + (t - m'.T).toNat by omega, go_add, ← hw.out.at]
    have E3 : m.E.length ≤ (m.go f (t - m.T).toNat).E.length := go_grows f m _
    have fw2 : (m'.go f (t - m'.T).toNat).E.length ≤ 999999999000 := by
      have h1 := go_few HF.out hfw.out (t - m'.T).toNat
      unfold Few at h1
      rw [hT2] at h1
      omega
    have WO : Hid (SameAt f m t → Went f (SameAt f m) m (m'.go f (t - m'.T).toNat)) := fun h => (hw.out.on lo1 lo2 (fun u u1 u2 => by
      by_cases e : u = t
      · subst e; exact h
      · exact KEY.out u u1 (by omega) (Or.inr (by omega)))).1
    have NO : Hid (¬ SameAt f m t → ∀ W, Below w.heap.size w W → NxP f m w (.returned (.tuple #[.int .i64 t, .bool true])) W) := fun h W hW => by
      refine ⟨t, true, rfl, Or.inl ⟨rfl, ?_, lo2, h, fun u u1 u2 => ?_⟩, hW⟩
      · have := hw.out.low; omega
      · by_cases hu : u ≤ m'.T
        · exact hw.out.held u u1 hu
        · exact KEY.out u (by omega) (by omega) (Or.inr u2)
    generalize m'.go f (t - m'.T).toNat = m2 at *
    rw [E2.out] at E3
    clear hT2
    go_wp2_with fail
    refine (dvalues_any (show DSt Q f p m2.F m2.T m2.op m2.S vE2 m2.E w4 from hs2.out.st) HF.out hok2.out.fv hok2.out.t0 hok2.out.t1).mono ?_
    rintro e w5 ⟨bn, rfl, y1, y2, y3⟩
    have hs3 := hid (hs2.out.drop y3)
    rw [F2.out, HT2.out] at y2
    have Y2 := hid y2
    clear y1 y2 y3 hs2
    go_wp2_with fail
    refine (sameValues_any hs3.out.was Y2.out (by omega)).mono ?_
    rintro e w6 ⟨r, rfl, z1, z2⟩
    have hs4 := hid (hs3.out.drop z2)
    have Z1 := hid z1
    have hT6 := hs4.out.st.time
    clear z1 z2 hs3 Y2
    have r8 := (show DSt Q f p m2.F m2.T m2.op m2.S vE2 m2.E w6 from hs4.out.st).row.cell (i := 8) (by omega)
    simp [wf] at r8
    obtain ⟨ae2, ce2, hvE2⟩ := own_len (show DSt Q f p m2.F m2.T m2.op m2.S vE2 m2.E w6 from hs4.out.st).ev
    rw [hvE2] at r8
    clear hvE2
    cases r
    · have R := hid (NO.out (fun h => by have := Z1.out.2 (fun i hi => (h.1 i hi).symm); cases this) _ hs4.out.bel)
      clear hT hT6
      go_wp2
      go_ret2
      exact R.out
    · by_cases le : m.E.length < m2.E.length
      · have R := hid (NO.out (fun h => by have := h.2; rw [E2.out] at this; omega) _ hs4.out.bel)
        have le' : (m.E.length : Int) < (m2.E.length : Int) := by omega
        clear hT hT6
        go_wp2
        go_ret2
        exact R.out
      · have W2 := hid (WO.out ⟨fun i hi => (Z1.out.1 rfl i hi).symm, by rw [E2.out]; omega⟩)
        have le' : ¬ ((m.E.length : Int) < (m2.E.length : Int)) := by omega
        have HT6 := hid hT6
        have HT := hid hT
        clear hT6 hT
        go_wp2
        go_roundw
        case rel => exact ⟨m2, vE2, W2, hs4⟩
        case measure => rw [HT.out, HT6.out, HT2.out]; omega

end Go.Proofs.YtcondcffllaaoaaGreatDoor

/-
  MEMORY: the document's world, exactly: When.
-/
set_option linter.unusedVariables false
set_option linter.unusedSimpArgs false
namespace Go.Proofs.YtcondcffllaaoaaGreatDoor
open Go.RowKit
attribute [local go_sem ↓] Go.wp_at_zero Go.wp_at_succ

/-- What When answers. -/
def WnP (f : Frm) (m : Cs) (c : Int) (w : World) (e : Ending) (w' : World) : Prop := ∃ t ok er, e = .returned (.tuple #[.int .i64 t, .bool ok, .int .i64 er]) ∧ ((¬ (0 ≤ c ∧ c < f.n) ∧ t = 0 ∧ ok = false ∧ er = 6) ∨ ∃ i : Nat, c = i ∧ i < f.n ∧ er = 0 ∧ WhenIs f m i t ok) ∧ Below w.heap.size w w'

theorem wn_unique {f : Frm} {m : Cs} {c : Int} {w1 w1' w2 w2' : World} {e1 e2 : Ending} (h : WnP f m c w1 e1 w1') (g : WnP f m c w2 e2 w2') : e1 = e2 := by
  obtain ⟨t, ok, er, rfl, h1, _⟩ := h
  obtain ⟨t', ok', er', rfl, g1, _⟩ := g
  rcases h1 with ⟨a, rfl, rfl, rfl⟩ | ⟨i, rfl, a, rfl, h2⟩
  · rcases g1 with ⟨b, rfl, rfl, rfl⟩ | ⟨i, rfl, b, rfl, g2⟩
    · rfl
    · exact (a ⟨by omega, by omega⟩).elim
  · rcases g1 with ⟨b, rfl, rfl, rfl⟩ | ⟨i', e, b, rfl, g2⟩
    · exact (b ⟨by omega, by omega⟩).elim
    · obtain rfl : i = i' := by omega
      obtain ⟨rfl, rfl⟩ := when_unique h2 g2
      rfl

set_option maxRecDepth 100000 in
set_option maxHeartbeats 2000000 in
theorem dWhen_any {Q : Nat → Prop} {f : Frm} {p0 : Pl} {m : Cs} {vE0 : Value} {w : World} {b : Nat} (c : Int) (hS : DAt Q f p0 m vE0 w) (hf : f.Ok) (hm : m.Ok f) (hE : Few b m) (hb : b ≤ 10000000000) :
    Calls Tryz.prog 37 #[.pointer (some ⟨p0.bw, 0, none⟩), .int .i64 c] w fun e w' => WnP f m c w e w' := by
  obtain ⟨n1, hn, hk, wk1, wk2⟩ := hf.sizes
  have hfew0 : m.E.length ≤ 999999999000 := by
    have h2 := hm.t1
    unfold Few at hE
    omega
  have r0 := (show DSt Q f p0 m.F m.T m.op m.S vE0 m.E w from hS).row.cell (i := 0) (by omega)
  simp [wf] at r0
  by_cases c0 : c < 0
  · have R : Hid (WnP f m c w (.returned (.tuple #[.int .i64 0, .bool false, .int .i64 6])) w) := ⟨0, false, 6, rfl, Or.inl ⟨by omega, rfl, rfl, rfl⟩, Below.refl _ _⟩
    clear hS hf hm hE
    go_enter Tryz.func37, Tryz.ntmps37
    go_wp2
    go_ret3
    exact R.out
  by_cases c1 : (f.n : Int) ≤ c
  · have R : Hid (WnP f m c w (.returned (.tuple #[.int .i64 0, .bool false, .int .i64 6])) w) := ⟨0, false, 6, rfl, Or.inl ⟨by omega, rfl, rfl, rfl⟩, Below.refl _ _⟩
    clear hS hf hm hE
    go_enter Tryz.func37, Tryz.ntmps37
    go_wp2
    go_ret3
    exact R.out
  obtain ⟨i, rfl⟩ := Int.eq_ofNat_of_zero_le (show 0 ≤ c by omega)
  have i1 : i < f.n := by omega
  have HF := hid hf
  have HM := hid hm
  have HE := hid hE
  have FK := hid (dFork_any hS hf (by omega))
  clear hS hf hm hE
  go_enter Tryz.func37, Tryz.ntmps37
  go_wp2_with fail
  refine FK.out.mono ?_
  rintro e w1 ⟨p, vE, rfl, s1, s2, s3⟩
  have S1 := hid s1
  have S2 := hid s2
  have S3 := hid s3
  clear s1 s2 s3 FK
  go_wp2_with fail
  refine (dvalues_any (show DSt Q f p m.F m.T m.op m.S vE m.E w1 from S1.out) HF.out HM.out.fv HM.out.t0 HM.out.t1).mono ?_
  rintro e w2 ⟨bv, rfl, q1, q2, q3⟩
  have SB : Hid (Beside Q f p bv (f.vals m.F m.T) m vE w w2) := ⟨DSt.drop S1.out q3, S2.out.trans (q3.mono S2.out.size), S3.out, q2, fun h => by have := DSt.own_lt S1.out _ h; omega⟩
  have W0 : Hid (Went f (fun u => f.vals m.F u i = f.vals m.F m.T i) m m) := Went.start HM.out
  clear q1 q2 q3 S1 S2 S3
  go_wp2
  go_loopw [9, 10] (fun _ _ wr => ∃ (m' : Cs) (vE' : Value), Hid (Went f (fun u => f.vals m.F u i = f.vals m.F m.T i) m m') ∧ Hid (Beside Q f p bv (f.vals m.F m.T) m' vE' w wr)) (fun _ _ wr => (1000000000 - timeOf p.bw wr).toNat)
  case atStart => exact ⟨m, vE, W0, SB⟩
  case round =>
    clear SB W0
    obtain ⟨m', vE', hw, hs⟩ := hrel
    have hok := hid (hw.out.ok HF.out HM.out)
    have hfw := hid (hw.out.few HF.out HE.out)
    have hT := hs.out.st.time
    go_wp2_with fail
    refine (dcand_any hs.out.st HF.out hok.out.fv hok.out.st hok.out.t0 hok.out.t1).mono ?_
    rintro e w3 ⟨t, rfl, q1, q2⟩
    have HC : Hid (Cand f m' t) := q1.cand m'.op m'.E
    have hs1 := hid (hs.out.drop q2)
    clear q1 q2 hs
    have KEY : Hid (∀ u, m'.T < u → u ≤ 1000000000 → Bef t u → f.vals m.F u i = f.vals m.F m.T i) := fun u u1 u2 hb => by
      obtain ⟨a1, _⟩ := hw.out.idle HF.out HM.out HC.out u1 u2 hb
      have low := hw.out.low
      rw [a1 i i1]
      by_cases e : m.T < m'.T
      · exact hw.out.held m'.T e (Int.le_refl _)
      · rw [show m'.T = m.T by omega]
    by_cases t1 : t < 0
    · have R : Hid (WnP f m i w (.returned (.tuple #[.int .i64 0, .bool false, .int .i64 0])) w3) := by
        refine ⟨0, false, 0, rfl, Or.inr ⟨i, rfl, i1, rfl, Or.inr ⟨rfl, rfl, fun u u1 u2 => ?_⟩⟩, hs1.out.bel⟩
        by_cases hu : u ≤ m'.T
        · exact hw.out.held u u1 hu
        · refine KEY.out u (by omega) u2 ?_
          rcases HC.out.1 with c | c
          · exact Or.inl c
          · have := hok.out.t0; omega
      clear hT
      go_wp2
      go_ret3
      exact R.out
    have lo : m'.T < t ∧ t ≤ 1000000000 := by
      rcases HC.out.1 with c | c
      · omega
      · exact c
    obtain ⟨lo1, lo2⟩ := lo
    go_wp2_with fail
    refine (dadvance_any t hs1.out.st HF.out hok.out hfw.out hb).mono ?_
    rintro e w4 ⟨vE2, rfl, x1, x2⟩
    have AV : advM f m' t = m'.go f (t - m'.T).toNat := by unfold advM; rw [if_neg (by omega)]
    rw [AV] at x1
    have hs2 := hid (hs1.out.gone x1 x2)
    clear x1 x2 AV hs1
    have hT2 : (m'.go f (t - m'.T).toNat).T = t := by rw [go_T]; omega
    have HT2 := hid hT2
    have hok2 := hid (go_ok HF.out hok.out (t - m'.T).toNat (by omega))
    have F2 : Hid ((m'.go f (t - m'.T).toNat).F = m.F) := by show _ = _; rw [go_F]; exact hw.out.F
    have WO : Hid (f.vals m.F t i = f.vals m.F m.T i → Went f (fun u => f.vals m.F u i = f.vals m.F m.T i) m (m'.go f (t - m'.T).toNat)) := fun h => (hw.out.on lo1 lo2 (fun u u1 u2 => by
      by_cases e : u = t
      · subst e; exact h
      · exact KEY.out u u1 (by omega) (Or.inr (by omega)))).1
    have NO : Hid (f.vals m.F t i ≠ f.vals m.F m.T i → ∀ W, Below w.heap.size w W → WnP f m i w (.returned (.tuple #[.int .i64 t, .bool true, .int .i64 0])) W) := fun h W hW => by
      refine ⟨t, true, 0, rfl, Or.inr ⟨i, rfl, i1, rfl, Or.inl ⟨rfl, ?_, lo2, h, fun u u1 u2 => ?_⟩⟩, hW⟩
      · have := hw.out.low; omega
      · by_cases hu : u ≤ m'.T
        · exact hw.out.held u u1 hu
        · exact KEY.out u (by omega) (by omega) (Or.inr u2)
    generalize m'.go f (t - m'.T).toNat = m2 at *
    clear hT2
    go_wp2_with fail
    refine (dvalues_any (show DSt Q f p m2.F m2.T m2.op m2.S vE2 m2.E w4 from hs2.out.st) HF.out hok2.out.fv hok2.out.t0 hok2.out.t1).mono ?_
    rintro e w5 ⟨bn, rfl, y1, y2, y3⟩
    have hs3 := hid (hs2.out.drop y3)
    rw [F2.out, HT2.out] at y2
    have Y2 := hid y2
    have zn : w4.heap.size ≤ bn := y1
    clear y1 y2 y3 hs2
    have x0 := hs3.out.was.cell (i := i) i1
    have x1 := Y2.out.cell (i := i) i1
    have l0 := hs3.out.was.lt
    have l1 := Y2.out.lt
    have hT6 := hs3.out.st.time
    have HT6 := hid hT6
    have HT := hid hT
    clear hT6 hT
    by_cases e : f.vals m.F t i = f.vals m.F m.T i
    · have W2 := hid (WO.out e)
      rw [e] at x1
      clear e
      go_wp2
      go_region
      go_wp2
      go_roundw
      case rel => exact ⟨m2, vE2, W2, hs3.out.drop (Below.refl _ _).drew⟩
      case measure =>
        have e2 : timeOf p.bw w5.drew = timeOf p.bw w5 := rfl
        rw [HT.out, e2, HT6.out, HT2.out]
        omega
    · have R := hid (NO.out e _ (hs3.out.drop (Below.refl _ _).drew).bel)
      have d : (f.vals m.F t i == f.vals m.F m.T i) = false := beq_eq_false_iff_ne.2 e
      clear e
      go_wp2
      go_region
      go_wp2
      go_ret3
      exact R.out

end Go.Proofs.YtcondcffllaaoaaGreatDoor
