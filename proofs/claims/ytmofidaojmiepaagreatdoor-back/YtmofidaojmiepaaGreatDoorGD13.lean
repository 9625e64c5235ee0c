/-
  MEMORY: the document's world, exactly: Next, When.
-/
import Derived.Test.YtmofidaojmiepaaGreatDoorGD10
set_option linter.unusedVariables false
set_option linter.unusedSimpArgs false
namespace Go.Proofs.YtmofidaojmiepaaGreatDoor

open Go.RowKit

attribute [local go_sem ↓] Go.wp_at_zero Go.wp_at_succ

def SamePost (n : Nat) (V V' : Nat → Int) (w : World) (e : Ending) (w' : World) : Prop := ∃ r, e = .returned (.bool r) ∧ (r = true ↔ ∀ i, i < n → V i = V' i) ∧ Below w.heap.size w w'

/-- At u the case shows what it shows now: no value is another, nothing was logged on the way. -/
def SameAt (f : Frm) (m : Cs) (u : Int) : Prop := (∀ i, i < f.n → f.vals m.F u i = f.vals m.F m.T i) ∧ (m.go f (u - m.T).toNat).E.length = m.E.length

/-- P10's answer. -/
def NexIs (f : Frm) (m : Cs) (t : Int) (ok : Bool) : Prop :=
  (ok = true ∧ m.T < t ∧ t ≤ 1000000000 ∧ ¬ SameAt f m t ∧ ∀ u, m.T < u → u < t → SameAt f m u) ∨ (ok = false ∧ t = 0 ∧ ∀ u, m.T < u → u ≤ 1000000000 → SameAt f m u)

/-- P11's. -/
def WhenIs (f : Frm) (m : Cs) (c : Nat) (t : Int) (ok : Bool) : Prop :=
  (ok = true ∧ m.T < t ∧ t ≤ 1000000000 ∧ f.vals m.F t c ≠ f.vals m.F m.T c ∧ ∀ u, m.T < u → u < t → f.vals m.F u c = f.vals m.F m.T c) ∨ (ok = false ∧ t = 0 ∧ ∀ u, m.T < u → u ≤ 1000000000 → f.vals m.F u c = f.vals m.F m.T c)

theorem next_unique {f : Frm} {m : Cs} {t t' : Int} {ok ok' : Bool} (h : NexIs f m t ok) (g : NexIs f m t' ok') : t = t' ∧ ok = ok' := by
  rcases h with ⟨rfl, h1, h2, h3, h4⟩ | ⟨rfl, rfl, h3⟩ <;> rcases g with ⟨rfl, g1, g2, g3, g4⟩ | ⟨rfl, rfl, g3⟩
  · refine ⟨?_, rfl⟩
    rcases Int.lt_trichotomy t t' with e | e | e
    · exact (h3 (g4 t h1 e)).elim
    · exact e
    · exact (g3 (h4 t' g1 e)).elim
  · exact (h3 (g3 t h1 h2)).elim
  · exact (g3 (h3 t' g1 g2)).elim
  · exact ⟨rfl, rfl⟩

theorem when_unique {f : Frm} {m : Cs} {c : Nat} {t t' : Int} {ok ok' : Bool} (h : WhenIs f m c t ok) (g : WhenIs f m c t' ok') : t = t' ∧ ok = ok' := by
  rcases h with ⟨rfl, h1, h2, h3, h4⟩ | ⟨rfl, rfl, h3⟩ <;> rcases g with ⟨rfl, g1, g2, g3, g4⟩ | ⟨rfl, rfl, g3⟩
  · refine ⟨?_, rfl⟩
    rcases Int.lt_trichotomy t t' with e | e | e
    · exact (h3 (g4 t h1 e)).elim
    · exact e
    · exact (g3 (h4 t' g1 e)).elim
  · exact (h3 (g3 t h1 h2)).elim
  · exact (g3 (h3 t' g1 g2)).elim
  · exact ⟨rfl, rfl⟩

/-- The log only grows. -/
theorem settle_grows (f : Frm) (m : Cs) : m.E.length ≤ (m.settle f).E.length := by
  unfold Cs.settle
  split
  · simp
  · omega

theorem go_grows (f : Frm) (m : Cs) : ∀ j, m.E.length ≤ (m.go f j).E.length := by
  intro j
  induction j with
  | zero => exact Nat.le_refl _
  | succ j ih => exact Nat.le_trans ih (settle_grows f ((m.go f j).at (m.T + (j + 1 : Nat))))

/-- A case that went on, and what it came over held. -/
structure Went (f : Frm) (P : Int → Prop) (m m' : Cs) : Prop where
  way : ∃ j : Nat, m' = m.go f j
  top : m'.T ≤ 1000000000
  low : m.T ≤ m'.T
  held : ∀ u, m.T < u → u ≤ m'.T → P u

theorem Went.start {f : Frm} {P : Int → Prop} {m : Cs} (h : m.Ok f) : Went f P m m := ⟨⟨0, rfl⟩, h.t1, Int.le_refl _, fun u u1 u2 => by omega⟩

theorem Went.F {f : Frm} {P : Int → Prop} {m m' : Cs} (h : Went f P m m') : m'.F = m.F := by
  obtain ⟨j, rfl⟩ := h.way
  exact go_F f m j

theorem Went.ok {f : Frm} (hf : f.Ok) {P : Int → Prop} {m m' : Cs} (hm : m.Ok f) (h : Went f P m m') : m'.Ok f := by
  have t := h.top
  obtain ⟨j, rfl⟩ := h.way
  rw [go_T] at t
  exact go_ok hf hm j t

theorem Went.few {f : Frm} (hf : f.Ok) {P : Int → Prop} {m m' : Cs} {b : Nat} (hm : Few b m) (h : Went f P m m') : Few b m' := by
  obtain ⟨j, rfl⟩ := h.way
  exact go_few hf hm j

theorem Went.at {f : Frm} {P : Int → Prop} {m m' : Cs} (h : Went f P m m') : m' = m.go f (m'.T - m.T).toNat := by
  obtain ⟨j, rfl⟩ := h.way
  rw [go_T]
  congr 1
  omega

/-- Instants at which nothing could come about, ahead of the next at which something could. -/
theorem Went.idle {f : Frm} (hf : f.Ok) {P : Int → Prop} {m m' : Cs} (hm : m.Ok f) (h : Went f P m m') {t : Int} (hc : Cand f m' t) {u : Int} (u1 : m'.T < u) (u2 : u ≤ 1000000000) (hb : Bef t u) :
    (∀ i, i < f.n → f.vals m.F u i = f.vals m.F m'.T i) ∧ (m.go f (u - m.T).toNat).E.length = m'.E.length := by
  have ok := h.ok hf hm
  have hF := h.F
  have hq := hc.2 u u1 u2 hb
  have low := h.low
  refine ⟨fun i hi => ?_, ?_⟩
  · have := quiet_vals hf ok hq i hi
    rw [hF] at this
    exact this.symm
  · have e : (u - m.T).toNat = (m'.T - m.T).toNat + (u - m'.T).toNat := by omega
    rw [e, go_add, ← h.at, go_quiet hf ok _ (fun i i1 i2 => hc.2 _ (by omega) (by omega) ?_)]
    · rfl
    · rcases hb with hb | hb
      · exact Or.inl hb
      · exact Or.inr (by omega)

/-- And on to that one. -/
theorem Went.on {f : Frm} {P : Int → Prop} {m m' : Cs} (h : Went f P m m') {t : Int} (t1 : m'.T < t) (t2 : t ≤ 1000000000) (hp : ∀ u, m'.T < u → u ≤ t → P u) : Went f P m (m'.go f (t - m'.T).toNat) ∧ (m'.go f (t - m'.T).toNat).T = t := by
  have e : (m'.go f (t - m'.T).toNat).T = t := by rw [go_T]; omega
  refine ⟨⟨?_, by rw [e]; exact t2, by rw [e]; have := h.low; omega, fun u u1 u2 => ?_⟩, e⟩
  · obtain ⟨j, rfl⟩ := h.way
    exact ⟨j + (t - (m.go f j).T).toNat, (go_add f m j _).symm⟩
  · rw [e] at u2
    by_cases hu : u ≤ m'.T
    · exact h.held u u1 hu
    · exact hp u (by omega) u2

/-- What Next answers. -/
def NxP (f : Frm) (m : Cs) (w : World) (e : Ending) (w' : World) : Prop := ∃ t ok, e = .returned (.tuple #[.int .i64 t, .bool ok]) ∧ NexIs f m t ok ∧ Below w.heap.size w w'

end Go.Proofs.YtmofidaojmiepaaGreatDoor

/-
  MEMORY: the document's world, exactly: When.
-/
set_option linter.unusedVariables false
set_option linter.unusedSimpArgs false
namespace Go.Proofs.YtmofidaojmiepaaGreatDoor

open Go.RowKit

attribute [local go_sem ↓] Go.wp_at_zero Go.wp_at_succ

/-- What When answers. -/
def WnP (f : Frm) (m : Cs) (c : Int) (w : World) (e : Ending) (w' : World) : Prop := ∃ t ok er, e = .returned (.tuple #[.int .i64 t, .bool ok, .int .i64 er]) ∧ ((¬ (0 ≤ c ∧ c < f.n) ∧ t = 0 ∧ ok = false ∧ er = 6) ∨ ∃ i : Nat, c = i ∧ i < f.n ∧ er = 0 ∧ WhenIs f m i t ok) ∧ Below w.heap.size w w'

theorem wn_unique {f : Frm} {m : Cs} {c : Int} {w1 w1' w2 w2' : World} {e1 e2 : Ending} (h : WnP f m c w1 e1 w1') (g : WnP f m c w2 e2 w2') : e1 = e2 := by
  obtain ⟨t, ok, er, rfl, h1, _⟩ := h
  obtain ⟨t', ok', er', rfl, g1, _⟩ := g
  rcases h1 with ⟨a, rfl, rfl, rfl⟩ | ⟨i, rfl, a, rfl, h2⟩
  · rcases g1 with ⟨b, rfl, rfl, rfl⟩ | ⟨i, rfl, b, rfl, g2⟩
    · rfl
    · exact (a ⟨by omega, by omega⟩).elim
  · rcases g1 with ⟨b, rfl, rfl, rfl⟩ | ⟨i', e, b, rfl, g2⟩
    · exact (b ⟨by omega, by omega⟩).elim
    · obtain rfl : i = i' := by omega
      obtain ⟨rfl, rfl⟩ := when_unique h2 g2
      rfl

end Go.Proofs.YtmofidaojmiepaaGreatDoor
