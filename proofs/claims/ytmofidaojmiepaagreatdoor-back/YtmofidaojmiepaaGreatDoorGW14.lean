/-
  THE WALKS: the document's ring.
-/
import Derived.Test.YtmofidaojmiepaaGreatDoorGW12
import Derived.BigRegion
set_option linter.unusedVariables false
set_option linter.unusedSimpArgs false
namespace Go.Proofs.YtmofidaojmiepaaGreatDoor

open Go.RowKit

attribute [local go_sem ↓] Go.wp_at_zero Go.wp_at_succ

theorem ed_needp {C : Nat → Cel} {n i j q : Nat} (hi : i < n) (hq : M.needs (C i).kind = q) (h3 : q ≤ 3) : Ed C n i j ↔ ∃ p, p < q ∧ needp (C i) p = j := by
  constructor
  · intro ⟨_, h⟩
    rcases h with ⟨p, e⟩ | ⟨p, e⟩ | ⟨p, e⟩
    · exact ⟨0, by omega, e⟩
    · exact ⟨1, by omega, e⟩
    · exact ⟨2, by omega, e⟩
  · intro ⟨p, hp, e⟩
    have hp3 : p = 0 ∨ p = 1 ∨ p = 2 := by omega
    rcases hp3 with rfl | rfl | rfl
    · exact ⟨hi, Or.inl ⟨by omega, e⟩⟩
    · exact ⟨hi, Or.inr (Or.inl ⟨by omega, e⟩)⟩
    · exact ⟨hi, Or.inr (Or.inr ⟨by omega, e⟩)⟩

/-- What next holds, when cells below m are done, and p of what cell m needs. -/
def NextIs (C : Nat → Cel) (n : Nat) (H : Nat → Bool) (m p : Nat) (N : Nat → Bool) : Prop :=
  ∀ j, j < n → (N j = true ↔ (∃ i, i < m ∧ Ed C n i j ∧ H i = true) ∨ (∃ p', p' < p ∧ needp (C m) p' = j ∧ H m = true))

theorem next_step {C : Nat → Cel} {n m p x : Nat} {H N : Nat → Bool} (h : NextIs C n H m p N) (hx : needp (C m) p = x) {v : Bool} (hv : v = (N x || H m)) : NextIs C n H m (p + 1) (upd N x v) := by
  intro j hj
  by_cases e : j = x
  · subst e
    rw [upd_same, hv, Bool.or_eq_true, h j hj]
    constructor
    · rintro ((g | ⟨p', g1, g2, g3⟩) | g)
      · exact Or.inl g
      · exact Or.inr ⟨p', by omega, g2, g3⟩
      · exact Or.inr ⟨p, by omega, hx, g⟩
    · rintro (g | ⟨p', g1, g2, g3⟩)
      · exact Or.inl (Or.inl g)
      · exact Or.inr g3
  · rw [upd_other _ _ e, h j hj]
    constructor
    · rintro (g | ⟨p', g1, g2, g3⟩)
      · exact Or.inl g
      · exact Or.inr ⟨p', by omega, g2, g3⟩
    · rintro (g | ⟨p', g1, g2, g3⟩)
      · exact Or.inl g
      · refine Or.inr ⟨p', ?_, g2, g3⟩
        by_cases e2 : p' = p
        · subst e2; rw [hx] at g2; omega
        · omega

theorem next_cell {C : Nat → Cel} {n m q : Nat} {H N : Nat → Bool} (h : NextIs C n H m q N) (hm : m < n) (hq : M.needs (C m).kind = q) (h3 : q ≤ 3) : NextIs C n H (m + 1) 0 N := by
  intro j hj
  rw [h j hj]
  constructor
  · rintro (⟨i, i1, i2, i3⟩ | ⟨p', g1, g2, g3⟩)
    · exact Or.inl ⟨i, by omega, i2, i3⟩
    · exact Or.inl ⟨m, by omega, (ed_needp hm hq h3).2 ⟨p', g1, g2⟩, g3⟩
  · rintro (⟨i, i1, i2, i3⟩ | ⟨p', g1, _⟩)
    · by_cases e : i = m
      · subst e
        obtain ⟨p', p1, p2⟩ := (ed_needp hm hq h3).1 i2
        exact Or.inr ⟨p', p1, p2, i3⟩
      · exact Or.inl ⟨i, by omega, i2, i3⟩
    · omega

theorem next_way {C : Nat → Cel} {n i s : Nat} {H N : Nat → Bool} (h : NextIs C n H n 0 N) (hH : ∀ j, j < n → (H j = true ↔ M.Way (Ed C n) s i j)) : ∀ j, j < n → (N j = true ↔ M.Way (Ed C n) (s + 1) i j) := by
  intro j hj
  rw [h j hj]
  constructor
  · rintro (⟨k, k1, k2, k3⟩ | ⟨p', g1, _⟩)
    · exact ⟨k, (hH k k1).1 k3, k2⟩
    · omega
  · rintro ⟨k, k1, k2⟩
    exact Or.inl ⟨k, k2.1, k2, (hH k k2.1).2 k1⟩

/-- The memory of ring's work: here, next, what a cell names. -/
structure RMem (w wr : World) (n bh bn : Nat) (H N : Nat → Bool) : Prop where
  bel : Below w.heap.size w wr
  ho : w.heap.size ≤ bh
  hn : bh < bn
  here : wr.rowIs bh 4 n (fun i => .bool (H i))
  next : wr.rowIs bn 4 n (fun i => .bool (N i))

theorem RMem.below {w wr w1 : World} {n bh bn : Nat} {H N : Nat → Bool} (h : RMem w wr n bh bn H N) (hb : Below wr.heap.size wr w1) : RMem w w1 n bh bn H N :=
  ⟨h.bel.trans (hb.mono (by have := h.here.lt; have := h.ho; omega)), h.ho, h.hn, h.here.of_block (hb.block _ h.here.lt), h.next.of_block (hb.block _ h.next.lt)⟩

theorem RMem.store {w wr : World} {n bh bn : Nat} {H N : Nat → Bool} (h : RMem w wr n bh bn H N) (x : Nat) (v : Bool) : RMem w (wr.setCell ⟨bn, x, none⟩ (.bool v)) n bh bn H (upd N x v) :=
  ⟨h.bel.setCell (by have := h.ho; have := h.hn; show w.heap.size ≤ bn; omega) _, h.ho, h.hn, h.here.setOther (by have := h.hn; show bh ≠ bn; omega) _, (h.next.set x _).congr (fun i _ => by unfold upd; split <;> rfl)⟩

theorem RMem.drew {w wr : World} {n bh bn : Nat} {H N : Nat → Bool} (h : RMem w wr n bh bn H N) : RMem w wr.drew n bh bn H N := ⟨h.bel.drew, h.ho, h.hn, h.here.drew, h.next.drew⟩

theorem row_made_set (w : World) (n i : Nat) : (w.alloc (.cells ((madeCells #[.bool false] n).setIfInBounds i (.bool true)) 4)).rowIs w.heap.size 4 n (fun j => .bool (upd (fun _ => false) i true j)) := by
  have h := World.rowIs_alloc w ((madeCells #[.bool false] n).setIfInBounds i (.bool true)) 4 (fun j => .bool (upd (fun _ => false) i true j)) (fun j hj => by
    rw [Array.size_setIfInBounds, size_madeCells] at hj
    have hj' : j < n := by simpa using hj
    rw [Array.getElem?_setIfInBounds]
    by_cases e : i = j
    · subst e; rw [if_pos rfl, if_pos (by rw [size_madeCells]; simpa using hj'), upd_same]
    · rw [if_neg e, upd_other _ _ (fun h => e h.symm)]; simp [madeCells, hj', Nat.mod_one])
  rw [Array.size_setIfInBounds, size_madeCells] at h
  simpa using h

end Go.Proofs.YtmofidaojmiepaaGreatDoor

/-
  THE WALKS: the document's Check.
-/
set_option linter.unusedVariables false
set_option linter.unusedSimpArgs false
namespace Go.Proofs.YtmofidaojmiepaaGreatDoor

open Go.RowKit

/-- A rule lies at an address. -/
def RuleIs (w : World) (b o : Nat) (r : Rul) : Prop :=
  w.cell? ⟨b, o, none⟩ = some (.int .i64 r.guard) ∧ ∃ a cap, w.cell? ⟨b, o + 1, none⟩ = some (.slice a r.steps.length cap) ∧ IntsAt w (.slice a r.steps.length cap) r.steps ∧ r.steps.length ≤ 1000000000

theorem RuleIs.below {B : Nat} {w w' : World} {b o : Nat} {r : Rul} (h : RuleIs w b o r) (hb : Below B w w') (hB : b < B) (hB2 : w.heap.size ≤ B) : RuleIs w' b o r := by
  obtain ⟨h1, a, cap, h2, h3, h4⟩ := h
  exact ⟨by rw [hb.cell (p := ⟨b, o, none⟩) hB]; exact h1, a, cap, by rw [hb.cell (p := ⟨b, o + 1, none⟩) hB]; exact h2, SlAt.below h3 hb hB2, h4⟩

/-- n cells; k rules. -/
def CAt (w : World) (a : Option Addr) (n : Nat) (C : Nat → Cel) : Prop := n = 0 ∨ ∃ b off, a = some ⟨b, off, none⟩ ∧ b < w.heap.size ∧ ∀ m, m < n → CelIs w b (off + m * 5) (C m)

def RAt (w : World) (a : Option Addr) (k : Nat) (R : Nat → Rul) : Prop := k = 0 ∨ ∃ b off, a = some ⟨b, off, none⟩ ∧ b < w.heap.size ∧ ∀ m, m < k → RuleIs w b (off + m * 2) (R m)

theorem CAt.below {w w' : World} {a : Option Addr} {n : Nat} {C : Nat → Cel} (h : CAt w a n C) (hb : Below w.heap.size w w') : CAt w' a n C := by
  rcases h with h | ⟨b, off, e, h1, h2⟩
  · exact Or.inl h
  · exact Or.inr ⟨b, off, e, by have := hb.size; omega, fun m hm => (h2 m hm).below hb h1⟩

theorem RAt.below {w w' : World} {a : Option Addr} {k : Nat} {R : Nat → Rul} (h : RAt w a k R) (hb : Below w.heap.size w w') : RAt w' a k R := by
  rcases h with h | ⟨b, off, e, h1, h2⟩
  · exact Or.inl h
  · exact Or.inr ⟨b, off, e, by have := hb.size; omega, fun m hm => (h2 m hm).below hb h1 (Nat.le_refl _)⟩

def SizesOk (n k : Nat) (week : Int) : Prop := 1 ≤ n ∧ n ≤ 20 ∧ k ≤ 6 ∧ 1 ≤ week ∧ week ≤ 127

/-- P3: the error and the number. -/
def ChkRel (C : Nat → Cel) (n : Nat) (R : Nat → Rul) (k : Nat) (week : Int) (hol : List Int) (e at' : Int) : Prop :=
  (¬ SizesOk n k week ∧ e = 1 ∧ at' = 0) ∨ (SizesOk n k week ∧ 20 < hol.length ∧ e = 2 ∧ at' = 20) ∨
  (SizesOk n k week ∧ hol.length ≤ 20 ∧ ∃ r, First (BadAt hol 0 11574) hol.length r ∧ ((r < hol.length ∧ e = 2 ∧ at' = r) ∨ (r = hol.length ∧
    ∃ r2, First (fun i => ¬ CellOk (C i) n) n r2 ∧ ((r2 < n ∧ e = 3 ∧ at' = r2) ∨ (r2 = n ∧
      ∃ r3, First (fun i => M.Ring (Ed C n) i) n r3 ∧ ((r3 < n ∧ e = 4 ∧ at' = r3) ∨ (r3 = n ∧
        ∃ r4, First (fun i => ¬ RuleOk (R i) n) k r4 ∧ ((r4 < k ∧ e = 5 ∧ at' = r4) ∨ (r4 = k ∧ e = 0 ∧ at' = 0)))))))))

theorem ChkRel.unique {C : Nat → Cel} {n : Nat} {R : Nat → Rul} {k : Nat} {week : Int} {hol : List Int} {e a e' a' : Int} (h : ChkRel C n R k week hol e a) (g : ChkRel C n R k week hol e' a') : e = e' ∧ a = a' := by
  rcases h with ⟨h0, h1, h2⟩ | ⟨h0, h3, h1, h2⟩ | ⟨h0, h3, r, hr, hh⟩ <;> rcases g with ⟨g0, g1, g2⟩ | ⟨g0, g3, g1, g2⟩ | ⟨g0, g3, s, gr, gg⟩
  · omega
  · exact (h0 g0).elim
  · exact (h0 g0).elim
  · exact (g0 h0).elim
  · omega
  · omega
  · exact (g0 h0).elim
  · omega
  · have := First.unique hr gr; subst this
    rcases hh with ⟨a1, a2, a3⟩ | ⟨a1, r2, hr2, hh⟩ <;> rcases gg with ⟨b1, b2, b3⟩ | ⟨b1, s2, gr2, gg⟩
    · omega
    · omega
    · omega
    · have := First.unique hr2 gr2; subst this
      rcases hh with ⟨a1, a2, a3⟩ | ⟨a1, r3, hr3, hh⟩ <;> rcases gg with ⟨b1, b2, b3⟩ | ⟨b1, s3, gr3, gg⟩
      · omega
      · omega
      · omega
      · have := First.unique hr3 gr3; subst this
        rcases hh with ⟨a1, a2, a3⟩ | ⟨a1, r4, hr4, hh⟩ <;> rcases gg with ⟨b1, b2, b3⟩ | ⟨b1, s4, gr4, gg⟩
        · omega
        · omega
        · omega
        · have := First.unique hr4 gr4; subst this
          rcases hh with ⟨a1, a2, a3⟩ | ⟨a1, a2, a3⟩ <;> rcases gg with ⟨b1, b2, b3⟩ | ⟨b1, b2, b3⟩ <;> omega

/-- A form that is one. -/
structure FormOk (C : Nat → Cel) (n : Nat) (R : Nat → Rul) (k : Nat) (week : Int) (hol : List Int) : Prop where
  sizes : SizesOk n k week
  hol : HolOk hol
  cells : CellsOk C n
  ring : NoRing C n
  rules : ∀ i, i < k → RuleOk (R i) n

theorem rise_of {l : List Int} {lo hi : Int} (h : ∀ i, i < l.length → ¬ BadAt l lo hi i) : (∀ x, x ∈ l → lo ≤ x ∧ x ≤ hi) ∧ l.Pairwise (· < ·) := by
  constructor
  · intro x hx
    obtain ⟨i, hi', rfl⟩ := List.mem_iff_getElem.1 hx
    have := h i hi'
    unfold BadAt at this
    rw [show l.getD i 0 = l[i] by simp [List.getD, hi']] at this
    omega
  · rw [List.pairwise_iff_getElem]
    have step : ∀ d i, (hd : i + d + 1 < l.length) → l[i] < l[i + d + 1] := by
      intro d
      induction d with
      | zero =>
        intro i hd
        have := h (i + 1) hd
        unfold BadAt at this
        rw [show l.getD (i + 1) 0 = l[i + 1] by simp [List.getD, hd], show l.getD (i + 1 - 1) 0 = l[i] by simp [List.getD, show i < l.length by omega]] at this
        simp only [Nat.add_zero]
        omega
      | succ d ih =>
        intro i hd
        have h1 := ih i (by omega)
        have := h (i + (d + 1) + 1) hd
        unfold BadAt at this
        rw [show l.getD (i + (d + 1) + 1) 0 = l[i + (d + 1) + 1] by simp [List.getD, hd], show l.getD (i + (d + 1) + 1 - 1) 0 = l[i + d + 1] by simp [List.getD, show i + (d + 1) < l.length by omega, Nat.add_assoc]] at this
        omega
    intro i j hi' hj hij
    have := step (j - i - 1) i (by omega)
    have e : i + (j - i - 1) + 1 = j := by omega
    simp only [e] at this
    exact this

theorem ChkRel.ok {C : Nat → Cel} {n : Nat} {R : Nat → Rul} {k : Nat} {week : Int} {hol : List Int} {a : Int} (h : ChkRel C n R k week hol 0 a) : a = 0 ∧ FormOk C n R k week hol := by
  rcases h with ⟨_, h1, _⟩ | ⟨_, _, h1, _⟩ | ⟨h0, h3, r, hr, hh⟩
  · omega
  · omega
  rcases hh with ⟨_, a2, _⟩ | ⟨a1, r2, hr2, hh⟩
  · omega
  rcases hh with ⟨_, a2, _⟩ | ⟨b1, r3, hr3, hh⟩
  · omega
  rcases hh with ⟨_, a2, _⟩ | ⟨c1, r4, hr4, hh⟩
  · omega
  rcases hh with ⟨_, a2, _⟩ | ⟨d1, _, d3⟩
  · omega
  obtain ⟨p1, p2⟩ := rise_of (l := hol) (lo := 0) (hi := 11574) (fun i hi => hr.2.1 i (by omega))
  exact ⟨d3, h0, ⟨h3, p1, p2⟩, fun i hi => Classical.byContradiction fun hc => hr2.2.1 i (by omega) hc, fun i hi => hr3.2.1 i (by omega), fun i hi => Classical.byContradiction fun hc => hr4.2.1 i (by omega) hc⟩

/-- What Check answers. -/
def ChkPost (C : Nat → Cel) (n : Nat) (R : Nat → Rul) (k : Nat) (week : Int) (hol : List Int) (w : World) (e : Ending) (w' : World) : Prop :=
  ∃ a b, e = .returned (.tuple #[.int .i64 a, .int .i64 b]) ∧ ChkRel C n R k week hol a b ∧ Below w.heap.size w w'

theorem chk_mk {C : Nat → Cel} {n : Nat} {R : Nat → Rul} {k : Nat} {week : Int} {hol : List Int} {w w' : World} {a b : Int} (h : ChkRel C n R k week hol a b) (hb : Below w.heap.size w w') : ChkPost C n R k week hol w (.returned (.tuple #[.int .i64 a, .int .i64 b])) w' := ⟨a, b, rfl, h, hb⟩

end Go.Proofs.YtmofidaojmiepaaGreatDoor
