/-
  THE CODE: what is to come: Next, When.
-/
import Derived.Test.YtmofidaojmiepaaGreatDoorGK4
import Derived.Test.YtmofidaojmiepaaGreatDoorGH22
set_option linter.unusedVariables false
set_option linter.unusedSimpArgs false
namespace Go.Proofs.YtmofidaojmiepaaGreatDoor

open Go.RowKit

attribute [local go_sem ↓] Go.wp_at_zero Go.wp_at_succ

def st5 (g : Nat → Value) (q : Nat) (c : Cel) (j : Nat) : Value :=
  if j = q + 4 then .int .i64 c.k else if j = q + 3 then .int .i64 c.c else if j = q + 2 then .int .i64 c.b else if j = q + 1 then .int .i64 c.a else if j = q then .int .i64 c.kind else g j

theorem row_st5 {w : World} {b t L : Nat} {g : Nat → Value} (h : w.rowIs b t L g) (q : Nat) (c : Cel) :
    (((((w.setCell ⟨b, q, none⟩ (.int .i64 c.kind)).setCell ⟨b, q + 1, none⟩ (.int .i64 c.a)).setCell ⟨b, q + 2, none⟩ (.int .i64 c.b)).setCell ⟨b, q + 3, none⟩ (.int .i64 c.c)).setCell ⟨b, q + 4, none⟩ (.int .i64 c.k)).rowIs b t L (st5 g q c) :=
  ((((h.set q _).set (q + 1) _).set (q + 2) _).set (q + 3) _).set (q + 4) _

/-- A cell is laid. -/
def lay5 (w : World) (b q : Nat) (c : Cel) : World := ((((w.setCell ⟨b, q, none⟩ (.int .i64 c.kind)).setCell ⟨b, q + 1, none⟩ (.int .i64 c.a)).setCell ⟨b, q + 2, none⟩ (.int .i64 c.b)).setCell ⟨b, q + 3, none⟩ (.int .i64 c.c)).setCell ⟨b, q + 4, none⟩ (.int .i64 c.k)

theorem lay5_row {w : World} {b t L : Nat} {g : Nat → Value} (h : w.rowIs b t L g) (q : Nat) (c : Cel) : (lay5 w b q c).rowIs b t L (st5 g q c) := row_st5 h q c

theorem lay5_other {w : World} {b b' t L : Nat} {g : Nat → Value} (h : w.rowIs b' t L g) (hb : b' ≠ b) (q : Nat) (c : Cel) : (lay5 w b q c).rowIs b' t L g := ((((h.setOther hb _).setOther hb _).setOther hb _).setOther hb _).setOther hb _

theorem lay5_below {w0 w : World} {B b : Nat} (h : Below B w0 w) (hb : B ≤ b) (q : Nat) (c : Cel) : Below B w0 (lay5 w b q c) := ((((h.setCell hb _).setCell hb _).setCell hb _).setCell hb _).setCell hb _

/-- Cells, as far as they were laid. -/
def upTo (X : Nat → Cel) (m : Nat) (j : Nat) : Value := if j < m * 5 then cellf X j else .int .i64 0

theorem st5_next {X : Nat → Cel} {m : Nat} {c : Cel} (h : X m = c) (j : Nat) : st5 (upTo X m) (m * 5) c j = upTo X (m + 1) j := by
  subst h
  unfold st5
  by_cases e4 : j = m * 5 + 4
  · subst e4; rw [if_pos rfl]; unfold upTo; rw [if_pos (by omega), cellf4]
  rw [if_neg e4]
  by_cases e3 : j = m * 5 + 3
  · subst e3; rw [if_pos rfl]; unfold upTo; rw [if_pos (by omega), cellf3]
  rw [if_neg e3]
  by_cases e2 : j = m * 5 + 2
  · subst e2; rw [if_pos rfl]; unfold upTo; rw [if_pos (by omega), cellf2]
  rw [if_neg e2]
  by_cases e1 : j = m * 5 + 1
  · subst e1; rw [if_pos rfl]; unfold upTo; rw [if_pos (by omega), cellf1]
  rw [if_neg e1]
  by_cases e0 : j = m * 5
  · subst e0; rw [if_pos rfl]; unfold upTo; rw [if_pos (by omega), cellf0]
  rw [if_neg e0]
  unfold upTo
  by_cases h1 : j < m * 5
  · rw [if_pos h1, if_pos (by omega)]
  · rw [if_neg h1, if_neg (by omega)]

theorem st5_over {g : Nat → Value} {q : Nat} {c d : Cel} (j : Nat) : st5 (st5 g q c) q d j = st5 g q d j := by
  unfold st5
  repeat' split
  all_goals first | rfl | omega

theorem two_rows {w wr : World} {c1 c2 : Array Value} {t1 t2 : TypeId} (h : Below (w.heap.size + 1 + 1) ((w.alloc (.cells c1 t1)).alloc (.cells c2 t2)) wr) (f1 f2 : Nat → Value) (h1 : ∀ i, i < c1.size → c1[i]? = some (f1 i)) (h2 : ∀ i, i < c2.size → c2[i]? = some (f2 i)) : wr.rowIs w.heap.size t1 c1.size f1 ∧ wr.rowIs (w.heap.size + 1) t2 c2.size f2 := by
  constructor
  · exact ((World.rowIs_alloc w c1 t1 f1 h1).alloc _).of_block (h.block _ (by omega))
  · have := World.rowIs_alloc (w.alloc (.cells c1 t1)) c2 t2 f2 h2
    rw [World.size_alloc] at this
    exact this.of_block (h.block _ (by omega))

/-- What alone answers. -/
def AlP (f : Frm) (F : Nat → Int) (c : Nat) (aR : Option Addr) (cR : Nat) (aH : Option Addr) (cH : Nat) (w : World) (e : Ending) (w' : World) : Prop :=
  ∃ (b : Nat) (S : Nat → Bool), e = .returned (.agg #[.slice (some ⟨b, 0, none⟩) f.n f.n, .slice aR f.k cR, .int .i64 f.week, .slice aH f.hol.length cH]) ∧ w.heap.size ≤ b ∧ w'.rowIs b 47 (f.n * 5) (cellf (f.only F c S).C) ∧ (∀ j, j < f.n → (S j = true ↔ ∃ s, 1 ≤ s ∧ M.Way (Ed (effC f.C F) f.n) s c j)) ∧ Below w.heap.size w w'

/-- What cells.When answers. -/
def WhP (f : Frm) (F : Nat → Int) (T : Int) (c : Nat) (w : World) (e : Ending) (w' : World) : Prop := ∃ t ok, e = .returned (.tuple #[.int .i64 t, .bool ok]) ∧ WhenIs f ⟨F, T, true, fun _ => noSt, []⟩ c t ok ∧ Below w.heap.size w w'

/-- The cell's value, from T up to T', in the form in which it stands alone. -/
def Stays (g : Frm) (F : Nat → Int) (T : Int) (c : Nat) (T' : Int) : Prop := T ≤ T' ∧ T' ≤ 1000000000 ∧ ∀ u, T < u → u ≤ T' → g.vals F u c = g.vals F T c

theorem Stays.more {g : Frm} (hg : g.Ok) {F : Nat → Int} (hF : FV g F) {T T' cc : Int} {c : Nat} (hc : c < g.n) (t0 : 0 ≤ T) (h : Stays g F T c T') (hq : CQ g F T' g.n cc) : ∀ u, T < u → u ≤ 1000000000 → Bef cc u → g.vals F u c = g.vals F T c := fun u u1 u2 hb => by
  obtain ⟨h1, h2, h3⟩ := h
  by_cases hu : u ≤ T'
  · exact h3 u u1 hu
  · rw [cq_same hg hF (by omega) h2 hq (by omega) u2 hb c hc]
    by_cases e : T < T'
    · exact h3 T' e (Int.le_refl _)
    · rw [show T' = T by omega]

end Go.Proofs.YtmofidaojmiepaaGreatDoor
