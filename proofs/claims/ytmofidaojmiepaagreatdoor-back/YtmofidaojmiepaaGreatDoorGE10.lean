/-
  THE WALKS: docketkeep's play.
-/
import Derived.Test.YtmofidaojmiepaaGreatDoorGE8
import Derived.Test.YtmofidaojmiepaaGreatDoorGE5
set_option linter.unusedVariables false
set_option linter.unusedSimpArgs false
namespace Go.Proofs.YtmofidaojmiepaaGreatDoor

open Go.RowKit

attribute [local go_sem ↓] Go.wp_at_zero Go.wp_at_succ

/-- A raw step. -/
structure StK where
  kd : Int
  a : Int
  b : Int

/-- A script in memory. -/
def ScK (w : World) (a : Option Addr) (m : Nat) (S : Nat → StK) : Prop :=
  (m = 0 ∨ ∃ b off, a = some ⟨b, off, none⟩ ∧ b < w.heap.size ∧ ∀ i, i < m → w.cell? ⟨b, off + i * 3, none⟩ = some (.int .i64 (S i).kd) ∧ w.cell? ⟨b, off + i * 3 + 1, none⟩ = some (.int .i64 (S i).a) ∧ w.cell? ⟨b, off + i * 3 + 2, none⟩ = some (.int .i64 (S i).b)) ∧ ∀ i, i < m → I64k (S i).kd ∧ I64k (S i).a ∧ I64k (S i).b

theorem ScK.below {w w' : World} {a : Option Addr} {m : Nat} {S : Nat → StK} (h : ScK w a m S) (hb : Below w.heap.size w w') : ScK w' a m S := by
  refine ⟨?_, h.2⟩
  rcases h.1 with h | ⟨b, off, e, h1, h2⟩
  · exact Or.inl h
  · refine Or.inr ⟨b, off, e, by have := hb.size; omega, fun i hi => ?_⟩
    obtain ⟨x0, x1, x2⟩ := h2 i hi
    exact ⟨by rw [hb.cell (p := ⟨b, off + i * 3, none⟩) h1]; exact x0, by rw [hb.cell (p := ⟨b, off + i * 3 + 1, none⟩) h1]; exact x1, by rw [hb.cell (p := ⟨b, off + i * 3 + 2, none⟩) h1]; exact x2⟩

/-- A script, played on an open case. -/
def playM (f : Frm) (c : Cs) (S : Nat → StK) : Nat → Cs
  | 0 => c
  | j + 1 => oneM f (playM f c S j) (S j).kd (S j).a (S j).b

theorem playM_op (f : Frm) (c : Cs) (S : Nat → StK) (j : Nat) : (playM f c S j).op = c.op := by
  induction j with
  | zero => rfl
  | succ j ih => show (oneM _ _ _ _ _).op = _; rw [oneM_op]; exact ih

theorem upd_twice {α : Type} (P : Nat → α) (i : Nat) (x y : α) : upd (upd P i x) i y = upd P i y := by
  funext j
  by_cases e : j = i
  · subst e; rw [upd_same, upd_same]
  · rw [upd_other _ _ e, upd_other _ _ e, upd_other _ _ e]

end Go.Proofs.YtmofidaojmiepaaGreatDoor
