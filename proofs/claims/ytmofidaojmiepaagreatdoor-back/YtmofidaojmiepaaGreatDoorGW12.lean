/-
  THE WALKS: the document's Check, its parts.
-/
import Derived.Test.YtmofidaojmiepaaGreatDoorGRing
import Derived.Deep.RegionHeld3
import Derived.Deep.DrawnRows
import Derived.Deep.QuietTactic
import Derived.BigQuiet
import Derived.WalkSmall
set_option linter.unusedVariables false
set_option linter.unusedSimpArgs false
namespace Go.Proofs.YtmofidaojmiepaaGreatDoor

open Go.RowKit

attribute [local go_sem ↓] Go.wp_at_zero Go.wp_at_succ

/-- The first of n that is so; n, if none is. -/
def First (P : Nat → Prop) (n r : Nat) : Prop := r ≤ n ∧ (∀ j, j < r → ¬ P j) ∧ (r < n → P r)

theorem First.unique {P : Nat → Prop} {n r s : Nat} (h : First P n r) (g : First P n s) : r = s := by
  by_cases e : r < s
  · exact (g.2.1 r e (h.2.2 (by have := g.1; omega))).elim
  · by_cases e2 : s < r
    · exact (h.2.1 s e2 (g.2.2 (by have := h.1; omega))).elim
    · omega

/-- The i-th of a row of numbers is none that may stand there. -/
def BadAt (l : List Int) (lo hi : Int) (i : Nat) : Prop := l.getD i 0 < lo ∨ hi < l.getD i 0 ∨ (0 < i ∧ l.getD i 0 ≤ l.getD (i - 1) 0)

def holRet (l : List Int) (r : Nat) : Int := if r < l.length then r else -1

/-- The call answers whether P holds, and leaves what was there. -/
def BoolPost (P : Prop) (w : World) (e : Ending) (w' : World) : Prop := ∃ r, e = .returned (.bool r) ∧ (r = true ↔ P) ∧ Below w.heap.size w w'

theorem bp_no {P : Prop} {w w' : World} (h : ¬ P) (hb : Below w.heap.size w w') : BoolPost P w (.returned (.bool false)) w' := ⟨_, rfl, ⟨fun e => (by cases e), fun g => (h g).elim⟩, hb⟩

theorem bp_yes {P : Prop} {w w' : World} (h : P) (hb : Below w.heap.size w w') : BoolPost P w (.returned (.bool true)) w' := ⟨_, rfl, ⟨fun _ => h, fun _ => rfl⟩, hb⟩

/-- A rule, as a form has it. -/
structure Rul where
  guard : Int
  steps : List Int

def RuleOk (r : Rul) (n : Nat) : Prop := 0 ≤ r.guard ∧ r.guard < n ∧ r.steps.length ≤ 4 ∧ ∀ i, i < r.steps.length → ¬ BadAt r.steps 1 1000000000 i

end Go.Proofs.YtmofidaojmiepaaGreatDoor

/-
  THE WALKS: the document's Check: cells.
-/
set_option linter.unusedVariables false
set_option linter.unusedSimpArgs false
namespace Go.Proofs.YtmofidaojmiepaaGreatDoor

open Go.RowKit

attribute [local go_sem ↓] Go.wp_at_zero Go.wp_at_succ

theorem hid {p : Prop} (h : p) : Hid p := h

theorem allows_iff {kd a b c k : Int} : M.allowsB kd k = true ↔ KOk ⟨kd, a, b, c, k⟩ := by
  unfold M.allowsB KOk IsV M.isv
  simp only
  by_cases h0 : kd = 0 ∨ kd = 1
  · rw [if_pos h0]; simp; omega
  · rw [if_neg h0]
    by_cases h1 : kd = 11
    · rw [if_pos h1]; simp; omega
    · rw [if_neg h1]
      by_cases h2 : kd = 12
      · rw [if_pos h2]; simp; omega
      · rw [if_neg h2]; simp; omega

theorem needs_bd {k : Int} (h0 : 0 ≤ k) (h1 : k ≤ 12) : 0 ≤ M.needs k ∧ M.needs k ≤ 3 := by
  unfold M.needs; repeat' split
  all_goals omega

/-- What named answers: a list of its own. -/
def NamedPost (a b c : Int) (q : Nat) (w : World) (e : Ending) (w' : World) : Prop :=
  ∃ bl, e = .returned (.slice (some ⟨bl, 0, none⟩) q 3) ∧ w.heap.size ≤ bl ∧ w'.rowIs bl 3 3 (fun i => .int .i64 (needp ⟨0, a, b, c, 0⟩ i)) ∧ Below w.heap.size w w'

theorem cellOk_iff {c : Cel} {n : Nat} : CellOk c n ↔ (0 ≤ M.needs c.kind ∧ (∀ p : Nat, (p : Int) < M.needs c.kind → 0 ≤ needp c p ∧ needp c p < n) ∧ KOk c) := by
  have hk : 0 ≤ M.needs c.kind ↔ 0 ≤ c.kind ∧ c.kind ≤ 12 := by
    unfold M.needs; repeat' split
    all_goals omega
  have bd : M.needs c.kind ≤ 3 := by
    unfold M.needs; repeat' split
    all_goals omega
  constructor
  · intro ⟨h0, h1, h2, ha, hb, hc⟩
    refine ⟨hk.2 ⟨h0, h1⟩, fun p hp => ?_, h2⟩
    have hp3 : p = 0 ∨ p = 1 ∨ p = 2 := by omega
    rcases hp3 with rfl | rfl | rfl
    · exact ha (by omega)
    · exact hb (by omega)
    · exact hc (by omega)
  · intro ⟨h0, h1, h2⟩
    obtain ⟨k0, k1⟩ := hk.1 h0
    exact ⟨k0, k1, h2, fun p => h1 0 (by omega), fun p => h1 1 (by omega), fun p => h1 2 (by omega)⟩

theorem needp_eq (kd a b c k : Int) (p : Nat) : needp ⟨kd, a, b, c, k⟩ p = needp ⟨0, a, b, c, 0⟩ p := rfl

end Go.Proofs.YtmofidaojmiepaaGreatDoor
