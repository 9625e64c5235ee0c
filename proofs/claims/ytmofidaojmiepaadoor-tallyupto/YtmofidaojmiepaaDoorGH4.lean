/-
  MEMORY: what was handed in is written over.
-/
import Derived.Test.YtmofidaojmiepaaDoorGH3
set_option linter.unusedVariables false
set_option linter.unusedSimpArgs false
namespace Go.Proofs.YtmofidaojmiepaaDoor

open Go.RowKit

/-- Only blocks from lo on and below hi, and new ones, have turned. -/
structure Rng (lo hi : Nat) (w w' : World) : Prop where
  bel : Below lo w w'
  up : ∀ k, hi ≤ k → k < w.heap.size → w'.heap[k]? = w.heap[k]?

theorem Rng.refl (lo hi : Nat) (w : World) : Rng lo hi w w := ⟨Below.refl _ _, fun _ _ _ => rfl⟩

theorem Rng.trans {lo hi : Nat} {a b c : World} (h : Rng lo hi a b) (g : Rng lo hi b c) : Rng lo hi a c :=
  ⟨h.bel.trans g.bel, fun k h1 h2 => (g.up k h1 (by have := h.bel.size; omega)).trans (h.up k h1 h2)⟩

theorem Rng.setCell {lo hi b o : Nat} {a w : World} (h : Rng lo hi a w) (h1 : lo ≤ b) (h2 : b < hi) (v : Value) : Rng lo hi a (w.setCell ⟨b, o, none⟩ v) :=
  ⟨h.bel.setCell h1 v, fun k g1 g2 => (Below.heap_setCell _ _ _ _ (by show k ≠ b; omega)).trans (h.up k g1 g2)⟩

theorem Rng.alloc {lo hi : Nat} {a w : World} (h : Rng lo hi a w) (h1 : lo ≤ w.heap.size) (o : Obj) : Rng lo hi a (w.alloc o) :=
  ⟨h.bel.alloc h1 o, fun k g1 g2 => (Below.heap_alloc _ _ _ (by have := h.bel.size; omega)).trans (h.up k g1 g2)⟩

/-- A row of numbers, whichever. -/
def Row3 (w : World) (b n : Nat) : Prop := ∃ f : Nat → Int, w.rowIs b 3 n (fun j => .int .i64 (f j))

theorem Row3.set {w : World} {b n o b' : Nat} {v : Int} (h : Row3 w b n) : Row3 (w.setCell ⟨b', o, none⟩ (.int .i64 v)) b n := by
  obtain ⟨f, h⟩ := h
  by_cases e : b = b'
  · subst e
    exact ⟨upd f o v, (h.set o _).congr (fun j _ => by unfold upd; split <;> rfl)⟩
  · exact ⟨f, h.setOther e _⟩

theorem intSp_row {w : World} {b : Nat} {l : List Int} (h : w.rowIs b 3 (l.length + 8) (intSp l)) : Row3 w b (l.length + 8) := ⟨_, h⟩

/-- What blotInts does: one row of numbers is written over. -/
def BlotPost (b : Nat) (w : World) (e : Ending) (w' : World) : Prop :=
  e = .returned (.tuple #[]) ∧ w'.heap.size = w.heap.size ∧ Rng b (b + 1) w w' ∧ (∀ b' n, Row3 w b' n → Row3 w' b' n)

theorem row3_alloc {w : World} {b n : Nat} (h : Row3 w b n) (o : Obj) : Row3 (w.alloc o) b n := by
  obtain ⟨f, hf⟩ := h
  exact ⟨f, hf.alloc _⟩

theorem rng_of_blot {lo hi b : Nat} {a w w' : World} (h : Rng lo hi a w) (g : Rng b (b + 1) w w') (h1 : lo ≤ b) (h2 : b < hi) : Rng lo hi a w' :=
  ⟨h.bel.trans (g.bel.mono h1), fun k k1 k2 => (g.up k (by omega) (by have := h.bel.size; omega)).trans (h.up k k1 k2)⟩

def blotR (R : Nat → Rul) (bs : Nat → Nat) (k i j : Nat) : Value := if j < i * 2 then (if j % 2 = 0 then .int .i64 (-7) else .slice none 0 0) else ruleSt R bs k 8 j

theorem blotR_next {w : World} {R : Nat → Rul} {bs : Nat → Nat} {k i b N : Nat} (h : w.rowIs b 86 N (blotR R bs k i)) : ((w.setCell ⟨b, i * 2, none⟩ (.int .i64 (-7))).setCell ⟨b, i * 2 + 1, none⟩ (.slice none 0 0)).rowIs b 86 N (blotR R bs k (i + 1)) :=
  ((h.set _ _).set _ _).congr (fun j _ => by
    unfold blotR
    by_cases h1 : j = i * 2 + 1
    · rw [if_pos h1, if_pos (by omega), if_neg (by omega)]
    · rw [if_neg h1]
      by_cases h2 : j = i * 2
      · rw [if_pos h2, if_pos (by omega), if_pos (by omega)]
      · rw [if_neg h2]
        by_cases h3 : j < i * 2
        · simp only [h3, if_true, show j < (i + 1) * 2 by omega]
        · simp only [h3, if_false, show ¬ j < (i + 1) * 2 by omega])

end Go.Proofs.YtmofidaojmiepaaDoor
