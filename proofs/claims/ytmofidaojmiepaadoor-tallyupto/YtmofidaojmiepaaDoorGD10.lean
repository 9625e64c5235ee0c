/-
  MEMORY: the document's world, exactly: Rule, Log.
-/
import Derived.Test.YtmofidaojmiepaaDoorGD9
import Derived.OwnWalk
set_option linter.unusedVariables false
set_option linter.unusedSimpArgs false
namespace Go.Proofs.YtmofidaojmiepaaDoor

open Go.RowKit

attribute [local go_sem ↓] Go.wp_at_zero Go.wp_at_succ

theorem stopH {p : Prop} (h : Hid p) : p := h.out

theorem own_alloc0 {w : World} {base : Nat} {e : TypeId} {size : Nat} {v : Value} {n : Nat} {xs : List Value} (h : w.ownsRow base e size v n xs) (o : Obj) : (w.alloc o).ownsRow base e size v n xs :=
  own_of_block h (fun g _ hlt => Below.heap_alloc w o g hlt)

theorem news3' (w : World) (a b c : Value) (t : TypeId) : ∀ j u, [a, b, c][j]? = some u → (w.alloc (.cells #[a, b, c] t)).cell? ((⟨w.heap.size, 0, none⟩ : Addr).add j) = some u :=
  World.news_of_block (cs := #[a, b, c]) (t := t) (fr := (0, 0)) (by show (w.heap.push _)[w.heap.size]? = _; simp)

theorem grow_below0 {B : Nat} {w1 w2 : World} {o : Obj} {row : Option Nat} (hg : (w1.alloc o).grownBy w2 row) (hB : B ≤ w1.heap.size) (hr : ∀ g, row = some g → B ≤ g) : Below B w1 w2 :=
  Below.grown ((Below.refl B w1).alloc hB o) hg (by show B ≤ (w1.heap.push o).size; simp; omega) hr

theorem evs_at : ∀ (E : List Ev) (i : Nat) (e : Ev), E[i]? = some e → (evs E)[i * 3]? = some (.int .i64 e.t) ∧ (evs E)[i * 3 + 1]? = some (.int .i64 e.r) ∧ (evs E)[i * 3 + 2]? = some (.int .i64 e.l) := by
  intro E
  induction E with
  | nil => intro i e h; simp at h
  | cons a E ih =>
    intro i e h
    rw [evs_cons]
    cases i with
    | zero =>
      simp at h
      subst h
      exact ⟨rfl, rfl, rfl⟩
    | succ i =>
      have h' : E[i]? = some e := by simpa using h
      obtain ⟨h1, h2, h3⟩ := ih i e h'
      refine ⟨?_, ?_, ?_⟩
      · rw [List.getElem?_append_right (by simp; omega)]
        simpa [show (i + 1) * 3 - 3 = i * 3 by omega] using h1
      · rw [List.getElem?_append_right (by simp; omega)]
        simpa [show (i + 1) * 3 + 1 - 3 = i * 3 + 1 by omega] using h2
      · rw [List.getElem?_append_right (by simp; omega)]
        simpa [show (i + 1) * 3 + 2 - 3 = i * 3 + 2 by omega] using h3

/-- A list of events: where it lies, and its cells. -/
theorem own_evs {w : World} {base : Nat} {v : Value} {E : List Ev} (h : w.ownsRow base 101 3 v E.length (evs E)) {i : Nat} {e : Ev} (he : E[i]? = some e) :
    ∃ g cap, v = .slice (some ⟨g, 0, none⟩) E.length cap ∧ g < w.heap.size ∧ i < E.length ∧ w.cell? ⟨g, i * 3, none⟩ = some (.int .i64 e.t) ∧ w.cell? ⟨g, i * 3 + 1, none⟩ = some (.int .i64 e.r) ∧ w.cell? ⟨g, i * 3 + 2, none⟩ = some (.int .i64 e.l) := by
  have hi : i < E.length := by
    rcases Nat.lt_or_ge i E.length with h | h
    · exact h
    · rw [List.getElem?_eq_none h] at he; cases he
  rcases h.2 with ⟨_, h0⟩ | ⟨g, cap, cur, hv, hb, hh, h5, h6, h7, h8⟩
  · omega
  have hlt : g < w.heap.size := by
    rcases Nat.lt_or_ge g w.heap.size with h | h
    · exact h
    · rw [Array.getElem?_eq_none h] at hh; cases hh
  have hcell : ∀ j, j < E.length * 3 → w.cell? ⟨g, j, none⟩ = (evs E)[j]? := fun j hj => by
    have e1 : cur[j]? = (evs E)[j]? := by rw [← h8, List.getElem?_take, if_pos hj]; simp
    simp [World.cell?, hh, e1]
  obtain ⟨e1, e2, e3⟩ := evs_at E i e he
  exact ⟨g, cap, hv, hlt, hi, by rw [hcell _ (by omega), e1], by rw [hcell _ (by omega), e2], by rw [hcell _ (by omega), e3]⟩

/-- P7: the log from a number on, in a list of its own. -/
def LgP (E : List Ev) (x : Int) (w : World) (e : Ending) (w' : World) : Prop := ∃ v, e = .returned v ∧ w'.ownsRow w.heap.size 101 3 v (E.drop x.toNat).length (evs (E.drop x.toNat)) ∧ Below w.heap.size w w'

theorem own_none (w : World) (base : Nat) (t : TypeId) : w.ownsRow base t 3 (.slice none 0 0) 0 [] := ⟨rfl, Or.inl ⟨rfl, rfl⟩⟩

theorem own_len {w : World} {base : Nat} {e : TypeId} {size : Nat} {v : Value} {n : Nat} {xs : List Value} (h : w.ownsRow base e size v n xs) : ∃ a cap, v = .slice a n cap := by
  rcases h.2 with ⟨rfl, rfl⟩ | ⟨g, cap, cur, hv, _⟩
  · exact ⟨_, _, rfl⟩
  · exact ⟨_, _, hv⟩

end Go.Proofs.YtmofidaojmiepaaDoor
