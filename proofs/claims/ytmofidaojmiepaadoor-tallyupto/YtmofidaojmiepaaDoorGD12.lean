/-
  MEMORY: the document's world, exactly: Fork.
-/
import Derived.Test.YtmofidaojmiepaaDoorGD11
set_option linter.unusedVariables false
set_option linter.unusedSimpArgs false
namespace Go.Proofs.YtmofidaojmiepaaDoor

open Go.RowKit

attribute [local go_sem ↓] Go.wp_at_zero Go.wp_at_succ

/-- A row that holds a list of events owns it. -/
theorem own_of_row {w : World} {b n : Nat} {E : List Ev} {t : TypeId} {g : Nat → Value} (hr : w.rowIs b t (n * 3) g) (hn : n = E.length) (hm : n ≤ maxLen) (hg : ∀ j, j < n * 3 → (evs E)[j]? = some (g j)) : w.ownsRow 0 t 3 (.slice (some ⟨b, 0, none⟩) n n) E.length (evs E) := by
  subst hn
  obtain ⟨c, h1, h2, h3⟩ := hr
  refine ⟨evs_length E, Or.inr ⟨b, E.length, c, rfl, Nat.zero_le _, h1, Nat.le_refl _, hm, h2, ?_⟩⟩
  apply List.ext_getElem?
  intro j
  by_cases hj : j < E.length * 3
  · rw [List.getElem?_take, if_pos hj, hg j hj]
    have := h3 j (by omega)
    simpa using this
  · rw [List.getElem?_eq_none (by simp; omega), List.getElem?_eq_none (by rw [evs_length]; omega)]

def evf (E : List Ev) (j : Nat) : Value := (evs E).getD j undef

theorem evf_one (E : List Ev) : ∀ j, j < E.length * 3 → (evf E j).oneCell' = true := by
  intro j hj
  have hi : j / 3 < E.length := by omega
  obtain ⟨e1, e2, e3⟩ := evs_at E (j / 3) (E[j / 3]) (List.getElem?_eq_getElem hi)
  unfold evf
  have hc : j = j / 3 * 3 ∨ j = j / 3 * 3 + 1 ∨ j = j / 3 * 3 + 2 := by omega
  rw [List.getD_eq_getElem?_getD]
  rcases hc with h | h | h
  · rw [h, e1]; rfl
  · rw [h, e2]; rfl
  · rw [h, e3]; rfl

theorem evf_at (E : List Ev) (j : Nat) (hj : j < E.length * 3) : (evs E)[j]? = some (evf E j) := by
  unfold evf
  rw [List.getD_eq_getElem?_getD, List.getElem?_eq_getElem (by rw [evs_length]; exact hj)]
  rfl

theorem sizeS : (Tryd.prog.info? 80).map (·.size) = some 4 := by kernel_rfl

theorem sizeE : (Tryd.prog.info? 101).map (·.size) = some 3 := by kernel_rfl

theorem stf_one (S : Nat → St) (j : Nat) : (stf S j).oneCell' = true := by
  unfold stf
  split
  · rfl
  split
  · rfl
  split <;> rfl

/-- Where a list of events lies. -/
theorem own_src {w : World} {base : Nat} {t : TypeId} {a : Option Addr} {cap : Nat} {E : List Ev} (h : w.ownsRow base t 3 (.slice a E.length cap) E.length (evs E)) : E.length * 3 = 0 ∨ ∃ b o, a = some ⟨b, o, none⟩ ∧ ∀ j, j < E.length * 3 → w.cell? ⟨b, o + j, none⟩ = some (evf E j) := by
  rcases h.2 with ⟨_, h0⟩ | ⟨g, cap', cur, hv, hb, hh, h5, h6, h7, h8⟩
  · exact Or.inl (by omega)
  · simp at hv
    refine Or.inr ⟨g, 0, hv.1, fun j hj => ?_⟩
    have e1 : cur[j]? = (evs E)[j]? := by rw [← h8, List.getElem?_take, if_pos hj]; simp
    rw [Nat.zero_add]
    simp [World.cell?, hh, e1, evf_at E j hj]

theorem ev_made {W : World} (n : Nat) : (W.alloc (.cells (madeCells #[.int .i64 0, .int .i64 0, .int .i64 0] (n * 3)) 101)).rowIs W.heap.size 101 (n * 3) (fun _ => .int .i64 0) := by
  have h := row_made (w := W) (z := .agg #[.int .i64 0, .int .i64 0, .int .i64 0]) (n := n) (sz := 3) (e := 101) rfl (fun _ => .int .i64 0) (fun j _ => by
    have hs : ((Value.agg #[.int .i64 0, .int .i64 0, .int .i64 0]).cells).size = 3 := rfl
    rw [hs]
    have hc : j % 3 = 0 ∨ j % 3 = 1 ∨ j % 3 = 2 := by omega
    rcases hc with e | e | e <;> simp only [e] <;> rfl)
  exact h

end Go.Proofs.YtmofidaojmiepaaDoor
