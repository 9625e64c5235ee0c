/-
  MEMORY: the document's world, exactly: settle.
-/
import Derived.Test.YtmofidaojmiepaaDoorGD3
set_option linter.unusedVariables false
set_option linter.unusedSimpArgs false
namespace Go.Proofs.YtmofidaojmiepaaDoor

open Go.RowKit

attribute [local go_sem ↓] Go.wp_at_zero Go.wp_at_succ

theorem st_dark {r : Rul} {s : St} {g t : Int} {i : Nat} (h : g = 0) : stepSt r s g t = ⟨false, 0, 0, false⟩ ∧ stepEv r s g t i = [] := by unfold stepSt stepEv; rw [if_pos h, if_pos h]; exact ⟨rfl, rfl⟩

theorem st_new {r : Rul} {s : St} {g t : Int} {i : Nat} (h : g ≠ 0) (hl : s.lit = false) : stepSt r s g t = ⟨true, t, 0, false⟩ ∧ stepEv r s g t i = [⟨t, i, 0⟩] := by unfold stepSt stepEv; rw [if_neg h, if_neg h, if_pos hl, if_pos hl]; exact ⟨rfl, rfl⟩

theorem st_lev {r : Rul} {s : St} {g t : Int} {i : Nat} (h : g ≠ 0) (hl : s.lit = true) (hc : s.level < r.steps.length ∧ s.acked = false ∧ t = s.since + r.steps.getD s.level.toNat 0) : stepSt r s g t = ⟨s.lit, s.since, s.level + 1, s.acked⟩ ∧ stepEv r s g t i = [⟨t, i, s.level + 1⟩] := by
  have hl' : ¬ s.lit = false := by simp [hl]
  unfold stepSt stepEv; rw [if_neg h, if_neg h, if_neg hl', if_neg hl', if_pos hc, if_pos hc]; exact ⟨rfl, rfl⟩

theorem st_idle {r : Rul} {s : St} {g t : Int} {i : Nat} (h : g ≠ 0) (hl : s.lit = true) (hc : ¬ (s.level < r.steps.length ∧ s.acked = false ∧ t = s.since + r.steps.getD s.level.toNat 0)) : stepSt r s g t = s ∧ stepEv r s g t i = [] := by
  have hl' : ¬ s.lit = false := by simp [hl]
  unfold stepSt stepEv; rw [if_neg h, if_neg h, if_neg hl', if_neg hl', if_neg hc, if_neg hc]; exact ⟨rfl, rfl⟩

/-- The first i rules have settled. -/
def Par (f : Frm) (V : Nat → Int) (T : Int) (S : Nat → St) (E : List Ev) (i : Nat) (S' : Nat → St) (E' : List Ev) : Prop :=
  (∀ j, S' j = if j < i then stepSt (f.R j) (S j) (grd f.R V j) T else S j) ∧ E' = E ++ (List.range i).flatMap (fun j => stepEv (f.R j) (S j) (grd f.R V j) T j)

theorem Par.start (f : Frm) (V : Nat → Int) (T : Int) (S : Nat → St) (E : List Ev) : Par f V T S E 0 S E := ⟨fun j => (if_neg (by omega)).symm, by simp⟩

theorem Par.here {f : Frm} {V : Nat → Int} {T : Int} {S : Nat → St} {E : List Ev} {i : Nat} {S' : Nat → St} {E' : List Ev} (h : Par f V T S E i S' E') : S' i = S i := by rw [h.1, if_neg (by omega)]

theorem Par.len {f : Frm} {V : Nat → Int} {T : Int} {S : Nat → St} {E : List Ev} {i : Nat} {S' : Nat → St} {E' : List Ev} (h : Par f V T S E i S' E') : E'.length ≤ E.length + i := by
  rw [h.2, List.length_append]
  have := flat_len (g := fun j => stepEv (f.R j) (S j) (grd f.R V j) T j) (fun j => stepEv_len _ _ _ _ _) i
  omega

theorem Par.next {f : Frm} {V : Nat → Int} {T : Int} {S : Nat → St} {E : List Ev} {i : Nat} {S' : Nat → St} {E' : List Ev} (h : Par f V T S E i S' E') {s : St} {l : List Ev} (hs : stepSt (f.R i) (S' i) (grd f.R V i) T = s ∧ stepEv (f.R i) (S' i) (grd f.R V i) T i = l) : Par f V T S E (i + 1) (upd S' i s) (E' ++ l) := by
  have hh := h.here
  rw [hh] at hs
  refine ⟨fun j => ?_, ?_⟩
  · by_cases e : j = i
    · subst e; rw [upd_same, if_pos (by omega)]; exact hs.1.symm
    · rw [upd_other _ _ e, h.1]
      by_cases hj : j < i
      · rw [if_pos hj, if_pos (by omega)]
      · rw [if_neg hj, if_neg (by omega)]
  · rw [h.2, List.range_succ, List.flatMap_append, List.append_assoc, ← hs.2]
    simp

theorem Par.same {f : Frm} {V : Nat → Int} {T : Int} {S : Nat → St} {E : List Ev} {i : Nat} {S' : Nat → St} {E' : List Ev} (h : Par f V T S E i S' E') (hs : stepSt (f.R i) (S' i) (grd f.R V i) T = S' i ∧ stepEv (f.R i) (S' i) (grd f.R V i) T i = []) : Par f V T S E (i + 1) S' E' := by
  have := h.next hs
  rw [List.append_nil] at this
  have e : upd S' i (S' i) = S' := by
    funext j
    by_cases e : j = i
    · subst e; rw [upd_same]
    · rw [upd_other _ _ e]
  rw [e] at this
  exact this

/-- What has turned, and the log's room. -/
def Gone (p : Pl) (vE vE' : Value) (w w' : World) : Prop := Chg (Own p vE) w w' ∧ Grew w vE vE'

theorem Gone.low {p : Pl} {vE vE' : Value} {w w1 w2 : World} (h : Gone p vE vE' w w1) (g : Below w1.heap.size w1 w2) : Gone p vE vE' w w2 := ⟨h.1.low g, h.2⟩

theorem Gone.setS {p : Pl} {vE vE' : Value} {w w1 : World} (h : Gone p vE vE' w w1) (q : Nat) (v : Value) : Gone p vE vE' w (w1.setCell ⟨p.bS, q, none⟩ v) := ⟨h.1.setCell _ _ (Or.inr (Or.inr (Or.inl rfl))), h.2⟩

theorem Gone.drew {p : Pl} {vE vE' : Value} {w w1 : World} (h : Gone p vE vE' w w1) : Gone p vE vE' w w1.drew := ⟨h.1.drew, h.2⟩

theorem Gone.drewN {p : Pl} {vE vE' : Value} {w w1 : World} (h : Gone p vE vE' w w1) (q : Nat) : Gone p vE vE' w (w1.drewN q) := ⟨h.1.drewN q, h.2⟩

theorem Gone.trans {p : Pl} {vE vE' vE2 : Value} {w w1 w2 : World} (h : Gone p vE vE' w w1) (g : Gone p vE' vE2 w1 w2) : Gone p vE vE2 w w2 := ⟨h.1.trans g.1 (Own.grew h.2), h.2.trans g.2 h.1.size⟩

/-- A row that is none of the world's own stands. -/
theorem Gone.row {p : Pl} {vE vE' : Value} {w w1 : World} (h : Gone p vE vE' w w1) {b t l : Nat} {g : Nat → Value} (hr : w.rowIs b t l g) (hb : ¬ Own p vE b) : w1.rowIs b t l g := hr.of_block (h.1.block b hr.lt hb)

end Go.Proofs.YtmofidaojmiepaaDoor
