/-
  MEMORY: the document's world, exactly; an event.
-/
import Derived.Test.YtnkolbngeibhpaaDoorH8
set_option linter.unusedVariables false
set_option linter.unusedSimpArgs false
namespace Go.Proofs.YtnkolbngeibhpaaDoor

open Go.RowKit

attribute [local go_sem ↓] Go.wp_at_zero Go.wp_at_succ

/-- A world's places. -/
structure Pl where
  bw : Nat
  bc : Nat
  aO : Option Addr
  cO : Nat
  bh : Nat
  bF : Nat
  cF : Nat
  bS : Nat

def evs (E : List Ev) : List Value := E.flatMap (fun e => [.int .i64 e.t, .int .i64 e.r, .int .i64 e.l])

theorem evs_snoc (E : List Ev) (e : Ev) : evs (E ++ [e]) = evs E ++ [.int .i64 e.t, .int .i64 e.r, .int .i64 e.l] := by unfold evs; rw [List.flatMap_append]; simp

theorem evs_cons (E : List Ev) (e : Ev) : evs (e :: E) = [.int .i64 e.t, .int .i64 e.r, .int .i64 e.l] ++ evs E := by unfold evs; rw [List.flatMap_cons]

theorem evs_length (E : List Ev) : (evs E).length = E.length * 3 := by
  induction E with
  | nil => rfl
  | cons e E ih => rw [evs_cons, List.length_append, ih]; simp; omega

/-- The base of a world: the form in lists of its own. -/
def Base (f : Frm) (p : Pl) (W : World) : Prop := W.rowIs p.bc 82 (f.n * 5) (cellf f.C) ∧ RAt W p.aO f.k f.R ∧ IntsAt W (.slice (some ⟨p.bh, 0, none⟩) f.hol.length f.hol.length) f.hol

/-- What may turn of a world. -/
def Own (p : Pl) (vE : Value) (j : Nat) : Prop := j = p.bw ∨ j = p.bF ∨ j = p.bS ∨ vE.ownBlock = some j
def Own.dec (p : Pl) (vE : Value) (j : Nat) : Decidable (Own p vE j) := inferInstanceAs (Decidable (j = p.bw ∨ j = p.bF ∨ j = p.bS ∨ vE.ownBlock = some j))

theorem own_lt {w : World} {base : Nat} {e : TypeId} {size : Nat} {v : Value} {n : Nat} {xs : List Value} (h : w.ownsRow base e size v n xs) {g : Nat} (hg : v.ownBlock = some g) : g < w.heap.size := by
  rcases h.2 with ⟨hv, _⟩ | ⟨g', cap, cur, hv, hb, hh, _⟩
  · rw [hv] at hg; cases hg
  · rw [hv] at hg
    have e : g' = g := by simpa [Value.ownBlock] using hg
    subst e
    rcases Nat.lt_or_ge g' w.heap.size with h | h
    · exact h
    · rw [Array.getElem?_eq_none h] at hh; cases hh

section

variable {Q : Nat → Prop} {f : Frm} {p : Pl} {F : Nat → Int} {T : Int} {op : Bool} {S : Nat → St} {vE : Value} {E : List Ev} {w : World}

end

/-- What event does: one event more, at the end; of what was there only the world's own block and the log's have turned. -/
def EvP (bw n : Nat) (vE : Value) (xs news : List Value) (w : World) (e : Ending) (w' : World) : Prop :=
  ∃ g cap, e = .returned (.tuple #[]) ∧ w'.ownsRow 0 101 3 (.slice (some ⟨g, 0, none⟩) (n + 1) cap) (n + 1) (xs ++ news) ∧ (vE.ownBlock = some g ∨ w.heap.size ≤ g) ∧ Chg (fun j => j = bw ∨ vE.ownBlock = some j) w w' ∧
    (∀ t N f, w.rowIs bw t N f → w'.rowIs bw t N (fun j => if j = 8 then .slice (some ⟨g, 0, none⟩) (n + 1) cap else f j))

theorem evp_close {bw n g cap : Nat} {vE : Value} {xs news : List Value} {w w1 : World} {o : Obj} (hb : bw < w.heap.size) (hne : vE.ownBlock ≠ some bw)
    (h1 : w1.ownsRow 0 101 3 (.slice (some ⟨g, 0, none⟩) (n + 1) cap) (n + 1) (xs ++ news)) (hg : ((w.alloc o).drew).grownBy w1 vE.ownBlock) (hat : vE.ownBlock = some g ∨ g = w.heap.size + 1) :
    EvP bw n vE xs news w (.returned (.tuple #[])) (w1.setCell ⟨bw, 8, none⟩ (.slice (some ⟨g, 0, none⟩) (n + 1) cap)) := by
  have hbk : w1.heap[bw]? = w.heap[bw]? := ev_far w o hg hb hne
  have hsz := hg.size
  simp at hsz
  have gne : (Value.slice (some ⟨g, 0, none⟩) (n + 1) cap).ownBlock ≠ some bw := by
    show some g ≠ some bw
    intro e
    have e' : g = bw := by simpa using e
    rcases hat with h | h
    · rw [e'] at h; exact hne h
    · omega
  refine ⟨g, cap, rfl, ownsRow_setCell_other h1 gne _, ?_, ⟨hg.os, hg.tape, hg.output, by simp; omega, fun j hj hx => ?_⟩, fun t N f hf => (hf.of_block hbk).set 8 _⟩
  · rcases hat with h | h
    · exact Or.inl h
    · exact Or.inr (by omega)
  · rw [Below.heap_setCell _ _ _ _ (fun e => hx (Or.inl e))]
    exact ev_far w o hg hj (fun e => hx (Or.inr e))

section

variable {Q : Nat → Prop} {f : Frm} {p : Pl} {F : Nat → Int} {T : Int} {op : Bool} {S : Nat → St} {vE : Value} {E : List Ev} {w : World}

/-- The log's room is where it was, or new. -/
def Grew (w : World) (v v' : Value) : Prop := ∀ j, v'.ownBlock = some j → v.ownBlock = some j ∨ w.heap.size ≤ j

theorem Grew.refl (w : World) (v : Value) : Grew w v v := fun _ h => Or.inl h

theorem Grew.trans {w w1 : World} {a b c : Value} (h : Grew w a b) (g : Grew w1 b c) (hs : w.heap.size ≤ w1.heap.size) : Grew w a c := fun j hj => by
  rcases g j hj with e | e
  · exact h j e
  · exact Or.inr (by omega)

theorem Own.grew {w : World} {p : Pl} {v v' : Value} (g : Grew w v v') : ∀ j, j < w.heap.size → Own p v' j → Own p v j := fun j hj hx => by
  rcases hx with h | h | h | h
  · exact Or.inl h
  · exact Or.inr (Or.inl h)
  · exact Or.inr (Or.inr (Or.inl h))
  · rcases g j h with e | e
    · exact Or.inr (Or.inr (Or.inr e))
    · omega

end

end Go.Proofs.YtnkolbngeibhpaaDoor

/-
  MEMORY: the document's world, exactly: values, Value.
-/
set_option linter.unusedVariables false
set_option linter.unusedSimpArgs false
namespace Go.Proofs.YtnkolbngeibhpaaDoor

open Go.RowKit

attribute [local go_sem ↓] Go.wp_at_zero Go.wp_at_succ

/-- The values, in a list of their own. -/
def VlPost (f : Frm) (F : Nat → Int) (T : Int) (w : World) (e : Ending) (w' : World) : Prop :=
  ∃ b, e = .returned (.slice (some ⟨b, 0, none⟩) f.n f.n) ∧ w.heap.size ≤ b ∧ w'.rowIs b 3 f.n (fun i => .int .i64 (f.vals F T i)) ∧ Below w.heap.size w w'

theorem vl_of {f : Frm} (hf : f.Ok) {F : Nat → Int} (hF : FV f F) {T : Int} {w w' : World} {e : Ending} (h : ValPost (effC f.C F) f.n f.week f.hol T w e w') : VlPost f F T w e w' := by
  obtain ⟨b, V, h1, h2, h3, h4, _, h6⟩ := h
  exact ⟨b, h1, h2, h3.congr (fun i hi => by show Value.int .i64 (V i) = _; rw [vals_eq hf hF h4 i hi]), h6⟩

section

variable {Q : Nat → Prop} {f : Frm} {p : Pl} {F : Nat → Int} {T : Int} {op : Bool} {S : Nat → St} {vE : Value} {E : List Ev} {w : World}

end

/-- What Value answers: P4. -/
def valV (f : Frm) (F : Nat → Int) (T : Int) (c : Int) : Int := if 0 ≤ c ∧ c < f.n then f.vals F T c.toNat else 0

def valE (f : Frm) (c : Int) : Int := if 0 ≤ c ∧ c < f.n then 0 else 6

def VAns (f : Frm) (F : Nat → Int) (T : Int) (c : Int) (w : World) (e : Ending) (w' : World) : Prop := e = .returned (.tuple #[.int .i64 (valV f F T c), .int .i64 (valE f c)]) ∧ Below w.heap.size w w'

theorem vans_no {f : Frm} {F : Nat → Int} {T c : Int} {w w' : World} (h : ¬ (0 ≤ c ∧ c < f.n)) (hb : Below w.heap.size w w') : VAns f F T c w (.returned (.tuple #[.int .i64 0, .int .i64 6])) w' := ⟨by unfold valV valE; rw [if_neg h, if_neg h], hb⟩

theorem vans_yes {f : Frm} {F : Nat → Int} {T : Int} {i : Nat} {w w' : World} (h : i < f.n) (hb : Below w.heap.size w w') : VAns f F T i w (.returned (.tuple #[.int .i64 (f.vals F T i), .int .i64 0])) w' := ⟨by unfold valV valE; rw [if_pos (by omega), if_pos (by omega)]; rfl, hb⟩

section

variable {Q : Nat → Prop} {f : Frm} {p : Pl} {F : Nat → Int} {T : Int} {op : Bool} {S : Nat → St} {vE : Value} {E : List Ev} {w : World}

end

end Go.Proofs.YtnkolbngeibhpaaDoor
