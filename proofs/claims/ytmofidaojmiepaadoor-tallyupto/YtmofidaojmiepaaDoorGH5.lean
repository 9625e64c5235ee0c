/-
  MEMORY: the document's world: an event.
-/
import Derived.Test.YtmofidaojmiepaaDoorGH4
import Derived.Deep.AppendLies
import Derived.Deep.RegionLaw
set_option linter.unusedVariables false
set_option linter.unusedSimpArgs false
namespace Go.Proofs.YtmofidaojmiepaaDoor

open Go.RowKit

attribute [local go_sem ↓] Go.wp_at_zero Go.wp_at_succ

theorem info101 : (Tryd.prog.info? 101).map (fun i => (i.zero, i.size, i.bytes)) = some (some (.agg #[.int .i64 0, .int .i64 0, .int .i64 0]), 3, 24) := by kernel_rfl

theorem own_of_block {w w' : World} {base : Nat} {e : TypeId} {size : Nat} {v : Value} {n : Nat} {xs : List Value} (h : w.ownsRow base e size v n xs) (hb : ∀ g, v.ownBlock = some g → g < w.heap.size → w'.heap[g]? = w.heap[g]?) : w'.ownsRow base e size v n xs := by
  obtain ⟨h1, h2⟩ := h
  refine ⟨h1, ?_⟩
  rcases h2 with h2 | ⟨g, cap, cur, hv, hg, hh, r⟩
  · exact Or.inl h2
  · have hlt : g < w.heap.size := by
      rcases Nat.lt_or_ge g w.heap.size with h | h
      · exact h
      · rw [Array.getElem?_eq_none h] at hh; cases hh
    exact Or.inr ⟨g, cap, cur, hv, hg, by rw [hb g (by rw [hv]; rfl) hlt]; exact hh, r⟩

theorem own_alloc_drew {w : World} {base : Nat} {e : TypeId} {size : Nat} {v : Value} {n : Nat} {xs : List Value} (h : w.ownsRow base e size v n xs) (o : Obj) : (w.alloc o).drew.ownsRow base e size v n xs :=
  own_of_block h (fun g _ hlt => Below.heap_alloc w o g hlt)

theorem news3 (w : World) (a b c : Value) (t : TypeId) : ∀ j u, [a, b, c][j]? = some u → (w.alloc (.cells #[a, b, c] t)).drew.cell? ((⟨w.heap.size, 0, none⟩ : Addr).add j) = some u :=
  World.news_of_block (cs := #[a, b, c]) (t := t) (fr := (0, 0)) (by show (w.heap.push _)[w.heap.size]? = _; simp)

theorem own_base {w : World} {base : Nat} {e : TypeId} {size : Nat} {v : Value} {n : Nat} {xs : List Value} (h : w.ownsRow base e size v n xs) {g : Nat} (hg : v.ownBlock = some g) : base ≤ g := by
  rcases h.2 with ⟨hv, _⟩ | ⟨g', cap, cur, hv, hb, _⟩
  · rw [hv] at hg; cases hg
  · rw [hv] at hg
    have : g' = g := by simpa [Value.ownBlock] using hg
    omega

theorem ev_far (w : World) {w1 : World} {row : Option Nat} (o : Obj) (h : ((w.alloc o).drew).grownBy w1 row) {k : Nat} (hk : k < w.heap.size) (hr : row ≠ some k) : w1.heap[k]? = w.heap[k]? :=
  (h.block k (by show k < (w.heap.push o).size; simp; omega) (fun e => hr e.symm)).trans (Below.heap_alloc w o k hk)

/-- What event does: one event more; of what was there only the world's own place for the log, and the log's own room, have turned. -/
def EvPost (bw base n : Nat) (vE : Value) (w : World) (e : Ending) (w' : World) : Prop :=
  ∃ v' xs', e = .returned (.tuple #[]) ∧ w'.ownsRow base 101 3 v' (n + 1) xs' ∧ w.heap.size ≤ w'.heap.size ∧ w'.os = w.os ∧ w'.tape = w.tape ∧ w'.output = w.output ∧
    (∀ k, k < w.heap.size → k ≠ bw → vE.ownBlock ≠ some k → w'.heap[k]? = w.heap[k]?) ∧ (∀ t N f, w.rowIs bw t N f → w'.rowIs bw t N (fun j => if j = 8 then v' else f j))

theorem ev_close {bw base n g cap : Nat} {vE : Value} {xs xs' : List Value} {w w1 : World} {o : Obj} (hb : bw < base) (hB : base ≤ w.heap.size) (hown : w.ownsRow base 101 3 vE n xs)
    (h1 : w1.ownsRow base 101 3 (.slice (some ⟨g, 0, none⟩) (n + 1) cap) (n + 1) xs') (hg : ((w.alloc o).drew).grownBy w1 vE.ownBlock) (_hlt : g < w1.heap.size) :
    EvPost bw base n vE w (.returned (.tuple #[])) (w1.setCell ⟨bw, 8, none⟩ (.slice (some ⟨g, 0, none⟩) (n + 1) cap)) := by
  have hne : vE.ownBlock ≠ some bw := fun e => by have := own_base hown e; omega
  have hgb : base ≤ g := own_base h1 rfl
  have hbk : w1.heap[bw]? = w.heap[bw]? := ev_far w o hg (by omega) hne
  have hsz := hg.size
  simp at hsz
  refine ⟨_, xs', rfl, ownsRow_setCell_below h1 (show bw < base from hb) _, by simp; omega, hg.os, hg.tape, hg.output, fun k k1 k2 k3 => ?_, fun t N f hf => (hf.of_block hbk).set 8 _⟩
  rw [Below.heap_setCell _ _ _ _ (show k ≠ bw from k2)]
  exact ev_far w o hg k1 k3

end Go.Proofs.YtmofidaojmiepaaDoor

/-
  MEMORY: the document's own copy of a form.
-/
set_option linter.unusedVariables false
set_option linter.unusedSimpArgs false
namespace Go.Proofs.YtmofidaojmiepaaDoor

open Go.RowKit

attribute [local go_sem ↓] Go.wp_at_zero Go.wp_at_succ

/-- What copied answers. -/
def CopPost (l : List Int) (w : World) (e : Ending) (w' : World) : Prop :=
  ∃ b, e = .returned (.slice (some ⟨b, 0, none⟩) l.length l.length) ∧ w.heap.size ≤ b ∧ w'.rowIs b 3 l.length (fun j => .int .i64 (l.getD j 0)) ∧ Below w.heap.size w w'

theorem row_ints {w : World} {b : Nat} {l : List Int} {cap : Nat} (h : w.rowIs b 3 l.length (fun j => .int .i64 (l.getD j 0))) : IntsAt w (.slice (some ⟨b, 0, none⟩) l.length cap) l :=
  ⟨some ⟨b, 0, none⟩, cap, rfl, fun j hj => ⟨b, 0, rfl, h.lt, by rw [Nat.zero_add]; exact h.cell (by omega)⟩⟩

/-- A rule of the own copy. -/
def ruleOwn (R : Nat → Rul) (bs : Nat → Nat) (j : Nat) : Value := if j % 2 = 0 then .int .i64 (R (j / 2)).guard else .slice (some ⟨bs (j / 2), 0, none⟩) (R (j / 2)).steps.length (R (j / 2)).steps.length

/-- The list of rules, as far as it is laid. -/
def RulL (w : World) (base : Nat) (R : Nat → Rul) (bs : Nat → Nat) (m : Nat) (v : Value) : Prop :=
  ∃ xs, w.ownsRow base 86 2 v m xs ∧ ∀ j, j < m * 2 → xs[j]? = some (ruleOwn R bs j)

theorem own_ne_row {w : World} {base : Nat} {e t : TypeId} {size : Nat} {v : Value} {n N : Nat} {xs : List Value} {f : Nat → Value} {b : Nat} (h : w.ownsRow base e size v n xs) (g : w.rowIs b t N f) (hne : t ≠ e) : v.ownBlock ≠ some b := by
  intro hv
  rcases h.2 with ⟨h1, _⟩ | ⟨g', cap, cur, h1, _, hh, _⟩
  · rw [h1] at hv; cases hv
  · rw [h1] at hv
    have e1 : g' = b := by simpa [Value.ownBlock] using hv
    subst e1
    obtain ⟨c, hc, _⟩ := g
    rw [hh] at hc
    simp at hc
    exact hne hc.2.symm

theorem RulL.at {w : World} {base : Nat} {R : Nat → Rul} {bs : Nat → Nat} {m : Nat} {v : Value} (h : RulL w base R bs m v) (hs : ∀ i, i < m → w.rowIs (bs i) 3 (R i).steps.length (fun j => .int .i64 ((R i).steps.getD j 0))) (hl : ∀ i, i < m → (R i).steps.length ≤ 1000000000) :
    ∃ a cap, v = .slice a m cap ∧ RAt w a m R := by
  obtain ⟨xs, ⟨h1, h2⟩, hx⟩ := h
  rcases h2 with ⟨h2, rfl⟩ | ⟨g, cap, cur, h2, h3, h4, h5, h6, h7, h8⟩
  · exact ⟨none, 0, h2, Or.inl rfl⟩
  · refine ⟨some ⟨g, 0, none⟩, cap, h2, ?_⟩
    by_cases m0 : m = 0
    · exact Or.inl m0
    have hlt : g < w.heap.size := by
      rcases Nat.lt_or_ge g w.heap.size with h | h
      · exact h
      · rw [Array.getElem?_eq_none h] at h4; cases h4
    have hcell : ∀ j, j < m * 2 → w.cell? ⟨g, j, none⟩ = some (ruleOwn R bs j) := fun j hj => by
      have e : cur[j]? = xs[j]? := by
        rw [← h8, List.getElem?_take, if_pos hj]; simp
      simp [World.cell?, h4, e, hx j hj]
    refine Or.inr ⟨g, 0, rfl, hlt, fun i hi => ⟨?_, some ⟨bs i, 0, none⟩, (R i).steps.length, ?_, row_ints (hs i hi), hl i hi⟩⟩
    · rw [Nat.zero_add, hcell _ (by omega)]; unfold ruleOwn; rw [if_pos (by omega), show i * 2 / 2 = i by omega]
    · rw [Nat.zero_add, hcell _ (by omega)]; unfold ruleOwn; rw [if_neg (by omega), show (i * 2 + 1) / 2 = i by omega]

end Go.Proofs.YtmofidaojmiepaaDoor
