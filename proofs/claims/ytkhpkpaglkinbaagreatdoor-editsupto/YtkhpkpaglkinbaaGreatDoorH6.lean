/-
  MEMORY: the document's own copy of a form.
-/
import Derived.Test.YtkhpkpaglkinbaaGreatDoorH5
set_option linter.unusedVariables false
set_option linter.unusedSimpArgs false
namespace Go.Proofs.YtkhpkpaglkinbaaGreatDoor
open Go.RowKit
attribute [local go_sem ↓] Go.wp_at_zero Go.wp_at_succ

/-- What copied answers. -/
def CopPost (l : List Int) (w : World) (e : Ending) (w' : World) : Prop :=
  ∃ b, e = .returned (.slice (some ⟨b, 0, none⟩) l.length l.length) ∧ w.heap.size ≤ b ∧ w'.rowIs b 3 l.length (fun j => .int .i64 (l.getD j 0)) ∧ Below w.heap.size w w'

set_option maxHeartbeats 800000 in
theorem copied_any (l : List Int) (a : Option Addr) (cap : Nat) (w : World) (hl : l.length ≤ 1000000000) (hc : IntsAt w (.slice a l.length cap) l) :
    Calls Tryz.prog 65 #[.slice a l.length cap] w fun e w' => CopPost l w e w' := by
  have HC := (show Hid _ from IntsAt.cases hc)
  clear hc
  have mk3 := run_make_row' (P := Tryz.prog) 24 3 (.int .i64 0) 8 Tryz.underlying24 info3 rfl .i64 .i64 l.length (by omega) (by omega)
  obtain ⟨W2, hrun, hrow, hsz, ho1, ho2, ho3, hoth⟩ := run_copy_is (P := Tryz.prog) (w.alloc (.cells (madeCells #[.int .i64 0] l.length) 3)) 24 24 3 3 1 w.heap.size l.length l.length l.length 3 (fun _ => .int .i64 0) a l.length cap (fun j => .int .i64 (l.getD j 0))
    Tryz.underlying24 size3 (World.rowIs_made _ _ _ _) (by omega) (by omega) (by
      rcases HC.out with h0 | ⟨b, off, rfl, hb, hcell⟩
      · exact Or.inl (by omega)
      · exact Or.inr ⟨b, off, rfl, fun j hj => by rw [World.cell?_alloc_lt (h := hb)]; exact hcell j (by omega)⟩) (fun j _ => rfl)
  have HROW : Hid (W2.rowIs w.heap.size 3 l.length (fun j => .int .i64 (l.getD j 0))) := hrow.congr (fun j hj => by rw [Nat.mul_one, if_pos hj])
  have HBEL : Hid (Below w.heap.size w W2) := ((Below.refl _ _).alloc (Nat.le_refl _) _).trans ⟨ho1, ho2, ho3, by omega, fun k hk => hoth k (by omega)⟩
  clear hrow hsz ho1 ho2 ho3 hoth
  go_enter Tryz.func65, Tryz.ntmps65
  go_wp2
  go_ret
  exact ⟨w.heap.size, rfl, Nat.le_refl _, HROW.out, HBEL.out⟩

theorem row_ints {w : World} {b : Nat} {l : List Int} {cap : Nat} (h : w.rowIs b 3 l.length (fun j => .int .i64 (l.getD j 0))) : IntsAt w (.slice (some ⟨b, 0, none⟩) l.length cap) l :=
  ⟨some ⟨b, 0, none⟩, cap, rfl, fun j hj => ⟨b, 0, rfl, h.lt, by rw [Nat.zero_add]; exact h.cell (by omega)⟩⟩

/-- A rule of the own copy. -/
def ruleOwn (R : Nat → Rul) (bs : Nat → Nat) (j : Nat) : Value := if j % 2 = 0 then .int .i64 (R (j / 2)).guard else .slice (some ⟨bs (j / 2), 0, none⟩) (R (j / 2)).steps.length (R (j / 2)).steps.length

/-- The list of rules, as far as it is laid. -/
def RulL (w : World) (base : Nat) (R : Nat → Rul) (bs : Nat → Nat) (m : Nat) (v : Value) : Prop :=
  ∃ xs, w.ownsRow base 80 2 v m xs ∧ ∀ j, j < m * 2 → xs[j]? = some (ruleOwn R bs j)

theorem own_ne_row {w : World} {base : Nat} {e t : TypeId} {size : Nat} {v : Value} {n N : Nat} {xs : List Value} {f : Nat → Value} {b : Nat} (h : w.ownsRow base e size v n xs) (g : w.rowIs b t N f) (hne : t ≠ e) : v.ownBlock ≠ some b := by
  intro hv
  rcases h.2 with ⟨h1, _⟩ | ⟨g', cap, cur, h1, _, hh, _⟩
  · rw [h1] at hv; cases hv
  · rw [h1] at hv
    have e1 : g' = b := by simpa [Value.ownBlock] using hv
    subst e1
    obtain ⟨c, hc, _⟩ := g
    rw [hh] at hc
    simp at hc
    exact hne hc.2.symm

theorem RulL.at {w : World} {base : Nat} {R : Nat → Rul} {bs : Nat → Nat} {m : Nat} {v : Value} (h : RulL w base R bs m v) (hs : ∀ i, i < m → w.rowIs (bs i) 3 (R i).steps.length (fun j => .int .i64 ((R i).steps.getD j 0))) (hl : ∀ i, i < m → (R i).steps.length ≤ 1000000000) :
    ∃ a cap, v = .slice a m cap ∧ RAt w a m R := by
  obtain ⟨xs, ⟨h1, h2⟩, hx⟩ := h
  rcases h2 with ⟨h2, rfl⟩ | ⟨g, cap, cur, h2, h3, h4, h5, h6, h7, h8⟩
  · exact ⟨none, 0, h2, Or.inl rfl⟩
  · refine ⟨some ⟨g, 0, none⟩, cap, h2, ?_⟩
    by_cases m0 : m = 0
    · exact Or.inl m0
    have hlt : g < w.heap.size := by
      rcases Nat.lt_or_ge g w.heap.size with h | h
      · exact h
      · rw [Array.getElem?_eq_none h] at h4; cases h4
    have hcell : ∀ j, j < m * 2 → w.cell? ⟨g, j, none⟩ = some (ruleOwn R bs j) := fun j hj => by
      have e : cur[j]? = xs[j]? := by
        rw [← h8, List.getElem?_take, if_pos hj]; simp
      simp [World.cell?, h4, e, hx j hj]
    refine Or.inr ⟨g, 0, rfl, hlt, fun i hi => ⟨?_, some ⟨bs i, 0, none⟩, (R i).steps.length, ?_, row_ints (hs i hi), hl i hi⟩⟩
    · rw [Nat.zero_add, hcell _ (by omega)]; unfold ruleOwn; rw [if_pos (by omega), show i * 2 / 2 = i by omega]
    · rw [Nat.zero_add, hcell _ (by omega)]; unfold ruleOwn; rw [if_neg (by omega), show (i * 2 + 1) / 2 = i by omega]

end Go.Proofs.YtkhpkpaglkinbaaGreatDoor
