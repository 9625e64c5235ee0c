/-
  THE WALKS: the document's Check, its parts.
-/
import Derived.Test.YtkhpkpaglkinbaaGreatDoorW11
import Derived.Deep.RegionHeld3
import Derived.Deep.DrawnRows
import Derived.Deep.QuietTactic
import Derived.BigQuiet
import Derived.WalkSmall
set_option linter.unusedVariables false
set_option linter.unusedSimpArgs false
namespace Go.Proofs.YtkhpkpaglkinbaaGreatDoor
open Go.RowKit
attribute [local go_sem ↓] Go.wp_at_zero Go.wp_at_succ

/-- The first of n that is so; n, if none is. -/
def First (P : Nat → Prop) (n r : Nat) : Prop := r ≤ n ∧ (∀ j, j < r → ¬ P j) ∧ (r < n → P r)

theorem First.unique {P : Nat → Prop} {n r s : Nat} (h : First P n r) (g : First P n s) : r = s := by
  by_cases e : r < s
  · exact (g.2.1 r e (h.2.2 (by have := g.1; omega))).elim
  · by_cases e2 : s < r
    · exact (h.2.1 s e2 (g.2.2 (by have := h.1; omega))).elim
    · omega

/-- The i-th of a row of numbers is none that may stand there. -/
def BadAt (l : List Int) (lo hi : Int) (i : Nat) : Prop := l.getD i 0 < lo ∨ hi < l.getD i 0 ∨ (0 < i ∧ l.getD i 0 ≤ l.getD (i - 1) 0)

def holRet (l : List Int) (r : Nat) : Int := if r < l.length then r else -1

set_option maxHeartbeats 800000 in
theorem holiday_any (l : List Int) (a : Option Addr) (cap : Nat) (w : World) (hl : l.length ≤ 20) (hc : IntsAt w (.slice a l.length cap) l) :
    Calls Tryz.prog 31 #[.slice a l.length cap] w fun e w' => ∃ r, e = .returned (.int .i64 (holRet l r)) ∧ First (BadAt l 0 11574) l.length r ∧ Below w.heap.size w w' := by
  have HC := (show Hid _ from IntsAt.cases hc)
  clear hc
  go_enter Tryz.func31, Tryz.ntmps31
  go_wp2
  go_loopw [3] (fun t wr => ∃ k : Nat, k ≤ l.length ∧ t = .int .i64 k ∧ Hid (∀ j, j < k → ¬ BadAt l 0 11574 j) ∧ Hid (Below w.heap.size w wr)) (fun t _ => l.length - (intOf t).toNat)
  case atStart => exact ⟨0, by omega, rfl, fun j hj => by omega, Below.refl _ _⟩
  case round =>
    obtain ⟨k, k1, rfl, hk, hbl⟩ := hrel
    by_cases hlt : k < l.length
    · rcases HC.out with h0 | ⟨b, off, rfl, hb, hcell⟩
      · omega
      have HB : Hid (BadAt l 0 11574 k → ∃ r, (k : Int) = holRet l r ∧ First (BadAt l 0 11574) l.length r) := fun h => ⟨k, by unfold holRet; rw [if_pos hlt], by omega, hk.out, fun _ => h⟩
      have HG : Hid (¬ BadAt l 0 11574 k → ∀ j, j < k + 1 → ¬ BadAt l 0 11574 j) := fun h j hj => by
        by_cases e : j = k
        · subst e; exact h
        · exact hk.out j (by omega)
      have hx : wr.cell? ⟨b, off + k, none⟩ = some (.int .i64 (l.getD k 0)) := by rw [hbl.out.cell (p := ⟨b, off + k, none⟩) hb]; exact hcell k hlt
      have HBd : Hid (BadAt l 0 11574 k ↔ (l.getD k 0 < 0 ∨ 11574 < l.getD k 0 ∨ (0 < k ∧ l.getD k 0 ≤ l.getD (k - 1) 0))) := Iff.rfl
      have hy : 0 < k → wr.cell? ⟨b, off + (k - 1), none⟩ = some (.int .i64 (l.getD (k - 1) 0)) := fun h => by
        rw [hbl.out.cell (p := ⟨b, off + (k - 1), none⟩) hb]; exact hcell (k - 1) (by omega)
      have HY : Hid _ := hy
      have i0 : (0 : Int) ≤ (k : Int) := by omega
      have i1 : (k : Int) < (l.length : Int) := by omega
      clear hcell hy
      generalize l.getD k 0 = x at *
      generalize l.getD (k - 1) 0 = y at *
      by_cases c1 : x < 0
      · obtain ⟨r, r1, r2⟩ := HB.out (HBd.out.2 (Or.inl c1))
        have R1 : Hid _ := r1
        have d1 : decide (x < 0) = true := by simp [c1]
        clear r1
        go_wp2
        go_quiet (fail)
        go_wp2
        go_ret
        exact ⟨r, ret_int R1.out, r2, below_drewN hbl.out _⟩
      · have d1 : decide (x < 0) = false := by simp; omega
        by_cases c2 : 11574 < x
        · obtain ⟨r, r1, r2⟩ := HB.out (HBd.out.2 (Or.inr (Or.inl c2)))
          have R1 : Hid _ := r1
          have d2 : decide (11574 < x) = true := by simp [c2]
          clear r1
          go_wp2
          go_quiet (fail)
          go_wp2
          go_ret
          exact ⟨r, ret_int R1.out, r2, below_drewN hbl.out _⟩
        · have d2 : decide (11574 < x) = false := by simp; omega
          by_cases k0 : k = 0
          · subst k0
            have d3 : decide ((0 : Int) < ((0 : Nat) : Int)) = false := rfl
            simp only [Nat.add_zero] at hx
            have G : Hid _ := HG.out (fun h => by have := HBd.out.1 h; omega)
            go_wp2
            go_quiet (fail)
            go_wp2
            go_roundw
            case rel => exact ⟨1, by omega, by go_num, G, below_drewN hbl.out _⟩
            case measure => simp [intOf]; omega
          · have d3 : decide (0 < k) = true := by simp; omega
            have hy := HY.out (by omega)
            have hy2 : wr.cell? ⟨b, off + ((k : Int) - 1).toNat, none⟩ = some (.int .i64 y) := by rw [show ((k : Int) - 1).toNat = k - 1 by omega]; exact hy
            have kp' : (0 : Int) ≤ (k : Int) - 1 := by omega
            by_cases c3 : x ≤ y
            · obtain ⟨r, r1, r2⟩ := HB.out (HBd.out.2 (Or.inr (Or.inr ⟨by omega, c3⟩)))
              have R1 : Hid _ := r1
              clear r1
              go_wp2
              go_quiet (fail)
              go_wp2
              go_ret
              exact ⟨r, ret_int R1.out, r2, below_drewN hbl.out _⟩
            · have G : Hid _ := HG.out (fun h => by have := HBd.out.1 h; omega)
              go_wp2
              go_quiet (fail)
              go_wp2
              go_roundw
              case rel => exact ⟨k + 1, by omega, by go_num, G, below_drewN hbl.out _⟩
              case measure => simp [intOf]; omega
    · obtain rfl : k = l.length := by omega
      go_wp2
      go_ret
      exact ⟨l.length, ret_int (by unfold holRet; rw [if_neg (by omega)]), ⟨by omega, hk.out, fun h => by omega⟩, hbl.out⟩

/-- The call answers whether P holds, and leaves what was there. -/
def BoolPost (P : Prop) (w : World) (e : Ending) (w' : World) : Prop := ∃ r, e = .returned (.bool r) ∧ (r = true ↔ P) ∧ Below w.heap.size w w'
theorem bp_no {P : Prop} {w w' : World} (h : ¬ P) (hb : Below w.heap.size w w') : BoolPost P w (.returned (.bool false)) w' := ⟨_, rfl, ⟨fun e => (by cases e), fun g => (h g).elim⟩, hb⟩
theorem bp_yes {P : Prop} {w w' : World} (h : P) (hb : Below w.heap.size w w') : BoolPost P w (.returned (.bool true)) w' := ⟨_, rfl, ⟨fun _ => h, fun _ => rfl⟩, hb⟩

/-- A rule, as a form has it. -/
structure Rul where
  guard : Int
  steps : List Int

def RuleOk (r : Rul) (n : Nat) : Prop := 0 ≤ r.guard ∧ r.guard < n ∧ r.steps.length ≤ 4 ∧ ∀ i, i < r.steps.length → ¬ BadAt r.steps 1 1000000000 i

set_option maxHeartbeats 800000 in
theorem ruleRight_any (g : Int) (l : List Int) (a : Option Addr) (cap n : Nat) (w : World) (hn : n ≤ 20) (hl : l.length ≤ 1000000000) (hc : IntsAt w (.slice a l.length cap) l) :
    Calls Tryz.prog 34 #[.agg #[.int .i64 g, .slice a l.length cap], .int .i64 n] w fun e w' => BoolPost (RuleOk ⟨g, l⟩ n) w e w' := by
  have HC := (show Hid _ from IntsAt.cases hc)
  clear hc
  have hbx : Hid (∀ o, Below w.heap.size w (w.alloc o)) := fun o => (Below.refl _ _).alloc (Nat.le_refl _) _
  by_cases g0 : g < 0
  · have N : Hid (¬ RuleOk ⟨g, l⟩ n) := fun h => by have : 0 ≤ g := h.1; omega
    go_enter Tryz.func34, Tryz.ntmps34
    go_wp2
    go_ret
    exact bp_no N.out (hbx.out _)
  by_cases g1 : (n : Int) ≤ g
  · have N : Hid (¬ RuleOk ⟨g, l⟩ n) := fun h => by have : g < n := h.2.1; omega
    go_enter Tryz.func34, Tryz.ntmps34
    go_wp2
    go_ret
    exact bp_no N.out (hbx.out _)
  by_cases l4 : 4 < l.length
  · have N : Hid (¬ RuleOk ⟨g, l⟩ n) := fun h => by have : l.length ≤ 4 := h.2.2.1; omega
    go_enter Tryz.func34, Tryz.ntmps34
    go_wp2
    go_ret
    exact bp_no N.out (hbx.out _)
  have HN : Hid (∀ k, k < l.length → BadAt l 1 1000000000 k → ¬ RuleOk ⟨g, l⟩ n) := fun k hk h o => o.2.2.2 k hk h
  have HYs : Hid ((∀ k, k < l.length → ¬ BadAt l 1 1000000000 k) → RuleOk ⟨g, l⟩ n) := fun h => ⟨by show 0 ≤ g; omega, by show g < n; omega, by show l.length ≤ 4; omega, h⟩
  go_enter Tryz.func34, Tryz.ntmps34
  go_wp2
  go_loopw [5] (fun t wr => ∃ k : Nat, k ≤ l.length ∧ t = .int .i64 k ∧ Hid (∀ j, j < k → ¬ BadAt l 1 1000000000 j) ∧ Hid (Below (w.heap.size + 1) (w.alloc (.cells #[.int .i64 g, .slice a l.length cap] 80)) wr)) (fun t _ => l.length - (intOf t).toNat)
  case atStart => exact ⟨0, by omega, rfl, fun j hj => by omega, Below.refl _ _⟩
  case round =>
    obtain ⟨k, k1, rfl, hk, hbl⟩ := hrel
    have f1 := boxed hbl.out 1
    simp at f1
    have hbw : Hid (Below w.heap.size w wr) := boxed_below hbl.out
    by_cases hlt : k < l.length
    · rcases HC.out with h0 | ⟨b, off, rfl, hb, hcell⟩
      · omega
      have HB : Hid (BadAt l 1 1000000000 k → ¬ RuleOk ⟨g, l⟩ n) := fun h => HN.out k hlt h
      have HG : Hid (¬ BadAt l 1 1000000000 k → ∀ j, j < k + 1 → ¬ BadAt l 1 1000000000 j) := fun h j hj => by
        by_cases e : j = k
        · subst e; exact h
        · exact hk.out j (by omega)
      have hx : wr.cell? ⟨b, off + k, none⟩ = some (.int .i64 (l.getD k 0)) := by rw [hbw.out.cell (p := ⟨b, off + k, none⟩) hb]; exact hcell k hlt
      have HBd : Hid (BadAt l 1 1000000000 k ↔ (l.getD k 0 < 1 ∨ 1000000000 < l.getD k 0 ∨ (0 < k ∧ l.getD k 0 ≤ l.getD (k - 1) 0))) := Iff.rfl
      have hy : 0 < k → wr.cell? ⟨b, off + (k - 1), none⟩ = some (.int .i64 (l.getD (k - 1) 0)) := fun h => by
        rw [hbw.out.cell (p := ⟨b, off + (k - 1), none⟩) hb]; exact hcell (k - 1) (by omega)
      have HY : Hid _ := hy
      have i0 : (0 : Int) ≤ (k : Int) := by omega
      have i1 : (k : Int) < (l.length : Int) := by omega
      clear hcell hy
      generalize l.getD k 0 = x at *
      generalize l.getD (k - 1) 0 = y at *
      by_cases c1 : x < 1
      · have R1 : Hid _ := HB.out (HBd.out.2 (Or.inl c1))
        have d1 : decide (x < 1) = true := by simp; omega
        go_wp2
        go_quiet (fail)
        go_wp2
        go_ret
        exact bp_no R1.out (below_drewN hbw.out _)
      · have d1 : decide (x < 1) = false := by simp; omega
        by_cases c2 : 1000000000 < x
        · have R1 : Hid _ := HB.out (HBd.out.2 (Or.inr (Or.inl c2)))
          have d2 : decide (1000000000 < x) = true := by simp [c2]
          go_wp2
          go_quiet (fail)
          go_wp2
          go_ret
          exact bp_no R1.out (below_drewN hbw.out _)
        · have d2 : decide (1000000000 < x) = false := by simp; omega
          by_cases k0 : k = 0
          · subst k0
            have d3 : decide ((0 : Int) < ((0 : Nat) : Int)) = false := rfl
            simp only [Nat.add_zero] at hx
            have G : Hid _ := HG.out (fun h => by have := HBd.out.1 h; omega)
            go_wp2
            go_quiet (fail)
            go_wp2
            go_roundw
            case rel => exact ⟨1, by omega, by go_num, G, below_drewN hbl.out _⟩
            case measure => simp [intOf]; omega
          · have d3 : decide (0 < k) = true := by simp; omega
            have hy := HY.out (by omega)
            have hy2 : wr.cell? ⟨b, off + ((k : Int) - 1).toNat, none⟩ = some (.int .i64 y) := by rw [show ((k : Int) - 1).toNat = k - 1 by omega]; exact hy
            have kp' : (0 : Int) ≤ (k : Int) - 1 := by omega
            by_cases c3 : x ≤ y
            · have R1 : Hid _ := HB.out (HBd.out.2 (Or.inr (Or.inr ⟨by omega, c3⟩)))
              go_wp2
              go_quiet (fail)
              go_wp2
              go_ret
              exact bp_no R1.out (below_drewN hbw.out _)
            · have G : Hid _ := HG.out (fun h => by have := HBd.out.1 h; omega)
              go_wp2
              go_quiet (fail)
              go_wp2
              go_roundw
              case rel => exact ⟨k + 1, by omega, by go_num, G, below_drewN hbl.out _⟩
              case measure => simp [intOf]; omega
    · obtain rfl : k = l.length := by omega
      go_wp2
      go_ret
      exact bp_yes (HYs.out hk.out) hbw.out

end Go.Proofs.YtkhpkpaglkinbaaGreatDoor
