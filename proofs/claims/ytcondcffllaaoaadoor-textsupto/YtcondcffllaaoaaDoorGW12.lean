/-
  THE WALKS: the document's Check, its parts.
-/
import Derived.Test.YtcondcffllaaoaaDoorGRing
import Derived.Deep.RegionHeld3
import Derived.Deep.DrawnRows
import Derived.Deep.QuietTactic
import Derived.BigQuiet
import Derived.WalkSmall
set_option linter.unusedVariables false
set_option linter.unusedSimpArgs false
namespace Go.Proofs.YtcondcffllaaoaaDoor

open Go.RowKit

attribute [local go_sem ↓] Go.wp_at_zero Go.wp_at_succ

/-- The first of n that is so; n, if none is. -/
def First (P : Nat → Prop) (n r : Nat) : Prop := r ≤ n ∧ (∀ j, j < r → ¬ P j) ∧ (r < n → P r)

theorem First.unique {P : Nat → Prop} {n r s : Nat} (h : First P n r) (g : First P n s) : r = s := by
  by_cases e : r < s
  · exact (g.2.1 r e (h.2.2 (by have := g.1; omega))).elim
  · by_cases e2 : s < r
    · exact (h.2.1 s e2 (g.2.2 (by have := h.1; omega))).elim
    · omega

/-- The i-th of a row of numbers is none that may stand there. -/
def BadAt (l : List Int) (lo hi : Int) (i : Nat) : Prop := l.getD i 0 < lo ∨ hi < l.getD i 0 ∨ (0 < i ∧ l.getD i 0 ≤ l.getD (i - 1) 0)

def holRet (l : List Int) (r : Nat) : Int := if r < l.length then r else -1

set_option maxHeartbeats 800000 in
theorem holiday_any (l : List Int) (a : Option Addr) (cap : Nat) (w : World) (hl : l.length ≤ 20) (hc : IntsAt w (.slice a l.length cap) l) :
    Calls Tryd.prog 37 #[.slice a l.length cap] w fun e w' => ∃ r, e = .returned (.int .i64 (holRet l r)) ∧ First (BadAt l 0 11574) l.length r ∧ Below w.heap.size w w' := by
  have HC := (show Hid _ from IntsAt.cases hc)
  clear hc
  go_enter Tryd.func37, Tryd.ntmps37
  go_wp2
  go_loopw [3] (fun t wr => ∃ k : Nat, k ≤ l.length ∧ t = .int .i64 k ∧ Hid (∀ j, j < k → ¬ BadAt l 0 11574 j) ∧ Hid (Below w.heap.size w wr)) (fun t _ => l.length - (intOf t).toNat)
  case atStart => exact ⟨0, by omega, rfl, fun j hj => by omega, Below.refl _ _⟩
  case round =>
    obtain ⟨k, k1, rfl, hk, hbl⟩ := hrel
    by_cases hlt : k < l.length
    · rcases HC.out with h0 | ⟨b, off, rfl, hb, hcell⟩
      · omega
      have HB : Hid (BadAt l 0 11574 k → ∃ r, (k : Int) = holRet l r ∧ First (BadAt l 0 11574) l.length r) := fun h => ⟨k, by unfold holRet; rw [if_pos hlt], by omega, hk.out, fun _ => h⟩
      have HG : Hid (¬ BadAt l 0 11574 k → ∀ j, j < k + 1 → ¬ BadAt l 0 11574 j) := fun h j hj => by
        by_cases e : j = k
        · subst e; exact h
        · exact hk.out j (by omega)
      have hx : wr.cell? ⟨b, off + k, none⟩ = some (.int .i64 (l.getD k 0)) := by rw [hbl.out.cell (p := ⟨b, off + k, none⟩) hb]; exact hcell k hlt
      have HBd : Hid (BadAt l 0 11574 k ↔ (l.getD k 0 < 0 ∨ 11574 < l.getD k 0 ∨ (0 < k ∧ l.getD k 0 ≤ l.getD (k - 1) 0))) := Iff.rfl
      have hy : 0 < k → wr.cell? ⟨b, off + (k - 1), none⟩ = some (.int .i64 (l.getD (k - 1) 0)) := fun h => by
        rw [hbl.out.cell (p := ⟨b, off + (k - 1), none⟩) hb]; exact hcell (k - 1) (by omega)
      have HY : Hid _ := hy
      have i0 : (0 : Int) ≤ (k : Int) := by omega
      have i1 : (k : Int) < (l.length : Int) := by omega
      clear hcell hy
      generalize l.getD k 0 = x at *
      generalize l.getD (k - 1) 0 = y at *
      by_cases c1 : x < 0
      · obtain ⟨r, r1, r2⟩ := HB.out (HBd.out.2 (Or.inl c1))
        have R1 : Hid _ := r1
        have d1 : decide (x < 0) = true := by simp [c1]
        clear r1
        go_wp2
        go_quiet (fail)
        go_wp2
        go_ret
        exact ⟨r, ret_int R1.out, r2, below_drewN hbl.out _⟩
      · have d1 : decide (x < 0) = false := by simp; omega
        by_cases c2 : 11574 < x
        · obtain ⟨r, r1, r2⟩ := HB.out (HBd.out.2 (Or.inr (Or.inl c2)))
          have R1 : Hid _ := r1
          have d2 : decide (11574 < x) = true := by simp [c2]
          clear r1
          go_wp2
          go_quiet (fail)
          go_wp2
          go_ret
          exact ⟨r, ret_int R1.out, r2, below_drewN hbl.out _⟩
        · have d2 : decide (11574 < x) = false := by simp; omega
          by_cases k0 : k = 0
          · subst k0
            have d3 : decide ((0 : Int) < ((0 : Nat) : Int)) = false := rfl
            simp only [Nat.add_zero] at hx
            have G : Hid _ := HG.out (fun h => by have := HBd.out.1 h; omega)
            go_wp2
            go_quiet (fail)
            go_wp2
            go_roundw
            case rel => exact ⟨1, by omega, by go_num, G, below_drewN hbl.out _⟩
            case measure => simp [intOf]; omega
          · have d3 : decide (0 < k) = true := by simp; omega
            have hy := HY.out (by omega)
            have hy2 : wr.cell? ⟨b, off + ((k : Int) - 1).toNat, none⟩ = some (.int .i64 y) := by rw [show ((k : Int) - 1).toNat = k - 1 by omega]; exact hy
            have kp' : (0 : Int) ≤ (k : Int) - 1 := by omega
            by_cases c3 : x ≤ y
            · obtain ⟨r, r1, r2⟩ := HB.out (HBd.out.2 (Or.inr (Or.inr ⟨by omega, c3⟩)))
              have R1 : Hid _ := r1
              clear r1
              go_wp2
              go_quiet (fail)
              go_wp2
              go_ret
              exact ⟨r, ret_int R1.out, r2, below_drewN hbl.out _⟩
            · have G : Hid _ := HG.out (fun h => by have := HBd.out.1 h; omega)
              go_wp2
              go_quiet (fail)
              go_wp2
              go_roundw
              case rel => exact ⟨k + 1, by omega, by go_num, G, below_drewN hbl.out _⟩
              case measure => simp [intOf]; omega
    · obtain rfl : k = l.length := by omega
      go_wp2
      go_ret
      exact ⟨l.length, ret_int (by unfold holRet; rw [if_neg (by omega)]), ⟨by omega, hk.out, fun h => by omega⟩, hbl.out⟩

/-- The call answers whether P holds, and leaves what was there. -/
def BoolPost (P : Prop) (w : World) (e : Ending) (w' : World) : Prop := ∃ r, e = .returned (.bool r) ∧ (r = true ↔ P) ∧ Below w.heap.size w w'

theorem bp_no {P : Prop} {w w' : World} (h : ¬ P) (hb : Below w.heap.size w w') : BoolPost P w (.returned (.bool false)) w' := ⟨_, rfl, ⟨fun e => (by cases e), fun g => (h g).elim⟩, hb⟩

theorem bp_yes {P : Prop} {w w' : World} (h : P) (hb : Below w.heap.size w w') : BoolPost P w (.returned (.bool true)) w' := ⟨_, rfl, ⟨fun _ => h, fun _ => rfl⟩, hb⟩

/-- A rule, as a form has it. -/
structure Rul where
  guard : Int
  steps : List Int

def RuleOk (r : Rul) (n : Nat) : Prop := 0 ≤ r.guard ∧ r.guard < n ∧ r.steps.length ≤ 4 ∧ ∀ i, i < r.steps.length → ¬ BadAt r.steps 1 1000000000 i

set_option maxHeartbeats 800000 in
theorem ruleRight_any (g : Int) (l : List Int) (a : Option Addr) (cap n : Nat) (w : World) (hn : n ≤ 20) (hl : l.length ≤ 1000000000) (hc : IntsAt w (.slice a l.length cap) l) :
    Calls Tryd.prog 40 #[.agg #[.int .i64 g, .slice a l.length cap], .int .i64 n] w fun e w' => BoolPost (RuleOk ⟨g, l⟩ n) w e w' := by
  have HC := (show Hid _ from IntsAt.cases hc)
  clear hc
  have hbx : Hid (∀ o, Below w.heap.size w (w.alloc o)) := fun o => (Below.refl _ _).alloc (Nat.le_refl _) _
  by_cases g0 : g < 0
  · have N : Hid (¬ RuleOk ⟨g, l⟩ n) := fun h => by have : 0 ≤ g := h.1; omega
    go_enter Tryd.func40, Tryd.ntmps40
    go_wp2
    go_ret
    exact bp_no N.out (hbx.out _)
  by_cases g1 : (n : Int) ≤ g
  · have N : Hid (¬ RuleOk ⟨g, l⟩ n) := fun h => by have : g < n := h.2.1; omega
    go_enter Tryd.func40, Tryd.ntmps40
    go_wp2
    go_ret
    exact bp_no N.out (hbx.out _)
  by_cases l4 : 4 < l.length
  · have N : Hid (¬ RuleOk ⟨g, l⟩ n) := fun h => by have : l.length ≤ 4 := h.2.2.1; omega
    go_enter Tryd.func40, Tryd.ntmps40
    go_wp2
    go_ret
    exact bp_no N.out (hbx.out _)
  have HN : Hid (∀ k, k < l.length → BadAt l 1 1000000000 k → ¬ RuleOk ⟨g, l⟩ n) := fun k hk h o => o.2.2.2 k hk h
  have HYs : Hid ((∀ k, k < l.length → ¬ BadAt l 1 1000000000 k) → RuleOk ⟨g, l⟩ n) := fun h => ⟨by show 0 ≤ g; omega, by show g < n; omega, by show l.length ≤ 4; omega, h⟩
  go_enter Tryd.func40, Tryd.ntmps40
  go_wp2
  go_loopw [5] (fun t wr => ∃ k : Nat, k ≤ l.length ∧ t = .int .i64 k ∧ Hid (∀ j, j < k → ¬ BadAt l 1 1000000000 j) ∧ Hid (Below (w.heap.size + 1) (w.alloc (.cells #[.int .i64 g, .slice a l.length cap] 44)) wr)) (fun t _ => l.length - (intOf t).toNat)
  case atStart => exact ⟨0, by omega, rfl, fun j hj => by omega, Below.refl _ _⟩
  case round =>
    obtain ⟨k, k1, rfl, hk, hbl⟩ := hrel
    have f1 := boxed hbl.out 1
    simp at f1
    have hbw : Hid (Below w.heap.size w wr) := boxed_below hbl.out
    by_cases hlt : k < l.length
    · rcases HC.out with h0 | ⟨b, off, rfl, hb, hcell⟩
      · omega
      have HB : Hid (BadAt l 1 1000000000 k → ¬ RuleOk ⟨g, l⟩ n) := fun h => HN.out k hlt h
      have HG : Hid (¬ BadAt l 1 1000000000 k → ∀ j, j < k + 1 → ¬ BadAt l 1 1000000000 j) := fun h j hj => by
        by_cases e : j = k
        · subst e; exact h
        · exact hk.out j (by omega)
      have hx : wr.cell? ⟨b, off + k, none⟩ = some (.int .i64 (l.getD k 0)) := by rw [hbw.out.cell (p := ⟨b, off + k, none⟩) hb]; exact hcell k hlt
      have HBd : Hid (BadAt l 1 1000000000 k ↔ (l.getD k 0 < 1 ∨ 1000000000 < l.getD k 0 ∨ (0 < k ∧ l.getD k 0 ≤ l.getD (k - 1) 0))) := Iff.rfl
      have hy : 0 < k → wr.cell? ⟨b, off + (k - 1), none⟩ = some (.int .i64 (l.getD (k - 1) 0)) := fun h => by
        rw [hbw.out.cell (p := ⟨b, off + (k - 1), none⟩) hb]; exact hcell (k - 1) (by omega)
      have HY : Hid _ := hy
      have i0 : (0 : Int) ≤ (k : Int) := by omega
      have i1 : (k : Int) < (l.length : Int) := by omega
      clear hcell hy
      generalize l.getD k 0 = x at *
      generalize l.getD (k - 1) 0 = y at *
      by_cases c1 : x < 1
      · have R1 : Hid _ := HB.out (HBd.out.2 (Or.inl c1))
        have d1 : decide (x < 1) = true := by simp; omega
        go_wp2
        go_quiet (fail)
        go_wp2
        go_ret
        exact bp_no R1.out (below_drewN hbw.out _)
      · have d1 : decide (x < 1) = false := by simp; omega
        by_cases c2 : 1000000000 < x
        · have R1 : Hid _ := HB.out (HBd.out.2 (Or.inr (Or.inl c2)))
          have d2 : decide (1000000000 < x) = true := by simp [c2]
          go_wp2
          go_quiet (fail)
          go_wp2
          go_ret
          exact bp_no R1.out (below_drewN hbw.out _)
        · have d2 : decide (1000000000 < x) = false := by simp; omega
          by_cases k0 : k = 0
          · subst k0
            have d3 : decide ((0 : Int) < ((0 : Nat) : Int)) = false := rfl
            simp only [Nat.add_zero] at hx
            have G : Hid _ := HG.out (fun h => by have := HBd.out.1 h; omega)
            go_wp2
            go_quiet (fail)
            go_wp2
            go_roundw
            case rel => exact ⟨1, by omega, by go_num, G, below_drewN hbl.out _⟩
            case measure => simp [intOf]; omega
          · have d3 : decide (0 < k) = true := by simp; omega
            have hy := HY.out (by omega)
            have hy2 : wr.cell? ⟨b, off + ((k : Int) - 1).toNat, none⟩ = some (.int .i64 y) := by rw [show ((k : Int) - 1).toNat = k - 1 by omega]; exact hy
            have kp' : (0 : Int) ≤ (k : Int) - 1 := by omega
            by_cases c3 : x ≤ y
            · have R1 : Hid _ := HB.out (HBd.out.2 (Or.inr (Or.inr ⟨by omega, c3⟩)))
              go_wp2
              go_quiet (fail)
              go_wp2
              go_ret
              exact bp_no R1.out (below_drewN hbw.out _)
            · have G : Hid _ := HG.out (fun h => by have := HBd.out.1 h; omega)
              go_wp2
              go_quiet (fail)
              go_wp2
              go_roundw
              case rel => exact ⟨k + 1, by omega, by go_num, G, below_drewN hbl.out _⟩
              case measure => simp [intOf]; omega
    · obtain rfl : k = l.length := by omega
      go_wp2
      go_ret
      exact bp_yes (HYs.out hk.out) hbw.out

end Go.Proofs.YtcondcffllaaoaaDoor

/-
  THE WALKS: the document's Check: cells.
-/
set_option linter.unusedVariables false
set_option linter.unusedSimpArgs false
namespace Go.Proofs.YtcondcffllaaoaaDoor

open Go.RowKit

attribute [local go_sem ↓] Go.wp_at_zero Go.wp_at_succ

theorem hid {p : Prop} (h : p) : Hid p := h

set_option maxHeartbeats 400000 in
theorem allowed_any (kd a b c k : Int) (w : World) : Calls Tryd.prog 54 #[.agg #[.int .i64 kd, .int .i64 a, .int .i64 b, .int .i64 c, .int .i64 k]] w fun e w' => e = .returned (.bool (M.allowsB kd k)) ∧ Below w.heap.size w w' := by
  have hbx : Hid (∀ o, Below w.heap.size w (w.alloc o)) := fun o => (Below.refl _ _).alloc (Nat.le_refl _) _
  go_enter Tryd.func54, Tryd.ntmps54
  go_wp2_with (go_at_call 66; refine (risv_any _ _).mono ?_; rintro e w' ⟨rfl, rfl⟩)
  all_goals go_ret
  all_goals refine ⟨ret_bool ?_, hbx.out _⟩
  all_goals (simp only [beq_iff_eq, beq_eq_false_iff_ne, ne_eq] at *)
  all_goals (unfold M.allowsB)
  all_goals first
    | (rw [if_pos (by omega)]; done)
    | (rw [if_neg (by omega), if_pos (by omega), Bool.eq_iff_iff]; simp; try omega)
    | (rw [if_neg (by omega), if_neg (by omega), if_pos (by omega), Bool.eq_iff_iff]; simp; try omega)
    | (rw [if_neg (by omega), if_neg (by omega), if_neg (by omega)])

theorem allows_iff {kd a b c k : Int} : M.allowsB kd k = true ↔ KOk ⟨kd, a, b, c, k⟩ := by
  unfold M.allowsB KOk IsV M.isv
  simp only
  by_cases h0 : kd = 0 ∨ kd = 1
  · rw [if_pos h0]; simp; omega
  · rw [if_neg h0]
    by_cases h1 : kd = 11
    · rw [if_pos h1]; simp; omega
    · rw [if_neg h1]
      by_cases h2 : kd = 12
      · rw [if_pos h2]; simp; omega
      · rw [if_neg h2]; simp; omega

theorem needs_bd {k : Int} (h0 : 0 ≤ k) (h1 : k ≤ 12) : 0 ≤ M.needs k ∧ M.needs k ≤ 3 := by
  unfold M.needs; repeat' split
  all_goals omega

/-- What named answers: a list of its own. -/
def NamedPost (a b c : Int) (q : Nat) (w : World) (e : Ending) (w' : World) : Prop :=
  ∃ bl, e = .returned (.slice (some ⟨bl, 0, none⟩) q 3) ∧ w.heap.size ≤ bl ∧ w'.rowIs bl 3 3 (fun i => .int .i64 (needp ⟨0, a, b, c, 0⟩ i)) ∧ Below w.heap.size w w'

set_option maxHeartbeats 400000 in
theorem named_any (kd a b c k : Int) (q : Nat) (w : World) (hq : M.needs kd = q) (h3 : q ≤ 3) : Calls Tryd.prog 21 #[.agg #[.int .i64 kd, .int .i64 a, .int .i64 b, .int .i64 c, .int .i64 k]] w fun e w' => NamedPost a b c q w e w' := by
  have HQ : Hid _ := hq
  clear hq
  go_enter Tryd.func21, Tryd.ntmps21
  go_wp2_with fail
  refine (rneeds_any _ _).mono ?_
  rintro e w1 ⟨rfl, rfl⟩
  rw [HQ.out]
  go_wp2
  go_ret
  refine ⟨w.heap.size + 1, rfl, by omega, ?_, ((Below.refl _ _).alloc (Nat.le_refl _) _).alloc (by simp) _⟩
  have := World.rowIs_alloc (w.alloc (Obj.cells #[Value.int IntKind.i64 kd, Value.int IntKind.i64 a, Value.int IntKind.i64 b, Value.int IntKind.i64 c, Value.int IntKind.i64 k] 46)) #[.int .i64 a, .int .i64 b, .int .i64 c] 3 (fun i => .int .i64 (needp ⟨0, a, b, c, 0⟩ i)) (fun i hi => by
    have hi' : i = 0 ∨ i = 1 ∨ i = 2 := by simp at hi; omega
    rcases hi' with rfl | rfl | rfl <;> rfl)
  simpa using this

theorem cellOk_iff {c : Cel} {n : Nat} : CellOk c n ↔ (0 ≤ M.needs c.kind ∧ (∀ p : Nat, (p : Int) < M.needs c.kind → 0 ≤ needp c p ∧ needp c p < n) ∧ KOk c) := by
  have hk : 0 ≤ M.needs c.kind ↔ 0 ≤ c.kind ∧ c.kind ≤ 12 := by
    unfold M.needs; repeat' split
    all_goals omega
  have bd : M.needs c.kind ≤ 3 := by
    unfold M.needs; repeat' split
    all_goals omega
  constructor
  · intro ⟨h0, h1, h2, ha, hb, hc⟩
    refine ⟨hk.2 ⟨h0, h1⟩, fun p hp => ?_, h2⟩
    have hp3 : p = 0 ∨ p = 1 ∨ p = 2 := by omega
    rcases hp3 with rfl | rfl | rfl
    · exact ha (by omega)
    · exact hb (by omega)
    · exact hc (by omega)
  · intro ⟨h0, h1, h2⟩
    obtain ⟨k0, k1⟩ := hk.1 h0
    exact ⟨k0, k1, h2, fun p => h1 0 (by omega), fun p => h1 1 (by omega), fun p => h1 2 (by omega)⟩

theorem needp_eq (kd a b c k : Int) (p : Nat) : needp ⟨kd, a, b, c, k⟩ p = needp ⟨0, a, b, c, 0⟩ p := rfl

set_option maxHeartbeats 800000 in
theorem cellRight_any (kd a b c k : Int) (n : Nat) (w : World) (hn : n ≤ 20) : Calls Tryd.prog 38 #[.agg #[.int .i64 kd, .int .i64 a, .int .i64 b, .int .i64 c, .int .i64 k], .int .i64 n] w fun e w' => BoolPost (CellOk ⟨kd, a, b, c, k⟩ n) w e w' := by
  have hbx : Hid (∀ o, Below w.heap.size w (w.alloc o)) := fun o => (Below.refl _ _).alloc (Nat.le_refl _) _
  have HI : Hid (CellOk ⟨kd, a, b, c, k⟩ n ↔ (0 ≤ M.needs kd ∧ (∀ p : Nat, (p : Int) < M.needs kd → 0 ≤ needp ⟨0, a, b, c, 0⟩ p ∧ needp ⟨0, a, b, c, 0⟩ p < n) ∧ KOk ⟨kd, a, b, c, k⟩)) := cellOk_iff
  by_cases hneg : M.needs kd < 0
  · have N : Hid (¬ CellOk ⟨kd, a, b, c, k⟩ n) := fun h => by have := (HI.out.1 h).1; omega
    go_enter Tryd.func38, Tryd.ntmps38
    go_wp2_with fail
    refine (rneeds_any _ _).mono ?_
    rintro e w1 ⟨rfl, rfl⟩
    go_wp2
    go_ret
    exact bp_no N.out (hbx.out _)
  · have bd : M.needs kd ≤ 3 := by
      unfold M.needs; repeat' split
      all_goals omega
    obtain ⟨q, hq⟩ := Int.eq_ofNat_of_zero_le (show 0 ≤ M.needs kd by omega)
    have HQ : Hid (M.needs kd = (q : Int)) := hq
    have hq3 : q ≤ 3 := by omega
    clear hq bd hneg
    go_enter Tryd.func38, Tryd.ntmps38
    go_wp2_with fail
    refine (rneeds_any _ _).mono ?_
    rintro e w1 ⟨rfl, rfl⟩
    rw [HQ.out]
    go_wp2_with fail
    refine (named_any kd a b c k q _ HQ.out hq3).mono ?_
    rintro e w1 ⟨bl, rfl, hbl, hrow, hb1⟩
    have hb1' : Below (w.heap.size + 1) (w.alloc (.cells #[.int .i64 kd, .int .i64 a, .int .i64 b, .int .i64 c, .int .i64 k] 46)) w1 := hb1.mono (by simp)
    have HB1 : Hid _ := hb1'
    have HW1 : Hid (Below w.heap.size w w1) := boxed_below hb1'
    have HROW := hid hrow
    simp at hbl
    clear hb1 hb1' hrow
    go_wp2
    go_loop [7] (fun t => ∃ p : Nat, p ≤ q ∧ t = .int .i64 p ∧ Hid (∀ p' : Nat, p' < p → 0 ≤ needp ⟨0, a, b, c, 0⟩ p' ∧ needp ⟨0, a, b, c, 0⟩ p' < n)) (fun t => q - (intOf t).toNat)
    case atStart => exact ⟨0, by omega, rfl, fun p' hp => by omega⟩
    case round =>
      obtain ⟨p, p1, rfl, hp⟩ := hrel
      by_cases hlt : p < q
      · have hx : w1.cell? ⟨bl, p, none⟩ = some (.int .i64 (needp ⟨0, a, b, c, 0⟩ p)) := HROW.out.cell (by omega)
        have NO : Hid (¬ (0 ≤ needp ⟨0, a, b, c, 0⟩ p ∧ needp ⟨0, a, b, c, 0⟩ p < n) → ¬ CellOk ⟨kd, a, b, c, k⟩ n) := fun h g => h ((HI.out.1 g).2.1 p (by rw [HQ.out]; omega))
        have NX : Hid ((0 ≤ needp ⟨0, a, b, c, 0⟩ p ∧ needp ⟨0, a, b, c, 0⟩ p < n) → ∀ p' : Nat, p' < p + 1 → 0 ≤ needp ⟨0, a, b, c, 0⟩ p' ∧ needp ⟨0, a, b, c, 0⟩ p' < n) := fun h p' hp' => by
          by_cases e : p' = p
          · subst e; exact h
          · exact hp.out p' (by omega)
        generalize needp ⟨0, a, b, c, 0⟩ p = x at *
        by_cases x0 : x < 0
        · have R : Hid _ := NO.out (fun h => by omega)
          go_wp2
          go_ret
          exact bp_no R.out HW1.out
        · by_cases x1 : (n : Int) ≤ x
          · have R : Hid _ := NO.out (fun h => by omega)
            go_wp2
            go_ret
            exact bp_no R.out HW1.out
          · have R : Hid _ := NX.out ⟨by omega, by omega⟩
            go_wp2
            go_round
            case rel => exact ⟨p + 1, by omega, by go_num, R⟩
            case measure => simp [intOf]; omega
      · have c0 := boxed HB1.out 0
        have c1 := boxed HB1.out 1
        have c2 := boxed HB1.out 2
        have c3 := boxed HB1.out 3
        have c4 := boxed HB1.out 4
        simp at c0 c1 c2 c3 c4
        go_wp2_with fail
        refine (allowed_any kd a b c k _).mono ?_
        rintro e w2 ⟨rfl, hb2⟩
        have HB2 : Hid (Below w.heap.size w w2) := HW1.out.trans (hb2.mono (by have := HW1.out.size; omega))
        clear hb2
        cases hA : M.allowsB kd k
        · have R : Hid (¬ CellOk ⟨kd, a, b, c, k⟩ n) := fun h => by
            have := (allows_iff (a := a) (b := b) (c := c)).2 (HI.out.1 h).2.2
            rw [hA] at this; cases this
          clear hA
          go_wp2
          go_ret
          exact bp_no R.out HB2.out
        · have R : Hid (CellOk ⟨kd, a, b, c, k⟩ n) := HI.out.2 ⟨by rw [HQ.out]; omega, fun p' hp' => hp.out p' (by rw [HQ.out] at hp'; omega), allows_iff.1 hA⟩
          clear hA
          go_wp2
          go_ret
          exact bp_yes R.out HB2.out

end Go.Proofs.YtcondcffllaaoaaDoor
