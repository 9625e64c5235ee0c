/-
  THE WALKS: the document's Check: cells.
-/
import Derived.Test.YtkhpkpaglkinbaaGreatDoorW12
set_option linter.unusedVariables false
set_option linter.unusedSimpArgs false
namespace Go.Proofs.YtkhpkpaglkinbaaGreatDoor
open Go.RowKit
attribute [local go_sem ↓] Go.wp_at_zero Go.wp_at_succ

theorem hid {p : Prop} (h : p) : Hid p := h

set_option maxHeartbeats 400000 in
theorem allowed_any (kd a b c k : Int) (w : World) : Calls Tryz.prog 59 #[.agg #[.int .i64 kd, .int .i64 a, .int .i64 b, .int .i64 c, .int .i64 k]] w fun e w' => e = .returned (.bool (M.allowsB kd k)) ∧ Below w.heap.size w w' := by
  have hbx : Hid (∀ o, Below w.heap.size w (w.alloc o)) := fun o => (Below.refl _ _).alloc (Nat.le_refl _) _
  go_enter Tryz.func59, Tryz.ntmps59
  go_wp2_with (go_at_call 52; refine (risv_any _ _).mono ?_; rintro e w' ⟨rfl, rfl⟩)
  all_goals go_ret
  all_goals refine ⟨ret_bool ?_, hbx.out _⟩
  all_goals (simp only [beq_iff_eq, beq_eq_false_iff_ne, ne_eq] at *)
  all_goals (unfold M.allowsB)
  all_goals first
    | (rw [if_pos (by omega)]; done)
    | (rw [if_neg (by omega), if_pos (by omega), Bool.eq_iff_iff]; simp; try omega)
    | (rw [if_neg (by omega), if_neg (by omega), if_pos (by omega), Bool.eq_iff_iff]; simp; try omega)
    | (rw [if_neg (by omega), if_neg (by omega), if_neg (by omega)])

theorem allows_iff {kd a b c k : Int} : M.allowsB kd k = true ↔ KOk ⟨kd, a, b, c, k⟩ := by
  unfold M.allowsB KOk IsV M.isv
  simp only
  by_cases h0 : kd = 0 ∨ kd = 1
  · rw [if_pos h0]; simp; omega
  · rw [if_neg h0]
    by_cases h1 : kd = 11
    · rw [if_pos h1]; simp; omega
    · rw [if_neg h1]
      by_cases h2 : kd = 12
      · rw [if_pos h2]; simp; omega
      · rw [if_neg h2]; simp; omega

theorem needs_bd {k : Int} (h0 : 0 ≤ k) (h1 : k ≤ 12) : 0 ≤ M.needs k ∧ M.needs k ≤ 3 := by
  unfold M.needs; repeat' split
  all_goals omega

/-- What named answers: a list of its own. -/
def NamedPost (a b c : Int) (q : Nat) (w : World) (e : Ending) (w' : World) : Prop :=
  ∃ bl, e = .returned (.slice (some ⟨bl, 0, none⟩) q 3) ∧ w.heap.size ≤ bl ∧ w'.rowIs bl 3 3 (fun i => .int .i64 (needp ⟨0, a, b, c, 0⟩ i)) ∧ Below w.heap.size w w'

set_option maxHeartbeats 400000 in
theorem named_any (kd a b c k : Int) (q : Nat) (w : World) (hq : M.needs kd = q) (h3 : q ≤ 3) : Calls Tryz.prog 58 #[.agg #[.int .i64 kd, .int .i64 a, .int .i64 b, .int .i64 c, .int .i64 k]] w fun e w' => NamedPost a b c q w e w' := by
  have HQ : Hid _ := hq
  clear hq
  go_enter Tryz.func58, Tryz.ntmps58
  go_wp2_with fail
  refine (rneeds_any _ _).mono ?_
  rintro e w1 ⟨rfl, rfl⟩
  rw [HQ.out]
  go_wp2
  go_ret
  refine ⟨w.heap.size + 1, rfl, by omega, ?_, ((Below.refl _ _).alloc (Nat.le_refl _) _).alloc (by simp) _⟩
  have := World.rowIs_alloc (w.alloc (Obj.cells #[Value.int IntKind.i64 kd, Value.int IntKind.i64 a, Value.int IntKind.i64 b, Value.int IntKind.i64 c, Value.int IntKind.i64 k] 76)) #[.int .i64 a, .int .i64 b, .int .i64 c] 3 (fun i => .int .i64 (needp ⟨0, a, b, c, 0⟩ i)) (fun i hi => by
    have hi' : i = 0 ∨ i = 1 ∨ i = 2 := by simp at hi; omega
    rcases hi' with rfl | rfl | rfl <;> rfl)
  simpa using this

theorem cellOk_iff {c : Cel} {n : Nat} : CellOk c n ↔ (0 ≤ M.needs c.kind ∧ (∀ p : Nat, (p : Int) < M.needs c.kind → 0 ≤ needp c p ∧ needp c p < n) ∧ KOk c) := by
  have hk : 0 ≤ M.needs c.kind ↔ 0 ≤ c.kind ∧ c.kind ≤ 12 := by
    unfold M.needs; repeat' split
    all_goals omega
  have bd : M.needs c.kind ≤ 3 := by
    unfold M.needs; repeat' split
    all_goals omega
  constructor
  · intro ⟨h0, h1, h2, ha, hb, hc⟩
    refine ⟨hk.2 ⟨h0, h1⟩, fun p hp => ?_, h2⟩
    have hp3 : p = 0 ∨ p = 1 ∨ p = 2 := by omega
    rcases hp3 with rfl | rfl | rfl
    · exact ha (by omega)
    · exact hb (by omega)
    · exact hc (by omega)
  · intro ⟨h0, h1, h2⟩
    obtain ⟨k0, k1⟩ := hk.1 h0
    exact ⟨k0, k1, h2, fun p => h1 0 (by omega), fun p => h1 1 (by omega), fun p => h1 2 (by omega)⟩

theorem needp_eq (kd a b c k : Int) (p : Nat) : needp ⟨kd, a, b, c, k⟩ p = needp ⟨0, a, b, c, 0⟩ p := rfl

set_option maxHeartbeats 800000 in
theorem cellRight_any (kd a b c k : Int) (n : Nat) (w : World) (hn : n ≤ 20) : Calls Tryz.prog 32 #[.agg #[.int .i64 kd, .int .i64 a, .int .i64 b, .int .i64 c, .int .i64 k], .int .i64 n] w fun e w' => BoolPost (CellOk ⟨kd, a, b, c, k⟩ n) w e w' := by
  have hbx : Hid (∀ o, Below w.heap.size w (w.alloc o)) := fun o => (Below.refl _ _).alloc (Nat.le_refl _) _
  have HI : Hid (CellOk ⟨kd, a, b, c, k⟩ n ↔ (0 ≤ M.needs kd ∧ (∀ p : Nat, (p : Int) < M.needs kd → 0 ≤ needp ⟨0, a, b, c, 0⟩ p ∧ needp ⟨0, a, b, c, 0⟩ p < n) ∧ KOk ⟨kd, a, b, c, k⟩)) := cellOk_iff
  by_cases hneg : M.needs kd < 0
  · have N : Hid (¬ CellOk ⟨kd, a, b, c, k⟩ n) := fun h => by have := (HI.out.1 h).1; omega
    go_enter Tryz.func32, Tryz.ntmps32
    go_wp2_with fail
    refine (rneeds_any _ _).mono ?_
    rintro e w1 ⟨rfl, rfl⟩
    go_wp2
    go_ret
    exact bp_no N.out (hbx.out _)
  · have bd : M.needs kd ≤ 3 := by
      unfold M.needs; repeat' split
      all_goals omega
    obtain ⟨q, hq⟩ := Int.eq_ofNat_of_zero_le (show 0 ≤ M.needs kd by omega)
    have HQ : Hid (M.needs kd = (q : Int)) := hq
    have hq3 : q ≤ 3 := by omega
    clear hq bd hneg
    go_enter Tryz.func32, Tryz.ntmps32
    go_wp2_with fail
    refine (rneeds_any _ _).mono ?_
    rintro e w1 ⟨rfl, rfl⟩
    rw [HQ.out]
    go_wp2_with fail
    refine (named_any kd a b c k q _ HQ.out hq3).mono ?_
    rintro e w1 ⟨bl, rfl, hbl, hrow, hb1⟩
    have hb1' : Below (w.heap.size + 1) (w.alloc (.cells #[.int .i64 kd, .int .i64 a, .int .i64 b, .int .i64 c, .int .i64 k] 76)) w1 := hb1.mono (by simp)
    have HB1 : Hid _ := hb1'
    have HW1 : Hid (Below w.heap.size w w1) := boxed_below hb1'
    have HROW := hid hrow
    simp at hbl
    clear hb1 hb1' hrow
    go_wp2
    go_loop [7] (fun t => ∃ p : Nat, p ≤ q ∧ t = .int .i64 p ∧ Hid (∀ p' : Nat, p' < p → 0 ≤ needp ⟨0, a, b, c, 0⟩ p' ∧ needp ⟨0, a, b, c, 0⟩ p' < n)) (fun t => q - (intOf t).toNat)
    case atStart => exact ⟨0, by omega, rfl, fun p' hp => by omega⟩
    case round =>
      obtain ⟨p, p1, rfl, hp⟩ := hrel
      by_cases hlt : p < q
      · have hx : w1.cell? ⟨bl, p, none⟩ = some (.int .i64 (needp ⟨0, a, b, c, 0⟩ p)) := HROW.out.cell (by omega)
        have NO : Hid (¬ (0 ≤ needp ⟨0, a, b, c, 0⟩ p ∧ needp ⟨0, a, b, c, 0⟩ p < n) → ¬ CellOk ⟨kd, a, b, c, k⟩ n) := fun h g => h ((HI.out.1 g).2.1 p (by rw [HQ.out]; omega))
        have NX : Hid ((0 ≤ needp ⟨0, a, b, c, 0⟩ p ∧ needp ⟨0, a, b, c, 0⟩ p < n) → ∀ p' : Nat, p' < p + 1 → 0 ≤ needp ⟨0, a, b, c, 0⟩ p' ∧ needp ⟨0, a, b, c, 0⟩ p' < n) := fun h p' hp' => by
          by_cases e : p' = p
          · subst e; exact h
          · exact hp.out p' (by omega)
        generalize needp ⟨0, a, b, c, 0⟩ p = x at *
        by_cases x0 : x < 0
        · have R : Hid _ := NO.out (fun h => by omega)
          go_wp2
          go_ret
          exact bp_no R.out HW1.out
        · by_cases x1 : (n : Int) ≤ x
          · have R : Hid _ := NO.out (fun h => by omega)
            go_wp2
            go_ret
            exact bp_no R.out HW1.out
          · have R : Hid _ := NX.out ⟨by omega, by omega⟩
            go_wp2
            go_round
            case rel => exact ⟨p + 1, by omega, by go_num, R⟩
            case measure => simp [intOf]; omega
      · have c0 := boxed HB1.out 0
        have c1 := boxed HB1.out 1
        have c2 := boxed HB1.out 2
        have c3 := boxed HB1.out 3
        have c4 := boxed HB1.out 4
        simp at c0 c1 c2 c3 c4
        go_wp2_with fail
        refine (allowed_any kd a b c k _).mono ?_
        rintro e w2 ⟨rfl, hb2⟩
        have HB2 : Hid (Below w.heap.size w w2) := HW1.out.trans (hb2.mono (by have := HW1.out.size; omega))
        clear hb2
        cases hA : M.allowsB kd k
        · have R : Hid (¬ CellOk ⟨kd, a, b, c, k⟩ n) := fun h => by
            have := (allows_iff (a := a) (b := b) (c := c)).2 (HI.out.1 h).2.2
            rw [hA] at this; cases this
          clear hA
          go_wp2
          go_ret
          exact bp_no R.out HB2.out
        · have R : Hid (CellOk ⟨kd, a, b, c, k⟩ n) := HI.out.2 ⟨by rw [HQ.out]; omega, fun p' hp' => hp.out p' (by rw [HQ.out] at hp'; omega), allows_iff.1 hA⟩
          clear hA
          go_wp2
          go_ret
          exact bp_yes R.out HB2.out

end Go.Proofs.YtkhpkpaglkinbaaGreatDoor
