/-
  THE WALKS: what a cell needs, in the code; is it ready?
-/
import Derived.Test.YtkhpkpaglkinbaaGreatDoorGraph
import Derived.Deep.OwnRows
set_option linter.unusedVariables false
set_option linter.unusedSimpArgs false
namespace Go.Proofs.YtkhpkpaglkinbaaGreatDoor
open Go.RowKit

/-- The table of package kind, as it is laid. -/
def Tab (w : World) : Prop := 0 < w.heap.size ∧ ∀ i : Nat, i < 13 → w.cell? ⟨0, i, none⟩ = some (.int .i64 (M.needs i))

theorem Tab.below {B : Nat} {w w' : World} (h : Tab w) (hb : Below B w w') (hB : w.heap.size ≤ B) : Tab w' :=
  ⟨by have := hb.size; have := h.1; omega, fun i hi => by rw [hb.cell (p := ⟨0, i, none⟩) (by have := h.1; show 0 < B; omega)]; exact h.2 i hi⟩

/-- How many it needs; none, if there is no such kind. -/
def need0 (k : Int) : Int := if 0 ≤ k ∧ k < 13 then M.needs k else 0

theorem need0_bd (k : Int) : 0 ≤ need0 k ∧ need0 k ≤ 3 := by
  unfold need0
  split
  · unfold M.needs; repeat' split
    all_goals omega
  · omega

set_option maxHeartbeats 400000 in
theorem pneeds_any (k : Int) (w : World) (ht : Tab w) : Calls Tryz.prog 84 #[.int .i64 k] w fun e w' => e = .returned (.int .i64 (need0 k)) ∧ w' = w := by
  have HT : Hid _ := ht
  clear ht
  by_cases c : 0 ≤ k ∧ k < 13
  · obtain ⟨c1, c2⟩ := c
    obtain ⟨m, rfl⟩ := Int.eq_ofNat_of_zero_le c1
    have hv : Hid (need0 m = M.needs m) := if_pos ⟨c1, c2⟩
    have hkn : Hid (M.knownB m = true) := by show M.knownB m = true; simp [M.knownB]; omega
    have hx := HT.out.2 m (by omega)
    generalize M.needs m = x at *
    go_enter Tryz.func84, Tryz.ntmps84
    go_wp2_with (go_at_call 76; refine (known_any _ _).mono ?_; rintro e w1 ⟨rfl, rfl⟩; rw [hkn.out])
    go_ret
    exact ⟨ret_int hv.out.symm, rfl⟩
  · have hv : Hid (need0 k = 0) := if_neg c
    have hkn : Hid (M.knownB k = false) := by show M.knownB k = false; simp [M.knownB]; omega
    go_enter Tryz.func84, Tryz.ntmps84
    go_wp2_with (go_at_call 76; refine (known_any _ _).mono ?_; rintro e w1 ⟨rfl, rfl⟩; rw [hkn.out])
    go_ret
    exact ⟨ret_int hv.out.symm, rfl⟩

/-- What stands in A, B or C. -/
def needp (c : Cel) (p : Nat) : Int := if p = 0 then c.a else if p = 1 then c.b else c.c

set_option maxHeartbeats 400000 in
theorem pneed_any (kd a b c k : Int) (p : Nat) (w : World) (hp : p ≤ 3) : Calls Tryz.prog 85 #[.agg #[.int .i64 kd, .int .i64 a, .int .i64 b, .int .i64 c, .int .i64 k], .int .i64 p] w fun e w' => e = .returned (.int .i64 (needp ⟨kd, a, b, c, k⟩ p)) ∧ Below w.heap.size w w' := by
  by_cases p0 : p = 0
  · subst p0
    go_enter Tryz.func85, Tryz.ntmps85
    go_wp2
    go_ret
    exact ⟨rfl, (Below.refl _ _).alloc (Nat.le_refl _) _⟩
  · by_cases p1 : p = 1
    · subst p1
      go_enter Tryz.func85, Tryz.ntmps85
      go_wp2
      go_ret
      exact ⟨rfl, (Below.refl _ _).alloc (Nat.le_refl _) _⟩
    · have t0 : ((p : Int) == 0) = false := beq_eq_false_iff_ne.2 (by omega)
      have t1 : ((p : Int) == 1) = false := beq_eq_false_iff_ne.2 (by omega)
      have hv : Hid (needp ⟨kd, a, b, c, k⟩ p = c) := by show needp ⟨kd, a, b, c, k⟩ p = c; unfold needp; rw [if_neg p0, if_neg p1]
      clear p0 p1
      go_enter Tryz.func85, Tryz.ntmps85
      go_wp2
      go_ret
      exact ⟨ret_int hv.out.symm, (Below.refl _ _).alloc (Nat.le_refl _) _⟩

/-- Are all that it needs done? -/
def readyB (c : Cel) (n : Nat) (D : Nat → Bool) : Prop := ∀ p : Nat, (p : Int) < need0 c.kind → 0 ≤ needp c p ∧ needp c p < n ∧ D (needp c p).toNat = true

theorem ready_ed {C : Nat → Cel} {n i : Nat} (hi : i < n) (hok : CellsOk C n) {D : Nat → Bool} : readyB (C i) n D ↔ ∀ j, Ed C n i j → D j = true := by
  obtain ⟨k0, k1, _, ha, hb, hc⟩ := hok i hi
  have e : need0 (C i).kind = M.needs (C i).kind := if_pos ⟨k0, by omega⟩
  have bd := need0_bd (C i).kind
  unfold readyB
  rw [e] at *
  constructor
  · intro h j ⟨_, hj⟩
    rcases hj with ⟨p, q⟩ | ⟨p, q⟩ | ⟨p, q⟩
    · have := (h 0 (by omega)).2.2
      rw [show needp (C i) 0 = (C i).a from rfl, q] at this; exact this
    · have := (h 1 (by omega)).2.2
      rw [show needp (C i) 1 = (C i).b from rfl, q] at this; exact this
    · have := (h 2 (by omega)).2.2
      rw [show needp (C i) 2 = (C i).c from rfl, q] at this; exact this
  · intro h p hp
    have hp3 : p = 0 ∨ p = 1 ∨ p = 2 := by omega
    rcases hp3 with rfl | rfl | rfl
    · obtain ⟨a0, a1⟩ := ha (by omega)
      exact ⟨a0, a1, h _ ⟨hi, Or.inl ⟨by omega, by show (C i).a = (((C i).a).toNat : Int); omega⟩⟩⟩
    · obtain ⟨a0, a1⟩ := hb (by omega)
      exact ⟨a0, a1, h _ ⟨hi, Or.inr (Or.inl ⟨by omega, by show (C i).b = (((C i).b).toNat : Int); omega⟩)⟩⟩
    · obtain ⟨a0, a1⟩ := hc (by omega)
      exact ⟨a0, a1, h _ ⟨hi, Or.inr (Or.inr ⟨by omega, by show (C i).c = (((C i).c).toNat : Int); omega⟩)⟩⟩

set_option maxHeartbeats 800000 in
theorem ready_any (kd a b c k : Int) (bd n cap : Nat) (D : Nat → Bool) (w : World) (ht : Tab w) (hl : n ≤ 20) (hbd : bd < w.heap.size) (hD : ∀ j, j < n → w.cell? ⟨bd, j, none⟩ = some (.bool (D j))) :
    Calls Tryz.prog 80 #[.agg #[.int .i64 kd, .int .i64 a, .int .i64 b, .int .i64 c, .int .i64 k], .slice (some ⟨bd, 0, none⟩) n cap] w
      fun e w' => ∃ r, e = .returned (.bool r) ∧ (r = true ↔ readyB ⟨kd, a, b, c, k⟩ n D) ∧ Below w.heap.size w w' := by
  have HT : Hid _ := ht
  have HD : Hid _ := hD
  clear ht hD
  obtain ⟨q1, q2⟩ := need0_bd kd
  obtain ⟨q, hq⟩ := Int.eq_ofNat_of_zero_le q1
  have HQ : Hid (need0 kd = (q : Int)) := hq
  rw [hq] at q1 q2
  clear hq
  go_enter Tryz.func80, Tryz.ntmps80
  go_wp2_with fail
  refine (pneeds_any _ _ (Tab.below HT.out ((Below.refl _ _).alloc (Nat.le_refl _) _) (Nat.le_refl _))).mono ?_
  rintro e w1 ⟨rfl, rfl⟩
  rw [HQ.out]
  go_wp2
  go_loopw [6] (fun t wr => ∃ p : Nat, p ≤ q ∧ t = .int .i64 p ∧ Hid (∀ p' : Nat, p' < p → 0 ≤ needp ⟨kd, a, b, c, k⟩ p' ∧ needp ⟨kd, a, b, c, k⟩ p' < n ∧ D (needp ⟨kd, a, b, c, k⟩ p').toNat = true) ∧ Below (w.heap.size + 1) (w.alloc (.cells #[.int .i64 kd, .int .i64 a, .int .i64 b, .int .i64 c, .int .i64 k] 76)) wr) (fun t _ => q - (intOf t).toNat)
  case atStart => exact ⟨0, by omega, rfl, fun p' hp => by omega, Below.refl _ _⟩
  case round =>
    obtain ⟨p, p1, rfl, hp, hb⟩ := hrel
    by_cases hlt : p < q
    · have c0 := boxed hb 0
      have c1 := boxed hb 1
      have c2 := boxed hb 2
      have c3 := boxed hb 3
      have c4 := boxed hb 4
      simp at c0 c1 c2 c3 c4
      have hsz := hb.size
      simp at hsz
      have HB : Hid _ := hb
      clear hb
      go_wp2_with fail
      refine (pneed_any kd a b c k p _ (by omega)).mono ?_
      rintro e w1 ⟨rfl, hb1⟩
      have HB1 : Hid (Below (w.heap.size + 1) (w.alloc (.cells #[.int .i64 kd, .int .i64 a, .int .i64 b, .int .i64 c, .int .i64 k] 76)) w1) := HB.out.trans (hb1.mono (by omega))
      have HW : Hid (Below w.heap.size w w1) := boxed_below HB1.out
      clear hb1 c0 c1 c2 c3 c4
      have nx : Hid (0 ≤ needp ⟨kd, a, b, c, k⟩ p ∧ needp ⟨kd, a, b, c, k⟩ p < n → D (needp ⟨kd, a, b, c, k⟩ p).toNat = true → ∀ p' : Nat, p' < p + 1 → 0 ≤ needp ⟨kd, a, b, c, k⟩ p' ∧ needp ⟨kd, a, b, c, k⟩ p' < n ∧ D (needp ⟨kd, a, b, c, k⟩ p').toNat = true) := fun h1 h2 p' hp' => by
        by_cases e : p' = p
        · subst e; exact ⟨h1.1, h1.2, h2⟩
        · exact hp.out p' (by omega)
      have no : Hid (¬ (0 ≤ needp ⟨kd, a, b, c, k⟩ p ∧ needp ⟨kd, a, b, c, k⟩ p < n ∧ D (needp ⟨kd, a, b, c, k⟩ p).toNat = true) → (false = true ↔ readyB ⟨kd, a, b, c, k⟩ n D)) := fun h => ⟨fun e => (by cases e), fun g => (h (g p (by rw [HQ.out]; omega))).elim⟩
      generalize needp ⟨kd, a, b, c, k⟩ p = x at *
      by_cases x0 : 0 ≤ x
      · obtain ⟨y, rfl⟩ := Int.eq_ofNat_of_zero_le x0
        by_cases x1 : y < n
        · have hcell : w1.cell? ⟨bd, y, none⟩ = some (.bool (D y)) := by rw [HW.out.cell (p := ⟨bd, y, none⟩) hbd]; exact HD.out y x1
          cases hd : D y
          · rw [hd] at hcell
            have NO : Hid _ := no.out (fun h => by rw [Int.toNat_natCast, hd] at h; cases h.2.2)
            clear hd
            go_wp2
            go_ret
            exact ⟨_, rfl, NO.out, HW.out⟩
          · rw [hd] at hcell
            have NX : Hid _ := nx.out ⟨by omega, by omega⟩ (by rw [Int.toNat_natCast]; exact hd)
            clear hd
            go_wp2
            go_roundw
            case rel => exact ⟨p + 1, by omega, by go_num, NX, HB1⟩
            case measure => simp [intOf]; omega
        · have NO : Hid _ := no.out (fun h => by omega)
          go_wp2
          go_ret
          exact ⟨_, rfl, NO.out, HW.out⟩
      · have NO : Hid _ := no.out (fun h => by omega)
        go_wp2
        go_ret
        exact ⟨_, rfl, NO.out, HW.out⟩
    · have HB : Hid _ := hb
      clear hb
      go_wp2
      go_ret
      exact ⟨_, rfl, ⟨fun _ p' hp' => hp.out p' (by rw [HQ.out] at hp'; omega), fun _ => rfl⟩, boxed_below HB.out⟩

end Go.Proofs.YtkhpkpaglkinbaaGreatDoor
