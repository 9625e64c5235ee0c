/-
  THE WALKS: the document's look over a text: a digit; is a line full?
-/
import Derived.Test.YtcondcffllaaoaaDoorGR4
set_option linter.unusedVariables false
set_option linter.unusedSimpArgs false
namespace Go.Proofs.YtcondcffllaaoaaDoor
open Go.RowKit
open Go.Lib (itoa decDigits nDigits)
attribute [local go_sem ↓] Go.wp_at_zero Go.wp_at_succ

theorem wantK_any (k : Int) : -1 ≤ wantK k ∧ wantK k ≤ 4 := by
  have := needsN_bd k
  have e : needsN k = M.needs k := rfl
  unfold wantK
  rw [e]
  split <;> omega

set_option maxRecDepth 100000 in
set_option maxHeartbeats 2000000 in
theorem full_any {bx : Nat} {p l c t d v o : Int} {m : Bool} {w : World} (h : SB bx p l c t d m v o w) (c0 : 0 ≤ c) (c1 : c ≤ 1000000000000) (t0 : -10 ≤ t) (t1 : t ≤ 10) :
    Calls Tryd.prog 62 #[.pointer (some ⟨bx, 0, none⟩)] w fun e w' => e = .returned (.bool (Sc.isFull ⟨p, l, c, t, d, m, v, o⟩)) ∧ Below w.heap.size w w' := by
  obtain ⟨r0, r1, r2, r3, r4, r5, r6, r7, fz, zb⟩ := h.cells
  clear h
  have B0 : Hid (Below w.heap.size w (w.alloc (.cells #[.int .i64 p, .int .u8 l, .int .i64 c, .int .i64 t, .int .i64 d, .bool m, .int .i64 v, .int .i64 o] 82))) := (Below.refl _ _).alloc (Nat.le_refl _) _
  have S0 : SB w.heap.size p l c t d m v o (w.alloc (.cells #[.int .i64 p, .int .u8 l, .int .i64 c, .int .i64 t, .int .i64 d, .bool m, .int .i64 v, .int .i64 o] 82)) :=
    World.rowIs_alloc w #[.int .i64 p, .int .u8 l, .int .i64 c, .int .i64 t, .int .i64 d, .bool m, .int .i64 v, .int .i64 o] 82 _ (fun i hi => by
      rcases eight (by simpa using hi) with rfl | rfl | rfl | rfl | rfl | rfl | rfl | rfl <;> rfl)
  have DN := hid (done_any S0 c0 c1)
  clear S0
  go_enter Tryd.func62, Tryd.ntmps62
  go_wp2_with fail
  refine DN.out.mono ?_
  rintro e w1 ⟨rfl, hs, ch⟩
  have B1 : Hid (Below w.heap.size w w1) := B0.out.trans (ch.below (fun j hj => by omega) (by simp))
  obtain ⟨q0, q1, q2, q3, q4, q5, q6, q7, fq, zq⟩ := SB.cells hs
  have wb : -10 ≤ (Sc.doDone ⟨p, l, c, t, d, m, v, o⟩).want ∧ (Sc.doDone ⟨p, l, c, t, d, m, v, o⟩).want ≤ 10 := by
    unfold Sc.doDone
    have := wantK_any v
    show -10 ≤ (if _ then _ else _) ∧ (if _ then _ else _) ≤ _
    split
    · exact ⟨by show -10 ≤ wantK v; omega, by show wantK v ≤ 10; omega⟩
    · exact ⟨t0, t1⟩
  have FU : Hid (Sc.isFull ⟨p, l, c, t, d, m, v, o⟩ = ((Sc.doDone ⟨p, l, c, t, d, m, v, o⟩).count == 1 + (Sc.doDone ⟨p, l, c, t, d, m, v, o⟩).want)) := rfl
  obtain ⟨dc, hdc⟩ : ∃ x, (Sc.doDone ⟨p, l, c, t, d, m, v, o⟩).count = x := ⟨_, rfl⟩
  obtain ⟨dw, hdw⟩ : ∃ x, (Sc.doDone ⟨p, l, c, t, d, m, v, o⟩).want = x := ⟨_, rfl⟩
  rw [hdc] at q2 FU
  rw [hdw] at q3 FU wb
  clear hs ch hdc hdw q0 q1 q4 q5 q6 q7 DN r0 r1 r2 r3 r4 r5 r6 r7
  go_wp2
  go_ret
  exact ⟨by rw [FU.out]; rfl, B1.out⟩

set_option maxRecDepth 100000 in
set_option maxHeartbeats 4000000 in
theorem sdigit_any {bx : Nat} {p l c t d v o : Int} {m : Bool} {w : World} (h : SB bx p l c t d m v o w) (b : Nat) (b0 : 48 ≤ b) (b1 : b ≤ 57) (v0 : 0 ≤ v) (v1 : v ≤ 100000000000) (d0 : 0 ≤ d) (d1 : d ≤ 100) :
    Calls Tryd.prog 60 #[.pointer (some ⟨bx, 0, none⟩), .int .u8 b] w fun e w' => ScP bx (Sc.doDigit ⟨p, l, c, t, d, m, v, o⟩ b) w e w' := by
  obtain ⟨r0, r1, r2, r3, r4, r5, r6, r7, fz, zb⟩ := h.cells
  have IK := hid (isKind_any h)
  have H := hid h
  clear h
  obtain ⟨ik, hik⟩ : ∃ x, isKB l c = x := ⟨_, rfl⟩
  have HIK := hid hik
  rw [hik] at IK
  clear hik
  by_cases h4 : o = 4
  · subst h4
    by_cases hv : v = 0
    · subst hv
      have R : Hid (ScP bx (Sc.doDigit ⟨p, l, c, t, d, m, 0, 4⟩ b) w (.returned (.bool false)) w) := by
        have ed : Sc.doDigit ⟨p, l, c, t, d, m, 0, 4⟩ b = (false, ⟨p, l, c, t, d, m, 0, 4⟩) := by unfold Sc.doDigit; rw [if_pos ⟨rfl, Or.inl rfl⟩]
        rw [ed]
        exact ⟨rfl, fun e => (by cases e), Chg.refl _ _⟩
      clear H HIK
      go_enter Tryd.func60, Tryd.ntmps60
      go_wp2_with fail
      refine IK.out.mono ?_
      rintro e w1 ⟨rfl, hw1⟩
      obtain rfl : w = w1 := hw1.symm
      clear hw1
      go_wp2
      go_ret
      exact R.out
    · have ev : (v == 0) = false := beq_eq_false_iff_ne.2 hv
      by_cases hd : 9 < d
      · have R : Hid (ScP bx (Sc.doDigit ⟨p, l, c, t, d, m, v, 4⟩ b) w (.returned (.bool false)) w) := by
          have ed : Sc.doDigit ⟨p, l, c, t, d, m, v, 4⟩ b = (false, ⟨p, l, c, t, d, m, v, 4⟩) := by unfold Sc.doDigit; rw [if_pos ⟨rfl, Or.inr hd⟩]
          rw [ed]
          exact ⟨rfl, fun e => (by cases e), Chg.refl _ _⟩
        clear H HIK
        go_enter Tryd.func60, Tryd.ntmps60
        go_wp2_with fail
        refine IK.out.mono ?_
        rintro e w1 ⟨rfl, hw1⟩
        obtain rfl : w = w1 := hw1.symm
        clear hw1
        go_wp2
        go_ret
        exact R.out
      · have R : Hid (∀ bb : Bool, bb = (!ik || decide (10 * v + ((b : Int) - 48) ≤ 12)) → ScP bx (Sc.doDigit ⟨p, l, c, t, d, m, v, 4⟩ b) w (.returned (.bool bb)) (((w.setCell ⟨bx, 6, none⟩ (.int .i64 (10 * v + ((b : Int) - 48)))).setCell ⟨bx, 4, none⟩ (.int .i64 (d + 1))).setCell ⟨bx, 7, none⟩ (.int .i64 4))) := fun bb hbb => by
          have ed : Sc.doDigit ⟨p, l, c, t, d, m, v, 4⟩ b = (!ik || decide (10 * v + ((b : Int) - 48) ≤ 12), ⟨p, l, c, t, d + 1, m, 10 * v + ((b : Int) - 48), 4⟩) := by
            unfold Sc.doDigit
            rw [if_neg (by intro e; have e2 : v = 0 ∨ 9 < d := e.2; omega), if_neg (by intro e; have e2 : (4 : Int) = 3 := e.1; omega), isKB_of, HIK.out]
            rfl
          rw [ed, hbb]
          exact ⟨rfl, fun _ => ((H.out.s6 _).s4 _).s7 _, (((Chg.refl (· = bx) w).setCell _ _ rfl).setCell _ _ rfl).setCell _ _ rfl⟩
        clear H HIK
        go_enter Tryd.func60, Tryd.ntmps60
        go_wp2_with fail
        refine IK.out.mono ?_
        rintro e w1 ⟨rfl, hw1⟩
        obtain rfl : w = w1 := hw1.symm
        clear hw1
        cases ik
        · go_wp2
          go_ret
          exact R.out _ rfl
        · go_wp2
          go_ret
          exact R.out _ rfl
  · have e4 : (o == 4) = false := beq_eq_false_iff_ne.2 h4
    have n4 : (o != 4) = true := bne_iff_ne.2 h4
    by_cases hz : o = 3 ∧ b = 48
    · obtain ⟨rfl, rfl⟩ := hz
      have R : Hid (ScP bx (Sc.doDigit ⟨p, l, c, t, d, m, v, 3⟩ ((48 : Nat) : Int)) w (.returned (.bool false)) w) := by
        have ed : Sc.doDigit ⟨p, l, c, t, d, m, v, 3⟩ ((48 : Nat) : Int) = (false, ⟨p, l, c, t, d, m, v, 3⟩) := by
          unfold Sc.doDigit
          rw [if_neg (by intro e; have e2 : (3 : Int) = 4 := e.1; omega), if_pos ⟨rfl, rfl⟩]
        rw [ed]
        exact ⟨rfl, fun e => (by cases e), Chg.refl _ _⟩
      clear H HIK e4 n4
      go_enter Tryd.func60, Tryd.ntmps60
      go_wp2_with fail
      refine IK.out.mono ?_
      rintro e w1 ⟨rfl, hw1⟩
      obtain rfl : w = w1 := hw1.symm
      clear hw1
      go_wp2
      go_ret
      exact R.out
    · have R : Hid (∀ bb : Bool, bb = (!ik || decide ((b : Int) - 48 ≤ 12)) → ScP bx (Sc.doDigit ⟨p, l, c, t, d, m, v, o⟩ b) w (.returned (.bool bb)) (((((w.setCell ⟨bx, 6, none⟩ (.int .i64 0)).setCell ⟨bx, 4, none⟩ (.int .i64 0)).setCell ⟨bx, 6, none⟩ (.int .i64 ((b : Int) - 48))).setCell ⟨bx, 4, none⟩ (.int .i64 1)).setCell ⟨bx, 7, none⟩ (.int .i64 4))) := fun bb hbb => by
        have ed : Sc.doDigit ⟨p, l, c, t, d, m, v, o⟩ b = (!ik || decide ((b : Int) - 48 ≤ 12), ⟨p, l, c, t, 1, m, (b : Int) - 48, 4⟩) := by
          unfold Sc.doDigit
          rw [if_neg (fun e => h4 e.1), if_neg (by intro e; exact hz ⟨e.1, by have := e.2; omega⟩), isKB_of, HIK.out]
          simp [h4]
        rw [ed, hbb]
        exact ⟨rfl, fun _ => ((((H.out.s6 _).s4 _).s6 _).s4 _).s7 _, (((((Chg.refl (· = bx) w).setCell _ _ rfl).setCell _ _ rfl).setCell _ _ rfl).setCell _ _ rfl).setCell _ _ rfl⟩
      by_cases h3 : o = 3
      · subst h3
        have hb : ((b : Int) - 48 == 0) = false := beq_eq_false_iff_ne.2 (by omega)
        clear H HIK e4 n4 hz
        go_enter Tryd.func60, Tryd.ntmps60
        go_wp2_with fail
        refine IK.out.mono ?_
        rintro e w1 ⟨rfl, hw1⟩
        obtain rfl : w = w1 := hw1.symm
        clear hw1
        cases ik
        · go_wp2
          go_ret
          exact R.out _ rfl
        · go_wp2
          go_ret
          exact R.out _ rfl
      · have e3 : (o == 3) = false := beq_eq_false_iff_ne.2 h3
        clear H HIK hz
        go_enter Tryd.func60, Tryd.ntmps60
        go_wp2_with fail
        refine IK.out.mono ?_
        rintro e w1 ⟨rfl, hw1⟩
        obtain rfl : w = w1 := hw1.symm
        clear hw1
        cases ik
        · go_wp2
          go_ret
          exact R.out _ rfl
        · go_wp2
          go_ret
          exact R.out _ rfl

end Go.Proofs.YtcondcffllaaoaaDoor
