/-
  THE WALKS: the document's look over a text: a byte.
-/
import Derived.Test.YtcondcffllaaoaaDoorGR6
set_option linter.unusedVariables false
set_option linter.unusedSimpArgs false
namespace Go.Proofs.YtcondcffllaaoaaDoor
open Go.RowKit
open Go.Lib (itoa decDigits nDigits)
attribute [local go_sem ↓] Go.wp_at_zero Go.wp_at_succ

set_option maxRecDepth 100000 in
set_option maxHeartbeats 4000000 in
theorem goes_any {bx : Nat} {p l c t d v o : Int} {m : Bool} {w : World} (h : SB bx p l c t d m v o w) (b : Nat) (hb : b < 256) (v0 : 0 ≤ v) (v1 : v ≤ 100000000000) (d0 : 0 ≤ d) (d1 : d ≤ 100) (c0 : 0 ≤ c) (c1 : c ≤ 1000000000000) (t0 : -10 ≤ t) (t1 : t ≤ 10) (o0 : 0 ≤ o) (o1 : o ≤ 4) :
    Calls Tryd.prog 44 #[.pointer (some ⟨bx, 0, none⟩), .int .u8 b] w fun e w' => ScP bx (Sc.goes ⟨p, l, c, t, d, m, v, o⟩ b) w e w' := by
  obtain ⟨r0, r1, r2, r3, r4, r5, r6, r7, fz, zb⟩ := h.cells
  have H := hid h
  clear h
  have cs : o = 0 ∨ o = 1 ∨ o = 2 ∨ o = 3 ∨ o = 4 := by omega
  clear o0 o1
  rcases cs with rfl | rfl | rfl | rfl | rfl
  · have LE := hid (letter_any H.out b hb)
    have GE : Hid (Sc.goes ⟨p, l, c, t, d, m, v, 0⟩ b = Sc.doLetter ⟨p, l, c, t, d, m, v, 0⟩ b) := by
      show _ = _
      unfold Sc.goes
      rw [if_pos rfl]
    clear H
    have cn : b < 48 ∨ (48 ≤ b ∧ 57 < b) ∨ (48 ≤ b ∧ b ≤ 57) := by omega
    rcases cn with b0 | ⟨b0, b1⟩ | ⟨b0, b1⟩
    all_goals
      go_enter Tryd.func44, Tryd.ntmps44
      go_wp2_with fail
      refine LE.out.mono ?_
      rintro e w1 ⟨rfl, hs, ch⟩
      have R : Hid (ScP bx (Sc.goes ⟨p, l, c, t, d, m, v, 0⟩ b) w (.returned (.bool (Sc.doLetter ⟨p, l, c, t, d, m, v, 0⟩ b).1)) w1) := by rw [GE.out]; exact ⟨rfl, hs, ch⟩
      obtain ⟨rr, hrr⟩ : ∃ x, (Sc.doLetter ⟨p, l, c, t, d, m, v, 0⟩ b).1 = x := ⟨_, rfl⟩
      rw [hrr] at R ⊢
      clear hs ch LE GE hrr
      go_wp2
      go_ret
      exact R.out
  · have R : Hid (ScP bx (Sc.goes ⟨p, l, c, t, d, m, v, 1⟩ b) w (.returned (.bool ((b : Int) == 32))) (w.setCell ⟨bx, 7, none⟩ (.int .i64 2))) := by
      have GE : Sc.goes ⟨p, l, c, t, d, m, v, 1⟩ b = (decide ((b : Int) = 32), ⟨p, l, c, t, d, m, v, 2⟩) := by
        unfold Sc.goes
        rw [if_neg (by show ¬ (1 : Int) = 0; omega), if_pos rfl]
      rw [GE]
      exact ⟨rfl, fun _ => H.out.s7 _, (Chg.refl (· = bx) w).setCell _ _ rfl⟩
    clear H
    have cn : b < 48 ∨ (48 ≤ b ∧ 57 < b) ∨ (48 ≤ b ∧ b ≤ 57) := by omega
    rcases cn with b0 | ⟨b0, b1⟩ | ⟨b0, b1⟩
    all_goals
      go_enter Tryd.func44, Tryd.ntmps44
      go_wp2
      go_ret
      exact R.out
  · by_cases hn : 48 ≤ b ∧ b ≤ 57
    · obtain ⟨b0, b1⟩ := hn
      have DG := hid (sdigit_any H.out b (by omega) (by omega) v0 v1 d0 d1)
      have GE : Hid (Sc.goes ⟨p, l, c, t, d, m, v, 2⟩ b = Sc.doDigit ⟨p, l, c, t, d, m, v, 2⟩ b) := by
        show _ = _
        unfold Sc.goes
        rw [if_neg (by show ¬ (2 : Int) = 0; omega), if_neg (by show ¬ (2 : Int) = 1; omega), if_pos rfl, if_pos (by omega)]
      clear H
      go_enter Tryd.func44, Tryd.ntmps44
      go_wp2_with fail
      refine DG.out.mono ?_
      rintro e w1 ⟨rfl, hs, ch⟩
      have R : Hid (ScP bx (Sc.goes ⟨p, l, c, t, d, m, v, 2⟩ b) w (.returned (.bool (Sc.doDigit ⟨p, l, c, t, d, m, v, 2⟩ b).1)) w1) := by rw [GE.out]; exact ⟨rfl, hs, ch⟩
      obtain ⟨rr, hrr⟩ : ∃ x, (Sc.doDigit ⟨p, l, c, t, d, m, v, 2⟩ b).1 = x := ⟨_, rfl⟩
      rw [hrr] at R ⊢
      clear hs ch DG GE hrr
      go_wp2
      go_ret
      exact R.out
    · have IK := hid (isKind_any H.out)
      obtain ⟨ik, hik⟩ : ∃ x, isKB l c = x := ⟨_, rfl⟩
      have R : Hid (∀ bb : Bool, bb = (decide ((b : Int) = 45) && !ik) → ScP bx (Sc.goes ⟨p, l, c, t, d, m, v, 2⟩ b) w (.returned (.bool bb)) (w.setCell ⟨bx, 7, none⟩ (.int .i64 3))) := fun bb hbb => by
        have GE : Sc.goes ⟨p, l, c, t, d, m, v, 2⟩ b = (decide ((b : Int) = 45) && !ik, ⟨p, l, c, t, d, m, v, 3⟩) := by
          unfold Sc.goes
          rw [if_neg (by show ¬ (2 : Int) = 0; omega), if_neg (by show ¬ (2 : Int) = 1; omega), if_pos rfl, if_neg (by omega), isKB_of, hik]
        rw [GE, hbb]
        exact ⟨rfl, fun _ => H.out.s7 _, (Chg.refl (· = bx) w).setCell _ _ rfl⟩
      rw [hik] at IK
      clear H hik
      have cn : b < 48 ∨ (48 ≤ b ∧ 57 < b) := by omega
      clear hn
      by_cases h45 : b = 45
      · subst h45
        clear cn
        go_enter Tryd.func44, Tryd.ntmps44
        go_wp2_with fail
        refine IK.out.mono ?_
        rintro e w1 ⟨rfl, hw1⟩
        obtain rfl : w = w1 := hw1.symm
        clear hw1 IK
        go_wp2
        go_ret
        exact R.out _ (by simp)
      · have n45 : ((b : Int) == 45) = false := beq_eq_false_iff_ne.2 (by omega)
        have D45 : Hid (decide ((b : Int) = 45) = false) := decide_eq_false (by omega)
        rcases cn with b0 | ⟨b0, b1⟩
        · go_enter Tryd.func44, Tryd.ntmps44
          go_wp2_with fail
          refine IK.out.mono ?_
          rintro e w1 ⟨rfl, hw1⟩
          obtain rfl : w = w1 := hw1.symm
          clear hw1 IK
          go_wp2
          go_ret
          exact R.out _ (by rw [D45.out]; rfl)
        · go_enter Tryd.func44, Tryd.ntmps44
          go_wp2_with fail
          refine IK.out.mono ?_
          rintro e w1 ⟨rfl, hw1⟩
          obtain rfl : w = w1 := hw1.symm
          clear hw1 IK
          go_wp2
          go_ret
          exact R.out _ (by rw [D45.out]; rfl)
  · by_cases hn : 48 ≤ b ∧ b ≤ 57
    · obtain ⟨b0, b1⟩ := hn
      have DG := hid (sdigit_any H.out b (by omega) (by omega) v0 v1 d0 d1)
      have GE : Hid (Sc.goes ⟨p, l, c, t, d, m, v, 3⟩ b = Sc.doDigit ⟨p, l, c, t, d, m, v, 3⟩ b) := by
        show _ = _
        unfold Sc.goes
        rw [if_neg (by show ¬ (3 : Int) = 0; omega), if_neg (by show ¬ (3 : Int) = 1; omega), if_neg (by show ¬ (3 : Int) = 2; omega), if_pos rfl, if_pos (by omega)]
      clear H
      go_enter Tryd.func44, Tryd.ntmps44
      go_wp2_with fail
      refine DG.out.mono ?_
      rintro e w1 ⟨rfl, hs, ch⟩
      have R : Hid (ScP bx (Sc.goes ⟨p, l, c, t, d, m, v, 3⟩ b) w (.returned (.bool (Sc.doDigit ⟨p, l, c, t, d, m, v, 3⟩ b).1)) w1) := by rw [GE.out]; exact ⟨rfl, hs, ch⟩
      obtain ⟨rr, hrr⟩ : ∃ x, (Sc.doDigit ⟨p, l, c, t, d, m, v, 3⟩ b).1 = x := ⟨_, rfl⟩
      rw [hrr] at R ⊢
      clear hs ch DG GE hrr
      go_wp2
      go_ret
      exact R.out
    · have R : Hid (ScP bx (Sc.goes ⟨p, l, c, t, d, m, v, 3⟩ b) w (.returned (.bool false)) w) := by
        have GE : Sc.goes ⟨p, l, c, t, d, m, v, 3⟩ b = (false, ⟨p, l, c, t, d, m, v, 3⟩) := by
          unfold Sc.goes
          rw [if_neg (by show ¬ (3 : Int) = 0; omega), if_neg (by show ¬ (3 : Int) = 1; omega), if_neg (by show ¬ (3 : Int) = 2; omega), if_pos rfl, if_neg (by omega)]
        rw [GE]
        exact ⟨rfl, fun e => (by cases e), Chg.refl _ _⟩
      have cn : b < 48 ∨ (48 ≤ b ∧ 57 < b) := by omega
      clear H hn
      rcases cn with b0 | ⟨b0, b1⟩
      · go_enter Tryd.func44, Tryd.ntmps44
        go_wp2
        go_ret
        exact R.out
      · go_enter Tryd.func44, Tryd.ntmps44
        go_wp2
        go_ret
        exact R.out
  · by_cases hn : 48 ≤ b ∧ b ≤ 57
    · obtain ⟨b0, b1⟩ := hn
      have DG := hid (sdigit_any H.out b (by omega) (by omega) v0 v1 d0 d1)
      have GE : Hid (Sc.goes ⟨p, l, c, t, d, m, v, 4⟩ b = Sc.doDigit ⟨p, l, c, t, d, m, v, 4⟩ b) := by
        show _ = _
        unfold Sc.goes
        rw [if_neg (by show ¬ (4 : Int) = 0; omega), if_neg (by show ¬ (4 : Int) = 1; omega), if_neg (by show ¬ (4 : Int) = 2; omega), if_neg (by show ¬ (4 : Int) = 3; omega), if_pos (by omega)]
      clear H
      go_enter Tryd.func44, Tryd.ntmps44
      go_wp2_with fail
      refine DG.out.mono ?_
      rintro e w1 ⟨rfl, hs, ch⟩
      have R : Hid (ScP bx (Sc.goes ⟨p, l, c, t, d, m, v, 4⟩ b) w (.returned (.bool (Sc.doDigit ⟨p, l, c, t, d, m, v, 4⟩ b).1)) w1) := by rw [GE.out]; exact ⟨rfl, hs, ch⟩
      obtain ⟨rr, hrr⟩ : ∃ x, (Sc.doDigit ⟨p, l, c, t, d, m, v, 4⟩ b).1 = x := ⟨_, rfl⟩
      rw [hrr] at R ⊢
      clear hs ch DG GE hrr
      go_wp2
      go_ret
      exact R.out
    · have FU := hid (full_any H.out c0 c1 t0 t1)
      obtain ⟨fu, hfu⟩ : ∃ x, Sc.isFull ⟨p, l, c, t, d, m, v, 4⟩ = x := ⟨_, rfl⟩
      have HFU := hid hfu
      rw [hfu] at FU
      clear hfu
      have cn : b < 48 ∨ (48 ≤ b ∧ 57 < b) := by omega
      have HN := hid hn
      clear hn
      have KEEP : Hid (∀ w1, Below w.heap.size w w1 → Hid (SB bx p l c t d m v 4 w1) ∧ Hid (Chg (· = bx) w w1)) := fun w1 b1 => ⟨World.rowIs.of_block H.out (b1.block _ zb), Chg.of b1⟩
      clear H
      have RW : Hid (Sc.goes ⟨p, l, c, t, d, m, v, 4⟩ b = if (b : Int) = 32 then (!decide (l = 99) || !fu, { Sc.doDone ⟨p, l, c, t, d, m, v, 4⟩ with mode := 2 }) else (decide ((b : Int) = 10) && (!decide (l = 99) || fu), ⟨if p = 0 then 1 else p, l, c, t, d, m, v, 0⟩)) := by
        show _ = _
        unfold Sc.goes
        rw [if_neg (by show ¬ (4 : Int) = 0; omega), if_neg (by show ¬ (4 : Int) = 1; omega), if_neg (by show ¬ (4 : Int) = 2; omega), if_neg (by show ¬ (4 : Int) = 3; omega), if_neg (by have := HN.out; omega), HFU.out]
      by_cases h32 : b = 32
      · subst h32
        clear cn
        have R : Hid (∀ (bb : Bool) (w1 w2 : World), bb = (!decide (l = 99) || !fu) → Chg (· = bx) w w1 → SBx bx (Sc.doDone ⟨p, l, c, t, d, m, v, 4⟩) w2 → Chg (· = bx) w1 w2 → ScP bx (Sc.goes ⟨p, l, c, t, d, m, v, 4⟩ ((32 : Nat) : Int)) w (.returned (.bool bb)) (w2.setCell ⟨bx, 7, none⟩ (.int .i64 2))) := fun bb w1 w2 hbb ch1 hs2 ch2 => by
          rw [RW.out, if_pos (show ((32 : Nat) : Int) = 32 from rfl), hbb]
          exact ⟨rfl, fun _ => SB.s7 hs2 2, (ch1.trans ch2 (fun _ _ x => x)).setCell _ _ rfl⟩
        clear RW HFU HN
        by_cases hl : l = 99
        · subst hl
          go_enter Tryd.func44, Tryd.ntmps44
          go_wp2_with fail
          refine FU.out.mono ?_
          rintro e w1 ⟨rfl, b1'⟩
          obtain ⟨H1, C1⟩ := KEEP.out w1 b1'
          obtain ⟨q0, q1, q2, q3, q4, q5, q6, q7, fq, zq⟩ := SB.cells H1.out
          have DN := hid (done_any H1.out c0 c1)
          clear b1' H1
          go_wp2_with fail
          refine DN.out.mono ?_
          rintro e w2 ⟨rfl, hs2, ch2⟩
          have RR := hid (R.out (!fu) w1 w2 (by simp) C1.out hs2 ch2)
          obtain ⟨_, _, _, _, _, _, _, y7, fy, zy⟩ := SB.cells hs2
          clear hs2 ch2 DN C1 R
          go_wp2
          go_ret
          exact RR.out
        · have n99 : (l == 99) = false := beq_eq_false_iff_ne.2 hl
          go_enter Tryd.func44, Tryd.ntmps44
          go_wp2_with fail
          refine FU.out.mono ?_
          rintro e w1 ⟨rfl, b1'⟩
          obtain ⟨H1, C1⟩ := KEEP.out w1 b1'
          obtain ⟨q0, q1, q2, q3, q4, q5, q6, q7, fq, zq⟩ := SB.cells H1.out
          have DN := hid (done_any H1.out c0 c1)
          clear b1' H1
          go_wp2_with fail
          refine DN.out.mono ?_
          rintro e w2 ⟨rfl, hs2, ch2⟩
          have RR := hid (R.out true w1 w2 (by simp [hl]) C1.out hs2 ch2)
          obtain ⟨_, _, _, _, _, _, _, y7, fy, zy⟩ := SB.cells hs2
          clear hs2 ch2 DN C1 R hl
          go_wp2
          go_ret
          exact RR.out
      · have n32 : ((b : Int) == 32) = false := beq_eq_false_iff_ne.2 (by omega)
        have R : Hid (∀ (bb : Bool) (w1 w2 : World), bb = (decide ((b : Int) = 10) && (!decide (l = 99) || fu)) → Chg (· = bx) w w1 → (bb = true → SB bx (if p = 0 then 1 else p) l c t d m v 0 w2) → Chg (· = bx) w1 w2 → ScP bx (Sc.goes ⟨p, l, c, t, d, m, v, 4⟩ b) w (.returned (.bool bb)) w2) := fun bb w1 w2 hbb ch1 hs2 ch2 => by
          rw [RW.out, if_neg (by omega), ← hbb]
          exact ⟨rfl, hs2, ch1.trans ch2 (fun _ _ x => x)⟩
        clear RW HFU HN
        by_cases h10 : b = 10
        · subst h10
          clear cn
          by_cases hp : p = 0
          · subst hp
            have R2 : Hid (∀ (bb : Bool) (w1 : World), bb = (!decide (l = 99) || fu) → Hid (SB bx 0 l c t d m v 4 w1) → Chg (· = bx) w w1 → ScP bx (Sc.goes ⟨0, l, c, t, d, m, v, 4⟩ ((10 : Nat) : Int)) w (.returned (.bool bb)) ((w1.setCell ⟨bx, 7, none⟩ (.int .i64 0)).setCell ⟨bx, 0, none⟩ (.int .i64 1))) := fun bb w1 hbb h1 ch1 =>
              R.out bb w1 _ (by rw [hbb]; simp) ch1 (fun _ => by rw [if_pos rfl]; exact (h1.out.s7 0).s0 1) (((Chg.refl (· = bx) w1).setCell _ _ rfl).setCell _ _ rfl)
            clear R
            by_cases hl : l = 99
            · subst hl
              go_enter Tryd.func44, Tryd.ntmps44
              go_wp2_with fail
              refine FU.out.mono ?_
              rintro e w1 ⟨rfl, b1'⟩
              obtain ⟨H1, C1⟩ := KEEP.out w1 b1'
              obtain ⟨q0, q1, q2, q3, q4, q5, q6, q7, fq, zq⟩ := SB.cells H1.out
              have RR := hid (R2.out fu w1 (by simp) H1 C1.out)
              clear b1' H1 C1 R2
              go_wp2
              go_ret
              exact RR.out
            · have n99 : (l == 99) = false := beq_eq_false_iff_ne.2 hl
              go_enter Tryd.func44, Tryd.ntmps44
              go_wp2_with fail
              refine FU.out.mono ?_
              rintro e w1 ⟨rfl, b1'⟩
              obtain ⟨H1, C1⟩ := KEEP.out w1 b1'
              obtain ⟨q0, q1, q2, q3, q4, q5, q6, q7, fq, zq⟩ := SB.cells H1.out
              have RR := hid (R2.out true w1 (by simp [hl]) H1 C1.out)
              clear b1' H1 C1 R2 hl
              go_wp2
              go_ret
              exact RR.out
          · have p0 : (p == 0) = false := beq_eq_false_iff_ne.2 hp
            have R2 : Hid (∀ (bb : Bool) (w1 : World), bb = (!decide (l = 99) || fu) → Hid (SB bx p l c t d m v 4 w1) → Chg (· = bx) w w1 → ScP bx (Sc.goes ⟨p, l, c, t, d, m, v, 4⟩ ((10 : Nat) : Int)) w (.returned (.bool bb)) (w1.setCell ⟨bx, 7, none⟩ (.int .i64 0))) := fun bb w1 hbb h1 ch1 =>
              R.out bb w1 _ (by rw [hbb]; simp) ch1 (fun _ => by rw [if_neg hp]; exact h1.out.s7 0) ((Chg.refl (· = bx) w1).setCell _ _ rfl)
            clear hp
            clear R
            by_cases hl : l = 99
            · subst hl
              go_enter Tryd.func44, Tryd.ntmps44
              go_wp2_with fail
              refine FU.out.mono ?_
              rintro e w1 ⟨rfl, b1'⟩
              obtain ⟨H1, C1⟩ := KEEP.out w1 b1'
              obtain ⟨q0, q1, q2, q3, q4, q5, q6, q7, fq, zq⟩ := SB.cells H1.out
              have RR := hid (R2.out fu w1 (by simp) H1 C1.out)
              clear b1' H1 C1 R2
              go_wp2
              go_ret
              exact RR.out
            · have n99 : (l == 99) = false := beq_eq_false_iff_ne.2 hl
              go_enter Tryd.func44, Tryd.ntmps44
              go_wp2_with fail
              refine FU.out.mono ?_
              rintro e w1 ⟨rfl, b1'⟩
              obtain ⟨H1, C1⟩ := KEEP.out w1 b1'
              obtain ⟨q0, q1, q2, q3, q4, q5, q6, q7, fq, zq⟩ := SB.cells H1.out
              have RR := hid (R2.out true w1 (by simp [hl]) H1 C1.out)
              clear b1' H1 C1 R2 hl
              go_wp2
              go_ret
              exact RR.out
        · have n10 : ((b : Int) == 10) = false := beq_eq_false_iff_ne.2 (by omega)
          have D10 : Hid (decide ((b : Int) = 10) = false) := decide_eq_false (by omega)
          by_cases hp : p = 0
          · subst hp
            have R2 : Hid (∀ (w1 : World), Chg (· = bx) w w1 → ScP bx (Sc.goes ⟨0, l, c, t, d, m, v, 4⟩ b) w (.returned (.bool false)) ((w1.setCell ⟨bx, 7, none⟩ (.int .i64 0)).setCell ⟨bx, 0, none⟩ (.int .i64 1))) := fun w1 ch1 =>
              R.out false w1 _ (by rw [D10.out]; rfl) ch1 (fun e => (by cases e)) (((Chg.refl (· = bx) w1).setCell _ _ rfl).setCell _ _ rfl)
            clear R D10
            rcases cn with b0 | ⟨b0, b1⟩
            all_goals
              go_enter Tryd.func44, Tryd.ntmps44
              go_wp2_with fail
              refine FU.out.mono ?_
              rintro e w1 ⟨rfl, b1'⟩
              obtain ⟨H1, C1⟩ := KEEP.out w1 b1'
              obtain ⟨q0, q1, q2, q3, q4, q5, q6, q7, fq, zq⟩ := SB.cells H1.out
              have RR := hid (R2.out w1 C1.out)
              clear b1' H1 C1 R2
              go_wp2
              go_ret
              exact RR.out
          · have p0 : (p == 0) = false := beq_eq_false_iff_ne.2 hp
            have R2 : Hid (∀ (w1 : World), Chg (· = bx) w w1 → ScP bx (Sc.goes ⟨p, l, c, t, d, m, v, 4⟩ b) w (.returned (.bool false)) (w1.setCell ⟨bx, 7, none⟩ (.int .i64 0))) := fun w1 ch1 =>
              R.out false w1 _ (by rw [D10.out]; rfl) ch1 (fun e => (by cases e)) ((Chg.refl (· = bx) w1).setCell _ _ rfl)
            clear R D10 hp
            rcases cn with b0 | ⟨b0, b1⟩
            all_goals
              go_enter Tryd.func44, Tryd.ntmps44
              go_wp2_with fail
              refine FU.out.mono ?_
              rintro e w1 ⟨rfl, b1'⟩
              obtain ⟨H1, C1⟩ := KEEP.out w1 b1'
              obtain ⟨q0, q1, q2, q3, q4, q5, q6, q7, fq, zq⟩ := SB.cells H1.out
              have RR := hid (R2.out w1 C1.out)
              clear b1' H1 C1 R2
              go_wp2
              go_ret
              exact RR.out

end Go.Proofs.YtcondcffllaaoaaDoor
