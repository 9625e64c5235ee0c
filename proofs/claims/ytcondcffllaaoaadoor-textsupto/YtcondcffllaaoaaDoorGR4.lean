/-
  THE WALKS: the document's look over a text: where it stands.
-/
import Derived.Test.YtcondcffllaaoaaDoorGR1
set_option linter.unusedVariables false
set_option linter.unusedSimpArgs false
namespace Go.Proofs.YtcondcffllaaoaaDoor
open Go.RowKit
open Go.Lib (itoa decDigits nDigits)
attribute [local go_sem ↓] Go.wp_at_zero Go.wp_at_succ

def scf (p l c t d : Int) (m : Bool) (v o : Int) (j : Nat) : Value :=
  if j = 0 then .int .i64 p else if j = 1 then .int .u8 l else if j = 2 then .int .i64 c else if j = 3 then .int .i64 t else if j = 4 then .int .i64 d else if j = 5 then .bool m else if j = 6 then .int .i64 v else .int .i64 o

/-- A look, in its block. -/
def SB (bx : Nat) (p l c t d : Int) (m : Bool) (v o : Int) (w : World) : Prop := w.rowIs bx 82 8 (scf p l c t d m v o)
def SBx (bx : Nat) (x : Sc) (w : World) : Prop := SB bx x.part x.letter x.count x.want x.digits x.minus x.value x.mode w

theorem eight {j : Nat} (h : j < 8) : j = 0 ∨ j = 1 ∨ j = 2 ∨ j = 3 ∨ j = 4 ∨ j = 5 ∨ j = 6 ∨ j = 7 := by omega
theorem SB.s0 {bx : Nat} {p l c t d v o : Int} {m : Bool} {w : World} (h : SB bx p l c t d m v o w) (y : Int) : SB bx y l c t d m v o (w.setCell ⟨bx, 0, none⟩ (.int .i64 y)) :=
  World.rowIs.congr (World.rowIs.set h 0 _) (fun j hj => by rcases eight hj with rfl | rfl | rfl | rfl | rfl | rfl | rfl | rfl <;> rfl)
theorem SB.s1 {bx : Nat} {p l c t d v o : Int} {m : Bool} {w : World} (h : SB bx p l c t d m v o w) (y : Int) : SB bx p y c t d m v o (w.setCell ⟨bx, 1, none⟩ (.int .u8 y)) :=
  World.rowIs.congr (World.rowIs.set h 1 _) (fun j hj => by rcases eight hj with rfl | rfl | rfl | rfl | rfl | rfl | rfl | rfl <;> rfl)
theorem SB.s2 {bx : Nat} {p l c t d v o : Int} {m : Bool} {w : World} (h : SB bx p l c t d m v o w) (y : Int) : SB bx p l y t d m v o (w.setCell ⟨bx, 2, none⟩ (.int .i64 y)) :=
  World.rowIs.congr (World.rowIs.set h 2 _) (fun j hj => by rcases eight hj with rfl | rfl | rfl | rfl | rfl | rfl | rfl | rfl <;> rfl)
theorem SB.s3 {bx : Nat} {p l c t d v o : Int} {m : Bool} {w : World} (h : SB bx p l c t d m v o w) (y : Int) : SB bx p l c y d m v o (w.setCell ⟨bx, 3, none⟩ (.int .i64 y)) :=
  World.rowIs.congr (World.rowIs.set h 3 _) (fun j hj => by rcases eight hj with rfl | rfl | rfl | rfl | rfl | rfl | rfl | rfl <;> rfl)
theorem SB.s4 {bx : Nat} {p l c t d v o : Int} {m : Bool} {w : World} (h : SB bx p l c t d m v o w) (y : Int) : SB bx p l c t y m v o (w.setCell ⟨bx, 4, none⟩ (.int .i64 y)) :=
  World.rowIs.congr (World.rowIs.set h 4 _) (fun j hj => by rcases eight hj with rfl | rfl | rfl | rfl | rfl | rfl | rfl | rfl <;> rfl)
theorem SB.s6 {bx : Nat} {p l c t d v o : Int} {m : Bool} {w : World} (h : SB bx p l c t d m v o w) (y : Int) : SB bx p l c t d m y o (w.setCell ⟨bx, 6, none⟩ (.int .i64 y)) :=
  World.rowIs.congr (World.rowIs.set h 6 _) (fun j hj => by rcases eight hj with rfl | rfl | rfl | rfl | rfl | rfl | rfl | rfl <;> rfl)
theorem SB.s7 {bx : Nat} {p l c t d v o : Int} {m : Bool} {w : World} (h : SB bx p l c t d m v o w) (y : Int) : SB bx p l c t d m v y (w.setCell ⟨bx, 7, none⟩ (.int .i64 y)) :=
  World.rowIs.congr (World.rowIs.set h 7 _) (fun j hj => by rcases eight hj with rfl | rfl | rfl | rfl | rfl | rfl | rfl | rfl <;> rfl)
theorem SB.cells {bx : Nat} {p l c t d v o : Int} {m : Bool} {w : World} (h : SB bx p l c t d m v o w) : w.cell? ⟨bx, 0, none⟩ = some (.int .i64 p) ∧ w.cell? ⟨bx, 1, none⟩ = some (.int .u8 l) ∧ w.cell? ⟨bx, 2, none⟩ = some (.int .i64 c) ∧ w.cell? ⟨bx, 3, none⟩ = some (.int .i64 t) ∧ w.cell? ⟨bx, 4, none⟩ = some (.int .i64 d) ∧ w.cell? ⟨bx, 5, none⟩ = some (.bool m) ∧ w.cell? ⟨bx, 6, none⟩ = some (.int .i64 v) ∧ w.cell? ⟨bx, 7, none⟩ = some (.int .i64 o) ∧ (∀ j, w.frozen? ⟨bx, j, none⟩ = false) ∧ bx < w.heap.size :=
  ⟨World.rowIs.cell h (i := 0) (by omega), World.rowIs.cell h (i := 1) (by omega), World.rowIs.cell h (i := 2) (by omega), World.rowIs.cell h (i := 3) (by omega), World.rowIs.cell h (i := 4) (by omega), World.rowIs.cell h (i := 5) (by omega), World.rowIs.cell h (i := 6) (by omega), World.rowIs.cell h (i := 7) (by omega), fun j => World.rowIs.frozen h j, World.rowIs.lt h⟩

def isKB (l c : Int) : Bool := decide (l = 99 ∧ c = 0)

set_option maxHeartbeats 1000000 in
theorem isKind_any {bx : Nat} {p l c t d v o : Int} {m : Bool} {w : World} (h : SB bx p l c t d m v o w) :
    Calls Tryd.prog 61 #[.pointer (some ⟨bx, 0, none⟩)] w fun e w' => e = .returned (.bool (isKB l c)) ∧ w' = w := by
  obtain ⟨r0, r1, r2, r3, r4, r5, r6, r7, fz, zb⟩ := h.cells
  clear h
  by_cases hl : l = 99
  · subst hl
    by_cases hc : c = 0
    · subst hc
      go_enter Tryd.func61, Tryd.ntmps61
      go_wp2
      go_ret
      exact ⟨rfl, rfl⟩
    · have e0 : (c == 0) = false := beq_eq_false_iff_ne.2 hc
      have R : Hid (isKB 99 c = false) := decide_eq_false (by omega)
      go_enter Tryd.func61, Tryd.ntmps61
      go_wp2
      go_ret
      exact ⟨by rw [R.out]; rfl, rfl⟩
  · have e0 : (l == 99) = false := beq_eq_false_iff_ne.2 hl
    have R : Hid (isKB l c = false) := decide_eq_false (by omega)
    go_enter Tryd.func61, Tryd.ntmps61
    go_wp2
    go_ret
    exact ⟨by rw [R.out]; rfl, rfl⟩

/-- What a step of the look leaves. -/
def ScP (bx : Nat) (r : Bool × Sc) (w : World) (e : Ending) (w' : World) : Prop := e = .returned (.bool r.1) ∧ (r.1 = true → SBx bx r.2 w') ∧ Chg (· = bx) w w'

set_option maxRecDepth 100000 in
set_option maxHeartbeats 2000000 in
theorem letter_any {bx : Nat} {p l c t d v o : Int} {m : Bool} {w : World} (h : SB bx p l c t d m v o w) (b : Nat) (hb : b < 256) :
    Calls Tryd.prog 59 #[.pointer (some ⟨bx, 0, none⟩), .int .u8 b] w fun e w' => ScP bx (Sc.doLetter ⟨p, l, c, t, d, m, v, o⟩ b) w e w' := by
  obtain ⟨r0, r1, r2, r3, r4, r5, r6, r7, fz, zb⟩ := h.cells
  have S4 : Hid (SB bx p b 0 0 d m v 1 ((((w.setCell ⟨bx, 1, none⟩ (.int .u8 b)).setCell ⟨bx, 7, none⟩ (.int .i64 1)).setCell ⟨bx, 2, none⟩ (.int .i64 0)).setCell ⟨bx, 3, none⟩ (.int .i64 0)) ∧ Chg (· = bx) w ((((w.setCell ⟨bx, 1, none⟩ (.int .u8 b)).setCell ⟨bx, 7, none⟩ (.int .i64 1)).setCell ⟨bx, 2, none⟩ (.int .i64 0)).setCell ⟨bx, 3, none⟩ (.int .i64 0))) :=
    ⟨(((h.s1 _).s7 _).s2 _).s3 _, ((((Chg.refl (· = bx) w).setCell _ _ rfl).setCell _ _ rfl).setCell _ _ rfl).setCell _ _ rfl⟩
  clear h
  by_cases h1 : b = 119
  · subst h1
    have R : Hid (ScP bx (Sc.doLetter ⟨p, l, c, t, d, m, v, o⟩ 119) w (.returned (.bool (p == 0))) ((((w.setCell ⟨bx, 1, none⟩ (.int .u8 119)).setCell ⟨bx, 7, none⟩ (.int .i64 1)).setCell ⟨bx, 2, none⟩ (.int .i64 0)).setCell ⟨bx, 3, none⟩ (.int .i64 0))) :=
      ⟨by unfold Sc.doLetter; rw [if_pos rfl]; rfl, fun _ => by unfold Sc.doLetter; rw [if_pos rfl]; exact S4.out.1, S4.out.2⟩
    go_enter Tryd.func59, Tryd.ntmps59
    go_wp2
    go_ret
    exact R.out
  · by_cases h2 : b = 99
    · subst h2
      have R : Hid (ScP bx (Sc.doLetter ⟨p, l, c, t, d, m, v, o⟩ 99) w (.returned (.bool (p == 1))) ((((w.setCell ⟨bx, 1, none⟩ (.int .u8 99)).setCell ⟨bx, 7, none⟩ (.int .i64 1)).setCell ⟨bx, 2, none⟩ (.int .i64 0)).setCell ⟨bx, 3, none⟩ (.int .i64 0))) :=
        ⟨by unfold Sc.doLetter; rw [if_neg (by omega), if_pos rfl]; rfl, fun _ => by unfold Sc.doLetter; rw [if_neg (by omega), if_pos rfl]; exact S4.out.1, S4.out.2⟩
      go_enter Tryd.func59, Tryd.ntmps59
      go_wp2
      go_ret
      exact R.out
    · by_cases h3 : b = 114
      · subst h3
        have R : Hid (ScP bx (Sc.doLetter ⟨p, l, c, t, d, m, v, o⟩ 114) w (.returned (.bool (decide (0 < p)))) (((((w.setCell ⟨bx, 1, none⟩ (.int .u8 114)).setCell ⟨bx, 7, none⟩ (.int .i64 1)).setCell ⟨bx, 2, none⟩ (.int .i64 0)).setCell ⟨bx, 3, none⟩ (.int .i64 0)).setCell ⟨bx, 0, none⟩ (.int .i64 2))) :=
          ⟨by unfold Sc.doLetter; rw [if_neg (by omega), if_neg (by omega), if_pos rfl], fun _ => by unfold Sc.doLetter; rw [if_neg (by omega), if_neg (by omega), if_pos rfl]; exact S4.out.1.s0 2, S4.out.2.setCell _ _ rfl⟩
        go_enter Tryd.func59, Tryd.ntmps59
        go_wp2
        go_ret
        exact R.out
      · have n1 : ((b : Int) == 119) = false := beq_eq_false_iff_ne.2 (by omega)
        have n2 : ((b : Int) == 99) = false := beq_eq_false_iff_ne.2 (by omega)
        have n3 : ((b : Int) == 114) = false := beq_eq_false_iff_ne.2 (by omega)
        have R : Hid (ScP bx (Sc.doLetter ⟨p, l, c, t, d, m, v, o⟩ b) w (.returned (.bool false)) ((((w.setCell ⟨bx, 1, none⟩ (.int .u8 b)).setCell ⟨bx, 7, none⟩ (.int .i64 1)).setCell ⟨bx, 2, none⟩ (.int .i64 0)).setCell ⟨bx, 3, none⟩ (.int .i64 0))) := by
          have ed : (Sc.doLetter ⟨p, l, c, t, d, m, v, o⟩ b).1 = false := by unfold Sc.doLetter; rw [if_neg (by omega), if_neg (by omega), if_neg (by omega)]
          exact ⟨by rw [ed], fun e => (by rw [ed] at e; cases e), S4.out.2⟩
        go_enter Tryd.func59, Tryd.ntmps59
        go_wp2
        go_ret
        exact R.out

end Go.Proofs.YtcondcffllaaoaaDoor

/-
  THE WALKS: the document's look over a text: a number is at its end; a digit.
-/
set_option linter.unusedVariables false
set_option linter.unusedSimpArgs false
namespace Go.Proofs.YtcondcffllaaoaaDoor
open Go.RowKit
open Go.Lib (itoa decDigits nDigits)
attribute [local go_sem ↓] Go.wp_at_zero Go.wp_at_succ

theorem isKB_of (p l c t d : Int) (m : Bool) (v o : Int) : Sc.isK ⟨p, l, c, t, d, m, v, o⟩ = isKB l c := rfl
theorem needsN_bd (k : Int) : -1 ≤ M.needs k ∧ M.needs k ≤ 3 := by
  unfold M.needs; repeat' split
  all_goals omega

/-- What done leaves. -/
def DnP (bx : Nat) (x : Sc) (w : World) (e : Ending) (w' : World) : Prop := e = .returned (.tuple #[]) ∧ SBx bx x.doDone w' ∧ Chg (· = bx) w w'

set_option maxRecDepth 100000 in
set_option maxHeartbeats 2000000 in
theorem done_any {bx : Nat} {p l c t d v o : Int} {m : Bool} {w : World} (h : SB bx p l c t d m v o w) (c0 : 0 ≤ c) (c1 : c ≤ 1000000000000) :
    Calls Tryd.prog 63 #[.pointer (some ⟨bx, 0, none⟩)] w fun e w' => DnP bx ⟨p, l, c, t, d, m, v, o⟩ w e w' := by
  obtain ⟨r0, r1, r2, r3, r4, r5, r6, r7, fz, zb⟩ := h.cells
  have IK := hid (isKind_any h)
  have H := hid h
  clear h
  by_cases hk : isKB l c = true
  · have D : Hid (∀ n, n = wantK v → DnP bx ⟨p, l, c, t, d, m, v, o⟩ w (.returned (.tuple #[])) ((w.setCell ⟨bx, 3, none⟩ (.int .i64 n)).setCell ⟨bx, 2, none⟩ (.int .i64 (c + 1)))) := fun n hn => by
      refine ⟨rfl, ?_, ((Chg.refl (· = bx) w).setCell _ _ rfl).setCell _ _ rfl⟩
      unfold SBx Sc.doDone
      rw [isKB_of, if_pos hk, ← hn]
      exact (H.out.s3 n).s2 (c + 1)
    have nb := needsN_bd v
    have RN := hid (rneeds_any v w)
    have RK := hid (rhask_any v w)
    rw [hk] at IK
    obtain ⟨nn, hnn⟩ : ∃ x, M.needs v = x := ⟨_, rfl⟩
    have WK : Hid (wantK v = nn + (if hasKB v = true then 1 else 0)) := by show wantK v = _; rw [← hnn]; rfl
    rw [hnn] at RN nb
    clear hnn hk
    go_enter Tryd.func63, Tryd.ntmps63
    go_wp2_with fail
    refine IK.out.mono ?_
    rintro e w1 ⟨rfl, hw1⟩
    obtain rfl : w = w1 := hw1.symm
    clear hw1
    go_wp2_with fail
    refine RN.out.mono ?_
    rintro e w1 ⟨rfl, hw1⟩
    obtain rfl : w = w1 := hw1.symm
    clear hw1
    go_wp2_with fail
    refine RK.out.mono ?_
    rintro e w1 ⟨rfl, hw1⟩
    obtain rfl : w = w1 := hw1.symm
    clear hw1
    by_cases hh : hasKB v = true
    · rw [hh]
      have R := hid (D.out (nn + 1) (by rw [WK.out, if_pos hh]))
      clear D WK hh H IK RN RK
      go_wp2
      go_end0
      exact R.out
    · have hh' : hasKB v = false := by simpa using hh
      rw [hh']
      have R := hid (D.out nn (by rw [WK.out, if_neg hh, Int.add_zero]))
      clear D WK hh hh' H IK RN RK
      go_wp2
      go_end0
      exact R.out
  · have hk' : isKB l c = false := by simpa using hk
    have R : Hid (DnP bx ⟨p, l, c, t, d, m, v, o⟩ w (.returned (.tuple #[])) (w.setCell ⟨bx, 2, none⟩ (.int .i64 (c + 1)))) := by
      refine ⟨rfl, ?_, (Chg.refl (· = bx) w).setCell _ _ rfl⟩
      unfold SBx Sc.doDone
      rw [isKB_of, if_neg hk]
      exact H.out.s2 (c + 1)
    rw [hk'] at IK
    clear hk hk' H
    go_enter Tryd.func63, Tryd.ntmps63
    go_wp2_with fail
    refine IK.out.mono ?_
    rintro e w1 ⟨rfl, hw1⟩
    obtain rfl : w = w1 := hw1.symm
    clear hw1
    go_wp2
    go_end0
    exact R.out

end Go.Proofs.YtcondcffllaaoaaDoor
