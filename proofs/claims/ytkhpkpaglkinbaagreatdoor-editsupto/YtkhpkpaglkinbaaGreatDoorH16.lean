/-
  MEMORY: a case of the program: Value, Set.
-/
import Derived.Test.YtkhpkpaglkinbaaGreatDoorH15
set_option linter.unusedVariables false
set_option linter.unusedSimpArgs false
namespace Go.Proofs.YtkhpkpaglkinbaaGreatDoor
open Go.RowKit
attribute [local go_sem ↓] Go.wp_at_zero Go.wp_at_succ

set_option maxRecDepth 100000 in
set_option maxHeartbeats 1000000 in
theorem kValue_any {L B : Nat} {w : World} {bp bc : Nat} {C : Nat → Cel} {n cC : Nat} {aR : Option Addr} {k cR : Nat} {week : Int} {aH : Option Addr} {hol : List Int} {cH : Nat} {now : Int} {cl : Bool} (c : Int)
    (h : KSt L B w bp bc C n cC aR k cR week aH hol cH now cl) (ht : Tab w) (hn : n ≤ 20) (n1 : 1 ≤ n) (h1 : 1 ≤ week) (h2 : week ≤ 127) (hh : HolOk hol) (hok : CellsOk C n) (hno : NoRing C n) (t0 : 0 ≤ now) (t1 : now ≤ 1000000000) :
    Calls Tryz.prog 43 #[.pointer (some ⟨bp, 0, none⟩), .int .i64 c] w fun e w' => VPost C n week hol now c w e w' := by
  have HAS := hid (has_any c h)
  by_cases hc : 0 ≤ c ∧ c < n
  · rw [show decide (0 ≤ c ∧ c < n) = true from decide_eq_true hc] at HAS
    obtain ⟨i, rfl⟩ := Int.eq_ofNat_of_zero_le hc.1
    have r0 := h.row.cell (i := 0) (by omega)
    have r1 := h.row.cell (i := 1) (by omega)
    have r2 := h.row.cell (i := 2) (by omega)
    have r3 := h.row.cell (i := 3) (by omega)
    have r4 := h.row.cell (i := 4) (by omega)
    simp [kf] at r0 r1 r2 r3 r4
    have zb := h.row.lt
    have zc : bc < w.heap.size := by obtain ⟨_, _, f1, _⟩ := h.cells; exact f1.lt
    have CALL : ∀ W, Below w.heap.size w W → Calls Tryz.prog 67 #[.agg #[.slice (some ⟨bc, 0, none⟩) n cC, .slice aR k cR, .int .i64 week, .slice aH hol.length cH], .int .i64 now] W fun e w' => ValPost C n week hol now W e w' := fun W hW =>
      pvalues_any aR aH bc 0 n cC k cR hol.length cH C week now hol W hn n1 (ht.below hW (Nat.le_refl _)) h1 h2 hh rfl (SlAt.below h.ints hW (Nat.le_refl _)) (by have := hW.size; omega) (fun m hm => (h.cel hm).below hW zc) hok hno t0 t1
    have HC := hid CALL
    have i1 : i < n := by omega
    clear CALL h ht hh hok hno
    go_enter Tryz.func43, Tryz.ntmps43
    go_wp2_with (go_at_call 50; refine HAS.out.mono ?_; rintro e w' ⟨rfl, rfl⟩)
    go_region_held3 (fun w' => w'.cell? ⟨bp, 0, none⟩ = some (.slice (some ⟨bc, 0, none⟩) n cC) ∧ w'.cell? ⟨bp, 1, none⟩ = some (.slice aR k cR) ∧ w'.cell? ⟨bp, 2, none⟩ = some (.int .i64 week) ∧ w'.cell? ⟨bp, 3, none⟩ = some (.slice aH hol.length cH) ∧ w'.cell? ⟨bp, 4, none⟩ = some (.int .i64 now))
      ((refine ⟨?_, ?_, ?_, ?_, ?_⟩ <;> first | assumption | (rw [hb2.cell (show bp < _ from zb)]; assumption)))
      ((go_at_call 67; refine (HC.out _ (by exact (Below.refl _ _).drew)).mono ?_; rintro e w2 ⟨b, V, rfl, q1, q2, q3, q4, hb2⟩))
    have x := q2.cell (i := i) i1
    have R : Hid (VPost C n week hol now i w' (.returned (.tuple #[.int .i64 (V i), .int .i64 0])) w2) := ⟨⟨hb2.os, hb2.tape, hb2.output, hb2.size, hb2.block⟩, Or.inr ⟨V, i, rfl, i1, q3, rfl⟩⟩
    clear q2 q3 q4 hb2
    go_wp2
    go_ret2
    exact R.out
  · rw [show decide (0 ≤ c ∧ c < n) = false from decide_eq_false hc] at HAS
    have R : Hid (VPost C n week hol now c w (.returned (.tuple #[.int .i64 0, .int .i64 6])) w) := ⟨Below.refl _ _, Or.inl ⟨hc, rfl⟩⟩
    clear h ht hh hok hno
    go_enter Tryz.func43, Tryz.ntmps43
    go_wp2_with (go_at_call 50; refine HAS.out.mono ?_; rintro e w' ⟨rfl, rfl⟩)
    go_ret2
    exact R.out

/-- The case's cells once Set was called. -/
def setC (C : Nat → Cel) (n : Nat) (c v : Int) : Nat → Cel := if setAns C n c v = 0 then upd C c.toNat ⟨(C c.toNat).kind, (C c.toNat).a, (C c.toNat).b, (C c.toNat).c, v⟩ else C

/-- What the case's Set answers and leaves. -/
def KPost (C : Nat → Cel) (n bc : Nat) (c v : Int) (w : World) (e : Ending) (w' : World) : Prop :=
  e = .returned (.int .i64 (setAns C n c v)) ∧ w' = if setAns C n c v = 0 then w.setCell ⟨bc, c.toNat * 5 + 4, none⟩ (.int .i64 v) else w

set_option maxRecDepth 100000 in
set_option maxHeartbeats 1000000 in
theorem kSet_any {L B : Nat} {w : World} {bp bc : Nat} {C : Nat → Cel} {n cC : Nat} {aR : Option Addr} {k cR : Nat} {week : Int} {aH : Option Addr} {hol : List Int} {cH : Nat} {now : Int} (c v : Int)
    (h : KSt L B w bp bc C n cC aR k cR week aH hol cH now false) (hok : CellsOk C n) :
    Calls Tryz.prog 20 #[.pointer (some ⟨bp, 0, none⟩), .int .i64 c, .int .i64 v] w fun e w' => KPost C n bc c v w e w' := by
  have HAS := hid (has_any c h)
  have IV := hid (fun W => pisv_any v W)
  have r0 := h.row.cell (i := 0) (by omega)
  have r5 := h.row.cell (i := 5) (by omega)
  simp [kf] at r0 r5
  by_cases hc : 0 ≤ c ∧ c < n
  · rw [show decide (0 ≤ c ∧ c < n) = true from decide_eq_true hc] at HAS
    obtain ⟨i, rfl⟩ := Int.eq_ofNat_of_zero_le hc.1
    have i1 : i < n := by omega
    have d0 : w.cell? ⟨bc, i * 5, none⟩ = some (.int .i64 (C i).kind) := by
      have := (h.cel i1).1
      rw [Nat.zero_add] at this
      exact this
    have d4 : w.cell? ⟨bc, i * 5 + 4, none⟩ = some (.int .i64 (C i).k) := by
      have := (h.cel i1).2.2.2.2
      rw [Nat.zero_add] at this
      exact this
    have zc : bc < w.heap.size := by obtain ⟨_, _, f1, _⟩ := h.cells; exact f1.lt
    have fz : ∀ j, w.frozen? ⟨bc, j, none⟩ = false := by obtain ⟨_, _, f1, _⟩ := h.cells; exact fun j => f1.frozen j
    clear h
    by_cases k0 : (C i).kind = 0
    · rw [k0] at d0
      cases ev : M.isv v
      · have A : setAns C n i v = 8 := by unfold setAns; rw [if_neg (by omega), if_neg (by simpa using k0), if_pos ev]
        have R : Hid (KPost C n bc i v w (.returned (.int .i64 8)) w) := ⟨by rw [A], by rw [A]; rfl⟩
        clear A hok
        go_enter Tryz.func20, Tryz.ntmps20
        go_wp2_with first | (go_at_call 50; refine HAS.out.mono ?_; rintro e w' ⟨rfl, rfl⟩) | (go_at_call 51; refine (IV.out _).mono ?_; rintro e w' ⟨rfl, rfl⟩; rw [ev])
        go_ret
        exact R.out
      · have A : setAns C n i v = 0 := by unfold setAns; rw [if_neg (by omega), if_neg (by simpa using k0), if_neg (by simp [ev])]
        have R : Hid (KPost C n bc i v w (.returned (.int .i64 0)) (w.setCell ⟨bc, i * 5 + 4, none⟩ (.int .i64 v))) := ⟨by rw [A], by rw [if_pos A]; rfl⟩
        clear A hok
        go_enter Tryz.func20, Tryz.ntmps20
        go_wp2_with first | (go_at_call 50; refine HAS.out.mono ?_; rintro e w' ⟨rfl, rfl⟩) | (go_at_call 51; refine (IV.out _).mono ?_; rintro e w' ⟨rfl, rfl⟩; rw [ev])
        go_ret
        exact R.out
    · have A : setAns C n i v = 7 := by unfold setAns; rw [if_neg (by omega), if_pos (by simpa using k0)]
      have R : Hid (KPost C n bc i v w (.returned (.int .i64 7)) w) := ⟨by rw [A], by rw [A]; rfl⟩
      clear A hok
      go_enter Tryz.func20, Tryz.ntmps20
      go_wp2_with (go_at_call 50; refine HAS.out.mono ?_; rintro e w' ⟨rfl, rfl⟩)
      go_ret
      exact R.out
  · rw [show decide (0 ≤ c ∧ c < n) = false from decide_eq_false hc] at HAS
    have A : setAns C n c v = 6 := by unfold setAns; rw [if_pos (by omega)]
    have R : Hid (KPost C n bc c v w (.returned (.int .i64 6)) w) := ⟨by rw [A], by rw [A]; rfl⟩
    clear A h hok
    go_enter Tryz.func20, Tryz.ntmps20
    go_wp2_with (go_at_call 50; refine HAS.out.mono ?_; rintro e w' ⟨rfl, rfl⟩)
    go_ret
    exact R.out

end Go.Proofs.YtkhpkpaglkinbaaGreatDoor
