/-
  MEMORY: the document's world: Value.
-/
import Derived.Test.YtkhpkpaglkinbaaGreatDoorH9
set_option linter.unusedVariables false
set_option linter.unusedSimpArgs false
namespace Go.Proofs.YtkhpkpaglkinbaaGreatDoor
open Go.RowKit
attribute [local go_sem ↓] Go.wp_at_zero Go.wp_at_succ

/-- What Value answers: P4. -/
def VPost (Ce : Nat → Cel) (n : Nat) (week : Int) (hol : List Int) (T : Int) (c : Int) (w : World) (e : Ending) (w' : World) : Prop :=
  Below w.heap.size w w' ∧ ((¬ (0 ≤ c ∧ c < n) ∧ e = .returned (.tuple #[.int .i64 0, .int .i64 6])) ∨ (∃ (V : Nat → Int) (i : Nat), c = i ∧ i < n ∧ LocalEq Ce n week hol T V ∧ e = .returned (.tuple #[.int .i64 (V i), .int .i64 0])))

set_option maxRecDepth 100000 in
set_option maxHeartbeats 1000000 in
theorem wValue_any {w0 w : World} {C Ce : Nat → Cel} {n : Nat} {R : Nat → Rul} {k : Nat} {hol : List Int} {week : Int} {bw bc : Nat} {aO : Option Addr} {cO bh : Nat} {F : Nat → Int} {T : Int} {op : Bool} {bF cF bS : Nat} {S : Nat → St} {vE : Value} {nE : Nat} (c : Int)
    (hB : WBase w0 C n R k hol bw bc aO bh) (hS : WSt w0 w n k hol.length week bw bc aO cO bh F T op bF cF bS S vE nE) (hn : n ≤ 20) (n1 : 1 ≤ n) (h1 : 1 ≤ week) (h2 : week ≤ 127) (hh : HolOk hol) (heff : Eff C Ce F n) (hok : CellsOk Ce n) (hno : NoRing Ce n) (t0 : 0 ≤ T) (t1 : T ≤ 1000000000) :
    Calls Tryz.prog 44 #[.pointer (some ⟨bw, 0, none⟩), .int .i64 c] w fun e w' => VPost Ce n week hol T c w e w' := by
  have r0 := hS.row.cell (i := 0) (by omega)
  simp [wf] at r0
  have CALL := hid (wvalues_any hB hS hn n1 h1 h2 hh heff hok hno t0 t1)
  clear hS hB hh heff hok hno
  by_cases c0 : c < 0
  · have R : Hid (VPost Ce n week hol T c w (.returned (.tuple #[.int .i64 0, .int .i64 6])) w) := ⟨Below.refl _ _, Or.inl ⟨by omega, rfl⟩⟩
    go_enter Tryz.func44, Tryz.ntmps44
    go_wp2
    go_ret2
    exact R.out
  by_cases c1 : (n : Int) ≤ c
  · have R : Hid (VPost Ce n week hol T c w (.returned (.tuple #[.int .i64 0, .int .i64 6])) w) := ⟨Below.refl _ _, Or.inl ⟨by omega, rfl⟩⟩
    go_enter Tryz.func44, Tryz.ntmps44
    go_wp2
    go_ret2
    exact R.out
  obtain ⟨i, rfl⟩ := Int.eq_ofNat_of_zero_le (show 0 ≤ c by omega)
  go_enter Tryz.func44, Tryz.ntmps44
  go_wp2_with fail
  refine CALL.out.mono ?_
  rintro e w1 ⟨b, V, rfl, q1, q2, q3, q4, hb2⟩
  have x := q2.cell (i := i) (by omega)
  have R : Hid (VPost Ce n week hol T i w (.returned (.tuple #[.int .i64 (V i), .int .i64 0])) w1) := ⟨hb2, Or.inr ⟨V, i, rfl, by omega, q3, rfl⟩⟩
  clear q2 q3 q4 hb2
  go_wp2
  go_ret2
  exact R.out

end Go.Proofs.YtkhpkpaglkinbaaGreatDoor
