/-
  THE WALKS: the functions of plain numbers.
-/
import Derived.Test.YtkhpkpaglkinbaaGreatDoorProg
import Derived.Test.YtkhpkpaglkinbaaGreatDoorNum
import Derived.WalkKit
import Derived.WalkSpells
set_option linter.unusedVariables false
set_option linter.unusedSimpArgs false
namespace Go.Proofs.YtkhpkpaglkinbaaGreatDoor
open Go.RowKit

theorem ret_int {k : IntKind} {a b : Int} (h : a = b) : Ending.returned (.int k a) = .returned (.int k b) := by rw [h]
theorem ret_bool {a b : Bool} (h : a = b) : Ending.returned (.bool a) = .returned (.bool b) := by rw [h]

namespace M
def cutv (v : Int) : Int := if 2000000000 < v then 2000000000 else if v < -2000000000 then -2000000000 else v
def isv (v : Int) : Bool := decide (-2000000000 ≤ v ∧ v ≤ 2000000000)
def minv (a b : Int) : Int := if a < b then a else b
def maxv (a b : Int) : Int := if a < b then b else a
def num (b : Bool) : Int := if b then 1 else 0
/-- How many of A, B and C the kind's row names; -1: there is no such kind. -/
def needs (kind : Int) : Int := if kind = 0 ∨ kind = 1 then 0 else if kind = 10 ∨ kind = 11 ∨ kind = 12 then 1 else if kind = 9 then 3 else if 2 ≤ kind ∧ kind ≤ 8 then 2 else -1
def two (kind a b : Int) : Int :=
  if kind = 2 then cutv (a + b) else if kind = 3 then cutv (a - b) else if kind = 4 then cutv (a * b) else if kind = 5 then minv a b else if kind = 6 then maxv a b else if kind = 7 then num (decide (a < b)) else num (decide (a = b))
def knownB (kind : Int) : Bool := decide (0 ≤ kind ∧ kind < 13)
def allowsB (kind k : Int) : Bool := if kind = 0 ∨ kind = 1 then isv k else if kind = 11 then decide (1000000 ≤ k ∧ k ≤ 1000000000) else if kind = 12 then decide (0 ≤ k ∧ k ≤ 250) else true
end M

set_option maxHeartbeats 400000 in
theorem rcut_any (v : Int) (w : World) : Calls Tryz.prog 93 #[.int .i64 v] w fun e w' => e = .returned (.int .i64 (M.cutv v)) ∧ w' = w := by
  go_enter Tryz.func93, Tryz.ntmps93
  go_wp2
  all_goals go_ret
  all_goals exact ⟨ret_int (by unfold M.cutv; repeat' split
                               all_goals omega), rfl⟩

set_option maxHeartbeats 400000 in
theorem pcut_any (v : Int) (w : World) : Calls Tryz.prog 94 #[.int .i64 v] w fun e w' => e = .returned (.int .i64 (M.cutv v)) ∧ w' = w := by
  go_enter Tryz.func94, Tryz.ntmps94
  go_wp2
  all_goals go_ret
  all_goals exact ⟨ret_int (by unfold M.cutv; repeat' split
                               all_goals omega), rfl⟩

set_option maxHeartbeats 400000 in
theorem number_any (b : Bool) (w : World) : Calls Tryz.prog 91 #[.bool b] w fun e w' => e = .returned (.int .i64 (M.num b)) ∧ w' = w := by
  cases b <;> (go_enter Tryz.func91, Tryz.ntmps91; go_wp2; go_ret; exact ⟨rfl, rfl⟩)

set_option maxHeartbeats 400000 in
theorem truth_any (b : Bool) (w : World) : Calls Tryz.prog 87 #[.bool b] w fun e w' => e = .returned (.int .i64 (M.num b)) ∧ w' = w := by
  cases b <;> (go_enter Tryz.func87, Tryz.ntmps87; go_wp2; go_ret; exact ⟨rfl, rfl⟩)

set_option maxHeartbeats 400000 in
theorem risv_any (v : Int) (w : World) : Calls Tryz.prog 52 #[.int .i64 v] w fun e w' => e = .returned (.bool (M.isv v)) ∧ w' = w := by
  go_enter Tryz.func52, Tryz.ntmps52
  go_wp2
  all_goals go_ret
  all_goals exact ⟨ret_bool (by unfold M.isv; rw [Bool.eq_iff_iff]; simp; try omega), rfl⟩

set_option maxHeartbeats 400000 in
theorem pisv_any (v : Int) (w : World) : Calls Tryz.prog 51 #[.int .i64 v] w fun e w' => e = .returned (.bool (M.isv v)) ∧ w' = w := by
  go_enter Tryz.func51, Tryz.ntmps51
  go_wp2
  all_goals go_ret
  all_goals exact ⟨ret_bool (by unfold M.isv; rw [Bool.eq_iff_iff]; simp; try omega), rfl⟩

set_option maxHeartbeats 400000 in
theorem rneeds_any (k : Int) (w : World) : Calls Tryz.prog 57 #[.int .i64 k] w fun e w' => e = .returned (.int .i64 (M.needs k)) ∧ w' = w := by
  go_enter Tryz.func57, Tryz.ntmps57
  go_wp2
  all_goals go_ret
  all_goals refine ⟨ret_int ?_, rfl⟩
  all_goals (simp only [beq_iff_eq, beq_eq_false_iff_ne, ne_eq] at *)
  all_goals (unfold M.needs; repeat' split)
  all_goals omega

set_option maxHeartbeats 400000 in
theorem below_any (v n : Int) (w : World) (hn : 1 ≤ n) (hv : -9000000000000000000 ≤ v) (hv' : v ≤ 9000000000000000000) : Calls Tryz.prog 99 #[.int .i64 v, .int .i64 n] w fun e w' => e = .returned (.int .i64 (v / n)) ∧ w' = w := by
  have hb := M.div_bound hn hv hv' (by omega)
  go_enter Tryz.func99, Tryz.ntmps99
  go_wp2
  all_goals go_ret
  · exact ⟨ret_int (by rw [M.div_neg hn (by assumption), IntWalk.wrap64_in _ (by omega)]), rfl⟩
  · exact ⟨ret_int (M.div_pos hn (by assumption)), rfl⟩

set_option maxHeartbeats 400000 in
theorem dayOf_any (v : Int) (w : World) (hv : -9000000000000000000 ≤ v) (hv' : v ≤ 9000000000000000000) : Calls Tryz.prog 95 #[.int .i64 v] w fun e w' => e = .returned (.int .i64 (v / 86400)) ∧ w' = w := by
  have hb := M.div_bound (v := v) (n := 86400) (by omega) hv hv' (by omega)
  go_enter Tryz.func95, Tryz.ntmps95
  go_wp2
  all_goals go_ret
  · exact ⟨ret_int (by rw [M.div_neg (by omega) (by assumption), IntWalk.wrap64_in _ (by omega)]), rfl⟩
  · exact ⟨ret_int (M.div_pos (by omega) (by assumption)), rfl⟩

theorem atWork_eq {week : Int} (h1 : 0 ≤ week) (h2 : week ≤ 127) (d : Int) {p : Int} (hp : p = d % 7) {m : Nat} (hm : m = p.toNat) : (bits BinOp.and IntKind.i64 (week / 2 ^ m) 1 == 1) = M.atw week d := by
  subst hp
  rw [M.week_bit h1 h2 (p := d % 7) (by omega) (by omega) m hm]
  unfold M.atw
  rw [Bool.eq_iff_iff]; simp

set_option maxHeartbeats 400000 in
theorem atWork_any (week d : Int) (w : World) (h1 : 0 ≤ week) (h2 : week ≤ 127) : Calls Tryz.prog 103 #[.int .i64 week, .int .i64 d] w fun e w' => e = .returned (.bool (M.atw week d)) ∧ w' = w := by
  go_enter Tryz.func103, Tryz.ntmps103
  go_wp2
  all_goals go_ret
  · exact ⟨ret_bool (atWork_eq h1 h2 d (p := d.tmod 7 + 7) (M.mod_neg (by omega) (by assumption)) (by
      have e := M.mod_neg (v := d) (n := 7) (by omega) (by assumption)
      rw [e, IntWalk.wrap64_in _ (by omega), IntWalk.u64_in _ (by omega)]; omega)), rfl⟩
  · exact ⟨ret_bool (atWork_eq h1 h2 d (p := d.tmod 7) (M.mod_pos (by omega) (by assumption)) (by
      have e := M.mod_pos (v := d) (n := 7) (by omega) (by assumption)
      rw [e, IntWalk.u64_in _ (by omega)]; omega)), rfl⟩

set_option maxHeartbeats 400000 in
theorem lesser_any (a b : Int) (w : World) : Calls Tryz.prog 97 #[.int .i64 a, .int .i64 b] w fun e w' => e = .returned (.int .i64 (M.minv a b)) ∧ w' = w := by
  go_enter Tryz.func97, Tryz.ntmps97
  go_wp2
  all_goals go_ret
  all_goals exact ⟨ret_int (by first | (unfold M.minv; split <;> omega) | (unfold M.maxv; split <;> omega)), rfl⟩

set_option maxHeartbeats 400000 in
theorem greater_any (a b : Int) (w : World) : Calls Tryz.prog 98 #[.int .i64 a, .int .i64 b] w fun e w' => e = .returned (.int .i64 (M.maxv a b)) ∧ w' = w := by
  go_enter Tryz.func98, Tryz.ntmps98
  go_wp2
  all_goals go_ret
  all_goals exact ⟨ret_int (by first | (unfold M.minv; split <;> omega) | (unfold M.maxv; split <;> omega)), rfl⟩

set_option maxHeartbeats 400000 in
theorem num_any (e : Int) (w : World) : Calls Tryz.prog 12 #[.int .i64 e] w fun e' w' => e' = .returned (.int .i64 e) ∧ w' = w := by
  go_enter Tryz.func12, Tryz.ntmps12
  go_wp2
  all_goals go_ret
  all_goals exact ⟨rfl, rfl⟩

set_option maxHeartbeats 400000 in
theorem known_any (k : Int) (w : World) : Calls Tryz.prog 76 #[.int .i64 k] w fun e w' => e = .returned (.bool (M.knownB k)) ∧ w' = w := by
  go_enter Tryz.func76, Tryz.ntmps76
  go_wp2
  all_goals go_ret
  all_goals exact ⟨ret_bool (by unfold M.knownB; rw [Bool.eq_iff_iff]; simp; try omega), rfl⟩

set_option maxHeartbeats 400000 in
theorem pallows_any (kd k : Int) (w : World) : Calls Tryz.prog 77 #[.int .i64 kd, .int .i64 k] w fun e w' => e = .returned (.bool (M.allowsB kd k)) ∧ w' = w := by
  go_enter Tryz.func77, Tryz.ntmps77
  go_wp2_with (go_at_call 51; refine (pisv_any _ _).mono ?_; rintro e w' ⟨rfl, rfl⟩)
  all_goals go_ret
  all_goals refine ⟨ret_bool ?_, rfl⟩
  all_goals (simp only [beq_iff_eq, beq_eq_false_iff_ne, ne_eq] at *)
  all_goals (unfold M.allowsB)
  all_goals first
    | (rw [if_pos (by omega)]; done)
    | (rw [if_neg (by omega), if_pos (by omega), Bool.eq_iff_iff]; simp; try omega)
    | (rw [if_neg (by omega), if_neg (by omega), if_pos (by omega), Bool.eq_iff_iff]; simp; try omega)
    | (rw [if_neg (by omega), if_neg (by omega), if_neg (by omega)])

end Go.Proofs.YtkhpkpaglkinbaaGreatDoor
