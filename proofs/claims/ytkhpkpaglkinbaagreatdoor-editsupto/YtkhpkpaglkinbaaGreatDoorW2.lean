/-
  THE WALKS: days at work.
-/
import Derived.Test.YtkhpkpaglkinbaaGreatDoorW1
set_option linter.unusedVariables false
set_option linter.unusedSimpArgs false
namespace Go.Proofs.YtkhpkpaglkinbaaGreatDoor
open Go.RowKit

set_option maxHeartbeats 400000 in
theorem nextAtWork_any (week d : Int) (w : World) (h1 : 1 ≤ week) (h2 : week ≤ 127) (hd : -1000000000 ≤ d) (hd' : d ≤ 1000000000) : Calls Tryz.prog 102 #[.int .i64 week, .int .i64 d] w fun e w' => ∃ y, e = .returned (.int .i64 y) ∧ M.IsNext week d y ∧ w' = w := by
  go_enter Tryz.func102, Tryz.ntmps102
  go_wp2
  go_loop [5] (fun t => ∃ k : Nat, 1 ≤ k ∧ k ≤ 7 ∧ t = .int .i64 k ∧ Hid (∀ i : Nat, 1 ≤ i → i < k → M.atw week (d + i) = false)) (fun t => (7 - intOf t).toNat)
  case atStart => exact ⟨1, by omega, by omega, rfl, fun i a b => by omega⟩
  case round =>
    obtain ⟨k, k1, k2, rfl, hk⟩ := hrel
    by_cases hlt : k < 7
    · cases hb : M.atw week (d + k)
      · have HB : Hid (M.atw week (d + k) = false) := hb
        go_wp2_with (go_at_call 103; refine (atWork_any _ _ _ (by omega) h2).mono ?_; rintro e w' ⟨rfl, rfl⟩)
        go_round
        case rel => exact ⟨k + 1, by omega, by omega, by go_num, fun i a b => by
          by_cases e : i = k
          · subst e; exact HB.out
          · exact hk.out i a (by omega)⟩
        case measure => simp [intOf]; omega
      · have HB : Hid (M.atw week (d + k) = true) := hb
        go_wp2_with (go_at_call 103; refine (atWork_any _ _ _ (by omega) h2).mono ?_; rintro e w' ⟨rfl, rfl⟩)
        go_ret
        exact ⟨_, rfl, ⟨k, by omega, by omega, rfl, HB.out, hk.out⟩, rfl⟩
    · go_wp2
      go_ret
      obtain rfl : k = 7 := by omega
      obtain ⟨i, i1, i2, i3⟩ := M.next_exists h1 h2 d
      have : i = 7 := by
        by_cases e : i = 7
        · exact e
        · have := hk.out i i1 (by omega); rw [this] at i3; cases i3
      subst this
      exact ⟨_, rfl, ⟨7, by omega, by omega, rfl, i3, hk.out⟩, rfl⟩

set_option maxHeartbeats 400000 in
theorem daysAtWork_any (week : Int) (w : World) (h1 : 1 ≤ week) (h2 : week ≤ 127) : Calls Tryz.prog 101 #[.int .i64 week] w fun e w' => e = .returned (.int .i64 (M.cnt (M.atw week) (-1) 7)) ∧ w' = w := by
  go_enter Tryz.func101, Tryz.ntmps101
  go_wp2
  go_loop [3, 4] (fun c t => ∃ k n : Nat, k ≤ 7 ∧ n ≤ k ∧ t = .int .i64 k ∧ c = .int .i64 n ∧ Hid (n = M.cnt (M.atw week) (-1) k)) (fun _ t => (7 - intOf t).toNat)
  case atStart => exact ⟨0, 0, by omega, by omega, rfl, rfl, rfl⟩
  case round =>
    obtain ⟨k, n, k2, n1, rfl, rfl, hk⟩ := hrel
    by_cases hlt : k < 7
    · have e : (-1 : Int) + ((k + 1 : Nat) : Int) = k := by omega
      cases hb : M.atw week k
      · have HB : Hid (M.atw week k = false) := hb
        clear e
        go_wp2_with (go_at_call 103; refine (atWork_any _ _ _ (by omega) h2).mono ?_; rintro e w' ⟨rfl, rfl⟩)
        go_round
        case rel => exact ⟨k + 1, n, by omega, by omega, by go_num, rfl, by
          show n = M.cnt _ _ k + _
          rw [show (-1 : Int) + ((k + 1 : Nat) : Int) = k by omega, HB.out, ← hk.out]; rfl⟩
        case measure => simp [intOf]; omega
      · have HB : Hid (M.atw week k = true) := hb
        clear e
        go_wp2_with (go_at_call 103; refine (atWork_any _ _ _ (by omega) h2).mono ?_; rintro e w' ⟨rfl, rfl⟩)
        go_round
        case rel => exact ⟨k + 1, n + 1, by omega, by omega, by go_num, by go_num, by
          show n + 1 = M.cnt _ _ k + _
          rw [show (-1 : Int) + ((k + 1 : Nat) : Int) = k by omega, HB.out, ← hk.out]; rfl⟩
        case measure => simp [intOf]; omega
    · go_wp2
      go_ret
      obtain rfl : k = 7 := by omega
      exact ⟨ret_int (by rw [hk.out]), rfl⟩

end Go.Proofs.YtkhpkpaglkinbaaGreatDoor
