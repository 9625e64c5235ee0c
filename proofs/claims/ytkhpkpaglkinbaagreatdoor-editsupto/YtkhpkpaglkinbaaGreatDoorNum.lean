/-
  PLAIN MATHEMATICS: Go's division, bits, what is cut.
-/
import Derived.Test.YtkhpkpaglkinbaaGreatDoorCal
import Derived.WalkKit
import Derived.Lib.RabinKarpLaws
set_option linter.unusedVariables false
set_option linter.unusedSimpArgs false
namespace Go.Proofs.YtkhpkpaglkinbaaGreatDoor.M
open Go.RowKit

theorem div_neg {v n : Int} (hn : 1 ≤ n) (h : v.tmod n < 0) : v.tdiv n - 1 = v / n := by
  have e1 := Int.tdiv_eq_ediv (a := v) (b := n)
  have e2 := Int.tmod_eq_emod (a := v) (b := n)
  have p := Int.emod_nonneg v (show n ≠ 0 by omega)
  have s : n.sign = 1 := Int.sign_eq_one_of_pos (by omega)
  by_cases c : 0 ≤ v ∨ n ∣ v
  · rw [if_pos c] at e2; omega
  · rw [if_neg c, s] at e1; omega

theorem div_pos {v n : Int} (hn : 1 ≤ n) (h : 0 ≤ v.tmod n) : v.tdiv n = v / n := by
  have e1 := Int.tdiv_eq_ediv (a := v) (b := n)
  have e2 := Int.tmod_eq_emod (a := v) (b := n)
  have p := Int.emod_lt_of_pos v (show 0 < n by omega)
  by_cases c : 0 ≤ v ∨ n ∣ v
  · rw [if_pos c] at e1; omega
  · rw [if_neg c] at e2; omega

theorem mod_neg {v n : Int} (hn : 1 ≤ n) (h : v.tmod n < 0) : v.tmod n + n = v % n := by
  have e2 := Int.tmod_eq_emod (a := v) (b := n)
  have p := Int.emod_nonneg v (show n ≠ 0 by omega)
  by_cases c : 0 ≤ v ∨ n ∣ v
  · rw [if_pos c] at e2; omega
  · rw [if_neg c] at e2; omega

theorem mod_pos {v n : Int} (hn : 1 ≤ n) (h : 0 ≤ v.tmod n) : v.tmod n = v % n := by
  have e2 := Int.tmod_eq_emod (a := v) (b := n)
  have p := Int.emod_lt_of_pos v (show 0 < n by omega)
  by_cases c : 0 ≤ v ∨ n ∣ v
  · rw [if_pos c] at e2; omega
  · rw [if_neg c] at e2; omega

theorem div_bound {v n : Int} (hn : 1 ≤ n) {B : Int} (h1 : -B ≤ v) (h2 : v ≤ B) (hB : 0 ≤ B) : -B - 1 ≤ v / n ∧ v / n ≤ B := by
  have e := Int.mul_ediv_add_emod v n
  have p := Int.emod_nonneg v (show n ≠ 0 by omega)
  have q := Int.emod_lt_of_pos v (show 0 < n by omega)
  constructor
  · by_cases c : v / n ≥ 0
    · omega
    · have : n * (v / n) ≤ 1 * (v / n) := Int.mul_le_mul_of_nonpos_right hn (by omega)
      have e3 : v / n * n = n * (v / n) := Int.mul_comm _ _
      apply Classical.byContradiction; intro hc
      have : n * (v / n) ≤ n * (-B - 2) := Int.mul_le_mul_of_nonneg_left (by omega) (by omega)
      have e4 : n * (-B - 2) = -(n * B) - n * 2 := by rw [Int.mul_sub, Int.mul_neg]
      have : 1 * B ≤ n * B := Int.mul_le_mul_of_nonneg_right hn hB
      omega
  · by_cases c : v / n ≤ 0
    · omega
    · have : 1 * (v / n) ≤ n * (v / n) := Int.mul_le_mul_of_nonneg_right hn (by omega)
      omega

theorem week_bit {week : Int} (h1 : 0 ≤ week) (h2 : week ≤ 127) {p : Int} (hp : 0 ≤ p) (hp' : p < 7) (n : Nat) (hn : n = p.toNat) : bits BinOp.and IntKind.i64 (week / 2 ^ n) 1 = week / 2 ^ p.toNat % 2 := by
  subst hn
  obtain ⟨q, hq⟩ : ∃ q : Nat, week / 2 ^ p.toNat = (q : Int) := by
    refine ⟨(week / 2 ^ p.toNat).toNat, ?_⟩
    have : 0 ≤ week / 2 ^ p.toNat := Int.ediv_nonneg h1 (by exact Int.le_of_lt (Int.pow_pos (by omega)))
    omega
  have hle : (q : Int) ≤ 127 := by
    rw [← hq]
    have : week / 2 ^ p.toNat ≤ week := Int.ediv_le_self _ h1
    omega
  rw [hq, Go.Proofs.and_one q (by omega)]
  omega

end Go.Proofs.YtkhpkpaglkinbaaGreatDoor.M
