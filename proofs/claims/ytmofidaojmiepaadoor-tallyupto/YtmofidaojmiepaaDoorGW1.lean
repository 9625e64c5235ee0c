/-
  THE WALKS: the functions of plain numbers.
-/
import Derived.Test.YtmofidaojmiepaaDoorProg
import Derived.Test.YtmofidaojmiepaaDoorGRing
import Derived.WalkKit
import Derived.WalkSpells
set_option linter.unusedVariables false
set_option linter.unusedSimpArgs false
namespace Go.Proofs.YtmofidaojmiepaaDoor

open Go.RowKit

theorem ret_int {k : IntKind} {a b : Int} (h : a = b) : Ending.returned (.int k a) = .returned (.int k b) := by rw [h]

theorem ret_bool {a b : Bool} (h : a = b) : Ending.returned (.bool a) = .returned (.bool b) := by rw [h]

namespace M

def cutv (v : Int) : Int := if 2000000000 < v then 2000000000 else if v < -2000000000 then -2000000000 else v

def isv (v : Int) : Bool := decide (-2000000000 ≤ v ∧ v ≤ 2000000000)

def minv (a b : Int) : Int := if a < b then a else b

def maxv (a b : Int) : Int := if a < b then b else a

def num (b : Bool) : Int := if b then 1 else 0

/-- How many of A, B and C the kind's row names; -1: there is no such kind. -/
def needs (kind : Int) : Int := if kind = 0 ∨ kind = 1 then 0 else if kind = 10 ∨ kind = 11 ∨ kind = 12 then 1 else if kind = 9 then 3 else if 2 ≤ kind ∧ kind ≤ 8 then 2 else -1

def two (kind a b : Int) : Int :=
  if kind = 2 then cutv (a + b) else if kind = 3 then cutv (a - b) else if kind = 4 then cutv (a * b) else if kind = 5 then minv a b else if kind = 6 then maxv a b else if kind = 7 then num (decide (a < b)) else num (decide (a = b))

def knownB (kind : Int) : Bool := decide (0 ≤ kind ∧ kind < 13)

def allowsB (kind k : Int) : Bool := if kind = 0 ∨ kind = 1 then isv k else if kind = 11 then decide (1000000 ≤ k ∧ k ≤ 1000000000) else if kind = 12 then decide (0 ≤ k ∧ k ≤ 250) else true

end M

set_option maxHeartbeats 400000 in
theorem pcut_any (v : Int) (w : World) : Calls Tryd.prog 104 #[.int .i64 v] w fun e w' => e = .returned (.int .i64 (M.cutv v)) ∧ w' = w := by
  go_enter Tryd.func104, Tryd.ntmps104
  go_wp2
  all_goals go_ret
  all_goals exact ⟨ret_int (by unfold M.cutv; repeat' split
                               all_goals omega), rfl⟩

set_option maxHeartbeats 400000 in
theorem truth_any (b : Bool) (w : World) : Calls Tryd.prog 99 #[.bool b] w fun e w' => e = .returned (.int .i64 (M.num b)) ∧ w' = w := by
  cases b <;> (go_enter Tryd.func99, Tryd.ntmps99; go_wp2; go_ret; exact ⟨rfl, rfl⟩)

set_option maxHeartbeats 400000 in
theorem pisv_any (v : Int) (w : World) : Calls Tryd.prog 54 #[.int .i64 v] w fun e w' => e = .returned (.bool (M.isv v)) ∧ w' = w := by
  go_enter Tryd.func54, Tryd.ntmps54
  go_wp2
  all_goals go_ret
  all_goals exact ⟨ret_bool (by unfold M.isv; rw [Bool.eq_iff_iff]; simp; try omega), rfl⟩

set_option maxHeartbeats 400000 in
theorem dayOf_any (v : Int) (w : World) (hv : -9000000000000000000 ≤ v) (hv' : v ≤ 9000000000000000000) : Calls Tryd.prog 105 #[.int .i64 v] w fun e w' => e = .returned (.int .i64 (v / 86400)) ∧ w' = w := by
  have hb := M.div_bound (v := v) (n := 86400) (by omega) hv hv' (by omega)
  go_enter Tryd.func105, Tryd.ntmps105
  go_wp2
  all_goals go_ret
  · exact ⟨ret_int (by rw [M.div_neg (by omega) (by assumption), IntWalk.wrap64_in _ (by omega)]), rfl⟩
  · exact ⟨ret_int (M.div_pos (by omega) (by assumption)), rfl⟩

theorem atWork_eq {week : Int} (h1 : 0 ≤ week) (h2 : week ≤ 127) (d : Int) {p : Int} (hp : p = d % 7) {m : Nat} (hm : m = p.toNat) : (bits BinOp.and IntKind.i64 (week / 2 ^ m) 1 == 1) = M.atw week d := by
  subst hp
  rw [M.week_bit h1 h2 (p := d % 7) (by omega) (by omega) m hm]
  unfold M.atw
  rw [Bool.eq_iff_iff]; simp

set_option maxHeartbeats 400000 in
theorem atWork_any (week d : Int) (w : World) (h1 : 0 ≤ week) (h2 : week ≤ 127) : Calls Tryd.prog 111 #[.int .i64 week, .int .i64 d] w fun e w' => e = .returned (.bool (M.atw week d)) ∧ w' = w := by
  go_enter Tryd.func111, Tryd.ntmps111
  go_wp2
  all_goals go_ret
  · exact ⟨ret_bool (atWork_eq h1 h2 d (p := d.tmod 7 + 7) (M.mod_neg (by omega) (by assumption)) (by
      have e := M.mod_neg (v := d) (n := 7) (by omega) (by assumption)
      rw [e, IntWalk.wrap64_in _ (by omega), IntWalk.u64_in _ (by omega)]; omega)), rfl⟩
  · exact ⟨ret_bool (atWork_eq h1 h2 d (p := d.tmod 7) (M.mod_pos (by omega) (by assumption)) (by
      have e := M.mod_pos (v := d) (n := 7) (by omega) (by assumption)
      rw [e, IntWalk.u64_in _ (by omega)]; omega)), rfl⟩

set_option maxHeartbeats 400000 in
theorem lesser_any (a b : Int) (w : World) : Calls Tryd.prog 107 #[.int .i64 a, .int .i64 b] w fun e w' => e = .returned (.int .i64 (M.minv a b)) ∧ w' = w := by
  go_enter Tryd.func107, Tryd.ntmps107
  go_wp2
  all_goals go_ret
  all_goals exact ⟨ret_int (by first | (unfold M.minv; split <;> omega) | (unfold M.maxv; split <;> omega)), rfl⟩

set_option maxHeartbeats 400000 in
theorem greater_any (a b : Int) (w : World) : Calls Tryd.prog 108 #[.int .i64 a, .int .i64 b] w fun e w' => e = .returned (.int .i64 (M.maxv a b)) ∧ w' = w := by
  go_enter Tryd.func108, Tryd.ntmps108
  go_wp2
  all_goals go_ret
  all_goals exact ⟨ret_int (by first | (unfold M.minv; split <;> omega) | (unfold M.maxv; split <;> omega)), rfl⟩

set_option maxHeartbeats 400000 in
theorem known_any (k : Int) (w : World) : Calls Tryd.prog 94 #[.int .i64 k] w fun e w' => e = .returned (.bool (M.knownB k)) ∧ w' = w := by
  go_enter Tryd.func94, Tryd.ntmps94
  go_wp2
  all_goals go_ret
  all_goals exact ⟨ret_bool (by unfold M.knownB; rw [Bool.eq_iff_iff]; simp; try omega), rfl⟩

set_option maxHeartbeats 400000 in
theorem pallows_any (kd k : Int) (w : World) : Calls Tryd.prog 95 #[.int .i64 kd, .int .i64 k] w fun e w' => e = .returned (.bool (M.allowsB kd k)) ∧ w' = w := by
  go_enter Tryd.func95, Tryd.ntmps95
  go_wp2_with (go_at_call 54; refine (pisv_any _ _).mono ?_; rintro e w' ⟨rfl, rfl⟩)
  all_goals go_ret
  all_goals refine ⟨ret_bool ?_, rfl⟩
  all_goals (simp only [beq_iff_eq, beq_eq_false_iff_ne, ne_eq] at *)
  all_goals (unfold M.allowsB)
  all_goals first
    | (rw [if_pos (by omega)]; done)
    | (rw [if_neg (by omega), if_pos (by omega), Bool.eq_iff_iff]; simp; try omega)
    | (rw [if_neg (by omega), if_neg (by omega), if_pos (by omega), Bool.eq_iff_iff]; simp; try omega)
    | (rw [if_neg (by omega), if_neg (by omega), if_neg (by omega)])

end Go.Proofs.YtmofidaojmiepaaDoor

/-
  THE WALKS: days at work.
-/
set_option linter.unusedVariables false
set_option linter.unusedSimpArgs false
namespace Go.Proofs.YtmofidaojmiepaaDoor

open Go.RowKit

set_option maxHeartbeats 400000 in
theorem nextAtWork_any (week d : Int) (w : World) (h1 : 1 ≤ week) (h2 : week ≤ 127) (hd : -1000000000 ≤ d) (hd' : d ≤ 1000000000) : Calls Tryd.prog 110 #[.int .i64 week, .int .i64 d] w fun e w' => ∃ y, e = .returned (.int .i64 y) ∧ M.IsNext week d y ∧ w' = w := by
  go_enter Tryd.func110, Tryd.ntmps110
  go_wp2
  go_loop [5] (fun t => ∃ k : Nat, 1 ≤ k ∧ k ≤ 7 ∧ t = .int .i64 k ∧ Hid (∀ i : Nat, 1 ≤ i → i < k → M.atw week (d + i) = false)) (fun t => (7 - intOf t).toNat)
  case atStart => exact ⟨1, by omega, by omega, rfl, fun i a b => by omega⟩
  case round =>
    obtain ⟨k, k1, k2, rfl, hk⟩ := hrel
    by_cases hlt : k < 7
    · cases hb : M.atw week (d + k)
      · have HB : Hid (M.atw week (d + k) = false) := hb
        go_wp2_with (go_at_call 111; refine (atWork_any _ _ _ (by omega) h2).mono ?_; rintro e w' ⟨rfl, rfl⟩)
        go_round
        case rel => exact ⟨k + 1, by omega, by omega, by go_num, fun i a b => by
          by_cases e : i = k
          · subst e; exact HB.out
          · exact hk.out i a (by omega)⟩
        case measure => simp [intOf]; omega
      · have HB : Hid (M.atw week (d + k) = true) := hb
        go_wp2_with (go_at_call 111; refine (atWork_any _ _ _ (by omega) h2).mono ?_; rintro e w' ⟨rfl, rfl⟩)
        go_ret
        exact ⟨_, rfl, ⟨k, by omega, by omega, rfl, HB.out, hk.out⟩, rfl⟩
    · go_wp2
      go_ret
      obtain rfl : k = 7 := by omega
      obtain ⟨i, i1, i2, i3⟩ := M.next_exists h1 h2 d
      have : i = 7 := by
        by_cases e : i = 7
        · exact e
        · have := hk.out i i1 (by omega); rw [this] at i3; cases i3
      subst this
      exact ⟨_, rfl, ⟨7, by omega, by omega, rfl, i3, hk.out⟩, rfl⟩

set_option maxHeartbeats 400000 in
theorem daysAtWork_any (week : Int) (w : World) (h1 : 1 ≤ week) (h2 : week ≤ 127) : Calls Tryd.prog 109 #[.int .i64 week] w fun e w' => e = .returned (.int .i64 (M.cnt (M.atw week) (-1) 7)) ∧ w' = w := by
  go_enter Tryd.func109, Tryd.ntmps109
  go_wp2
  go_loop [3, 4] (fun c t => ∃ k n : Nat, k ≤ 7 ∧ n ≤ k ∧ t = .int .i64 k ∧ c = .int .i64 n ∧ Hid (n = M.cnt (M.atw week) (-1) k)) (fun _ t => (7 - intOf t).toNat)
  case atStart => exact ⟨0, 0, by omega, by omega, rfl, rfl, rfl⟩
  case round =>
    obtain ⟨k, n, k2, n1, rfl, rfl, hk⟩ := hrel
    by_cases hlt : k < 7
    · have e : (-1 : Int) + ((k + 1 : Nat) : Int) = k := by omega
      cases hb : M.atw week k
      · have HB : Hid (M.atw week k = false) := hb
        clear e
        go_wp2_with (go_at_call 111; refine (atWork_any _ _ _ (by omega) h2).mono ?_; rintro e w' ⟨rfl, rfl⟩)
        go_round
        case rel => exact ⟨k + 1, n, by omega, by omega, by go_num, rfl, by
          show n = M.cnt _ _ k + _
          rw [show (-1 : Int) + ((k + 1 : Nat) : Int) = k by omega, HB.out, ← hk.out]; rfl⟩
        case measure => simp [intOf]; omega
      · have HB : Hid (M.atw week k = true) := hb
        clear e
        go_wp2_with (go_at_call 111; refine (atWork_any _ _ _ (by omega) h2).mono ?_; rintro e w' ⟨rfl, rfl⟩)
        go_round
        case rel => exact ⟨k + 1, n + 1, by omega, by omega, by go_num, by go_num, by
          show n + 1 = M.cnt _ _ k + _
          rw [show (-1 : Int) + ((k + 1 : Nat) : Int) = k by omega, HB.out, ← hk.out]; rfl⟩
        case measure => simp [intOf]; omega
    · go_wp2
      go_ret
      obtain rfl : k = 7 := by omega
      exact ⟨ret_int (by rw [hk.out]), rfl⟩

end Go.Proofs.YtmofidaojmiepaaDoor

/-
  THE WALKS: the k-th working day; sums.
-/
set_option linter.unusedVariables false
set_option linter.unusedSimpArgs false
namespace Go.Proofs.YtmofidaojmiepaaDoor

open Go.RowKit

/-- A slice of n elements of st cells each; cell j of them holds g j. -/
def SlAt (w : World) (v : Value) (n st : Nat) (g : Nat → Value) : Prop :=
  ∃ a cap, v = .slice a n cap ∧ ∀ j, j < n * st → ∃ b off, a = some ⟨b, off, none⟩ ∧ b < w.heap.size ∧ w.cell? ⟨b, off + j, none⟩ = some (g j)

theorem SlAt.elim {w : World} {v : Value} {n st : Nat} {g : Nat → Value} (h : SlAt w v n st g) (hst : 0 < st) :
    (n = 0 ∧ ∃ a cap, v = .slice a 0 cap) ∨ (0 < n ∧ ∃ b off cap, v = .slice (some ⟨b, off, none⟩) n cap ∧ b < w.heap.size ∧ ∀ j, j < n * st → w.cell? ⟨b, off + j, none⟩ = some (g j)) := by
  obtain ⟨a, cap, rfl, hc⟩ := h
  by_cases hn : n = 0
  · subst hn; exact Or.inl ⟨rfl, a, cap, rfl⟩
  · have hp : 0 < n * st := Nat.mul_pos (by omega) hst
    obtain ⟨b, off, rfl, hb, _⟩ := hc 0 hp
    refine Or.inr ⟨by omega, b, off, cap, rfl, hb, fun j hj => ?_⟩
    obtain ⟨b', off', e, _, h2⟩ := hc j hj
    cases e
    exact h2

theorem SlAt.below {B : Nat} {w w' : World} {v : Value} {n st : Nat} {g : Nat → Value} (h : SlAt w v n st g) (hb : Below B w w') (hB : w.heap.size ≤ B) : SlAt w' v n st g := by
  obtain ⟨a, cap, rfl, hc⟩ := h
  refine ⟨a, cap, rfl, fun j hj => ?_⟩
  obtain ⟨b, off, e, h1, h2⟩ := hc j hj
  exact ⟨b, off, e, by have := hb.size; omega, by rw [hb.cell (p := ⟨b, off + j, none⟩) (by show b < B; omega)]; exact h2⟩

/-- A slice of ints. -/
def IntsAt (w : World) (v : Value) (xs : List Int) : Prop := SlAt w v xs.length 1 (fun j => .int .i64 (xs.getD j 0))

theorem take_snoc (l : List Int) (k : Nat) (h : k < l.length) : l.take (k + 1) = l.take k ++ [l.getD k 0] := by
  rw [List.take_succ_eq_append_getElem h]; simp [List.getD, h]

theorem take_mem_lt {l : List Int} (h : l.Pairwise (· < ·)) {k : Nat} (hk : k < l.length) {x : Int} (hx : x ∈ l.take k) : x < l.getD k 0 := by
  rw [List.pairwise_iff_getElem] at h
  obtain ⟨i, hi, rfl⟩ := List.mem_iff_getElem.1 hx
  have hi' : i < k := by simp at hi; omega
  have := h i k (by omega) hk hi'
  simp only [List.getElem_take, List.getD, List.getElem?_eq_getElem hk, Option.getD_some]
  exact this

theorem due_bound {week : Int} {hol : List Int} (h1 : 1 ≤ week) (h2 : week ≤ 127) (hh : ∀ h, h ∈ hol → h ≤ 11574) {d : Int} {k : Nat} {T : Int} (h : M.IsDue (M.wkd week hol) d k T) : d ≤ T ∧ T ≤ (if d ≤ 11574 then 11574 else d) + 7 * k := by
  obtain ⟨S, a, b, c⟩ := M.due_exists h1 h2 hh d k
  rw [M.due_unique h a]; exact ⟨b, c⟩

theorem hol_step {week day : Int} {k : Nat} {hol : List Int} (hr : hol.Pairwise (· < ·)) {j : Nat} (hj : j < hol.length) {last : Int} (g : M.IsDue (M.wkd week (hol.take j)) day k last) :
    (¬ (day < hol.getD j 0 ∧ hol.getD j 0 ≤ last ∧ M.atw week (hol.getD j 0) = true) → M.IsDue (M.wkd week (hol.take (j + 1))) day k last) ∧
    (∀ next, day < hol.getD j 0 → hol.getD j 0 ≤ last → M.atw week (hol.getD j 0) = true → M.IsNext week last next → M.IsDue (M.wkd week (hol.take (j + 1))) day k next) := by
  rw [take_snoc _ _ hj]
  exact ⟨fun h => M.due_skip g h, fun next a b c d => M.due_on g a b c (fun x hx => take_mem_lt hr hj hx) d⟩

set_option maxHeartbeats 800000 in
theorem workingDay_some (week d : Int) (hol : List Int) (b off cap k : Nat) (w : World) (h1 : 1 ≤ week) (h2 : week ≤ 127) (hd : -100000 ≤ d) (hd' : d ≤ 100000) (hk : 1 ≤ k) (hk' : k ≤ 250)
    (hh : Hid (∀ h, h ∈ hol → h ≤ 11574)) (hr : Hid (hol.Pairwise (· < ·))) (hl : hol.length ≤ 20) (a : Option Addr) (hc : ∀ j, j < hol.length → w.cell? ⟨b, off + j, none⟩ = some (.int .i64 (hol.getD j 0))) (ha : hol.length = 0 ∨ a = some ⟨b, off, none⟩) :
    Calls Tryd.prog 106 #[.int .i64 week, .slice a hol.length cap, .int .i64 d, .int .i64 k] w fun e w' => ∃ T, e = .returned (.int .i64 T) ∧ M.IsDue (M.wkd week hol) d k T ∧ w' = w := by
  obtain ⟨E, hE⟩ : ∃ E, E = M.cnt (M.atw week) (-1) 7 := ⟨_, rfl⟩
  have e1 : 1 ≤ E := by rw [hE]; exact M.week_some h1 h2
  have e2 : E ≤ 7 := by rw [hE]; exact M.week_le week
  have HE : Hid (E = M.cnt (M.atw week) (-1) 7) := hE
  have hE0 : ((E : Int) == 0) = false := beq_eq_false_iff_ne.2 (by omega)
  clear hE
  go_enter Tryd.func106, Tryd.ntmps106
  go_wp2_with (go_at_call 109; refine (daysAtWork_any _ _ h1 h2).mono ?_; rintro e w' ⟨rfl, rfl⟩; rw [← HE.out])
  obtain ⟨q, hq1, hq2, hq3⟩ : ∃ q : Nat, ((k : Int) - 1) / E = q ∧ q * E + 1 ≤ k ∧ k ≤ q * E + E := by
    refine ⟨(k - 1) / E, ?_, ?_, ?_⟩
    · rw [show (k : Int) - 1 = ((k - 1 : Nat) : Int) by omega]; rfl
    · have := Nat.div_mul_le_self (k - 1) E; omega
    · have := Nat.lt_div_mul_add (a := k - 1) (b := E) (by omega); omega
  have hq4 : q ≤ q * E := Nat.le_mul_of_pos_right q (by omega)
  have hw0 := M.walked_weeks week d q (by rw [← HE.out]; exact e1)
  rw [← HE.out] at hw0
  have HW0 : Hid (M.Walked week d (q * E) (d + q * 7)) := hw0
  have s11 : wrap64 (d + wrap64 (((k : Int) - 1) / E * 7)) = d + q * 7 := by rw [hq1, IntWalk.wrap64_in ((q : Int) * 7) (by omega), IntWalk.wrap64_in _ (by omega)]
  have s12 : wrap64 ((k : Int) - wrap64 (((k : Int) - 1) / E * E)) = k - (q * E : Nat) := by
    rw [hq1, show (q : Int) * (E : Int) = ((q * E : Nat) : Int) by simp, IntWalk.wrap64_in ((q * E : Nat) : Int) (by omega), IntWalk.wrap64_in _ (by omega)]
  clear hw0
  go_loop [11, 12] (fun l t => ∃ (j : Nat) (last : Int), q * E ≤ j ∧ j ≤ k ∧ t = .int .i64 (k - j) ∧ l = .int .i64 last ∧ d ≤ last ∧ last ≤ d + 7 * j + 7 ∧ Hid (M.Walked week d j last) ∧ Hid (j = k → M.IsDue (M.atw week) d k last)) (fun _ t => (intOf t).toNat)
  case atStart => exact ⟨q * E, d + q * 7, by omega, by omega, by rw [s12], by rw [s11], by omega, by omega, HW0, fun e => by omega⟩
  case round =>
    clear s11 s12 hq1
    obtain ⟨j, last, j1, j2, rfl, rfl, l1, l2, hw, hdue⟩ := hrel
    by_cases hlt : j < k
    · go_wp2_with fail
      refine (nextAtWork_any _ _ _ h1 h2 (by omega) (by omega)).mono ?_
      rintro e w1 ⟨y, rfl, hy, rfl⟩
      obtain ⟨hw1, hw2⟩ := M.walked_next hw.out hy
      have hy' : last ≤ y ∧ y ≤ last + 7 := by
        obtain ⟨m, m1, m2, m3, _⟩ := hy
        omega
      have HW1 : Hid (M.Walked week d (j + 1) y) := hw1
      have HW2 : Hid (M.IsDue (M.atw week) d (j + 1) y) := hw2
      clear hw1 hw2 hy
      go_wp2
      go_round
      case rel => exact ⟨j + 1, y, by omega, by omega, by go_num, rfl, by omega, by omega, HW1, fun e => by rw [← e]; exact HW2⟩
      case measure => simp [intOf]; omega
    · obtain rfl : j = k := by omega
      have hdue' : Hid (M.IsDue (M.wkd week (hol.take 0)) d j last) := by
        rw [List.take_zero, M.wkd_nil]; exact hdue.out rfl
      clear hdue
      go_wp2
      go_loop [11, 46] (fun l t => ∃ (m : Nat) (last : Int), m ≤ hol.length ∧ t = .int .i64 m ∧ l = .int .i64 last ∧ d ≤ last ∧ last ≤ 102000 ∧ Hid (M.IsDue (M.wkd week (hol.take m)) d j last)) (fun _ t => hol.length - (intOf t).toNat)
      case atStart => exact ⟨0, last, by omega, rfl, rfl, by omega, by omega, hdue'⟩
      case round =>
        clear l1 l2 hdue' hw
        obtain ⟨m, last, m1, rfl, rfl, l1, l2, hdue⟩ := hrel
        by_cases hm : m < hol.length
        · obtain rfl : a = some ⟨b, off, none⟩ := by
            rcases ha with ha | ha
            · omega
            · exact ha
          have hcell := hc m hm
          obtain ⟨hs1, hs2⟩ := hol_step hr.out hm hdue.out
          have HS1 := (show Hid _ from hs1)
          have HS2 := (show Hid _ from hs2)
          have hx : hol.getD m 0 ≤ 11574 := hh.out _ (by simp [List.getD, hm])
          clear hs1 hs2 hc ha
          generalize hol.getD m 0 = x at *
          have bd : ∀ {z : Int}, M.IsDue (M.wkd week (hol.take (m + 1))) d j z → d ≤ z ∧ z ≤ 102000 := fun {z} g => by
            have := due_bound h1 h2 (fun h hh' => hh.out h (List.mem_of_mem_take hh')) g
            revert this
            split <;> omega
          have BD := (show Hid _ from @bd)
          clear bd
          by_cases c1 : d < x
          · by_cases c2 : x ≤ last
            · cases c3 : M.atw week x
              · have C3 : Hid (M.atw week x = false) := c3
                go_wp2_with fail
                refine (atWork_any _ _ _ (by omega) h2).mono ?_
                rintro e w1 ⟨rfl, rfl⟩
                go_wp2
                go_round
                case rel => exact ⟨m + 1, last, by omega, by go_num, rfl, by omega, by omega, HS1.out fun g => by rw [C3.out] at g; cases g.2.2⟩
                case measure => simp [intOf]; omega
              · have C3 : Hid (M.atw week x = true) := c3
                go_wp2_with fail
                refine (atWork_any _ _ _ (by omega) h2).mono ?_
                rintro e w1 ⟨rfl, rfl⟩
                go_wp2_with fail
                refine (nextAtWork_any _ _ _ h1 h2 (by omega) (by omega)).mono ?_
                rintro e w1 ⟨y, rfl, hy, rfl⟩
                have hy1 := HS2.out y c1 c2 C3.out hy
                have HY := (show Hid _ from hy1)
                have hy2 := BD.out hy1
                clear hy hy1
                go_wp2
                go_round
                case rel => exact ⟨m + 1, y, by omega, by go_num, rfl, by omega, by omega, HY⟩
                case measure => simp [intOf]; omega
            · go_wp2
              go_round
              case rel => exact ⟨m + 1, last, by omega, by go_num, rfl, by omega, by omega, HS1.out fun g => by omega⟩
              case measure => simp [intOf]; omega
          · go_wp2
            go_round
            case rel => exact ⟨m + 1, last, by omega, by go_num, rfl, by omega, by omega, HS1.out fun g => by omega⟩
            case measure => simp [intOf]; omega
        · go_wp2
          go_ret
          obtain rfl : m = hol.length := by omega
          exact ⟨_, rfl, by have := hdue.out; rw [List.take_length] at this; exact this, rfl⟩

end Go.Proofs.YtmofidaojmiepaaDoor

/-
  THE WALKS: what a cell is worth by the values that it needs.
-/
set_option linter.unusedVariables false
set_option linter.unusedSimpArgs false
namespace Go.Proofs.YtmofidaojmiepaaDoor

open Go.RowKit

theorem bcell {W w1 : World} (hb : Below W.heap.size W w1) : (∀ b o, b < W.heap.size → w1.cell? ⟨b, o, none⟩ = W.cell? ⟨b, o, none⟩) ∧ (∀ b o, b < W.heap.size → w1.frozen? ⟨b, o, none⟩ = W.frozen? ⟨b, o, none⟩) :=
  ⟨fun b o h => hb.cell (p := ⟨b, o, none⟩) h, fun b o h => hb.frozen (p := ⟨b, o, none⟩) h⟩

/-- The holidays of a form that is one. -/
def HolOk (hol : List Int) : Prop := hol.length ≤ 20 ∧ (∀ h, h ∈ hol → 0 ≤ h ∧ h ≤ 11574) ∧ hol.Pairwise (· < ·)

set_option maxHeartbeats 400000 in
theorem workingDay_zero (week d : Int) (v : Option Addr) (n cap : Nat) (w : World) (h1 : 1 ≤ week) (h2 : week ≤ 127) :
    Calls Tryd.prog 106 #[.int .i64 week, .slice v n cap, .int .i64 d, .int .i64 0] w fun e w' => e = .returned (.int .i64 d) ∧ w' = w := by
  go_enter Tryd.func106, Tryd.ntmps106
  go_wp2_with (go_at_call 109; refine (daysAtWork_any _ _ h1 h2).mono ?_; rintro e w' ⟨rfl, rfl⟩)
  go_ret
  exact ⟨rfl, rfl⟩

theorem workingDay_any (week d k : Int) (hol : List Int) (a : Option Addr) (n cap : Nat) (w : World) (h1 : 1 ≤ week) (h2 : week ≤ 127) (hd : -100000 ≤ d) (hd' : d ≤ 100000) (hk : 0 ≤ k) (hk' : k ≤ 250)
    (hh : HolOk hol) (hn : n = hol.length) (hc : IntsAt w (.slice a n cap) hol) :
    Calls Tryd.prog 106 #[.int .i64 week, .slice a n cap, .int .i64 d, .int .i64 k] w fun e w' => ∃ T, e = .returned (.int .i64 T) ∧ M.IsDue (M.wkd week hol) d k.toNat T ∧ w' = w := by
  subst hn
  by_cases k0 : k = 0
  · subst k0
    refine (workingDay_zero week d a _ cap w h1 h2).mono ?_
    rintro e w' ⟨rfl, rfl⟩
    exact ⟨d, rfl, M.due_zero _ _, rfl⟩
  · obtain ⟨m, rfl⟩ := Int.eq_ofNat_of_zero_le hk
    rw [Int.toNat_natCast]
    rcases SlAt.elim hc (by omega) with ⟨h0, a', cap', e⟩ | ⟨h0, b, off, cap', e, _, hcell⟩
    · exact workingDay_some week d hol 0 0 cap m w h1 h2 hd hd' (by omega) (by omega) (fun h hm => (hh.2.1 h hm).2) hh.2.2 hh.1 a (fun j hj => by omega) (Or.inl h0)
    · obtain ⟨rfl, _, rfl⟩ : a = some ⟨b, off, none⟩ ∧ hol.length = hol.length ∧ cap = cap' := by simpa using e
      exact workingDay_some week d hol b off cap m w h1 h2 hd hd' (by omega) (by omega) (fun h hm => (hh.2.1 h hm).2) hh.2.2 hh.1 _ (fun j hj => hcell j (by omega)) (Or.inr rfl)

set_option maxHeartbeats 400000 in
theorem pdue_any (aC aR aH : Option Addr) (nC cC nR cR nH cH : Nat) (week a k : Int) (hol : List Int) (w : World) (h1 : 1 ≤ week) (h2 : week ≤ 127) (ha : -2000000000 ≤ a) (ha' : a ≤ 2000000000) (hk : 0 ≤ k) (hk' : k ≤ 250)
    (hh : HolOk hol) (hn : nH = hol.length) (hc : IntsAt w (.slice aH nH cH) hol) :
    Calls Tryd.prog 101 #[.agg #[.slice aC nC cC, .slice aR nR cR, .int .i64 week, .slice aH nH cH], .int .i64 a, .int .i64 k] w fun e w' => ∃ T, e = .returned (.int .i64 (M.cutv (T * 86400))) ∧ M.IsDue (M.wkd week hol) (a / 86400) k.toNat T ∧ Below w.heap.size w w' := by
  have HH : Hid (HolOk hol) := hh
  have HC : Hid (IntsAt w (.slice aH nH cH) hol) := hc
  have HN : Hid (nH = hol.length) := hn
  clear hh hc hn
  go_enter Tryd.func101, Tryd.ntmps101
  go_wp2_with fail
  refine (dayOf_any _ _ (by omega) (by omega)).mono ?_
  rintro e w1 ⟨rfl, rfl⟩
  go_wp2_with fail
  refine (workingDay_any week (a / 86400) k hol aH nH cH _ h1 h2 (by omega) (by omega) hk hk' HH.out HN.out (SlAt.below HC.out ((Below.refl _ _).alloc (Nat.le_refl _) _) (Nat.le_refl _))).mono ?_
  rintro e w1 ⟨T, rfl, hT, rfl⟩
  have bd := due_bound h1 h2 (fun h hm => (HH.out.2.1 h hm).2) hT
  have bd' : -100000 ≤ T ∧ T ≤ 100000 := by revert bd; split <;> omega
  have HT := (show Hid _ from hT)
  clear bd hT
  go_wp2_with fail
  refine (pcut_any _ _).mono ?_
  rintro e w1 ⟨rfl, rfl⟩
  go_wp2
  go_ret
  exact ⟨T, rfl, HT, (Below.refl _ _).alloc (Nat.le_refl _) _⟩

end Go.Proofs.YtmofidaojmiepaaDoor
