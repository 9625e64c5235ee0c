/-
  THE WALKS: the k-th working day; sums.
-/
import Derived.Test.YtkhpkpaglkinbaaGreatDoorW2
set_option linter.unusedVariables false
set_option linter.unusedSimpArgs false
namespace Go.Proofs.YtkhpkpaglkinbaaGreatDoor
open Go.RowKit

/-- A slice of n elements of st cells each; cell j of them holds g j. -/
def SlAt (w : World) (v : Value) (n st : Nat) (g : Nat → Value) : Prop :=
  ∃ a cap, v = .slice a n cap ∧ ∀ j, j < n * st → ∃ b off, a = some ⟨b, off, none⟩ ∧ b < w.heap.size ∧ w.cell? ⟨b, off + j, none⟩ = some (g j)

theorem SlAt.elim {w : World} {v : Value} {n st : Nat} {g : Nat → Value} (h : SlAt w v n st g) (hst : 0 < st) :
    (n = 0 ∧ ∃ a cap, v = .slice a 0 cap) ∨ (0 < n ∧ ∃ b off cap, v = .slice (some ⟨b, off, none⟩) n cap ∧ b < w.heap.size ∧ ∀ j, j < n * st → w.cell? ⟨b, off + j, none⟩ = some (g j)) := by
  obtain ⟨a, cap, rfl, hc⟩ := h
  by_cases hn : n = 0
  · subst hn; exact Or.inl ⟨rfl, a, cap, rfl⟩
  · have hp : 0 < n * st := Nat.mul_pos (by omega) hst
    obtain ⟨b, off, rfl, hb, _⟩ := hc 0 hp
    refine Or.inr ⟨by omega, b, off, cap, rfl, hb, fun j hj => ?_⟩
    obtain ⟨b', off', e, _, h2⟩ := hc j hj
    cases e
    exact h2

theorem SlAt.below {B : Nat} {w w' : World} {v : Value} {n st : Nat} {g : Nat → Value} (h : SlAt w v n st g) (hb : Below B w w') (hB : w.heap.size ≤ B) : SlAt w' v n st g := by
  obtain ⟨a, cap, rfl, hc⟩ := h
  refine ⟨a, cap, rfl, fun j hj => ?_⟩
  obtain ⟨b, off, e, h1, h2⟩ := hc j hj
  exact ⟨b, off, e, by have := hb.size; omega, by rw [hb.cell (p := ⟨b, off + j, none⟩) (by show b < B; omega)]; exact h2⟩

/-- A slice of ints. -/
def IntsAt (w : World) (v : Value) (xs : List Int) : Prop := SlAt w v xs.length 1 (fun j => .int .i64 (xs.getD j 0))

theorem take_snoc (l : List Int) (k : Nat) (h : k < l.length) : l.take (k + 1) = l.take k ++ [l.getD k 0] := by
  rw [List.take_succ_eq_append_getElem h]; simp [List.getD, h]

theorem take_mem_lt {l : List Int} (h : l.Pairwise (· < ·)) {k : Nat} (hk : k < l.length) {x : Int} (hx : x ∈ l.take k) : x < l.getD k 0 := by
  rw [List.pairwise_iff_getElem] at h
  obtain ⟨i, hi, rfl⟩ := List.mem_iff_getElem.1 hx
  have hi' : i < k := by simp at hi; omega
  have := h i k (by omega) hk hi'
  simp only [List.getElem_take, List.getD, List.getElem?_eq_getElem hk, Option.getD_some]
  exact this

theorem due_bound {week : Int} {hol : List Int} (h1 : 1 ≤ week) (h2 : week ≤ 127) (hh : ∀ h, h ∈ hol → h ≤ 11574) {d : Int} {k : Nat} {T : Int} (h : M.IsDue (M.wkd week hol) d k T) : d ≤ T ∧ T ≤ (if d ≤ 11574 then 11574 else d) + 7 * k := by
  obtain ⟨S, a, b, c⟩ := M.due_exists h1 h2 hh d k
  rw [M.due_unique h a]; exact ⟨b, c⟩

theorem hol_step {week day : Int} {k : Nat} {hol : List Int} (hr : hol.Pairwise (· < ·)) {j : Nat} (hj : j < hol.length) {last : Int} (g : M.IsDue (M.wkd week (hol.take j)) day k last) :
    (¬ (day < hol.getD j 0 ∧ hol.getD j 0 ≤ last ∧ M.atw week (hol.getD j 0) = true) → M.IsDue (M.wkd week (hol.take (j + 1))) day k last) ∧
    (∀ next, day < hol.getD j 0 → hol.getD j 0 ≤ last → M.atw week (hol.getD j 0) = true → M.IsNext week last next → M.IsDue (M.wkd week (hol.take (j + 1))) day k next) := by
  rw [take_snoc _ _ hj]
  exact ⟨fun h => M.due_skip g h, fun next a b c d => M.due_on g a b c (fun x hx => take_mem_lt hr hj hx) d⟩

set_option maxHeartbeats 800000 in
theorem workingDay_some (week d : Int) (hol : List Int) (b off cap k : Nat) (w : World) (h1 : 1 ≤ week) (h2 : week ≤ 127) (hd : -100000 ≤ d) (hd' : d ≤ 100000) (hk : 1 ≤ k) (hk' : k ≤ 250)
    (hh : Hid (∀ h, h ∈ hol → h ≤ 11574)) (hr : Hid (hol.Pairwise (· < ·))) (hl : hol.length ≤ 20) (a : Option Addr) (hc : ∀ j, j < hol.length → w.cell? ⟨b, off + j, none⟩ = some (.int .i64 (hol.getD j 0))) (ha : hol.length = 0 ∨ a = some ⟨b, off, none⟩) :
    Calls Tryz.prog 96 #[.int .i64 week, .slice a hol.length cap, .int .i64 d, .int .i64 k] w fun e w' => ∃ T, e = .returned (.int .i64 T) ∧ M.IsDue (M.wkd week hol) d k T ∧ w' = w := by
  obtain ⟨E, hE⟩ : ∃ E, E = M.cnt (M.atw week) (-1) 7 := ⟨_, rfl⟩
  have e1 : 1 ≤ E := by rw [hE]; exact M.week_some h1 h2
  have e2 : E ≤ 7 := by rw [hE]; exact M.week_le week
  have HE : Hid (E = M.cnt (M.atw week) (-1) 7) := hE
  have hE0 : ((E : Int) == 0) = false := beq_eq_false_iff_ne.2 (by omega)
  clear hE
  go_enter Tryz.func96, Tryz.ntmps96
  go_wp2_with (go_at_call 101; refine (daysAtWork_any _ _ h1 h2).mono ?_; rintro e w' ⟨rfl, rfl⟩; rw [← HE.out])
  obtain ⟨q, hq1, hq2, hq3⟩ : ∃ q : Nat, ((k : Int) - 1) / E = q ∧ q * E + 1 ≤ k ∧ k ≤ q * E + E := by
    refine ⟨(k - 1) / E, ?_, ?_, ?_⟩
    · rw [show (k : Int) - 1 = ((k - 1 : Nat) : Int) by omega]; rfl
    · have := Nat.div_mul_le_self (k - 1) E; omega
    · have := Nat.lt_div_mul_add (a := k - 1) (b := E) (by omega); omega
  have hq4 : q ≤ q * E := Nat.le_mul_of_pos_right q (by omega)
  have hw0 := M.walked_weeks week d q (by rw [← HE.out]; exact e1)
  rw [← HE.out] at hw0
  have HW0 : Hid (M.Walked week d (q * E) (d + q * 7)) := hw0
  have s11 : wrap64 (d + wrap64 (((k : Int) - 1) / E * 7)) = d + q * 7 := by rw [hq1, IntWalk.wrap64_in ((q : Int) * 7) (by omega), IntWalk.wrap64_in _ (by omega)]
  have s12 : wrap64 ((k : Int) - wrap64 (((k : Int) - 1) / E * E)) = k - (q * E : Nat) := by
    rw [hq1, show (q : Int) * (E : Int) = ((q * E : Nat) : Int) by simp, IntWalk.wrap64_in ((q * E : Nat) : Int) (by omega), IntWalk.wrap64_in _ (by omega)]
  clear hw0
  go_loop [11, 12] (fun l t => ∃ (j : Nat) (last : Int), q * E ≤ j ∧ j ≤ k ∧ t = .int .i64 (k - j) ∧ l = .int .i64 last ∧ d ≤ last ∧ last ≤ d + 7 * j + 7 ∧ Hid (M.Walked week d j last) ∧ Hid (j = k → M.IsDue (M.atw week) d k last)) (fun _ t => (intOf t).toNat)
  case atStart => exact ⟨q * E, d + q * 7, by omega, by omega, by rw [s12], by rw [s11], by omega, by omega, HW0, fun e => by omega⟩
  case round =>
    clear s11 s12 hq1
    obtain ⟨j, last, j1, j2, rfl, rfl, l1, l2, hw, hdue⟩ := hrel
    by_cases hlt : j < k
    · go_wp2_with fail
      refine (nextAtWork_any _ _ _ h1 h2 (by omega) (by omega)).mono ?_
      rintro e w1 ⟨y, rfl, hy, rfl⟩
      obtain ⟨hw1, hw2⟩ := M.walked_next hw.out hy
      have hy' : last ≤ y ∧ y ≤ last + 7 := by
        obtain ⟨m, m1, m2, m3, _⟩ := hy
        omega
      have HW1 : Hid (M.Walked week d (j + 1) y) := hw1
      have HW2 : Hid (M.IsDue (M.atw week) d (j + 1) y) := hw2
      clear hw1 hw2 hy
      go_wp2
      go_round
      case rel => exact ⟨j + 1, y, by omega, by omega, by go_num, rfl, by omega, by omega, HW1, fun e => by rw [← e]; exact HW2⟩
      case measure => simp [intOf]; omega
    · obtain rfl : j = k := by omega
      have hdue' : Hid (M.IsDue (M.wkd week (hol.take 0)) d j last) := by
        rw [List.take_zero, M.wkd_nil]; exact hdue.out rfl
      clear hdue
      go_wp2
      go_loop [11, 46] (fun l t => ∃ (m : Nat) (last : Int), m ≤ hol.length ∧ t = .int .i64 m ∧ l = .int .i64 last ∧ d ≤ last ∧ last ≤ 102000 ∧ Hid (M.IsDue (M.wkd week (hol.take m)) d j last)) (fun _ t => hol.length - (intOf t).toNat)
      case atStart => exact ⟨0, last, by omega, rfl, rfl, by omega, by omega, hdue'⟩
      case round =>
        clear l1 l2 hdue' hw
        obtain ⟨m, last, m1, rfl, rfl, l1, l2, hdue⟩ := hrel
        by_cases hm : m < hol.length
        · obtain rfl : a = some ⟨b, off, none⟩ := by
            rcases ha with ha | ha
            · omega
            · exact ha
          have hcell := hc m hm
          obtain ⟨hs1, hs2⟩ := hol_step hr.out hm hdue.out
          have HS1 := (show Hid _ from hs1)
          have HS2 := (show Hid _ from hs2)
          have hx : hol.getD m 0 ≤ 11574 := hh.out _ (by simp [List.getD, hm])
          clear hs1 hs2 hc ha
          generalize hol.getD m 0 = x at *
          have bd : ∀ {z : Int}, M.IsDue (M.wkd week (hol.take (m + 1))) d j z → d ≤ z ∧ z ≤ 102000 := fun {z} g => by
            have := due_bound h1 h2 (fun h hh' => hh.out h (List.mem_of_mem_take hh')) g
            revert this
            split <;> omega
          have BD := (show Hid _ from @bd)
          clear bd
          by_cases c1 : d < x
          · by_cases c2 : x ≤ last
            · cases c3 : M.atw week x
              · have C3 : Hid (M.atw week x = false) := c3
                go_wp2_with fail
                refine (atWork_any _ _ _ (by omega) h2).mono ?_
                rintro e w1 ⟨rfl, rfl⟩
                go_wp2
                go_round
                case rel => exact ⟨m + 1, last, by omega, by go_num, rfl, by omega, by omega, HS1.out fun g => by rw [C3.out] at g; cases g.2.2⟩
                case measure => simp [intOf]; omega
              · have C3 : Hid (M.atw week x = true) := c3
                go_wp2_with fail
                refine (atWork_any _ _ _ (by omega) h2).mono ?_
                rintro e w1 ⟨rfl, rfl⟩
                go_wp2_with fail
                refine (nextAtWork_any _ _ _ h1 h2 (by omega) (by omega)).mono ?_
                rintro e w1 ⟨y, rfl, hy, rfl⟩
                have hy1 := HS2.out y c1 c2 C3.out hy
                have HY := (show Hid _ from hy1)
                have hy2 := BD.out hy1
                clear hy hy1
                go_wp2
                go_round
                case rel => exact ⟨m + 1, y, by omega, by go_num, rfl, by omega, by omega, HY⟩
                case measure => simp [intOf]; omega
            · go_wp2
              go_round
              case rel => exact ⟨m + 1, last, by omega, by go_num, rfl, by omega, by omega, HS1.out fun g => by omega⟩
              case measure => simp [intOf]; omega
          · go_wp2
            go_round
            case rel => exact ⟨m + 1, last, by omega, by go_num, rfl, by omega, by omega, HS1.out fun g => by omega⟩
            case measure => simp [intOf]; omega
        · go_wp2
          go_ret
          obtain rfl : m = hol.length := by omega
          exact ⟨_, rfl, by have := hdue.out; rw [List.take_length] at this; exact this, rfl⟩

end Go.Proofs.YtkhpkpaglkinbaaGreatDoor
