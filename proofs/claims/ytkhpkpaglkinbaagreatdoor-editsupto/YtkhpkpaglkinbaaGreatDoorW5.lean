/-
  THE WALKS: the document's Due; sums.
-/
import Derived.Test.YtkhpkpaglkinbaaGreatDoorW4
set_option linter.unusedVariables false
set_option linter.unusedSimpArgs false
namespace Go.Proofs.YtkhpkpaglkinbaaGreatDoor
open Go.RowKit

theorem rwork_eq {week : Int} (h1 : 0 ≤ week) (h2 : week ≤ 127) (d : Int) {p : Int} (hp : p = d % 7) {m : Nat} (hm : m = p.toNat) : (bits BinOp.and IntKind.i64 (week / 2 ^ m) 1 == 0) = !M.atw week d := by
  subst hp
  rw [M.week_bit h1 h2 (p := d % 7) (by omega) (by omega) m hm]
  unfold M.atw
  rw [Bool.eq_iff_iff]; simp; omega

theorem wkd_no {week d : Int} {hol : List Int} {k : Nat} (hk : k < hol.length) (h : hol.getD k 0 = d) : M.wkd week hol d = false := by
  have : hol.contains d = true := by
    rw [List.contains_iff_mem, ← h]; simp [List.getD, hk]
  simp only [M.wkd, this]; simp

theorem wkd_yes {week d : Int} {hol : List Int} (h : ∀ i : Nat, i < hol.length → hol.getD i 0 ≠ d) (ha : M.atw week d = true) : M.wkd week hol d = true := by
  have : hol.contains d = false := by
    rw [Bool.eq_false_iff]; intro hc
    obtain ⟨i, hi, e⟩ := List.mem_iff_getElem.1 (List.contains_iff_mem.1 hc)
    exact h i hi (by simp [List.getD, hi, e])
  simp only [M.wkd, this, ha]; rfl

/-- What is known of a slice of ints, as a walk takes it: nothing there, or its cells. -/
theorem IntsAt.cases {w : World} {a : Option Addr} {cap : Nat} {xs : List Int} (h : IntsAt w (.slice a xs.length cap) xs) : xs.length = 0 ∨ ∃ b off, a = some ⟨b, off, none⟩ ∧ b < w.heap.size ∧ ∀ j, j < xs.length → w.cell? ⟨b, off + j, none⟩ = some (.int .i64 (xs.getD j 0)) := by
  rcases SlAt.elim h (by omega) with ⟨h0, _⟩ | ⟨h0, b, off, cap', e, hb, hc⟩
  · exact Or.inl h0
  · obtain ⟨rfl, _⟩ : a = some ⟨b, off, none⟩ ∧ cap = cap' := by simpa using e
    exact Or.inr ⟨b, off, rfl, hb, fun j hj => hc j (by omega)⟩

set_option maxHeartbeats 400000 in
theorem working_any (aC aR aH : Option Addr) (nC cC nR cR nH cH : Nat) (week d : Int) (hol : List Int) (w : World) (h1 : 1 ≤ week) (h2 : week ≤ 127) (hd : -1000000 ≤ d) (hd' : d ≤ 1000000)
    (hl : hol.length ≤ 20) (hn : nH = hol.length) (hc : IntsAt w (.slice aH nH cH) hol) :
    Calls Tryz.prog 100 #[.agg #[.slice aC nC cC, .slice aR nR cR, .int .i64 week, .slice aH nH cH], .int .i64 d] w fun e w' => e = .returned (.bool (M.wkd week hol d)) ∧ Below w.heap.size w w' := by
  subst hn
  have HC := (show Hid _ from IntsAt.cases hc)
  clear hc
  have s1 : d - 7 * (d / 7) = d % 7 := by omega
  have s2 : (0 ≤ d % 7 ∧ d % 7 < 7) := by omega
  have hq : (bits BinOp.and IntKind.i64 (week / 2 ^ (d % 7).toNat) 1 == 0) = !M.atw week d := rwork_eq (by omega) h2 d rfl rfl
  cases hb : M.atw week d
  · have HB : Hid (M.wkd week hol d = false) := by show M.wkd week hol d = false; simp [M.wkd, hb]
    rw [hb] at hq
    clear hb
    go_enter Tryz.func100, Tryz.ntmps100
    go_wp2_with fail
    refine (below_any _ _ _ (by omega) (by omega) (by omega)).mono ?_
    rintro e w1 ⟨rfl, rfl⟩
    go_wp2
    go_ret
    exact ⟨ret_bool (by rw [HB.out]), (Below.refl _ _).alloc (Nat.le_refl _) _⟩
  · have HB : Hid (M.atw week d = true) := hb
    rw [hb] at hq
    clear hb
    go_enter Tryz.func100, Tryz.ntmps100
    go_wp2_with fail
    refine (below_any _ _ _ (by omega) (by omega) (by omega)).mono ?_
    rintro e w1 ⟨rfl, rfl⟩
    go_wp2
    go_loop [6] (fun t => ∃ k : Nat, k ≤ hol.length ∧ t = .int .i64 k ∧ Hid (∀ i : Nat, i < k → hol.getD i 0 ≠ d)) (fun t => hol.length - (intOf t).toNat)
    case atStart => exact ⟨0, by omega, rfl, fun i hi => by omega⟩
    case round =>
      obtain ⟨k, k1, rfl, hk⟩ := hrel
      by_cases hlt : k < hol.length
      · rcases HC.out with h0 | ⟨b, off, rfl, hb, hcell⟩
        · omega
        have hx := hcell k hlt
        have N1 : Hid (hol.getD k 0 = d → M.wkd week hol d = false) := fun e => wkd_no hlt e
        have N2 : Hid (hol.getD k 0 ≠ d → ∀ i : Nat, i < k + 1 → hol.getD i 0 ≠ d) := fun e i hi => by
          by_cases c : i = k
          · subst c; exact e
          · exact hk.out i (by omega)
        clear hcell
        generalize hol.getD k 0 = x at *
        by_cases c : x = d
        · have c' : (x == d) = true := beq_iff_eq.2 c
          have N1' := N1.out c
          have N1'' : Hid _ := N1'
          clear c N1'
          go_wp2
          go_ret
          exact ⟨ret_bool (by rw [N1''.out]), (Below.refl _ _).alloc (Nat.le_refl _) _⟩
        · have c' : (x == d) = false := beq_eq_false_iff_ne.2 c
          have N2' : Hid _ := N2.out c
          clear c
          go_wp2
          go_round
          case rel => exact ⟨k + 1, by omega, by go_num, N2'⟩
          case measure => simp [intOf]; omega
      · go_wp2
        go_ret
        obtain rfl : k = hol.length := by omega
        exact ⟨ret_bool (by rw [wkd_yes hk.out HB.out]), (Below.refl _ _).alloc (Nat.le_refl _) _⟩

theorem mul_bd {a b : Int} (ha : -2000000000 ≤ a) (ha' : a ≤ 2000000000) (hb : -2000000000 ≤ b) (hb' : b ≤ 2000000000) : -4000000000000000000 ≤ a * b ∧ a * b ≤ 4000000000000000000 := by
  have h1 : a.natAbs ≤ 2000000000 := by omega
  have h2 : b.natAbs ≤ 2000000000 := by omega
  have h3 : (a * b).natAbs ≤ 2000000000 * 2000000000 := by rw [Int.natAbs_mul]; exact Nat.mul_le_mul h1 h2
  omega

theorem two_cases {kd : Int} (hk : 2 ≤ kd) (hk' : kd ≤ 8) : kd = 2 ∨ kd = 3 ∨ kd = 4 ∨ kd = 7 ∨ kd = 8 ∨ kd = 5 ∨ kd = 6 := by omega

theorem two2 (a b : Int) : M.two 2 a b = M.cutv (a + b) := if_pos rfl
theorem two3 (a b : Int) : M.two 3 a b = M.cutv (a - b) := by unfold M.two; rw [if_neg (by decide), if_pos rfl]
theorem two4 (a b : Int) : M.two 4 a b = M.cutv (a * b) := by unfold M.two; rw [if_neg (by decide), if_neg (by decide), if_pos rfl]
theorem two5 (a b : Int) : M.two 5 a b = M.minv a b := by unfold M.two; rw [if_neg (by decide), if_neg (by decide), if_neg (by decide), if_pos rfl]
theorem two6 (a b : Int) : M.two 6 a b = M.maxv a b := by unfold M.two; rw [if_neg (by decide), if_neg (by decide), if_neg (by decide), if_neg (by decide), if_pos rfl]
theorem two7 (a b : Int) : M.two 7 a b = M.num (decide (a < b)) := by unfold M.two; rw [if_neg (by decide), if_neg (by decide), if_neg (by decide), if_neg (by decide), if_neg (by decide), if_pos rfl]
theorem two8 (a b : Int) : M.two 8 a b = M.num (a == b) := by unfold M.two; rw [if_neg (by decide), if_neg (by decide), if_neg (by decide), if_neg (by decide), if_neg (by decide), if_neg (by decide)]; rfl

theorem beq_dec (a b : Int) : (a == b) = decide (a = b) := rfl

set_option maxHeartbeats 1000000 in
theorem sums_any (kd a b : Int) (w : World) (hk : 2 ≤ kd) (hk' : kd ≤ 8) (ha : -2000000000 ≤ a) (ha' : a ≤ 2000000000) (hb : -2000000000 ≤ b) (hb' : b ≤ 2000000000) :
    Calls Tryz.prog 83 #[.int .i64 kd, .int .i64 a, .int .i64 b] w fun e w' => e = .returned (.int .i64 (M.two kd a b)) ∧ w' = w := by
  obtain ⟨hm1, hm2⟩ := mul_bd ha ha' hb hb'
  rcases two_cases hk hk' with rfl | rfl | rfl | rfl | rfl | rfl | rfl
  · go_enter Tryz.func83, Tryz.ntmps83
    go_wp2_with (go_at_call 93; refine (rcut_any _ _).mono ?_; rintro e w' ⟨rfl, rfl⟩)
    go_ret
    exact ⟨ret_int (by rw [two2]), rfl⟩
  · go_enter Tryz.func83, Tryz.ntmps83
    go_wp2_with (go_at_call 93; refine (rcut_any _ _).mono ?_; rintro e w' ⟨rfl, rfl⟩)
    go_ret
    exact ⟨ret_int (by rw [two3]), rfl⟩
  · go_enter Tryz.func83, Tryz.ntmps83
    go_wp2_with (go_at_call 93; refine (rcut_any _ _).mono ?_; rintro e w' ⟨rfl, rfl⟩)
    go_ret
    exact ⟨ret_int (by rw [two4]), rfl⟩
  · go_enter Tryz.func83, Tryz.ntmps83
    go_wp2_with (go_at_call 91; refine (number_any _ _).mono ?_; rintro e w' ⟨rfl, rfl⟩)
    go_ret
    exact ⟨ret_int (by rw [two7]), rfl⟩
  · go_enter Tryz.func83, Tryz.ntmps83
    go_wp2_with (go_at_call 91; refine (number_any _ _).mono ?_; rintro e w' ⟨rfl, rfl⟩)
    go_ret
    exact ⟨ret_int (by rw [two8]), rfl⟩
  · by_cases c : a < b
    · go_enter Tryz.func83, Tryz.ntmps83
      go_wp2
      go_ret
      exact ⟨ret_int (by rw [two5]; unfold M.minv; split <;> omega), rfl⟩
    · go_enter Tryz.func83, Tryz.ntmps83
      go_wp2
      go_ret
      exact ⟨ret_int (by rw [two5]; unfold M.minv; split <;> omega), rfl⟩
  · by_cases c : a < b
    · go_enter Tryz.func83, Tryz.ntmps83
      go_wp2
      go_ret
      exact ⟨ret_int (by rw [two6]; unfold M.maxv; split <;> omega), rfl⟩
    · go_enter Tryz.func83, Tryz.ntmps83
      go_wp2
      go_ret
      exact ⟨ret_int (by rw [two6]; unfold M.maxv; split <;> omega), rfl⟩

set_option maxHeartbeats 1000000 in
theorem ofTwo_any (kd a b : Int) (w : World) (hk : 2 ≤ kd) (hk' : kd ≤ 8) (ha : -2000000000 ≤ a) (ha' : a ≤ 2000000000) (hb : -2000000000 ≤ b) (hb' : b ≤ 2000000000) :
    Calls Tryz.prog 90 #[.int .i64 kd, .int .i64 a, .int .i64 b] w fun e w' => e = .returned (.int .i64 (M.two kd a b)) ∧ w' = w := by
  obtain ⟨hm1, hm2⟩ := mul_bd ha ha' hb hb'
  rcases two_cases hk hk' with rfl | rfl | rfl | rfl | rfl | rfl | rfl
  · go_enter Tryz.func90, Tryz.ntmps90
    go_wp2_with (go_at_call 94; refine (pcut_any _ _).mono ?_; rintro e w' ⟨rfl, rfl⟩)
    go_ret
    exact ⟨ret_int (by rw [two2]), rfl⟩
  · go_enter Tryz.func90, Tryz.ntmps90
    go_wp2_with (go_at_call 94; refine (pcut_any _ _).mono ?_; rintro e w' ⟨rfl, rfl⟩)
    go_ret
    exact ⟨ret_int (by rw [two3]), rfl⟩
  · go_enter Tryz.func90, Tryz.ntmps90
    go_wp2_with (go_at_call 94; refine (pcut_any _ _).mono ?_; rintro e w' ⟨rfl, rfl⟩)
    go_ret
    exact ⟨ret_int (by rw [two4]), rfl⟩
  · go_enter Tryz.func90, Tryz.ntmps90
    go_wp2_with (go_at_call 87; refine (truth_any _ _).mono ?_; rintro e w' ⟨rfl, rfl⟩)
    go_ret
    exact ⟨ret_int (by rw [two7]), rfl⟩
  · go_enter Tryz.func90, Tryz.ntmps90
    go_wp2_with (go_at_call 87; refine (truth_any _ _).mono ?_; rintro e w' ⟨rfl, rfl⟩)
    go_ret
    exact ⟨ret_int (by rw [two8]), rfl⟩
  · go_enter Tryz.func90, Tryz.ntmps90
    go_wp2_with (go_at_call 97; refine (lesser_any _ _ _).mono ?_; rintro e w' ⟨rfl, rfl⟩)
    go_ret
    exact ⟨ret_int (by rw [two5]), rfl⟩
  · go_enter Tryz.func90, Tryz.ntmps90
    go_wp2_with (go_at_call 98; refine (greater_any _ _ _).mono ?_; rintro e w' ⟨rfl, rfl⟩)
    go_ret
    exact ⟨ret_int (by rw [two6]), rfl⟩

def M.agev (now x k : Int) : Int := if now < x then 0 else (now - x) / k

set_option maxHeartbeats 400000 in
theorem page_any (a k now : Int) (w : World) (ha : -2000000000 ≤ a) (ha' : a ≤ 2000000000) (hk : 1000000 ≤ k) (hk' : k ≤ 1000000000) (hn : 0 ≤ now) (hn' : now ≤ 1000000000) :
    Calls Tryz.prog 88 #[.int .i64 a, .int .i64 k, .int .i64 now] w fun e w' => e = .returned (.int .i64 (M.agev now a k)) ∧ w' = w := by
  by_cases c : now < a
  · rw [show M.agev now a k = 0 from if_pos c]
    go_enter Tryz.func88, Tryz.ntmps88
    go_wp2
    go_ret
    exact ⟨rfl, rfl⟩
  · rw [show M.agev now a k = (now - a) / k from if_neg c]
    have hq := M.div_bound (v := now - a) (n := k) (by omega) (B := 3000000000) (by omega) (by omega) (by omega)
    have hq0 : 0 ≤ (now - a) / k := Int.ediv_nonneg (by omega) (by omega)
    have hq1 : (now - a) / k ≤ 3000 := Int.ediv_le_of_le_mul (by omega) (by omega)
    go_enter Tryz.func88, Tryz.ntmps88
    go_wp2_with fail
    refine (pcut_any _ _).mono ?_
    rintro e w1 ⟨rfl, rfl⟩
    go_wp2
    go_ret
    exact ⟨ret_int (by unfold M.cutv; rw [if_neg (by omega), if_neg (by omega)]), rfl⟩

end Go.Proofs.YtkhpkpaglkinbaaGreatDoor
