/-
  THE WALKS: the document's Due; sums.
-/
import Derived.Test.YtmofidaojmiepaaDoorGW1
set_option linter.unusedVariables false
set_option linter.unusedSimpArgs false
namespace Go.Proofs.YtmofidaojmiepaaDoor

open Go.RowKit

theorem rwork_eq {week : Int} (h1 : 0 ≤ week) (h2 : week ≤ 127) (d : Int) {p : Int} (hp : p = d % 7) {m : Nat} (hm : m = p.toNat) : (bits BinOp.and IntKind.i64 (week / 2 ^ m) 1 == 0) = !M.atw week d := by
  subst hp
  rw [M.week_bit h1 h2 (p := d % 7) (by omega) (by omega) m hm]
  unfold M.atw
  rw [Bool.eq_iff_iff]; simp; omega

theorem wkd_no {week d : Int} {hol : List Int} {k : Nat} (hk : k < hol.length) (h : hol.getD k 0 = d) : M.wkd week hol d = false := by
  have : hol.contains d = true := by
    rw [List.contains_iff_mem, ← h]; simp [List.getD, hk]
  simp only [M.wkd, this]; simp

theorem wkd_yes {week d : Int} {hol : List Int} (h : ∀ i : Nat, i < hol.length → hol.getD i 0 ≠ d) (ha : M.atw week d = true) : M.wkd week hol d = true := by
  have : hol.contains d = false := by
    rw [Bool.eq_false_iff]; intro hc
    obtain ⟨i, hi, e⟩ := List.mem_iff_getElem.1 (List.contains_iff_mem.1 hc)
    exact h i hi (by simp [List.getD, hi, e])
  simp only [M.wkd, this, ha]; rfl

/-- What is known of a slice of ints, as a walk takes it: nothing there, or its cells. -/
theorem IntsAt.cases {w : World} {a : Option Addr} {cap : Nat} {xs : List Int} (h : IntsAt w (.slice a xs.length cap) xs) : xs.length = 0 ∨ ∃ b off, a = some ⟨b, off, none⟩ ∧ b < w.heap.size ∧ ∀ j, j < xs.length → w.cell? ⟨b, off + j, none⟩ = some (.int .i64 (xs.getD j 0)) := by
  rcases SlAt.elim h (by omega) with ⟨h0, _⟩ | ⟨h0, b, off, cap', e, hb, hc⟩
  · exact Or.inl h0
  · obtain ⟨rfl, _⟩ : a = some ⟨b, off, none⟩ ∧ cap = cap' := by simpa using e
    exact Or.inr ⟨b, off, rfl, hb, fun j hj => hc j (by omega)⟩

theorem mul_bd {a b : Int} (ha : -2000000000 ≤ a) (ha' : a ≤ 2000000000) (hb : -2000000000 ≤ b) (hb' : b ≤ 2000000000) : -4000000000000000000 ≤ a * b ∧ a * b ≤ 4000000000000000000 := by
  have h1 : a.natAbs ≤ 2000000000 := by omega
  have h2 : b.natAbs ≤ 2000000000 := by omega
  have h3 : (a * b).natAbs ≤ 2000000000 * 2000000000 := by rw [Int.natAbs_mul]; exact Nat.mul_le_mul h1 h2
  omega

theorem two_cases {kd : Int} (hk : 2 ≤ kd) (hk' : kd ≤ 8) : kd = 2 ∨ kd = 3 ∨ kd = 4 ∨ kd = 7 ∨ kd = 8 ∨ kd = 5 ∨ kd = 6 := by omega

theorem two2 (a b : Int) : M.two 2 a b = M.cutv (a + b) := if_pos rfl

theorem two3 (a b : Int) : M.two 3 a b = M.cutv (a - b) := by unfold M.two; rw [if_neg (by decide), if_pos rfl]

theorem two4 (a b : Int) : M.two 4 a b = M.cutv (a * b) := by unfold M.two; rw [if_neg (by decide), if_neg (by decide), if_pos rfl]

theorem two5 (a b : Int) : M.two 5 a b = M.minv a b := by unfold M.two; rw [if_neg (by decide), if_neg (by decide), if_neg (by decide), if_pos rfl]

theorem two6 (a b : Int) : M.two 6 a b = M.maxv a b := by unfold M.two; rw [if_neg (by decide), if_neg (by decide), if_neg (by decide), if_neg (by decide), if_pos rfl]

theorem two7 (a b : Int) : M.two 7 a b = M.num (decide (a < b)) := by unfold M.two; rw [if_neg (by decide), if_neg (by decide), if_neg (by decide), if_neg (by decide), if_neg (by decide), if_pos rfl]

theorem two8 (a b : Int) : M.two 8 a b = M.num (a == b) := by unfold M.two; rw [if_neg (by decide), if_neg (by decide), if_neg (by decide), if_neg (by decide), if_neg (by decide), if_neg (by decide)]; rfl

theorem beq_dec (a b : Int) : (a == b) = decide (a = b) := rfl

set_option maxHeartbeats 1000000 in
theorem ofTwo_any (kd a b : Int) (w : World) (hk : 2 ≤ kd) (hk' : kd ≤ 8) (ha : -2000000000 ≤ a) (ha' : a ≤ 2000000000) (hb : -2000000000 ≤ b) (hb' : b ≤ 2000000000) :
    Calls Tryd.prog 102 #[.int .i64 kd, .int .i64 a, .int .i64 b] w fun e w' => e = .returned (.int .i64 (M.two kd a b)) ∧ w' = w := by
  obtain ⟨hm1, hm2⟩ := mul_bd ha ha' hb hb'
  rcases two_cases hk hk' with rfl | rfl | rfl | rfl | rfl | rfl | rfl
  · go_enter Tryd.func102, Tryd.ntmps102
    go_wp2_with (go_at_call 104; refine (pcut_any _ _).mono ?_; rintro e w' ⟨rfl, rfl⟩)
    go_ret
    exact ⟨ret_int (by rw [two2]), rfl⟩
  · go_enter Tryd.func102, Tryd.ntmps102
    go_wp2_with (go_at_call 104; refine (pcut_any _ _).mono ?_; rintro e w' ⟨rfl, rfl⟩)
    go_ret
    exact ⟨ret_int (by rw [two3]), rfl⟩
  · go_enter Tryd.func102, Tryd.ntmps102
    go_wp2_with (go_at_call 104; refine (pcut_any _ _).mono ?_; rintro e w' ⟨rfl, rfl⟩)
    go_ret
    exact ⟨ret_int (by rw [two4]), rfl⟩
  · go_enter Tryd.func102, Tryd.ntmps102
    go_wp2_with (go_at_call 99; refine (truth_any _ _).mono ?_; rintro e w' ⟨rfl, rfl⟩)
    go_ret
    exact ⟨ret_int (by rw [two7]), rfl⟩
  · go_enter Tryd.func102, Tryd.ntmps102
    go_wp2_with (go_at_call 99; refine (truth_any _ _).mono ?_; rintro e w' ⟨rfl, rfl⟩)
    go_ret
    exact ⟨ret_int (by rw [two8]), rfl⟩
  · go_enter Tryd.func102, Tryd.ntmps102
    go_wp2_with (go_at_call 107; refine (lesser_any _ _ _).mono ?_; rintro e w' ⟨rfl, rfl⟩)
    go_ret
    exact ⟨ret_int (by rw [two5]), rfl⟩
  · go_enter Tryd.func102, Tryd.ntmps102
    go_wp2_with (go_at_call 108; refine (greater_any _ _ _).mono ?_; rintro e w' ⟨rfl, rfl⟩)
    go_ret
    exact ⟨ret_int (by rw [two6]), rfl⟩

def M.agev (now x k : Int) : Int := if now < x then 0 else (now - x) / k

set_option maxHeartbeats 400000 in
theorem page_any (a k now : Int) (w : World) (ha : -2000000000 ≤ a) (ha' : a ≤ 2000000000) (hk : 1000000 ≤ k) (hk' : k ≤ 1000000000) (hn : 0 ≤ now) (hn' : now ≤ 1000000000) :
    Calls Tryd.prog 100 #[.int .i64 a, .int .i64 k, .int .i64 now] w fun e w' => e = .returned (.int .i64 (M.agev now a k)) ∧ w' = w := by
  by_cases c : now < a
  · rw [show M.agev now a k = 0 from if_pos c]
    go_enter Tryd.func100, Tryd.ntmps100
    go_wp2
    go_ret
    exact ⟨rfl, rfl⟩
  · rw [show M.agev now a k = (now - a) / k from if_neg c]
    have hq := M.div_bound (v := now - a) (n := k) (by omega) (B := 3000000000) (by omega) (by omega) (by omega)
    have hq0 : 0 ≤ (now - a) / k := Int.ediv_nonneg (by omega) (by omega)
    have hq1 : (now - a) / k ≤ 3000 := Int.ediv_le_of_le_mul (by omega) (by omega)
    go_enter Tryd.func100, Tryd.ntmps100
    go_wp2_with fail
    refine (pcut_any _ _).mono ?_
    rintro e w1 ⟨rfl, rfl⟩
    go_wp2
    go_ret
    exact ⟨ret_int (by unfold M.cutv; rw [if_neg (by omega), if_neg (by omega)]), rfl⟩

end Go.Proofs.YtmofidaojmiepaaDoor

/-
  THE WALKS: the document's Due; what hangs on the clock.
-/
set_option linter.unusedVariables false
set_option linter.unusedSimpArgs false
namespace Go.Proofs.YtmofidaojmiepaaDoor

open Go.RowKit

theorem boxed {w wr : World} {c : Array Value} {t : TypeId} (hb : Below (w.heap.size + 1) (w.alloc (.cells c t)) wr) (i : Nat) : wr.cell? ⟨w.heap.size, i, none⟩ = c[i]? := by
  rw [hb.cell (p := ⟨w.heap.size, i, none⟩) (by show w.heap.size < _; omega), World.cell?_alloc_new]

theorem boxed_below {w wr : World} {o : Obj} (hb : Below (w.heap.size + 1) (w.alloc o) wr) : Below w.heap.size w wr :=
  ((Below.refl _ _).alloc (Nat.le_refl _) _).trans (hb.mono (by omega))

end Go.Proofs.YtmofidaojmiepaaDoor

/-
  THE WALKS: a cell's value out of those that it needs.
-/
set_option linter.unusedVariables false
set_option linter.unusedSimpArgs false
namespace Go.Proofs.YtmofidaojmiepaaDoor

open Go.RowKit

/-- A cell, as a form has it. -/
structure Cel where
  kind : Int
  a : Int
  b : Int
  c : Int
  k : Int

abbrev Cel.val (c : Cel) : Value := .agg #[.int .i64 c.kind, .int .i64 c.a, .int .i64 c.b, .int .i64 c.c, .int .i64 c.k]

/-- WHAT A CELL IS WORTH, by the values of those that it needs: the document's table. -/
def CRel (week : Int) (hol : List Int) (now : Int) (c : Cel) (x y z v : Int) : Prop :=
  ((c.kind = 0 ∨ c.kind = 1) → v = c.k) ∧
  ((2 ≤ c.kind ∧ c.kind ≤ 8) → v = M.two c.kind x y) ∧
  (c.kind = 9 → v = if x = 0 then z else y) ∧
  (c.kind = 10 → v = M.num (decide (x ≤ now))) ∧
  (c.kind = 11 → v = if now < x then 0 else (now - x) / c.k) ∧
  (c.kind = 12 → ∃ T, M.IsDue (M.wkd week hol) (x / 86400) c.k.toNat T ∧ v = M.cutv (T * 86400))

/-- A value. -/
abbrev IsV (x : Int) : Prop := -2000000000 ≤ x ∧ x ≤ 2000000000

/-- K is one that the row allows. -/
def KOk (c : Cel) : Prop := ((c.kind = 0 ∨ c.kind = 1) → IsV c.k) ∧ (c.kind = 11 → 1000000 ≤ c.k ∧ c.k ≤ 1000000000) ∧ (c.kind = 12 → 0 ≤ c.k ∧ c.k ≤ 250)

theorem cut_v (x : Int) : IsV (M.cutv x) := by
  unfold M.cutv IsV
  split
  · omega
  · split <;> omega

theorem num_v (b : Bool) : IsV (M.num b) := by cases b <;> simp [M.num, IsV]

theorem two_v {kd a b : Int} (hk : 2 ≤ kd) (hk' : kd ≤ 8) (ha : IsV a) (hb : IsV b) : IsV (M.two kd a b) := by
  rcases two_cases hk hk' with rfl | rfl | rfl | rfl | rfl | rfl | rfl
  · rw [two2]; exact cut_v _
  · rw [two3]; exact cut_v _
  · rw [two4]; exact cut_v _
  · rw [two7]; exact num_v _
  · rw [two8]; exact num_v _
  · rw [two5]; unfold M.minv; split <;> assumption
  · rw [two6]; unfold M.maxv; split <;> assumption

theorem CRel.isV {week : Int} {hol : List Int} {now : Int} {c : Cel} {x y z v : Int} (h : CRel week hol now c x y z v) (hk : 0 ≤ c.kind) (hk' : c.kind ≤ 12) (hK : KOk c) (hn : 0 ≤ now) (hn' : now ≤ 1000000000) (hx : IsV x) (hy : IsV y) (hz : IsV z) : IsV v := by
  obtain ⟨h0, h2, h9, h10, h11, h12⟩ := h
  have cs : (c.kind = 0 ∨ c.kind = 1) ∨ (2 ≤ c.kind ∧ c.kind ≤ 8) ∨ c.kind = 9 ∨ c.kind = 10 ∨ c.kind = 11 ∨ c.kind = 12 := by omega
  rcases cs with e | e | e | e | e | e
  · rw [h0 e]; exact hK.1 e
  · rw [h2 e]; exact two_v e.1 e.2 hx hy
  · rw [h9 e]; split <;> assumption
  · rw [h10 e]; exact num_v _
  · rw [h11 e]
    have hq := hK.2.1 e
    split
    · exact ⟨by omega, by omega⟩
    · have hq0 : 0 ≤ (now - x) / c.k := Int.ediv_nonneg (by omega) (by omega)
      have hq1 : (now - x) / c.k ≤ 3000 := Int.ediv_le_of_le_mul (by omega) (by have := hx.1; omega)
      exact ⟨by omega, by omega⟩
  · obtain ⟨T, _, e2⟩ := h12 e
    rw [e2]; exact cut_v _

theorem CRel.unique {week : Int} {hol : List Int} {now : Int} {c : Cel} {x y z x' y' z' v v' : Int} (h : CRel week hol now c x y z v) (g : CRel week hol now c x' y' z' v') (hk : 0 ≤ c.kind) (hk' : c.kind ≤ 12)
    (hx : 0 < M.needs c.kind → x = x') (hy : 1 < M.needs c.kind → y = y') (hz : 2 < M.needs c.kind → z = z') : v = v' := by
  obtain ⟨h0, h2, h9, h10, h11, h12⟩ := h
  obtain ⟨g0, g2, g9, g10, g11, g12⟩ := g
  have cs : (c.kind = 0 ∨ c.kind = 1) ∨ (2 ≤ c.kind ∧ c.kind ≤ 8) ∨ c.kind = 9 ∨ c.kind = 10 ∨ c.kind = 11 ∨ c.kind = 12 := by omega
  rcases cs with e | e | e | e | e | e
  · rw [h0 e, g0 e]
  · have n : M.needs c.kind = 2 := by unfold M.needs; rw [if_neg (by omega), if_neg (by omega), if_neg (by omega), if_pos (by omega)]
    rw [h2 e, g2 e, hx (by omega), hy (by omega)]
  · have n : M.needs c.kind = 3 := by rw [e]; decide
    rw [h9 e, g9 e, hx (by omega), hy (by omega), hz (by omega)]
  · have n : M.needs c.kind = 1 := by rw [e]; decide
    rw [h10 e, g10 e, hx (by omega)]
  · have n : M.needs c.kind = 1 := by rw [e]; decide
    rw [h11 e, g11 e, hx (by omega)]
  · have n : M.needs c.kind = 1 := by rw [e]; decide
    obtain ⟨T, t1, t2⟩ := h12 e
    obtain ⟨S, s1, s2⟩ := g12 e
    rw [hx (by omega)] at t1
    rw [t2, s2, M.due_unique t1 s1]

def pk (V : Nat → Int) (n : Nat) (i : Int) : Int := if 0 ≤ i ∧ i < n then V i.toNat else 0

theorem pk_v {V : Nat → Int} {n : Nat} (h : ∀ i, i < n → IsV (V i)) (i : Int) : IsV (pk V n i) := by
  unfold pk
  split
  · exact h _ (by omega)
  · exact ⟨by omega, by omega⟩

/-- A slice of n ints. -/
def FnAt (w : World) (v : Value) (n : Nat) (V : Nat → Int) : Prop := SlAt w v n 1 (fun j => .int .i64 (V j))

theorem FnAt.cases {w : World} {a : Option Addr} {n cap : Nat} {V : Nat → Int} (h : FnAt w (.slice a n cap) n V) : n = 0 ∨ ∃ b off, a = some ⟨b, off, none⟩ ∧ b < w.heap.size ∧ ∀ j, j < n → w.cell? ⟨b, off + j, none⟩ = some (.int .i64 (V j)) := by
  rcases SlAt.elim h (by omega) with ⟨h0, _⟩ | ⟨h0, b, off, cap', e, hb, hc⟩
  · exact Or.inl h0
  · obtain ⟨rfl, _⟩ : a = some ⟨b, off, none⟩ ∧ cap = cap' := by simpa using e
    exact Or.inr ⟨b, off, rfl, hb, fun j hj => hc j (by omega)⟩

set_option maxHeartbeats 400000 in
theorem pick_any (a : Option Addr) (n cap : Nat) (V : Nat → Int) (i : Int) (w : World) (hl : n ≤ 20) (hc : FnAt w (.slice a n cap) n V) :
    Calls Tryd.prog 79 #[.slice a n cap, .int .i64 i] w fun e w' => e = .returned (.int .i64 (pk V n i)) ∧ w' = w := by
  have HC := (show Hid _ from FnAt.cases hc)
  clear hc
  by_cases c : 0 ≤ i ∧ i < n
  · obtain ⟨c1, c2⟩ := c
    obtain ⟨k, rfl⟩ := Int.eq_ofNat_of_zero_le c1
    rcases HC.out with h0 | ⟨b, off, rfl, hb, hcell⟩
    · omega
    have hx := hcell k (by omega)
    have hv : Hid (pk V n k = V k) := by show pk V n k = _; unfold pk; rw [if_pos ⟨c1, c2⟩]; rfl
    clear hcell
    generalize V k = x at *
    go_enter Tryd.func79, Tryd.ntmps79
    go_wp2
    go_ret
    exact ⟨ret_int hv.out.symm, rfl⟩
  · have hv : Hid (pk V n i = 0) := by show pk V n i = 0; unfold pk; rw [if_neg c]
    by_cases c1 : 0 ≤ i
    · have c2 : (n : Int) ≤ i := by omega
      clear c
      go_enter Tryd.func79, Tryd.ntmps79
      go_wp2
      go_ret
      exact ⟨ret_int hv.out.symm, rfl⟩
    · clear c
      go_enter Tryd.func79, Tryd.ntmps79
      go_wp2
      go_ret
      exact ⟨ret_int hv.out.symm, rfl⟩

theorem CRel.congr {week : Int} {hol : List Int} {now : Int} {c : Cel} {x y z x' y' z' v : Int} (h : CRel week hol now c x y z v)
    (hx : 0 < M.needs c.kind → x = x') (hy : 1 < M.needs c.kind → y = y') (hz : 2 < M.needs c.kind → z = z') : CRel week hol now c x' y' z' v := by
  obtain ⟨h0, h2, h9, h10, h11, h12⟩ := h
  refine ⟨h0, fun e => ?_, fun e => ?_, fun e => ?_, fun e => ?_, fun e => ?_⟩
  · have n : M.needs c.kind = 2 := by unfold M.needs; rw [if_neg (by omega), if_neg (by omega), if_neg (by omega), if_pos (by omega)]
    rw [← hx (by omega), ← hy (by omega)]; exact h2 e
  · have n : M.needs c.kind = 3 := by rw [e]; decide
    rw [← hx (by omega), ← hy (by omega), ← hz (by omega)]; exact h9 e
  · have n : M.needs c.kind = 1 := by rw [e]; decide
    rw [← hx (by omega)]; exact h10 e
  · have n : M.needs c.kind = 1 := by rw [e]; decide
    rw [← hx (by omega)]; exact h11 e
  · have n : M.needs c.kind = 1 := by rw [e]; decide
    rw [← hx (by omega)]; exact h12 e

end Go.Proofs.YtmofidaojmiepaaDoor

/-
  THE WALKS: value and timed.
-/
set_option linter.unusedVariables false
set_option linter.unusedSimpArgs false
namespace Go.Proofs.YtmofidaojmiepaaDoor

open Go.RowKit

theorem crel0 {week : Int} {hol : List Int} {now kd a b c k x y z : Int} (h : kd = 0 ∨ kd = 1) : CRel week hol now ⟨kd, a, b, c, k⟩ x y z k :=
  ⟨fun _ => rfl, fun e => by have : 2 ≤ kd := e.1; omega, fun e => by have : kd = 9 := e; omega, fun e => by have : kd = 10 := e; omega, fun e => by have : kd = 11 := e; omega, fun e => by have : kd = 12 := e; omega⟩

theorem crel2 {week : Int} {hol : List Int} {now kd a b c k x y z : Int} (h : 2 ≤ kd) (h' : kd ≤ 8) : CRel week hol now ⟨kd, a, b, c, k⟩ x y z (M.two kd x y) :=
  ⟨fun e => by have : kd = 0 ∨ kd = 1 := e; omega, fun _ => rfl, fun e => by have : kd = 9 := e; omega, fun e => by have : kd = 10 := e; omega, fun e => by have : kd = 11 := e; omega, fun e => by have : kd = 12 := e; omega⟩

theorem crel9 {week : Int} {hol : List Int} {now a b c k x y z v : Int} (h : v = if x = 0 then z else y) : CRel week hol now ⟨9, a, b, c, k⟩ x y z v :=
  ⟨fun e => by have : (9 : Int) = 0 ∨ (9 : Int) = 1 := e; omega, fun e => by have : (9 : Int) ≤ 8 := e.2; omega, fun _ => h, fun e => by have : (9 : Int) = 10 := e; omega, fun e => by have : (9 : Int) = 11 := e; omega, fun e => by have : (9 : Int) = 12 := e; omega⟩

theorem crel10 {week : Int} {hol : List Int} {now a b c k x y z v : Int} (h : v = M.num (decide (x ≤ now))) : CRel week hol now ⟨10, a, b, c, k⟩ x y z v :=
  ⟨fun e => by have : (10 : Int) = 0 ∨ (10 : Int) = 1 := e; omega, fun e => by have : (10 : Int) ≤ 8 := e.2; omega, fun e => by have : (10 : Int) = 9 := e; omega, fun _ => h, fun e => by have : (10 : Int) = 11 := e; omega, fun e => by have : (10 : Int) = 12 := e; omega⟩

theorem crel11 {week : Int} {hol : List Int} {now a b c k x y z v : Int} (h : v = if now < x then 0 else (now - x) / k) : CRel week hol now ⟨11, a, b, c, k⟩ x y z v :=
  ⟨fun e => by have : (11 : Int) = 0 ∨ (11 : Int) = 1 := e; omega, fun e => by have : (11 : Int) ≤ 8 := e.2; omega, fun e => by have : (11 : Int) = 9 := e; omega, fun e => by have : (11 : Int) = 10 := e; omega, fun _ => h, fun e => by have : (11 : Int) = 12 := e; omega⟩

theorem crel12 {week : Int} {hol : List Int} {now a b c k x y z v T : Int} (h : M.IsDue (M.wkd week hol) (x / 86400) k.toNat T) (h' : v = M.cutv (T * 86400)) : CRel week hol now ⟨12, a, b, c, k⟩ x y z v :=
  ⟨fun e => by have : (12 : Int) = 0 ∨ (12 : Int) = 1 := e; omega, fun e => by have : (12 : Int) ≤ 8 := e.2; omega, fun e => by have : (12 : Int) = 9 := e; omega, fun e => by have : (12 : Int) = 10 := e; omega, fun e => by have : (12 : Int) = 11 := e; omega, fun _ => ⟨T, h, h'⟩⟩

set_option maxHeartbeats 2000000 in
theorem value_any (aC aR aH : Option Addr) (nC cC nR cR nH cH : Nat) (week : Int) (hol : List Int) (kd ca cb cc ck : Int) (av : Option Addr) (nv cv : Nat) (V : Nat → Int) (now : Int) (w : World)
    (h1 : 1 ≤ week) (h2 : week ≤ 127) (hh : HolOk hol) (hn : nH = hol.length) (hc : IntsAt w (.slice aH nH cH) hol) (hk : 0 ≤ kd) (hk' : kd ≤ 12) (hK : KOk ⟨kd, ca, cb, cc, ck⟩) (hl : nv ≤ 20) (hcv : FnAt w (.slice av nv cv) nv V)
    (hv : ∀ i, i < nv → IsV (V i)) (n0 : 0 ≤ now) (n1 : now ≤ 1000000000) :
    Calls Tryd.prog 90 #[.agg #[.slice aC nC cC, .slice aR nR cR, .int .i64 week, .slice aH nH cH], .agg #[.int .i64 kd, .int .i64 ca, .int .i64 cb, .int .i64 cc, .int .i64 ck], .slice av nv cv, .int .i64 now] w
      fun e w' => ∃ v, e = .returned (.int .i64 v) ∧ CRel week hol now ⟨kd, ca, cb, cc, ck⟩ (pk V nv ca) (pk V nv cb) (pk V nv cc) v ∧ Below w.heap.size w w' := by
  have HH : Hid _ := hh
  have HN : Hid _ := hn
  have HC : Hid _ := hc
  have HK : Hid _ := hK
  have HCV : Hid _ := hcv
  obtain ⟨x1, x2⟩ := pk_v hv ca
  obtain ⟨y1, y2⟩ := pk_v hv cb
  obtain ⟨z1, z2⟩ := pk_v hv cc
  clear hh hn hc hK hcv hv
  have hb2 : ∀ o o', Below w.heap.size w ((w.alloc o).alloc o') := fun o o' => ((Below.refl _ _).alloc (Nat.le_refl _) _).alloc (by simp) _
  have HB2 : Hid _ := hb2
  clear hb2
  have P : ∀ i W, Below w.heap.size w W → Calls Tryd.prog 79 #[.slice av nv cv, .int .i64 i] W fun e w' => e = .returned (.int .i64 (pk V nv i)) ∧ w' = W :=
    fun i W hW => pick_any av nv cv V i W hl (SlAt.below HCV.out hW (Nat.le_refl _))
  have HP : Hid _ := P
  clear P
  have cs : (kd = 0 ∨ kd = 1) ∨ kd = 9 ∨ kd = 10 ∨ kd = 11 ∨ kd = 12 ∨ (2 ≤ kd ∧ kd ≤ 8) := by omega
  generalize hx : pk V nv ca = x at *
  generalize hy : pk V nv cb = y at *
  generalize hz : pk V nv cc = z at *
  have HX : Hid _ := hx
  have HY : Hid _ := hy
  have HZ : Hid _ := hz
  clear hx hy hz
  rcases cs with (rfl | rfl) | rfl | rfl | rfl | rfl | ⟨k2, k8⟩
  · go_enter Tryd.func90, Tryd.ntmps90
    go_wp2_with (go_at_call 79; refine (HP.out _ _ (HB2.out _ _)).mono ?_; rintro e w1 ⟨rfl, rfl⟩)
    go_ret
    exact ⟨_, rfl, crel0 (Or.inl rfl), HB2.out _ _⟩
  · go_enter Tryd.func90, Tryd.ntmps90
    go_wp2_with (go_at_call 79; refine (HP.out _ _ (HB2.out _ _)).mono ?_; rintro e w1 ⟨rfl, rfl⟩)
    go_ret
    exact ⟨_, rfl, crel0 (Or.inr rfl), HB2.out _ _⟩
  · by_cases c : x = 0
    · have c' : (x != 0) = false := by simp [c]
      have C : Hid _ := c
      clear c
      go_enter Tryd.func90, Tryd.ntmps90
      go_wp2_with (go_at_call 79; refine (HP.out _ _ (HB2.out _ _)).mono ?_; rintro e w1 ⟨rfl, rfl⟩; simp only [HX.out, HY.out])
      go_ret
      exact ⟨_, rfl, crel9 (by rw [if_pos C.out]; exact HZ.out), HB2.out _ _⟩
    · have c' : (x != 0) = true := by simp [c]
      have C : Hid _ := c
      clear c
      go_enter Tryd.func90, Tryd.ntmps90
      go_wp2_with (go_at_call 79; refine (HP.out _ _ (HB2.out _ _)).mono ?_; rintro e w1 ⟨rfl, rfl⟩; simp only [HX.out, HY.out])
      go_ret
      exact ⟨_, rfl, crel9 (by rw [if_neg C.out]), HB2.out _ _⟩
  · go_enter Tryd.func90, Tryd.ntmps90
    go_wp2_with (first | (go_at_call 79; refine (HP.out _ _ (HB2.out _ _)).mono ?_; rintro e w1 ⟨rfl, rfl⟩; simp only [HX.out, HY.out]) | (go_at_call 99; refine (truth_any _ _).mono ?_; rintro e w1 ⟨rfl, rfl⟩))
    go_ret
    exact ⟨_, rfl, crel10 rfl, HB2.out _ _⟩
  · obtain ⟨q1, q2⟩ := HK.out.2.1 rfl
    go_enter Tryd.func90, Tryd.ntmps90
    go_wp2_with (first | (go_at_call 79; refine (HP.out _ _ (HB2.out _ _)).mono ?_; rintro e w1 ⟨rfl, rfl⟩; simp only [HX.out, HY.out]) | (go_at_call 100; refine (page_any _ _ _ _ x1 x2 q1 q2 n0 n1).mono ?_; rintro e w1 ⟨rfl, rfl⟩))
    go_ret
    exact ⟨_, rfl, crel11 rfl, HB2.out _ _⟩
  · obtain ⟨q1, q2⟩ := HK.out.2.2 rfl
    go_enter Tryd.func90, Tryd.ntmps90
    go_wp2_with (go_at_call 79; refine (HP.out _ _ (HB2.out _ _)).mono ?_; rintro e w1 ⟨rfl, rfl⟩; simp only [HX.out, HY.out])
    refine (pdue_any aC aR aH nC cC nR cR nH cH week x ck hol _ h1 h2 x1 x2 q1 q2 HH.out HN.out (SlAt.below HC.out (HB2.out _ _) (Nat.le_refl _))).mono ?_
    rintro e w1 ⟨T, rfl, hT, hb⟩
    have HB : Hid (Below w.heap.size w w1) := (HB2.out _ _).trans (hb.mono (by simp; omega))
    have HT : Hid _ := hT
    clear hb hT
    go_wp2
    go_ret
    exact ⟨_, rfl, crel12 HT.out rfl, HB.out⟩
  · have t0 : (kd == 0) = false := beq_eq_false_iff_ne.2 (by omega)
    have t1 : (kd == 1) = false := beq_eq_false_iff_ne.2 (by omega)
    have t9 : (kd == 9) = false := beq_eq_false_iff_ne.2 (by omega)
    have t10 : (kd == 10) = false := beq_eq_false_iff_ne.2 (by omega)
    have t11 : (kd == 11) = false := beq_eq_false_iff_ne.2 (by omega)
    have t12 : (kd == 12) = false := beq_eq_false_iff_ne.2 (by omega)
    go_enter Tryd.func90, Tryd.ntmps90
    go_wp2_with (first | (go_at_call 79; refine (HP.out _ _ (HB2.out _ _)).mono ?_; rintro e w1 ⟨rfl, rfl⟩; simp only [HX.out, HY.out]) | (go_at_call 102; refine (ofTwo_any _ _ _ _ k2 k8 x1 x2 y1 y2).mono ?_; rintro e w1 ⟨rfl, rfl⟩))
    go_ret
    exact ⟨_, rfl, crel2 k2 k8, HB2.out _ _⟩

end Go.Proofs.YtmofidaojmiepaaDoor
