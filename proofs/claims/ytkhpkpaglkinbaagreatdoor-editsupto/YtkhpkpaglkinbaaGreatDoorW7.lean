/-
  THE WALKS: a cell's value out of those that it needs.
-/
import Derived.Test.YtkhpkpaglkinbaaGreatDoorW6
set_option linter.unusedVariables false
set_option linter.unusedSimpArgs false
namespace Go.Proofs.YtkhpkpaglkinbaaGreatDoor
open Go.RowKit

/-- A cell, as a form has it. -/
structure Cel where
  kind : Int
  a : Int
  b : Int
  c : Int
  k : Int

abbrev Cel.val (c : Cel) : Value := .agg #[.int .i64 c.kind, .int .i64 c.a, .int .i64 c.b, .int .i64 c.c, .int .i64 c.k]

/-- WHAT A CELL IS WORTH, by the values of those that it needs: the document's table. -/
def CRel (week : Int) (hol : List Int) (now : Int) (c : Cel) (x y z v : Int) : Prop :=
  ((c.kind = 0 ∨ c.kind = 1) → v = c.k) ∧
  ((2 ≤ c.kind ∧ c.kind ≤ 8) → v = M.two c.kind x y) ∧
  (c.kind = 9 → v = if x = 0 then z else y) ∧
  (c.kind = 10 → v = M.num (decide (x ≤ now))) ∧
  (c.kind = 11 → v = if now < x then 0 else (now - x) / c.k) ∧
  (c.kind = 12 → ∃ T, M.IsDue (M.wkd week hol) (x / 86400) c.k.toNat T ∧ v = M.cutv (T * 86400))

/-- A value. -/
abbrev IsV (x : Int) : Prop := -2000000000 ≤ x ∧ x ≤ 2000000000

/-- K is one that the row allows. -/
def KOk (c : Cel) : Prop := ((c.kind = 0 ∨ c.kind = 1) → IsV c.k) ∧ (c.kind = 11 → 1000000 ≤ c.k ∧ c.k ≤ 1000000000) ∧ (c.kind = 12 → 0 ≤ c.k ∧ c.k ≤ 250)

theorem cut_v (x : Int) : IsV (M.cutv x) := by
  unfold M.cutv IsV
  split
  · omega
  · split <;> omega
theorem num_v (b : Bool) : IsV (M.num b) := by cases b <;> simp [M.num, IsV]
theorem two_v {kd a b : Int} (hk : 2 ≤ kd) (hk' : kd ≤ 8) (ha : IsV a) (hb : IsV b) : IsV (M.two kd a b) := by
  rcases two_cases hk hk' with rfl | rfl | rfl | rfl | rfl | rfl | rfl
  · rw [two2]; exact cut_v _
  · rw [two3]; exact cut_v _
  · rw [two4]; exact cut_v _
  · rw [two7]; exact num_v _
  · rw [two8]; exact num_v _
  · rw [two5]; unfold M.minv; split <;> assumption
  · rw [two6]; unfold M.maxv; split <;> assumption

theorem CRel.isV {week : Int} {hol : List Int} {now : Int} {c : Cel} {x y z v : Int} (h : CRel week hol now c x y z v) (hk : 0 ≤ c.kind) (hk' : c.kind ≤ 12) (hK : KOk c) (hn : 0 ≤ now) (hn' : now ≤ 1000000000) (hx : IsV x) (hy : IsV y) (hz : IsV z) : IsV v := by
  obtain ⟨h0, h2, h9, h10, h11, h12⟩ := h
  have cs : (c.kind = 0 ∨ c.kind = 1) ∨ (2 ≤ c.kind ∧ c.kind ≤ 8) ∨ c.kind = 9 ∨ c.kind = 10 ∨ c.kind = 11 ∨ c.kind = 12 := by omega
  rcases cs with e | e | e | e | e | e
  · rw [h0 e]; exact hK.1 e
  · rw [h2 e]; exact two_v e.1 e.2 hx hy
  · rw [h9 e]; split <;> assumption
  · rw [h10 e]; exact num_v _
  · rw [h11 e]
    have hq := hK.2.1 e
    split
    · exact ⟨by omega, by omega⟩
    · have hq0 : 0 ≤ (now - x) / c.k := Int.ediv_nonneg (by omega) (by omega)
      have hq1 : (now - x) / c.k ≤ 3000 := Int.ediv_le_of_le_mul (by omega) (by have := hx.1; omega)
      exact ⟨by omega, by omega⟩
  · obtain ⟨T, _, e2⟩ := h12 e
    rw [e2]; exact cut_v _

theorem CRel.unique {week : Int} {hol : List Int} {now : Int} {c : Cel} {x y z x' y' z' v v' : Int} (h : CRel week hol now c x y z v) (g : CRel week hol now c x' y' z' v') (hk : 0 ≤ c.kind) (hk' : c.kind ≤ 12)
    (hx : 0 < M.needs c.kind → x = x') (hy : 1 < M.needs c.kind → y = y') (hz : 2 < M.needs c.kind → z = z') : v = v' := by
  obtain ⟨h0, h2, h9, h10, h11, h12⟩ := h
  obtain ⟨g0, g2, g9, g10, g11, g12⟩ := g
  have cs : (c.kind = 0 ∨ c.kind = 1) ∨ (2 ≤ c.kind ∧ c.kind ≤ 8) ∨ c.kind = 9 ∨ c.kind = 10 ∨ c.kind = 11 ∨ c.kind = 12 := by omega
  rcases cs with e | e | e | e | e | e
  · rw [h0 e, g0 e]
  · have n : M.needs c.kind = 2 := by unfold M.needs; rw [if_neg (by omega), if_neg (by omega), if_neg (by omega), if_pos (by omega)]
    rw [h2 e, g2 e, hx (by omega), hy (by omega)]
  · have n : M.needs c.kind = 3 := by rw [e]; decide
    rw [h9 e, g9 e, hx (by omega), hy (by omega), hz (by omega)]
  · have n : M.needs c.kind = 1 := by rw [e]; decide
    rw [h10 e, g10 e, hx (by omega)]
  · have n : M.needs c.kind = 1 := by rw [e]; decide
    rw [h11 e, g11 e, hx (by omega)]
  · have n : M.needs c.kind = 1 := by rw [e]; decide
    obtain ⟨T, t1, t2⟩ := h12 e
    obtain ⟨S, s1, s2⟩ := g12 e
    rw [hx (by omega)] at t1
    rw [t2, s2, M.due_unique t1 s1]

def pk (V : Nat → Int) (n : Nat) (i : Int) : Int := if 0 ≤ i ∧ i < n then V i.toNat else 0

theorem pk_v {V : Nat → Int} {n : Nat} (h : ∀ i, i < n → IsV (V i)) (i : Int) : IsV (pk V n i) := by
  unfold pk
  split
  · exact h _ (by omega)
  · exact ⟨by omega, by omega⟩

/-- A slice of n ints. -/
def FnAt (w : World) (v : Value) (n : Nat) (V : Nat → Int) : Prop := SlAt w v n 1 (fun j => .int .i64 (V j))

theorem FnAt.cases {w : World} {a : Option Addr} {n cap : Nat} {V : Nat → Int} (h : FnAt w (.slice a n cap) n V) : n = 0 ∨ ∃ b off, a = some ⟨b, off, none⟩ ∧ b < w.heap.size ∧ ∀ j, j < n → w.cell? ⟨b, off + j, none⟩ = some (.int .i64 (V j)) := by
  rcases SlAt.elim h (by omega) with ⟨h0, _⟩ | ⟨h0, b, off, cap', e, hb, hc⟩
  · exact Or.inl h0
  · obtain ⟨rfl, _⟩ : a = some ⟨b, off, none⟩ ∧ cap = cap' := by simpa using e
    exact Or.inr ⟨b, off, rfl, hb, fun j hj => hc j (by omega)⟩

set_option maxHeartbeats 400000 in
theorem pick_any (a : Option Addr) (n cap : Nat) (V : Nat → Int) (i : Int) (w : World) (hl : n ≤ 20) (hc : FnAt w (.slice a n cap) n V) :
    Calls Tryz.prog 86 #[.slice a n cap, .int .i64 i] w fun e w' => e = .returned (.int .i64 (pk V n i)) ∧ w' = w := by
  have HC := (show Hid _ from FnAt.cases hc)
  clear hc
  by_cases c : 0 ≤ i ∧ i < n
  · obtain ⟨c1, c2⟩ := c
    obtain ⟨k, rfl⟩ := Int.eq_ofNat_of_zero_le c1
    rcases HC.out with h0 | ⟨b, off, rfl, hb, hcell⟩
    · omega
    have hx := hcell k (by omega)
    have hv : Hid (pk V n k = V k) := by show pk V n k = _; unfold pk; rw [if_pos ⟨c1, c2⟩]; rfl
    clear hcell
    generalize V k = x at *
    go_enter Tryz.func86, Tryz.ntmps86
    go_wp2
    go_ret
    exact ⟨ret_int hv.out.symm, rfl⟩
  · have hv : Hid (pk V n i = 0) := by show pk V n i = 0; unfold pk; rw [if_neg c]
    by_cases c1 : 0 ≤ i
    · have c2 : (n : Int) ≤ i := by omega
      clear c
      go_enter Tryz.func86, Tryz.ntmps86
      go_wp2
      go_ret
      exact ⟨ret_int hv.out.symm, rfl⟩
    · clear c
      go_enter Tryz.func86, Tryz.ntmps86
      go_wp2
      go_ret
      exact ⟨ret_int hv.out.symm, rfl⟩

theorem CRel.congr {week : Int} {hol : List Int} {now : Int} {c : Cel} {x y z x' y' z' v : Int} (h : CRel week hol now c x y z v)
    (hx : 0 < M.needs c.kind → x = x') (hy : 1 < M.needs c.kind → y = y') (hz : 2 < M.needs c.kind → z = z') : CRel week hol now c x' y' z' v := by
  obtain ⟨h0, h2, h9, h10, h11, h12⟩ := h
  refine ⟨h0, fun e => ?_, fun e => ?_, fun e => ?_, fun e => ?_, fun e => ?_⟩
  · have n : M.needs c.kind = 2 := by unfold M.needs; rw [if_neg (by omega), if_neg (by omega), if_neg (by omega), if_pos (by omega)]
    rw [← hx (by omega), ← hy (by omega)]; exact h2 e
  · have n : M.needs c.kind = 3 := by rw [e]; decide
    rw [← hx (by omega), ← hy (by omega), ← hz (by omega)]; exact h9 e
  · have n : M.needs c.kind = 1 := by rw [e]; decide
    rw [← hx (by omega)]; exact h10 e
  · have n : M.needs c.kind = 1 := by rw [e]; decide
    rw [← hx (by omega)]; exact h11 e
  · have n : M.needs c.kind = 1 := by rw [e]; decide
    rw [← hx (by omega)]; exact h12 e

end Go.Proofs.YtkhpkpaglkinbaaGreatDoor
