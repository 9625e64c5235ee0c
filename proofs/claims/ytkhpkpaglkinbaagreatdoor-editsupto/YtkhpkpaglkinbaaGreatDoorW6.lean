/-
  THE WALKS: the document's Due; what hangs on the clock.
-/
import Derived.Test.YtkhpkpaglkinbaaGreatDoorW5
set_option linter.unusedVariables false
set_option linter.unusedSimpArgs false
namespace Go.Proofs.YtkhpkpaglkinbaaGreatDoor
open Go.RowKit

theorem boxed {w wr : World} {c : Array Value} {t : TypeId} (hb : Below (w.heap.size + 1) (w.alloc (.cells c t)) wr) (i : Nat) : wr.cell? ⟨w.heap.size, i, none⟩ = c[i]? := by
  rw [hb.cell (p := ⟨w.heap.size, i, none⟩) (by show w.heap.size < _; omega), World.cell?_alloc_new]

theorem boxed_below {w wr : World} {o : Obj} (hb : Below (w.heap.size + 1) (w.alloc o) wr) : Below w.heap.size w wr :=
  ((Below.refl _ _).alloc (Nat.le_refl _) _).trans (hb.mono (by omega))

set_option maxHeartbeats 400000 in
theorem rdue_any (aC aR aH : Option Addr) (nC cC nR cR nH cH : Nat) (week a k : Int) (hol : List Int) (w : World) (h1 : 1 ≤ week) (h2 : week ≤ 127) (ha : -2000000000 ≤ a) (ha' : a ≤ 2000000000) (hk : 0 ≤ k) (hk' : k ≤ 250)
    (hh : HolOk hol) (hn : nH = hol.length) (hc : IntsAt w (.slice aH nH cH) hol) :
    Calls Tryz.prog 92 #[.agg #[.slice aC nC cC, .slice aR nR cR, .int .i64 week, .slice aH nH cH], .int .i64 a, .int .i64 k] w fun e w' => ∃ T, e = .returned (.int .i64 (M.cutv (T * 86400))) ∧ M.IsDue (M.wkd week hol) (a / 86400) k.toNat T ∧ Below w.heap.size w w' := by
  have HH : Hid (HolOk hol) := hh
  have HC : Hid (IntsAt w (.slice aH nH cH) hol) := hc
  have HN : Hid (nH = hol.length) := hn
  clear hh hc hn
  obtain ⟨T, t1, t2, t3⟩ := M.due_exists h1 h2 (fun h hm => (HH.out.2.1 h hm).2) (a / 86400) k.toNat
  have T1 : Hid _ := t1
  have T0 : T ≤ 100000 := by revert t3; split <;> omega
  clear t1 t3
  obtain ⟨K, rfl⟩ := Int.eq_ofNat_of_zero_le hk
  rw [Int.toNat_natCast] at T1
  rw [Int.toNat_natCast]
  go_enter Tryz.func92, Tryz.ntmps92
  go_wp2_with fail
  refine (below_any _ _ _ (by omega) (by omega) (by omega)).mono ?_
  rintro e w1 ⟨rfl, rfl⟩
  go_wp2
  go_loopw [2, 7] (fun s t wr => ∃ (m : Nat) (d : Int), m ≤ 250 ∧ s = .int .i64 m ∧ t = .int .i64 d ∧ a / 86400 ≤ d ∧ d ≤ T ∧ Hid (M.IsDue (M.wkd week hol) d m T) ∧ Below (w.heap.size + 1) (w.alloc (.cells #[.slice aC nC cC, .slice aR nR cR, .int .i64 week, .slice aH nH cH] 26)) wr) (fun _ t _ => (T - intOf t).toNat)
  case atStart => exact ⟨K, a / 86400, by omega, rfl, rfl, by omega, by omega, T1, Below.refl _ _⟩
  case round =>
    obtain ⟨m, d, m1, rfl, rfl, d1, d2, hd, hb⟩ := hrel
    have c0 := boxed hb 0
    have c1 := boxed hb 1
    have c2 := boxed hb 2
    have c3 := boxed hb 3
    simp at c0 c1 c2 c3
    have hint : Hid (IntsAt wr (.slice aH nH cH) hol) := SlAt.below HC.out (boxed_below hb) (Nat.le_refl _)
    have hsz := hb.size
    simp at hsz
    cases m with
    | zero =>
      obtain rfl := M.due_end hd.out
      have HB : Hid _ := hb
      clear hb
      go_wp2_with fail
      refine (rcut_any _ _).mono ?_
      rintro e w1 ⟨rfl, rfl⟩
      go_wp2
      go_ret
      exact ⟨_, rfl, T1, boxed_below HB⟩
    | succ m =>
      obtain ⟨q1, q2⟩ := M.due_step hd.out
      have Q2 : Hid _ := q2
      have HB : Hid _ := hb
      clear q2 hb
      go_wp2_with fail
      refine (working_any aC aR aH nC cC nR cR nH cH week (d + 1) hol wr h1 h2 (by omega) (by omega) HH.out.1 HN.out hint.out).mono ?_
      rintro e w1 ⟨rfl, hb1⟩
      have HB1 : Hid (Below (w.heap.size + 1) (w.alloc (.cells #[.slice aC nC cC, .slice aR nR cR, .int .i64 week, .slice aH nH cH] 26)) w1) := HB.out.trans (hb1.mono (by omega))
      clear hb1
      cases hx : M.wkd week hol (d + 1)
      · have Q3 : Hid (M.IsDue (M.wkd week hol) (d + 1) (m + 1) T) := by have := Q2.out; rw [hx] at this; exact this
        clear hx
        go_wp2
        go_roundw
        case rel => exact ⟨m + 1, d + 1, by omega, rfl, rfl, by omega, by omega, Q3, HB1⟩
        case measure => simp [intOf]; omega
      · have Q3 : Hid (M.IsDue (M.wkd week hol) (d + 1) m T) := by have := Q2.out; rw [hx] at this; exact this
        clear hx
        go_wp2
        go_roundw
        case rel => exact ⟨m, d + 1, by omega, by go_num, rfl, by omega, by omega, Q3, HB1⟩
        case measure => simp [intOf]; omega

end Go.Proofs.YtkhpkpaglkinbaaGreatDoor
