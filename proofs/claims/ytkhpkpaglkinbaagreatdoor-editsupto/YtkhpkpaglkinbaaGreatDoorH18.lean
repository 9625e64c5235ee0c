/-
  THE LAW: pick, kept, looks.
-/
import Derived.Test.YtkhpkpaglkinbaaGreatDoorH17
set_option linter.unusedVariables false
set_option linter.unusedSimpArgs false
namespace Go.Proofs.YtkhpkpaglkinbaaGreatDoor
open Go.RowKit
attribute [local go_sem ↓] Go.wp_at_zero Go.wp_at_succ

/-- Of one thing there is but one to pick. -/
theorem pick1_any (c : Int) (w : World) (h1 : -9223372036854775808 ≤ c) (h2 : c < 9223372036854775808) : Calls Tryz.prog 19 #[.int .i64 c, .int .i64 1] w fun e w' => e = .returned (.int .i64 0) ∧ w' = w := by
  by_cases c0 : c < 0
  · go_enter Tryz.func19, Tryz.ntmps19
    go_wp2
    go_ret
    simp
  · go_enter Tryz.func19, Tryz.ntmps19
    go_wp2
    go_ret
    simp

/-- A play of one case, with no lists. -/
structure PlAt (w : World) (bP bl cP bp bw : Nat) : Prop where
  row : w.rowIs bP 54 2 (fun j => if j = 0 then .slice (some ⟨bl, 0, none⟩) 1 cP else .slice none 0 0)
  prs : ∃ f N, w.rowIs bl 56 N f ∧ 2 ≤ N ∧ f 0 = .pointer (some ⟨bp, 0, none⟩) ∧ f 1 = .pointer (some ⟨bw, 0, none⟩)

theorem PlAt.below {w w' : World} {bP bl cP bp bw : Nat} (h : PlAt w bP bl cP bp bw) (hb : Below w.heap.size w w') : PlAt w' bP bl cP bp bw := by
  obtain ⟨f, N, f1, f2⟩ := h.prs
  exact ⟨h.row.of_block (hb.block _ h.row.lt), f, N, f1.of_block (hb.block _ f1.lt), f2⟩

theorem kept_any {w : World} {bP bl cP bp bw : Nat} (h : PlAt w bP bl cP bp bw) : Calls Tryz.prog 18 #[.pointer (some ⟨bP, 0, none⟩)] w fun e w' => e = .returned (.bool true) ∧ w' = w := by
  have r1 := h.row.cell (i := 1) (by omega)
  simp at r1
  clear h
  go_enter Tryz.func18, Tryz.ntmps18
  go_wp2
  go_loopw [3] (fun t wr => t = .int .i64 0 ∧ wr = w) (fun _ _ => 0)
  case atStart => exact ⟨rfl, rfl⟩
  case round =>
    obtain ⟨rfl, rfl⟩ := hrel
    go_wp2
    go_ret
    simp

set_option maxRecDepth 100000 in
set_option maxHeartbeats 2000000 in
theorem looks_any {w : World} {bP bl cP bp bw : Nat} (h : PlAt w bP bl cP bp bw)
    (hv : ∀ W, Below w.heap.size w W → Calls Tryz.prog 15 #[.agg #[.pointer (some ⟨bp, 0, none⟩), .pointer (some ⟨bw, 0, none⟩)]] W fun e w' => TPost W e w') :
    Calls Tryz.prog 6 #[.pointer (some ⟨bP, 0, none⟩), .agg #[.bool true, .bool false, .bool false]] w fun e w' => TPost w e w' := by
  have HP := hid h
  have HV := hid hv
  clear h hv
  have HBX := hid (Below.refl (w.heap.size + 1) (w.alloc (.cells #[.bool true, .bool false, .bool false] 30)))
  go_enter Tryz.func6, Tryz.ntmps6
  go_wp2
  go_loopw [5] (fun t wr => ∃ m : Nat, m ≤ 1 ∧ t = .int .i64 m ∧ Hid (Below (w.heap.size + 1) (w.alloc (.cells #[.bool true, .bool false, .bool false] 30)) wr)) (fun t _ => 1 - (intOf t).toNat)
  case atStart => exact ⟨0, by omega, rfl, HBX⟩
  case round =>
    clear HBX
    obtain ⟨m, m1, rfl, hb⟩ := hrel
    have hbw := hid (boxed_below hb.out)
    have hp := hid (HP.out.below hbw.out)
    have r0 := hp.out.row.cell (i := 0) (by omega)
    simp at r0
    by_cases hm : m = 0
    · subst hm
      obtain ⟨f, N, g1, g2, g3, g4⟩ := hp.out.prs
      have y0 := g1.cell (i := 0) (by omega)
      have y1 := g1.cell (i := 1) (by omega)
      rw [g3] at y0
      rw [g4] at y1
      have gl := g1.lt
      have b0 := boxed hb.out 0
      have b1 := boxed hb.out 1
      have b2 := boxed hb.out 2
      simp at b0 b1 b2
      have zb : w.heap.size < wr.heap.size := by have := hb.out.size; simp at this; omega
      have hb4 : Hid (∀ o, Below w.heap.size w (wr.alloc o)) := fun o => hbw.out.alloc (by omega) _
      have hb5 : Hid (∀ o, Below (w.heap.size + 1) (w.alloc (.cells #[.bool true, .bool false, .bool false] 30)) (wr.alloc o)) := fun o => hb.out.alloc (by omega) _
      clear g1 g2 g3 g4 hbw hb
      go_wp2_with fail
      refine (HV.out _ (hb4.out _)).mono ?_
      rintro e w2 ⟨rfl, q⟩
      have hb6 := hid ((hb5.out _).trans (q.mono (by simp; omega)))
      have b1 := boxed hb6.out 1
      have b2 := boxed hb6.out 2
      simp at b1 b2
      clear q hb4 hb5 y0 y1
      go_wp2
      go_roundw
      case rel => exact ⟨1, by omega, by go_num, hb6⟩
      case measure => simp [intOf]
    · obtain rfl : m = 1 := by omega
      go_wp2_with (go_at_call 18; refine (kept_any hp.out).mono ?_; rintro e w' ⟨rfl, rfl⟩)
      go_ret
      exact ⟨rfl, hbw.out⟩

end Go.Proofs.YtkhpkpaglkinbaaGreatDoor
