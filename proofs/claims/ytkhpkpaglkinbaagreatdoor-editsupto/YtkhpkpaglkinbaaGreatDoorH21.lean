/-
  THE LAW: a step that does nothing.
-/
import Derived.Test.YtkhpkpaglkinbaaGreatDoorH20
set_option linter.unusedVariables false
set_option linter.unusedSimpArgs false
namespace Go.Proofs.YtkhpkpaglkinbaaGreatDoor
open Go.RowKit
attribute [local go_sem ↓] Go.wp_at_zero Go.wp_at_succ

set_option maxRecDepth 100000 in
set_option maxHeartbeats 3000000 in
theorem step_none {C : Nat → Cel} {n : Nat} {R : Nat → Rul} {k : Nat} {week : Int} {hol : List Int} {F : Nat → Int} {w : World} {L B bp bk : Nat} {Ck : Nat → Cel} {cC : Nat} {aR : Option Addr} {cR : Nat} {aH : Option Addr} {cH : Nat} {w0 : World} {bw bc : Nat} {aO : Option Addr} {cO bh bF cF bS : Nat} {S : Nat → St} {vE : Value} {nE bP bl cP : Nat}
    (h : PSt C n R k week hol F w L B bp bk Ck cC aR cR aH cH w0 bw bc aO cO bh bF cF bS S vE nE bP bl cP) (kd cs a b : Int) (hkd : kd ≤ 0) (c1 : -9223372036854775808 ≤ cs) (c2 : cs < 9223372036854775808) :
    Calls Tryz.prog 7 #[.pointer (some ⟨bP, 0, none⟩), .agg #[.int .i64 kd, .int .i64 cs, .int .i64 a, .int .i64 b]] w fun e w' => StPost C n R k week hol w L B bp bk cC aR cR aH cH bw bc aO cO bh bF cF bS nE bP bl cP e w' := by
  have hb0 : Below w.heap.size w (w.alloc (.cells #[.int .i64 kd, .int .i64 cs, .int .i64 a, .int .i64 b] 36)) := (Below.refl _ _).alloc (Nat.le_refl _) _
  have hp := (h.drop hb0).pl
  have r0 := hp.row.cell (i := 0) (by omega)
  simp at r0
  obtain ⟨f, N, g1, g2, g3, g4⟩ := hp.prs
  have y0 := g1.cell (i := 0) (by omega)
  have y1 := g1.cell (i := 1) (by omega)
  rw [g3] at y0
  rw [g4] at y1
  have gl := g1.lt
  have zP := hp.row.lt
  have HBX := hid (Below.refl (w.heap.size + 1) (w.alloc (.cells #[.int .i64 kd, .int .i64 cs, .int .i64 a, .int .i64 b] 36)))
  have b0 := boxed HBX.out 0
  have b1 := boxed HBX.out 1
  have b2 := boxed HBX.out 2
  have b3 := boxed HBX.out 3
  simp at b0 b1 b2 b3
  have H := hid h
  clear h g1 g2 g3 g4 hp hb0
  go_enter Tryz.func7, Tryz.ntmps7
  go_wp2_with fail
  go_region_held3 (fun w' => w'.cell? ⟨bP, 0, none⟩ = some (.slice (some ⟨bl, 0, none⟩) 1 cP) ∧ w'.cell? ⟨bl, 0, none⟩ = some (.pointer (some ⟨bp, 0, none⟩)) ∧ w'.cell? ⟨bl, 1, none⟩ = some (.pointer (some ⟨bw, 0, none⟩)) ∧ w'.cell? ⟨w.heap.size, 1, none⟩ = some (.int .i64 cs))
    (go_keep)
    ((go_at_call 19; refine (pick1_any _ _ c1 c2).mono ?_; rintro e w2 ⟨rfl, rfl⟩))
  all_goals (
    obtain ⟨W1, hW1, v1, v2, v3⟩ := of_rows w kd cs a b bp bw
    rw [← hW1]
    clear hW1 y0 y1 r0 b0 b1 b2 b3 HBX gl zP
    have x0 := v2.cell (i := 0) (by omega)
    simp [of4] at x0
    have n4 : L ≤ w.heap.size := by
      have z1 := H.out.kst.c1
      have z2 := H.out.kst.c2
      have z3 := H.out.bbc
      have z4 := H.out.base.hbc
      have z5 := H.out.wst.row.lt
      omega
    have RR : Hid (StPost C n R k week hol w L B bp bk cC aR cR aH cH bw bc aO cO bh bF cF bS nE bP bl cP (.returned (.bool true)) W1) := ⟨rfl, v1.mono n4, F, Ck, w0, S, vE, nE, by omega, H.out.drop v1⟩
    clear v1 v2 v3
    have e1 : (kd == 1) = false := beq_eq_false_iff_ne.2 (by omega)
    have e2 : (kd == 2) = false := beq_eq_false_iff_ne.2 (by omega)
    have e3 : (kd == 3) = false := beq_eq_false_iff_ne.2 (by omega)
    have e4 : (kd == 4) = false := beq_eq_false_iff_ne.2 (by omega)
    have e5 : (kd == 5) = false := beq_eq_false_iff_ne.2 (by omega)
    have e6 : (kd == 6) = false := beq_eq_false_iff_ne.2 (by omega)
    have e7 : (kd == 7) = false := beq_eq_false_iff_ne.2 (by omega)
    go_wp2
    go_ret
    exact RR.out)

end Go.Proofs.YtkhpkpaglkinbaaGreatDoor
