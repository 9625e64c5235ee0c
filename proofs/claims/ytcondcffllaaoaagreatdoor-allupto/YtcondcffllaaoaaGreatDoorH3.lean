/-
  MEMORY: does what was handed in read as it did?
-/
import Derived.Test.YtcondcffllaaoaaGreatDoorH2
import Derived.Laws.StructEq
set_option linter.unusedVariables false
set_option linter.unusedSimpArgs false
namespace Go.Proofs.YtcondcffllaaoaaGreatDoor
open Go.RowKit
attribute [local go_sem ↓] Go.wp_at_zero Go.wp_at_succ

theorem h76 : Tryz.prog.stoodInHeld 77 = false := by kernel_rfl
theorem u76 : Tryz.prog.underlying 77 = some (.struct (Tryz.prog.fieldsOf 77)) := by
  simp only [Program.fieldsOf, Tryz.underlying77]
theorem m76 : Tryz.prog.eqGuardType Tryz.prog.depth 77 = false := by kernel_rfl
theorem eq76 (a b c d e : Int) (W : World) : (Op.equalIn 10000 77 (.agg #[.int .i64 a, .int .i64 b, .int .i64 c, .int .i64 d, .int .i64 e]) (.agg #[.int .i64 a, .int .i64 b, .int .i64 c, .int .i64 d, .int .i64 e])).run Tryz.prog W = .ok true W := by
  rw [run_equalIn_agg W _ 77 _ _ u76 h76]
  simp [Program.fieldsOf, Tryz.underlying77, Op.eqFields, go_sem, Tryz.underlying3]
attribute [local go_sem] eq76

set_option maxHeartbeats 800000 in
theorem same_any (l : List Int) (b : Nat) (a : Option Addr) (cap : Nat) (w : World) (hl : l.length ≤ 1000000000) (hrow : w.rowIs b 3 (l.length + 8) (intSp l)) (hc : IntsAt w (.slice a l.length cap) l) :
    Calls Tryz.prog 47 #[.slice (some ⟨b, 0, none⟩) l.length (l.length + 8), .slice a l.length cap] w fun e w' => e = .returned (.bool true) ∧ w' = w := by
  have HC := (show Hid _ from IntsAt.cases hc)
  have HR := hid hrow
  clear hc hrow
  have t0 : ((l.length : Int) != (l.length : Int)) = false := by simp
  go_enter Tryz.func47, Tryz.ntmps47
  go_wp2
  go_loop [7] (fun t => ∃ k : Nat, k ≤ l.length + 8 ∧ t = .int .i64 k) (fun t => l.length + 8 - (intOf t).toNat)
  case atStart => exact ⟨0, by omega, rfl⟩
  case round =>
    obtain ⟨k, k1, rfl⟩ := hrel
    by_cases hlt : k < l.length + 8
    · have x0 := HR.out.cell hlt
      unfold intSp at x0
      have lt' : (k : Int) < (l.length : Int) + 8 := by omega
      by_cases hk : k < l.length
      · rw [if_pos hk] at x0
        rcases HC.out with h0 | ⟨bl, off, rfl, hb, hcell⟩
        · omega
        have x1 := hcell k hk
        generalize l.getD k 0 = x at *
        have t1 : (x != x) = false := by simp
        clear hcell
        go_wp2
        go_round
        case rel => exact ⟨k + 1, by omega, by go_num⟩
        case measure => simp [intOf]; omega
      · rw [if_neg hk] at x0
        go_wp2
        go_round
        case rel => exact ⟨k + 1, by omega, by go_num⟩
        case measure => simp [intOf]; omega
    · go_wp2
      go_ret
      exact ⟨rfl, rfl⟩

theorem cellSt_cel {C : Nat → Cel} {n i N : Nat} {w : World} {b : Nat} (h : w.rowIs b 77 N (cellSt C n 8)) (hi : i < n) (hN : n * 5 ≤ N) : CelIs w b (i * 5) (C i) := by
  have e : ∀ j, j < n * 5 → cellSt C n 8 j = cellf C j := fun j hj => by unfold cellSt; rw [if_pos hj]
  refine ⟨?_, ?_, ?_, ?_, ?_⟩
  · rw [h.cell (by omega), e _ (by omega), cellf0]
  · rw [h.cell (by omega), e _ (by omega), cellf1]
  · rw [h.cell (by omega), e _ (by omega), cellf2]
  · rw [h.cell (by omega), e _ (by omega), cellf3]
  · rw [h.cell (by omega), e _ (by omega), cellf4]

theorem two_boxes {w wr : World} {c1 c2 : Array Value} {t1 t2 : TypeId} (h : Below (w.heap.size + 1 + 1) ((w.alloc (.cells c1 t1)).alloc (.cells c2 t2)) wr) (i : Nat) : wr.cell? ⟨w.heap.size, i, none⟩ = c1[i]? ∧ wr.cell? ⟨w.heap.size + 1, i, none⟩ = c2[i]? := by
  constructor
  · rw [h.cell (p := ⟨w.heap.size, i, none⟩) (by show w.heap.size < _; omega), World.cell?_alloc_lt (h := by simp), World.cell?_alloc_new]
  · rw [h.cell (p := ⟨w.heap.size + 1, i, none⟩) (by show w.heap.size + 1 < _; omega)]
    have := World.cell?_alloc_new (w.alloc (.cells c1 t1)) c2 t2 i
    rw [World.size_alloc] at this; exact this
theorem two_boxes_below {w wr : World} {o1 o2 : Obj} (h : Below (w.heap.size + 1 + 1) ((w.alloc o1).alloc o2) wr) : Below w.heap.size w wr :=
  (((Below.refl _ _).alloc (Nat.le_refl _) _).alloc (by simp) _).trans (h.mono (by omega))

set_option maxRecDepth 100000 in
set_option maxHeartbeats 2000000 in
theorem still_any (C : Nat → Cel) (R : Nat → Rul) (hol : List Int) (aC aR aH : Option Addr) (n cC k cR cH bc br bh : Nat) (bs : Nat → Nat) (week : Int) (w : World) (hn : n ≤ 1000000000) (hk : k ≤ 1000000000) (hhl : hol.length ≤ 1000000000)
    (hcs : CAt w aC n C) (hrs : RAt w aR k R) (hhs : IntsAt w (.slice aH hol.length cH) hol)
    (hrc : w.rowIs bc 77 ((n + 8) * 5) (cellSt C n 8)) (hrr : w.rowIs br 81 ((k + 8) * 2) (ruleSt R bs k 8)) (hrh : w.rowIs bh 3 (hol.length + 8) (intSp hol)) (hst : ∀ x, x < k → w.rowIs (bs x) 3 ((R x).steps.length + 8) (intSp (R x).steps)) :
    Calls Tryz.prog 18 #[.agg #[.slice (some ⟨bc, 0, none⟩) n (n + 8), .slice (some ⟨br, 0, none⟩) k (k + 8), .int .i64 week, .slice (some ⟨bh, 0, none⟩) hol.length (hol.length + 8)], .agg #[.slice aC n cC, .slice aR k cR, .int .i64 week, .slice aH hol.length cH]] w fun e w' => e = .returned (.bool true) ∧ Below w.heap.size w w' := by
  have HCS := hid hcs
  have HRS := hid hrs
  have HHS := hid hhs
  have HRC := hid hrc
  have HRR := hid hrr
  have HRH := hid hrh
  have HST := hid hst
  have zc := hrc.lt
  have zr := hrr.lt
  have zh := hrh.lt
  clear hcs hrs hhs hrc hrr hrh hst
  go_enter Tryz.func18, Tryz.ntmps18
  go_wp2
  have hm := m76
  go_loopw [7] (fun t wr => ∃ i : Nat, i ≤ n ∧ t = .int .i64 i ∧ Hid (Below (w.heap.size + 1 + 1) ((w.alloc (.cells #[.slice (some ⟨bc, 0, none⟩) n (n + 8), .slice (some ⟨br, 0, none⟩) k (k + 8), .int .i64 week, .slice (some ⟨bh, 0, none⟩) hol.length (hol.length + 8)] 26)).alloc (.cells #[.slice aC n cC, .slice aR k cR, .int .i64 week, .slice aH hol.length cH] 26)) wr)) (fun t _ => n - (intOf t).toNat)
  case atStart => exact ⟨0, by omega, rfl, Below.refl _ _⟩
  case round =>
    obtain ⟨i, i1, rfl, hb⟩ := hrel
    have hbw := hid (two_boxes_below hb.out)
    by_cases hit : i < n
    · rcases HCS.out with h0 | ⟨bC, oC, rfl, hbC, hcc⟩
      · omega
      have f0 := (two_boxes hb.out 0).2
      simp at f0
      obtain ⟨u0, u1, u2, u3, u4⟩ := (hcc i hit).below hbw.out hbC
      obtain ⟨v0, v1, v2, v3, v4⟩ := (cellSt_cel HRC.out hit (by omega)).below hbw.out zc
      clear hcc
      rcases hC : C i with ⟨kd, ca, cb, cc, ck⟩
      rw [hC] at u0 u1 u2 u3 u4 v0 v1 v2 v3 v4
      simp only at u0 u1 u2 u3 u4 v0 v1 v2 v3 v4
      clear hC
      have lt' : (i : Int) < (n : Int) + 8 := by omega
      have lt2 : (i : Int) < (n : Int) := by omega
      have lt3 : (0 : Int) ≤ (i : Int) := by omega
      go_wp2
      go_quiet (fail)
      go_wp2
      go_roundw
      case rel => exact ⟨i + 1, by omega, by go_num, below_drewN hb.out _⟩
      case measure => simp [intOf]; omega
    · obtain rfl : i = n := by omega
      have f1 := (two_boxes hb.out 1).2
      have e1 := (two_boxes hb.out 1).1
      simp at f1 e1
      go_wp2
      go_loopw [10] (fun t wr => ∃ x : Nat, x ≤ 8 ∧ t = .int .i64 x ∧ Hid (Below (w.heap.size + 1 + 1) ((w.alloc (.cells #[.slice (some ⟨bc, 0, none⟩) i (i + 8), .slice (some ⟨br, 0, none⟩) k (k + 8), .int .i64 week, .slice (some ⟨bh, 0, none⟩) hol.length (hol.length + 8)] 26)).alloc (.cells #[.slice aC i cC, .slice aR k cR, .int .i64 week, .slice aH hol.length cH] 26)) wr)) (fun t _ => 8 - (intOf t).toNat)
      case atStart => exact ⟨0, by omega, rfl, hb⟩
      case round =>
        clear hb hbw f1 e1
        obtain ⟨x, x1, rfl, hb⟩ := hrel
        have hbw := hid (two_boxes_below hb.out)
        by_cases hxt : x < 8
        · have cs : ∀ r, r < 5 → wr.cell? ⟨bc, (i + x) * 5 + r, none⟩ = some (.int .i64 (-5)) := fun r hr => by
            rw [hbw.out.cell (p := ⟨bc, (i + x) * 5 + r, none⟩) zc, HRC.out.cell (by omega)]
            unfold cellSt
            rw [if_neg (by omega), if_pos (by omega)]
          have v0 := cs 0 (by omega)
          have v1 := cs 1 (by omega)
          have v2 := cs 2 (by omega)
          have v3 := cs 3 (by omega)
          have v4 := cs 4 (by omega)
          simp only [Nat.add_zero] at v0
          have r0 : wr.cell? ⟨br, (k + x) * 2, none⟩ = some (.int .i64 (-5)) := by
            rw [hbw.out.cell (p := ⟨br, (k + x) * 2, none⟩) zr, HRR.out.cell (by omega)]
            unfold ruleSt ruleS
            rw [if_neg (by omega), if_pos (by omega), if_pos (by omega)]
          have r1 : wr.cell? ⟨br, (k + x) * 2 + 1, none⟩ = some (.slice none 0 0) := by
            rw [hbw.out.cell (p := ⟨br, (k + x) * 2 + 1, none⟩) zr, HRR.out.cell (by omega)]
            unfold ruleSt ruleS
            rw [if_neg (by omega), if_pos (by omega), if_neg (by omega)]
          clear cs
          go_wp2
          go_roundw
          case rel => exact ⟨x + 1, by omega, by go_num, hb⟩
          case measure => simp [intOf]; omega
        · obtain rfl : x = 8 := by omega
          go_wp2
          go_loopw [11] (fun t wr => ∃ y : Nat, y ≤ k ∧ t = .int .i64 y ∧ Hid (Below (w.heap.size + 1 + 1) ((w.alloc (.cells #[.slice (some ⟨bc, 0, none⟩) i (i + 8), .slice (some ⟨br, 0, none⟩) k (k + 8), .int .i64 week, .slice (some ⟨bh, 0, none⟩) hol.length (hol.length + 8)] 26)).alloc (.cells #[.slice aC i cC, .slice aR k cR, .int .i64 week, .slice aH hol.length cH] 26)) wr)) (fun t _ => k - (intOf t).toNat)
          case atStart => exact ⟨0, by omega, rfl, hb⟩
          case round =>
            clear hb hbw
            obtain ⟨y, y1, rfl, hb⟩ := hrel
            have hbw := hid (two_boxes_below hb.out)
            by_cases hyt : y < k
            · rcases HRS.out with h0 | ⟨bR, oR, rfl, hbR, hrr⟩
              · omega
              have f1 := (two_boxes hb.out 1).2
              simp at f1
              obtain ⟨u0, ast, caps, u1, u2, u3⟩ := (hrr y hyt).below hbw.out hbR (Nat.le_refl _)
              have HU2 := hid u2
              have r0 : wr.cell? ⟨br, y * 2, none⟩ = some (.int .i64 (R y).guard) := by
                rw [hbw.out.cell (p := ⟨br, y * 2, none⟩) zr, HRR.out.cell (by omega)]
                unfold ruleSt ruleOf
                rw [if_pos (by omega), if_pos (by omega), show y * 2 / 2 = y by omega]
              have r1 : wr.cell? ⟨br, y * 2 + 1, none⟩ = some (.slice (some ⟨bs y, 0, none⟩) (R y).steps.length ((R y).steps.length + 8)) := by
                rw [hbw.out.cell (p := ⟨br, y * 2 + 1, none⟩) zr, HRR.out.cell (by omega)]
                unfold ruleSt ruleOf
                rw [if_pos (by omega), if_neg (by omega), show (y * 2 + 1) / 2 = y by omega]
              have SR := hid ((HST.out y hyt).of_block (hbw.out.block _ (HST.out y hyt).lt))
              clear u2 hrr
              have lt' : (y : Int) < (k : Int) + 8 := by omega
              have lt2 : (y : Int) < (k : Int) := by omega
              have lt3 : (0 : Int) ≤ (y : Int) := by omega
              have t1 : ((R y).guard != (R y).guard) = false := by simp
              have QC : Hid (∀ q, Calls Tryz.prog 47 #[.slice (some ⟨bs y, 0, none⟩) (R y).steps.length ((R y).steps.length + 8), .slice ast (R y).steps.length caps] (wr.drewN q) fun e w' => e = .returned (.bool true) ∧ w' = wr.drewN q) := fun q => same_any (R y).steps (bs y) ast caps (wr.drewN q) u3 (SR.out.of_block rfl) (SlAt.below HU2.out (below_drewN (Below.refl _ _) q) (Nat.le_refl _))
              go_wp2
              go_quiet ((go_at_call 47; exact Calls.quiet_of_same (QC.out _)))
              go_wp2
              go_quiet (fail)
              go_wp2
              go_roundw
              case rel => exact ⟨y + 1, by omega, by go_num, below_drewN hb.out _⟩
              case measure => simp [intOf]; omega
            · have e3 := (two_boxes hb.out 3).1
              have f3 := (two_boxes hb.out 3).2
              simp at e3 f3
              go_wp2_with fail
              refine (same_any hol bh aH cH _ hhl (HRH.out.of_block (hbw.out.block _ zh)) (SlAt.below HHS.out hbw.out (Nat.le_refl _))).mono ?_
              rintro e w1 ⟨rfl, rfl⟩
              go_wp2
              go_ret
              exact ⟨rfl, hbw.out⟩

end Go.Proofs.YtcondcffllaaoaaGreatDoor
