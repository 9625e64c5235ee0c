/-
  MEMORY: the document's world: settle, walked.
-/
import Derived.Test.YtkhpkpaglkinbaaGreatDoorH11
set_option linter.unusedVariables false
set_option linter.unusedSimpArgs false
namespace Go.Proofs.YtkhpkpaglkinbaaGreatDoor
open Go.RowKit
attribute [local go_sem ↓] Go.wp_at_zero Go.wp_at_succ

theorem WSt.evcall {w0 w : World} {n k nh : Nat} {week : Int} {bw bc : Nat} {aO : Option Addr} {cO bh : Nat} {F : Nat → Int} {T : Int} {op : Bool} {bF cF bS : Nat} {S : Nat → St} {vE : Value} {nE : Nat}
    (h : WSt w0 w n k nh week bw bc aO cO bh F T op bF cF bS S vE nE) (r l : Int) (hE : nE ≤ 100000000) : Calls Tryz.prog 66 #[.pointer (some ⟨bw, 0, none⟩), .int .i64 r, .int .i64 l] w fun e w' => EvPost bw (bw + 1) nE vE w e w' := by
  obtain ⟨xs, hx⟩ := h.ev
  have r5 := h.row.cell (i := 5) (by omega)
  have r8 := h.row.cell (i := 8) (by omega)
  simp [wf] at r5 r8
  exact event_any bw nE (bw + 1) T r l vE xs w hE (by omega) (by have := h.row.lt; omega) r5 r8 (h.row.frozen 8) hx

/-- What has turned of a world: its own places from bw on; a row that is neither its own block, its states nor a log stands. -/
def Wd (bw bS : Nat) (w w' : World) : Prop := Below bw w w' ∧ ∀ b t l f, t ≠ 101 → b ≠ bw → b ≠ bS → w.rowIs b t l f → w'.rowIs b t l f

theorem Wd.low {bw bS : Nat} {w w1 w2 : World} (h : Wd bw bS w w1) (g : Below w1.heap.size w1 w2) (hb : bw ≤ w1.heap.size) : Wd bw bS w w2 := ⟨h.1.trans (g.mono hb), fun b t l f h1 h2 h3 r => (h.2 b t l f h1 h2 h3 r).of_block (g.block _ (h.2 b t l f h1 h2 h3 r).lt)⟩
theorem Wd.start {bw bS : Nat} {w w1 : World} (g : Below w.heap.size w w1) (hb : bw ≤ w.heap.size) : Wd bw bS w w1 := ⟨g.mono hb, fun _ _ _ _ _ _ _ r => r.of_block (g.block _ r.lt)⟩
theorem Wd.setS {bw bS : Nat} {w w1 : World} (h : Wd bw bS w w1) (hb : bw ≤ bS) (q : Nat) (v : Value) : Wd bw bS w (w1.setCell ⟨bS, q, none⟩ v) := ⟨h.1.setCell hb _, fun b t l f h1 h2 h3 r => (h.2 b t l f h1 h2 h3 r).setOther h3 _⟩
theorem Wd.drew {bw bS : Nat} {w w1 : World} (h : Wd bw bS w w1) : Wd bw bS w w1.drew := ⟨h.1.drew, fun b t l f h1 h2 h3 r => (h.2 b t l f h1 h2 h3 r).drew⟩
theorem Wd.drewN {bw bS : Nat} {w w1 : World} (h : Wd bw bS w w1) (q : Nat) : Wd bw bS w (w1.drewN q) := ⟨below_drewN h.1 _, fun b t l f h1 h2 h3 r => (h.2 b t l f h1 h2 h3 r).of_block rfl⟩
theorem Wd.ev {bw bS : Nat} {w w1 w2 : World} (h : Wd bw bS w w1) (g1 : Below bw w1 w2) (g2 : ∀ b t l f, t ≠ 101 → b ≠ bw → w1.rowIs b t l f → w2.rowIs b t l f) : Wd bw bS w w2 := ⟨h.1.trans g1, fun b t l f h1 h2 h3 r => g2 b t l f h1 h2 (h.2 b t l f h1 h2 h3 r)⟩

/-- What settle leaves. -/
def SetPost (w0 : World) (n k nh : Nat) (week : Int) (bw bc : Nat) (aO : Option Addr) (cO bh : Nat) (F : Nat → Int) (T : Int) (op : Bool) (bF cF bS nE : Nat) (w : World) (e : Ending) (w' : World) : Prop :=
  ∃ S' vE' nE', e = .returned (.tuple #[]) ∧ WSt w0 w' n k nh week bw bc aO cO bh F T op bF cF bS S' vE' nE' ∧ (∀ i, i < k → StOk (S' i)) ∧ nE' ≤ nE + k ∧ Wd bw bS w w'

set_option maxRecDepth 100000 in
set_option maxHeartbeats 3000000 in
theorem settle_any {w0 w : World} {C Ce : Nat → Cel} {n : Nat} {R : Nat → Rul} {k : Nat} {hol : List Int} {week : Int} {bw bc : Nat} {aO : Option Addr} {cO bh : Nat} {F : Nat → Int} {T : Int} {bF cF bS : Nat} {S : Nat → St} {vE : Value} {nE : Nat}
    (hB : WBase w0 C n R k hol bw bc aO bh) (hS : WSt w0 w n k hol.length week bw bc aO cO bh F T true bF cF bS S vE nE) (hSt : ∀ i, i < k → StOk (S i)) (hR : ∀ i, i < k → RuleOk (R i) n) (hn : n ≤ 20) (n1 : 1 ≤ n) (hk : k ≤ 6) (hE : nE ≤ 50000000) (h1 : 1 ≤ week) (h2 : week ≤ 127) (hh : HolOk hol) (heff : Eff C Ce F n) (hok : CellsOk Ce n) (hno : NoRing Ce n) (t0 : 0 ≤ T) (t1 : T ≤ 1000000000) :
    Calls Tryz.prog 41 #[.pointer (some ⟨bw, 0, none⟩)] w fun e w' => SetPost w0 n k hol.length week bw bc aO cO bh F T true bF cF bS nE w e w' := by
  have r6 := hS.row.cell (i := 6) (by omega)
  simp [wf] at r6
  have CALL := hid (wvalues_any hB hS hn n1 h1 h2 hh heff hok hno t0 t1)
  have HB := hid hB
  have HS := hid hS
  have HST := hid hSt
  have HR := hid hR
  clear hS hB hh heff hok hno hSt hR
  go_enter Tryz.func41, Tryz.ntmps41
  go_wp2_with fail
  refine CALL.out.mono ?_
  rintro e w1 ⟨bv, V, rfl, q1, q2, q3, q4, hb2⟩
  have HV := hid q2
  have HS1 := hid (HS.out.drop hb2)
  have HB1 : Hid (Wd bw bS w w1) := Wd.start hb2 (by have := HS.out.row.lt; omega)
  have zb : bw < bv := by have := HS.out.row.lt; omega
  clear q2 q3 q4 hb2 r6 CALL
  go_wp2
  go_loopw [3] (fun t wr => ∃ (i : Nat) (S : Nat → St) (vE : Value) (nE' : Nat), i ≤ k ∧ t = .int .i64 i ∧ nE' ≤ nE + i ∧ Hid (WSt w0 wr n k hol.length week bw bc aO cO bh F T true bF cF bS S vE nE') ∧ Hid (∀ i, i < k → StOk (S i)) ∧ Hid (wr.rowIs bv 3 n (fun j => .int .i64 (V j))) ∧ Hid (Wd bw bS w wr)) (fun t _ => k - (intOf t).toNat)
  case atStart => exact ⟨0, S, vE, nE, by omega, rfl, by omega, HS1, HST, HV, HB1⟩
  case round =>
    clear HS1 HST HV HB1 HS
    obtain ⟨i, S, vE, nE', i1, rfl, hnE, hs, hst, hv, hbw⟩ := hrel
    have r7 := hs.out.row.cell (i := 7) (by omega)
    have r1 := hs.out.row.cell (i := 1) (by omega)
    simp [wf] at r7 r1
    by_cases hit : i < k
    · obtain ⟨bR, oR, rfl, hbR, hrr⟩ : ∃ b off, aO = some ⟨b, off, none⟩ ∧ b < w0.heap.size ∧ ∀ m, m < k → RuleIs w0 b (off + m * 2) (R m) := by
        rcases HB.out.rules with h | h
        · omega
        · exact h
      have hsz := HB.out.size
      have hbel : Below w0.heap.size w0 wr := by rw [hsz]; exact hs.out.bel
      obtain ⟨u0, ast, caps, u1, u2, u3⟩ := (hrr i hit).below hbel hbR (Nat.le_refl _)
      have HU2 := hid u2
      have s0 := hs.out.sta.cell (i := i * 4) (by omega)
      have s1 := hs.out.sta.cell (i := i * 4 + 1) (by omega)
      have s2 := hs.out.sta.cell (i := i * 4 + 2) (by omega)
      have s3 := hs.out.sta.cell (i := i * 4 + 3) (by omega)
      rw [stf0] at s0
      rw [stf1] at s1
      rw [stf2] at s2
      rw [stf3] at s3
      have zS := hs.out.sta.lt
      have zW := hs.out.row.lt
      have zR : bR < wr.heap.size := by have := hbel.size; omega
      have lt' : (i : Int) < (k : Int) := by omega
      clear u2 hrr hbel hsz
      go_upto_region 7 with (fail)
      have WB0 : Below wr.heap.size wr ((wr.alloc (.cells #[.int .i64 (R i).guard, .slice ast (R i).steps.length caps] 80)).alloc (.cells #[.bool (S i).lit, .int .i64 (S i).since, .int .i64 (S i).level, .bool (S i).acked] 92)) := ((Below.refl _ _).alloc (Nat.le_refl _) _).alloc (by simp) _
      have x0 := two_boxes (w := wr) (Below.refl _ ((wr.alloc (.cells #[.int .i64 (R i).guard, .slice ast (R i).steps.length caps] 80)).alloc (.cells #[.bool (S i).lit, .int .i64 (S i).since, .int .i64 (S i).level, .bool (S i).acked] 92))) 0
      have x1 := two_boxes (w := wr) (Below.refl _ ((wr.alloc (.cells #[.int .i64 (R i).guard, .slice ast (R i).steps.length caps] 80)).alloc (.cells #[.bool (S i).lit, .int .i64 (S i).since, .int .i64 (S i).level, .bool (S i).acked] 92))) 1
      have x2 := (two_boxes (w := wr) (Below.refl _ ((wr.alloc (.cells #[.int .i64 (R i).guard, .slice ast (R i).steps.length caps] 80)).alloc (.cells #[.bool (S i).lit, .int .i64 (S i).since, .int .i64 (S i).level, .bool (S i).acked] 92))) 2).2
      have x3 := (two_boxes (w := wr) (Below.refl _ ((wr.alloc (.cells #[.int .i64 (R i).guard, .slice ast (R i).steps.length caps] 80)).alloc (.cells #[.bool (S i).lit, .int .i64 (S i).since, .int .i64 (S i).level, .bool (S i).acked] 92))) 3).2
      generalize ((wr.alloc (.cells #[.int .i64 (R i).guard, .slice ast (R i).steps.length caps] 80)).alloc (.cells #[.bool (S i).lit, .int .i64 (S i).since, .int .i64 (S i).level, .bool (S i).acked] 92)) = Wb at *
      obtain ⟨a0, b0⟩ := x0
      obtain ⟨a1, b1⟩ := x1
      simp at a0 a1 b0 b1 x2 x3
      have hs2 := hid (hs.out.drop WB0)
      have hv2 := hid (hv.out.of_block (WB0.block _ hv.out.lt))
      have hb3 : Hid (Wd bw bS w Wb) := hbw.out.low WB0 (by omega)
      have HU3 := hid (SlAt.below HU2.out WB0 (Nat.le_refl _))
      have zWb := WB0.size
      clear WB0 hs hv hbw s0 s1 s2 s3 u0 u1 r7 r1 HU2
      obtain ⟨g0, g1, g2, g3⟩ := HR.out i hit
      obtain ⟨gx, hgx⟩ := Int.eq_ofNat_of_zero_le g0
      rw [hgx] at a0
      have hgn : gx < n := by omega
      have G3 := hid g3
      clear hgx g0 g1 g3
      have vx := hv2.out.cell (i := gx) hgn
      have r7 := hs2.out.row.cell (i := 7) (by omega)
      have r5 := hs2.out.row.cell (i := 5) (by omega)
      simp [wf] at r7 r5
      have c0 := hs2.out.sta.cell (i := i * 4) (by omega)
      have c1 := hs2.out.sta.cell (i := i * 4 + 1) (by omega)
      have c2 := hs2.out.sta.cell (i := i * 4 + 2) (by omega)
      have c3 := hs2.out.sta.cell (i := i * 4 + 3) (by omega)
      have cz : ∀ j, Wb.frozen? ⟨bS, j, none⟩ = false := fun j => hs2.out.sta.frozen j
      have hSb := hs2.out.hbS
      have nbS : bv ≠ bS := fun e => by
        subst e
        obtain ⟨e1, e2, _⟩ := hv2.out
        obtain ⟨e3, e4, _⟩ := hs2.out.sta
        rw [e2] at e4
        simp at e4
      obtain ⟨k0, k1, k2, k3⟩ := hst.out i hit
      have OK : Hid (∀ s', StOk s' → ∀ x, x < k → StOk (upd S i s' x)) := fun s' h x hx => by
        by_cases e : x = i
        · subst e; rw [upd_same]; exact h
        · rw [upd_other _ _ e]; exact hst.out x hx
      by_cases v0 : V gx = 0
      · have t0' : (V gx == 0) = true := beq_iff_eq.2 v0
        have A1 := hid (hs2.out.store4 i false 0 0 false)
        have A2 := hid (OK.out ⟨false, 0, 0, false⟩ ⟨by show (0 : Int) ≤ 0; omega, by show (0 : Int) ≤ _; omega, by show (0 : Int) ≤ 0; omega, by show (0 : Int) ≤ _; omega⟩)
        have A3 : Hid (((((Wb.setCell ⟨bS, i * 4, none⟩ (.bool false)).setCell ⟨bS, i * 4 + 1, none⟩ (.int .i64 0)).setCell ⟨bS, i * 4 + 2, none⟩ (.int .i64 0)).setCell ⟨bS, i * 4 + 3, none⟩ (.bool false)).rowIs bv 3 n (fun j => .int .i64 (V j))) := (((hv2.out.setOther nbS _).setOther nbS _).setOther nbS _).setOther nbS _
        have A4 : Hid (Wd bw bS w ((((Wb.setCell ⟨bS, i * 4, none⟩ (.bool false)).setCell ⟨bS, i * 4 + 1, none⟩ (.int .i64 0)).setCell ⟨bS, i * 4 + 2, none⟩ (.int .i64 0)).setCell ⟨bS, i * 4 + 3, none⟩ (.bool false))) := (((hb3.out.setS (by omega) _ _).setS (by omega) _ _).setS (by omega) _ _).setS (by omega) _ _
        clear v0
        go_wp2
        go_roundw
        case rel => exact ⟨i + 1, upd S i ⟨false, 0, 0, false⟩, vE, nE', by omega, by go_num, by omega, A1, A2, A3, A4⟩
        case measure => simp [intOf]; omega
      · have t0' : (V gx == 0) = false := beq_eq_false_iff_ne.2 v0
        clear v0
        cases hl : (S i).lit
        · rw [hl] at b0
          have A1 := hid ((hs2.out.store4 i true T 0 false).drew)
          have A2 := hid (OK.out ⟨true, T, 0, false⟩ ⟨t0, t1, by show (0 : Int) ≤ 0; omega, by show (0 : Int) ≤ _; omega⟩)
          have A3 : Hid (((((Wb.setCell ⟨bS, i * 4, none⟩ (.bool true)).setCell ⟨bS, i * 4 + 1, none⟩ (.int .i64 T)).setCell ⟨bS, i * 4 + 2, none⟩ (.int .i64 0)).setCell ⟨bS, i * 4 + 3, none⟩ (.bool false)).drew.rowIs bv 3 n (fun j => .int .i64 (V j))) := ((((hv2.out.setOther nbS _).setOther nbS _).setOther nbS _).setOther nbS _).drew
          have A4 : Hid (Wd bw bS w ((((Wb.setCell ⟨bS, i * 4, none⟩ (.bool true)).setCell ⟨bS, i * 4 + 1, none⟩ (.int .i64 T)).setCell ⟨bS, i * 4 + 2, none⟩ (.int .i64 0)).setCell ⟨bS, i * 4 + 3, none⟩ (.bool false)).drew) := ((((hb3.out.setS (by omega) _ _).setS (by omega) _ _).setS (by omega) _ _).setS (by omega) _ _).drew
          clear hl
          go_wp2
          go_region
          go_wp2_with fail
          generalize ((((Wb.setCell ⟨bS, i * 4, none⟩ (.bool true)).setCell ⟨bS, i * 4 + 1, none⟩ (.int .i64 T)).setCell ⟨bS, i * 4 + 2, none⟩ (.int .i64 0)).setCell ⟨bS, i * 4 + 3, none⟩ (.bool false)).drew = We at *
          refine (A1.out.evcall _ _ (by omega)).mono ?_
          intro e w2 hev
          obtain ⟨rfl, y1, y2, vE2, y3⟩ := A1.out.event hev
          have B1 := hid y3
          have B2 := hid (y2 _ _ _ _ (by decide) (by omega) A3.out)
          have B3 := hid (A4.out.ev y1 y2)
          clear y1 y2 y3 hev
          go_wp2
          go_roundw
          case rel => exact ⟨i + 1, upd S i ⟨true, T, 0, false⟩, vE2, nE' + 1, by omega, by go_num, by omega, B1, A2, B2, B3⟩
          case measure => simp [intOf]; omega
        · rw [hl] at b0
          have HL := hid hl
          clear hl
          by_cases lv : (S i).level < (R i).steps.length
          · have d1 : decide ((S i).level < ((R i).steps.length : Int)) = true := by simp [lv]
            cases hac : (S i).acked
            · rw [hac] at x3
              have HAC := hid hac
              clear hac
              obtain ⟨ly, hly⟩ := Int.eq_ofNat_of_zero_le k2
              have lyn : ly < (R i).steps.length := by omega
              have HLY := hid hly
              have hst2 := G3.out ly lyn
              unfold BadAt at hst2
              rcases IntsAt.cases HU3.out with h0 | ⟨bs, os, rfl, hbs, hcell⟩
              · omega
              have sx := hcell ly lyn
              rw [hly] at x2 d1 lv
              clear hly hcell
              have sb1 : 1 ≤ (R i).steps.getD ly 0 := by omega
              have sb2 : (R i).steps.getD ly 0 ≤ 1000000000 := by omega
              clear hst2
              generalize (R i).steps.getD ly 0 = sy at *
              by_cases eqT : T = (S i).since + sy
              · have d3 : (T == (S i).since + sy) = true := beq_iff_eq.2 eqT
                clear eqT
                go_wp2
                go_quiet (fail)
                go_wp2
                have hs3 := hid (hs2.out.drop (below_drewN (Below.refl _ _) nq))
                have hv3 : Hid ((Wb.drewN nq).rowIs bv 3 n (fun j => .int .i64 (V j))) := hv2.out.of_block rfl
                have hb4 : Hid (Wd bw bS w (Wb.drewN nq)) := hb3.out.drewN _
                have x2' : (Wb.drewN nq).cell? ⟨wr.heap.size + 1, 2, none⟩ = some (.int .i64 ly) := x2
                have r7' : (Wb.drewN nq).cell? ⟨bw, 7, none⟩ = some (.slice (some ⟨bS, 0, none⟩) k k) := r7
                have c2' : (Wb.drewN nq).cell? ⟨bS, i * 4 + 2, none⟩ = some (stf S (i * 4 + 2)) := c2
                have cz' : (Wb.drewN nq).frozen? ⟨bS, i * 4 + 2, none⟩ = false := cz _
                generalize Wb.drewN nq = Wq at *
                clear hs2 hv2 hb3 x2 r7 c0 c1 c2 c3 cz sx vx a0 a1 b0 b1 x3 r5
                have A1 := hid ((hs3.out.lev i ((ly : Int) + 1)).drew)
                have A2 := hid (OK.out ⟨(S i).lit, (S i).since, (ly : Int) + 1, (S i).acked⟩ ⟨k0, k1, by show (0 : Int) ≤ (ly : Int) + 1; omega, by show (ly : Int) + 1 ≤ 1000; omega⟩)
                have A3 : Hid ((Wq.setCell ⟨bS, i * 4 + 2, none⟩ (.int .i64 ((ly : Int) + 1))).drew.rowIs bv 3 n (fun j => .int .i64 (V j))) := (hv3.out.setOther nbS _).drew
                have A4 : Hid (Wd bw bS w (Wq.setCell ⟨bS, i * 4 + 2, none⟩ (.int .i64 ((ly : Int) + 1))).drew) := (hb4.out.setS (by omega) _ _).drew
                have A5 : (Wq.setCell ⟨bS, i * 4 + 2, none⟩ (.int .i64 ((ly : Int) + 1))).cell? ⟨wr.heap.size + 1, 2, none⟩ = some (.int .i64 ly) := cell_nb (by omega) x2'
                go_region
                go_wp2_with fail
                generalize (Wq.setCell ⟨bS, i * 4 + 2, none⟩ (.int .i64 ((ly : Int) + 1))).drew = We at *
                refine (A1.out.evcall _ _ (by omega)).mono ?_
                intro e w2 hev
                obtain ⟨rfl, y1, y2, vE2, y3⟩ := A1.out.event hev
                have B1 := hid y3
                have B2 := hid (y2 _ _ _ _ (by decide) (by omega) A3.out)
                have B3 := hid (A4.out.ev y1 y2)
                clear y1 y2 y3 hev
                go_wp2
                go_roundw
                case rel => exact ⟨i + 1, upd S i ⟨(S i).lit, (S i).since, (ly : Int) + 1, (S i).acked⟩, vE2, nE' + 1, by omega, by go_num, by omega, B1, A2, B2, B3⟩
                case measure => simp [intOf]; omega
              · have d3 : (T == (S i).since + sy) = false := beq_eq_false_iff_ne.2 eqT
                clear eqT
                go_wp2
                go_quiet (fail)
                go_wp2
                go_roundw
                case rel => exact ⟨i + 1, S, vE, nE', by omega, by go_num, by omega, hs2.out.drop (below_drewN (Below.refl _ _) _), hst, hv2.out.of_block rfl, hb3.out.drewN _⟩
                case measure => simp [intOf]; omega
            · rw [hac] at x3
              clear hac
              go_wp2
              go_quiet (fail)
              go_wp2
              go_roundw
              case rel => exact ⟨i + 1, S, vE, nE', by omega, by go_num, by omega, hs2.out.drop (below_drewN (Below.refl _ _) _), hst, hv2.out.of_block rfl, hb3.out.drewN _⟩
              case measure => simp [intOf]; omega
          · have d1 : decide ((S i).level < ((R i).steps.length : Int)) = false := by simp; omega
            go_wp2
            go_quiet (fail)
            go_wp2
            go_roundw
            case rel => exact ⟨i + 1, S, vE, nE', by omega, by go_num, by omega, hs2.out.drop (below_drewN (Below.refl _ _) _), hst, hv2.out.of_block rfl, hb3.out.drewN _⟩
            case measure => simp [intOf]; omega
    · go_wp2
      go_end0
      exact ⟨S, vE, nE', rfl, hs.out, hst.out, by omega, hbw.out⟩

end Go.Proofs.YtkhpkpaglkinbaaGreatDoor
