/-
  MEMORY: the document's world, exactly: settle.
-/
import Derived.Test.YtcondcffllaaoaaGreatDoorD3
set_option linter.unusedVariables false
set_option linter.unusedSimpArgs false
namespace Go.Proofs.YtcondcffllaaoaaGreatDoor
open Go.RowKit
attribute [local go_sem ↓] Go.wp_at_zero Go.wp_at_succ

theorem st_dark {r : Rul} {s : St} {g t : Int} {i : Nat} (h : g = 0) : stepSt r s g t = ⟨false, 0, 0, false⟩ ∧ stepEv r s g t i = [] := by unfold stepSt stepEv; rw [if_pos h, if_pos h]; exact ⟨rfl, rfl⟩
theorem st_new {r : Rul} {s : St} {g t : Int} {i : Nat} (h : g ≠ 0) (hl : s.lit = false) : stepSt r s g t = ⟨true, t, 0, false⟩ ∧ stepEv r s g t i = [⟨t, i, 0⟩] := by unfold stepSt stepEv; rw [if_neg h, if_neg h, if_pos hl, if_pos hl]; exact ⟨rfl, rfl⟩
theorem st_lev {r : Rul} {s : St} {g t : Int} {i : Nat} (h : g ≠ 0) (hl : s.lit = true) (hc : s.level < r.steps.length ∧ s.acked = false ∧ t = s.since + r.steps.getD s.level.toNat 0) : stepSt r s g t = ⟨s.lit, s.since, s.level + 1, s.acked⟩ ∧ stepEv r s g t i = [⟨t, i, s.level + 1⟩] := by
  have hl' : ¬ s.lit = false := by simp [hl]
  unfold stepSt stepEv; rw [if_neg h, if_neg h, if_neg hl', if_neg hl', if_pos hc, if_pos hc]; exact ⟨rfl, rfl⟩
theorem st_idle {r : Rul} {s : St} {g t : Int} {i : Nat} (h : g ≠ 0) (hl : s.lit = true) (hc : ¬ (s.level < r.steps.length ∧ s.acked = false ∧ t = s.since + r.steps.getD s.level.toNat 0)) : stepSt r s g t = s ∧ stepEv r s g t i = [] := by
  have hl' : ¬ s.lit = false := by simp [hl]
  unfold stepSt stepEv; rw [if_neg h, if_neg h, if_neg hl', if_neg hl', if_neg hc, if_neg hc]; exact ⟨rfl, rfl⟩

/-- The first i rules have settled. -/
def Par (f : Frm) (V : Nat → Int) (T : Int) (S : Nat → St) (E : List Ev) (i : Nat) (S' : Nat → St) (E' : List Ev) : Prop :=
  (∀ j, S' j = if j < i then stepSt (f.R j) (S j) (grd f.R V j) T else S j) ∧ E' = E ++ (List.range i).flatMap (fun j => stepEv (f.R j) (S j) (grd f.R V j) T j)

theorem Par.start (f : Frm) (V : Nat → Int) (T : Int) (S : Nat → St) (E : List Ev) : Par f V T S E 0 S E := ⟨fun j => (if_neg (by omega)).symm, by simp⟩
theorem Par.here {f : Frm} {V : Nat → Int} {T : Int} {S : Nat → St} {E : List Ev} {i : Nat} {S' : Nat → St} {E' : List Ev} (h : Par f V T S E i S' E') : S' i = S i := by rw [h.1, if_neg (by omega)]
theorem Par.len {f : Frm} {V : Nat → Int} {T : Int} {S : Nat → St} {E : List Ev} {i : Nat} {S' : Nat → St} {E' : List Ev} (h : Par f V T S E i S' E') : E'.length ≤ E.length + i := by
  rw [h.2, List.length_append]
  have := flat_len (g := fun j => stepEv (f.R j) (S j) (grd f.R V j) T j) (fun j => stepEv_len _ _ _ _ _) i
  omega
theorem Par.next {f : Frm} {V : Nat → Int} {T : Int} {S : Nat → St} {E : List Ev} {i : Nat} {S' : Nat → St} {E' : List Ev} (h : Par f V T S E i S' E') {s : St} {l : List Ev} (hs : stepSt (f.R i) (S' i) (grd f.R V i) T = s ∧ stepEv (f.R i) (S' i) (grd f.R V i) T i = l) : Par f V T S E (i + 1) (upd S' i s) (E' ++ l) := by
  have hh := h.here
  rw [hh] at hs
  refine ⟨fun j => ?_, ?_⟩
  · by_cases e : j = i
    · subst e; rw [upd_same, if_pos (by omega)]; exact hs.1.symm
    · rw [upd_other _ _ e, h.1]
      by_cases hj : j < i
      · rw [if_pos hj, if_pos (by omega)]
      · rw [if_neg hj, if_neg (by omega)]
  · rw [h.2, List.range_succ, List.flatMap_append, List.append_assoc, ← hs.2]
    simp
theorem Par.same {f : Frm} {V : Nat → Int} {T : Int} {S : Nat → St} {E : List Ev} {i : Nat} {S' : Nat → St} {E' : List Ev} (h : Par f V T S E i S' E') (hs : stepSt (f.R i) (S' i) (grd f.R V i) T = S' i ∧ stepEv (f.R i) (S' i) (grd f.R V i) T i = []) : Par f V T S E (i + 1) S' E' := by
  have := h.next hs
  rw [List.append_nil] at this
  have e : upd S' i (S' i) = S' := by
    funext j
    by_cases e : j = i
    · subst e; rw [upd_same]
    · rw [upd_other _ _ e]
  rw [e] at this
  exact this

/-- What settle leaves. -/
def SeP (Q : Nat → Prop) (f : Frm) (p : Pl) (F : Nat → Int) (T : Int) (S : Nat → St) (vE : Value) (E : List Ev) (w : World) (e : Ending) (w' : World) : Prop :=
  ∃ vE', e = .returned (.tuple #[]) ∧ DSt Q f p F T true (setS f (f.vals F T) T S) vE' (E ++ setE f (f.vals F T) T S) w' ∧ Chg (Own p vE) w w' ∧ Grew w vE vE'

theorem sep_of {Q : Nat → Prop} {f : Frm} {p : Pl} {F : Nat → Int} {T : Int} {S S' : Nat → St} {vE vE' : Value} {E E' : List Ev} {w w' : World} (h : Par f (f.vals F T) T S E f.k S' E') (hs : DSt Q f p F T true S' vE' E' w') (hc : Chg (Own p vE) w w' ∧ Grew w vE vE') : SeP Q f p F T S vE E w (.returned (.tuple #[])) w' := by
  refine ⟨vE', rfl, ?_, hc⟩
  obtain ⟨h1, rfl⟩ := h
  refine hs.congrS (fun i hi => ?_)
  rw [h1, if_pos hi]
  unfold setS
  rw [if_pos hi]

/-- What has turned, and the log's room. -/
def Gone (p : Pl) (vE vE' : Value) (w w' : World) : Prop := Chg (Own p vE) w w' ∧ Grew w vE vE'
theorem Gone.low {p : Pl} {vE vE' : Value} {w w1 w2 : World} (h : Gone p vE vE' w w1) (g : Below w1.heap.size w1 w2) : Gone p vE vE' w w2 := ⟨h.1.low g, h.2⟩
theorem Gone.setS {p : Pl} {vE vE' : Value} {w w1 : World} (h : Gone p vE vE' w w1) (q : Nat) (v : Value) : Gone p vE vE' w (w1.setCell ⟨p.bS, q, none⟩ v) := ⟨h.1.setCell _ _ (Or.inr (Or.inr (Or.inl rfl))), h.2⟩
theorem Gone.drew {p : Pl} {vE vE' : Value} {w w1 : World} (h : Gone p vE vE' w w1) : Gone p vE vE' w w1.drew := ⟨h.1.drew, h.2⟩
theorem Gone.drewN {p : Pl} {vE vE' : Value} {w w1 : World} (h : Gone p vE vE' w w1) (q : Nat) : Gone p vE vE' w (w1.drewN q) := ⟨h.1.drewN q, h.2⟩
theorem Gone.trans {p : Pl} {vE vE' vE2 : Value} {w w1 w2 : World} (h : Gone p vE vE' w w1) (g : Gone p vE' vE2 w1 w2) : Gone p vE vE2 w w2 := ⟨h.1.trans g.1 (Own.grew h.2), h.2.trans g.2 h.1.size⟩

/-- A row that is none of the world's own stands. -/
theorem Gone.row {p : Pl} {vE vE' : Value} {w w1 : World} (h : Gone p vE vE' w w1) {b t l : Nat} {g : Nat → Value} (hr : w.rowIs b t l g) (hb : ¬ Own p vE b) : w1.rowIs b t l g := hr.of_block (h.1.block b hr.lt hb)

set_option maxRecDepth 100000 in
set_option maxHeartbeats 3000000 in
theorem dsettle_any {Q : Nat → Prop} {f : Frm} {p : Pl} {F : Nat → Int} {T : Int} {S : Nat → St} {vE : Value} {E : List Ev} {w : World} (hS : DSt Q f p F T true S vE E w) (hf : f.Ok) (hF : FV f F) (hSt : ∀ i, i < f.k → StOk (S i)) (hE : E.length ≤ 999999999000) (t0 : 0 ≤ T) (t1 : T ≤ 1000000000) :
    Calls Tryz.prog 50 #[.pointer (some ⟨p.bw, 0, none⟩)] w fun e w' => SeP Q f p F T S vE E w e w' := by
  have r6 := hS.row.cell (i := 6) (by omega)
  simp [wf] at r6
  obtain ⟨n1, hn, hk, wk1, wk2⟩ := hf.sizes
  have CALL := hid (dvalues_any hS hf hF t0 t1)
  have HS := hid hS
  have HST := hid hSt
  have HR := hid hf.rules
  clear hS hSt hf hF
  go_enter Tryz.func50, Tryz.ntmps50
  go_wp2_with fail
  refine CALL.out.mono ?_
  rintro e w1 ⟨bv, rfl, q1, q2, hb2⟩
  have HV := hid q2
  have HS1 := hid (HS.out.drop hb2)
  have HB1 : Hid (Gone p vE vE w w1) := ⟨Chg.of hb2, Grew.refl _ _⟩
  have NBV : Hid (¬ Own p vE bv) := fun h => by have := HS.out.own_lt _ h; omega
  have HP0 := hid (Par.start f (f.vals F T) T S E)
  clear q2 hb2 r6 CALL
  go_wp2
  go_loopw [3] (fun t wr => ∃ (i : Nat) (S' : Nat → St) (vE' : Value) (E' : List Ev), i ≤ f.k ∧ t = .int .i64 i ∧ E'.length ≤ E.length + i ∧ Hid (Par f (f.vals F T) T S E i S' E') ∧ Hid (DSt Q f p F T true S' vE' E' wr) ∧ Hid (wr.rowIs bv 3 f.n (fun j => .int .i64 (f.vals F T j))) ∧ Hid (Gone p vE vE' w wr) ∧ Hid (¬ Own p vE' bv)) (fun t _ => f.k - (intOf t).toNat)
  case atStart => exact ⟨0, S, vE, E, by omega, rfl, by omega, HP0, HS1, HV, HB1, NBV⟩
  case round =>
    clear HS1 HV HB1 HS HP0 NBV
    obtain ⟨i, S', vE', E', i1, rfl, hnE, hpar, hs, hv, hbw, hnb⟩ := hrel
    have r7 := hs.out.row.cell (i := 7) (by omega)
    have r1 := hs.out.row.cell (i := 1) (by omega)
    simp [wf] at r7 r1
    by_cases hit : i < f.k
    · obtain ⟨bR, oR, haO, hbR, hrr⟩ : ∃ b off, p.aO = some ⟨b, off, none⟩ ∧ b < wr.heap.size ∧ ∀ m, m < f.k → RuleIs wr b (off + m * 2) (f.R m) := by
        rcases hs.out.base.now.2.1 with h | h
        · omega
        · exact h
      rw [haO] at r1
      obtain ⟨u0, ast, caps, u1, u2, u3⟩ := hrr i hit
      have HU2 := hid u2
      have s0 := hs.out.sta.cell (i := i * 4) (by omega)
      have s1 := hs.out.sta.cell (i := i * 4 + 1) (by omega)
      have s2 := hs.out.sta.cell (i := i * 4 + 2) (by omega)
      have s3 := hs.out.sta.cell (i := i * 4 + 3) (by omega)
      rw [stf0] at s0
      rw [stf1] at s1
      rw [stf2] at s2
      rw [stf3] at s3
      have zS := hs.out.sta.lt
      have zW := hs.out.row.lt
      have lt' : (i : Int) < (f.k : Int) := by omega
      clear u2 hrr haO
      go_upto_region 7 with (fail)
      have WB0 : Below wr.heap.size wr ((wr.alloc (.cells #[.int .i64 (f.R i).guard, .slice ast (f.R i).steps.length caps] 81)).alloc (.cells #[.bool (S' i).lit, .int .i64 (S' i).since, .int .i64 (S' i).level, .bool (S' i).acked] 94)) := ((Below.refl _ _).alloc (Nat.le_refl _) _).alloc (by simp) _
      have x0 := two_boxes (w := wr) (Below.refl _ ((wr.alloc (.cells #[.int .i64 (f.R i).guard, .slice ast (f.R i).steps.length caps] 81)).alloc (.cells #[.bool (S' i).lit, .int .i64 (S' i).since, .int .i64 (S' i).level, .bool (S' i).acked] 94))) 0
      have x1 := two_boxes (w := wr) (Below.refl _ ((wr.alloc (.cells #[.int .i64 (f.R i).guard, .slice ast (f.R i).steps.length caps] 81)).alloc (.cells #[.bool (S' i).lit, .int .i64 (S' i).since, .int .i64 (S' i).level, .bool (S' i).acked] 94))) 1
      have x2 := (two_boxes (w := wr) (Below.refl _ ((wr.alloc (.cells #[.int .i64 (f.R i).guard, .slice ast (f.R i).steps.length caps] 81)).alloc (.cells #[.bool (S' i).lit, .int .i64 (S' i).since, .int .i64 (S' i).level, .bool (S' i).acked] 94))) 2).2
      have x3 := (two_boxes (w := wr) (Below.refl _ ((wr.alloc (.cells #[.int .i64 (f.R i).guard, .slice ast (f.R i).steps.length caps] 81)).alloc (.cells #[.bool (S' i).lit, .int .i64 (S' i).since, .int .i64 (S' i).level, .bool (S' i).acked] 94))) 3).2
      generalize ((wr.alloc (.cells #[.int .i64 (f.R i).guard, .slice ast (f.R i).steps.length caps] 81)).alloc (.cells #[.bool (S' i).lit, .int .i64 (S' i).since, .int .i64 (S' i).level, .bool (S' i).acked] 94)) = Wb at *
      obtain ⟨a0, b0⟩ := x0
      obtain ⟨a1, b1⟩ := x1
      simp at a0 a1 b0 b1 x2 x3
      have hs2 := hid (hs.out.drop WB0)
      have hv2 := hid (hv.out.of_block (WB0.block _ hv.out.lt))
      have hb3 : Hid (Gone p vE vE' w Wb) := hbw.out.low WB0
      have HU3 := hid (SlAt.below HU2.out WB0 (Nat.le_refl _))
      have zWb := WB0.size
      clear WB0 hs hv hbw s0 s1 s2 s3 u0 u1 r7 r1 HU2
      obtain ⟨g0, g1, g2, g3⟩ := HR.out i hit
      obtain ⟨gx, hgx⟩ := Int.eq_ofNat_of_zero_le g0
      rw [hgx] at a0
      have hgn : gx < f.n := by omega
      have HG : Hid (grd f.R (f.vals F T) i = f.vals F T gx) := by show f.vals F T (f.R i).guard.toNat = _; rw [hgx]; rfl
      have G3 := hid g3
      clear hgx g0 g1 g3
      have vx := hv2.out.cell (i := gx) hgn
      have r7 := hs2.out.row.cell (i := 7) (by omega)
      have r5 := hs2.out.row.cell (i := 5) (by omega)
      simp [wf] at r7 r5
      have c0 := hs2.out.sta.cell (i := i * 4) (by omega)
      have c1 := hs2.out.sta.cell (i := i * 4 + 1) (by omega)
      have c2 := hs2.out.sta.cell (i := i * 4 + 2) (by omega)
      have c3 := hs2.out.sta.cell (i := i * 4 + 3) (by omega)
      have cz : ∀ j, Wb.frozen? ⟨p.bS, j, none⟩ = false := fun j => hs2.out.sta.frozen j
      have nbS : bv ≠ p.bS := fun e => hnb.out (Or.inr (Or.inr (Or.inl e)))
      have SOK : StOk (S' i) := by rw [hpar.out.here]; exact HST.out i hit
      obtain ⟨k0, k1, k2, k3⟩ := SOK
      by_cases v0 : f.vals F T gx = 0
      · have t0' : (f.vals F T gx == 0) = true := beq_iff_eq.2 v0
        have A0 := hid (hpar.out.next (st_dark (HG.out.trans v0)))
        have A1 := hid (hs2.out.set4 i false 0 0 false)
        have A3 : Hid (((((Wb.setCell ⟨p.bS, i * 4, none⟩ (.bool false)).setCell ⟨p.bS, i * 4 + 1, none⟩ (.int .i64 0)).setCell ⟨p.bS, i * 4 + 2, none⟩ (.int .i64 0)).setCell ⟨p.bS, i * 4 + 3, none⟩ (.bool false)).rowIs bv 3 f.n (fun j => .int .i64 (f.vals F T j))) := (((hv2.out.setOther nbS _).setOther nbS _).setOther nbS _).setOther nbS _
        have A4 : Hid (Gone p vE vE' w ((((Wb.setCell ⟨p.bS, i * 4, none⟩ (.bool false)).setCell ⟨p.bS, i * 4 + 1, none⟩ (.int .i64 0)).setCell ⟨p.bS, i * 4 + 2, none⟩ (.int .i64 0)).setCell ⟨p.bS, i * 4 + 3, none⟩ (.bool false))) := (((hb3.out.setS _ _).setS _ _).setS _ _).setS _ _
        rw [List.append_nil] at A0
        clear v0
        go_wp2
        go_roundw
        case rel => exact ⟨i + 1, upd S' i ⟨false, 0, 0, false⟩, vE', E', by omega, by go_num, by omega, A0, A1, A3, A4, hnb⟩
        case measure => simp [intOf]; omega
      · have t0' : (f.vals F T gx == 0) = false := beq_eq_false_iff_ne.2 v0
        have HV0 : Hid (grd f.R (f.vals F T) i ≠ 0) := by show _ ≠ _; rw [HG.out]; exact v0
        clear v0
        cases hl : (S' i).lit
        · rw [hl] at b0
          have A0 := hid (hpar.out.next (st_new HV0.out hl))
          have A1 := hid ((hs2.out.set4 i true T 0 false).drew)
          have A3 : Hid (((((Wb.setCell ⟨p.bS, i * 4, none⟩ (.bool true)).setCell ⟨p.bS, i * 4 + 1, none⟩ (.int .i64 T)).setCell ⟨p.bS, i * 4 + 2, none⟩ (.int .i64 0)).setCell ⟨p.bS, i * 4 + 3, none⟩ (.bool false)).drew.rowIs bv 3 f.n (fun j => .int .i64 (f.vals F T j))) := ((((hv2.out.setOther nbS _).setOther nbS _).setOther nbS _).setOther nbS _).drew
          have A4 : Hid (Gone p vE vE' w ((((Wb.setCell ⟨p.bS, i * 4, none⟩ (.bool true)).setCell ⟨p.bS, i * 4 + 1, none⟩ (.int .i64 T)).setCell ⟨p.bS, i * 4 + 2, none⟩ (.int .i64 0)).setCell ⟨p.bS, i * 4 + 3, none⟩ (.bool false)).drew) := ((((hb3.out.setS _ _).setS _ _).setS _ _).setS _ _).drew
          clear hl
          go_wp2
          go_region
          go_wp2_with fail
          generalize ((((Wb.setCell ⟨p.bS, i * 4, none⟩ (.bool true)).setCell ⟨p.bS, i * 4 + 1, none⟩ (.int .i64 T)).setCell ⟨p.bS, i * 4 + 2, none⟩ (.int .i64 0)).setCell ⟨p.bS, i * 4 + 3, none⟩ (.bool false)).drew = We at *
          refine (A1.out.evcall i 0 (by omega)).mono ?_
          intro e w2 hev
          obtain ⟨rfl, vE2, y1, y2, y3⟩ := A1.out.event hev
          have B1 := hid y1
          have B0 : Hid (Gone p vE' vE2 We w2) := ⟨y2, y3⟩
          have B2 := hid (B0.out.row A3.out hnb.out)
          have B3 := hid (A4.out.trans B0.out)
          have B4 : Hid (¬ Own p vE2 bv) := fun h => hnb.out (Own.grew y3 bv A3.out.lt h)
          clear y1 y2 y3 hev
          go_wp2
          go_roundw
          case rel => exact ⟨i + 1, upd S' i ⟨true, T, 0, false⟩, vE2, E' ++ [⟨T, i, 0⟩], by omega, by go_num, by simp; omega, A0, B1, B2, B3, B4⟩
          case measure => simp [intOf]; omega
        · rw [hl] at b0
          have HL := hid hl
          clear hl
          by_cases lv : (S' i).level < (f.R i).steps.length
          · have d1 : decide ((S' i).level < ((f.R i).steps.length : Int)) = true := by simp [lv]
            cases hac : (S' i).acked
            · rw [hac] at x3
              have HAC := hid hac
              obtain ⟨ly, hly⟩ := Int.eq_ofNat_of_zero_le k2
              have lyn : ly < (f.R i).steps.length := by omega
              have HLY := hid hly
              have HN : Hid (T = (S' i).since + (f.R i).steps.getD ly 0 → Par f (f.vals F T) T S E (i + 1) (upd S' i ⟨(S' i).lit, (S' i).since, (ly : Int) + 1, (S' i).acked⟩) (E' ++ [⟨T, i, (ly : Int) + 1⟩])) := fun h => by
                have := hpar.out.next (st_lev HV0.out HL.out ⟨lv, hac, by rw [hly]; exact h⟩)
                rw [hly] at this
                exact this
              have HI : Hid (T ≠ (S' i).since + (f.R i).steps.getD ly 0 → Par f (f.vals F T) T S E (i + 1) S' E') := fun h => hpar.out.same (st_idle HV0.out HL.out (fun hc => h (by have := hc.2.2; rw [hly] at this; exact this)))
              have hst2 := G3.out ly lyn
              unfold BadAt at hst2
              rcases IntsAt.cases HU3.out with h0 | ⟨bs, os, rfl, hbs, hcell⟩
              · omega
              have sx := hcell ly lyn
              rw [hly] at x2 d1 lv
              clear hly hcell hac
              have sb1 : 1 ≤ (f.R i).steps.getD ly 0 := by omega
              have sb2 : (f.R i).steps.getD ly 0 ≤ 1000000000 := by omega
              clear hst2
              generalize (f.R i).steps.getD ly 0 = sy at *
              by_cases eqT : T = (S' i).since + sy
              · have d3 : (T == (S' i).since + sy) = true := beq_iff_eq.2 eqT
                have A0 := hid (HN.out eqT)
                clear eqT HN HI
                go_wp2
                go_quiet (fail)
                go_wp2
                have hs3 := hid (hs2.out.drewN nq)
                have hv3 : Hid ((Wb.drewN nq).rowIs bv 3 f.n (fun j => .int .i64 (f.vals F T j))) := hv2.out.of_block rfl
                have hb4 : Hid (Gone p vE vE' w (Wb.drewN nq)) := hb3.out.drewN _
                have x2' : (Wb.drewN nq).cell? ⟨wr.heap.size + 1, 2, none⟩ = some (.int .i64 ly) := x2
                have r7' : (Wb.drewN nq).cell? ⟨p.bw, 7, none⟩ = some (.slice (some ⟨p.bS, 0, none⟩) f.k f.k) := r7
                have c2' : (Wb.drewN nq).cell? ⟨p.bS, i * 4 + 2, none⟩ = some (stf S' (i * 4 + 2)) := c2
                have cz' : (Wb.drewN nq).frozen? ⟨p.bS, i * 4 + 2, none⟩ = false := cz _
                generalize Wb.drewN nq = Wq at *
                clear hs2 hv2 hb3 x2 r7 c0 c1 c2 c3 cz sx vx a0 a1 b0 b1 x3 r5
                have A1 := hid ((hs3.out.setS (i * 4 + 2) (.int .i64 ((ly : Int) + 1)) (fun j => stf_lev j)).drew)
                have A3 : Hid ((Wq.setCell ⟨p.bS, i * 4 + 2, none⟩ (.int .i64 ((ly : Int) + 1))).drew.rowIs bv 3 f.n (fun j => .int .i64 (f.vals F T j))) := (hv3.out.setOther nbS _).drew
                have A4 : Hid (Gone p vE vE' w (Wq.setCell ⟨p.bS, i * 4 + 2, none⟩ (.int .i64 ((ly : Int) + 1))).drew) := (hb4.out.setS _ _).drew
                have A5 : (Wq.setCell ⟨p.bS, i * 4 + 2, none⟩ (.int .i64 ((ly : Int) + 1))).cell? ⟨wr.heap.size + 1, 2, none⟩ = some (.int .i64 ly) := cell_nb (by omega) x2'
                go_region
                go_wp2_with fail
                generalize (Wq.setCell ⟨p.bS, i * 4 + 2, none⟩ (.int .i64 ((ly : Int) + 1))).drew = We at *
                refine (A1.out.evcall i ((ly : Int) + 1) (by omega)).mono ?_
                intro e w2 hev
                obtain ⟨rfl, vE2, y1, y2, y3⟩ := A1.out.event hev
                have B1 := hid y1
                have B0 : Hid (Gone p vE' vE2 We w2) := ⟨y2, y3⟩
                have B2 := hid (B0.out.row A3.out hnb.out)
                have B3 := hid (A4.out.trans B0.out)
                have B4 : Hid (¬ Own p vE2 bv) := fun h => hnb.out (Own.grew y3 bv A3.out.lt h)
                clear y1 y2 y3 hev
                go_wp2
                go_roundw
                case rel => exact ⟨i + 1, upd S' i ⟨(S' i).lit, (S' i).since, (ly : Int) + 1, (S' i).acked⟩, vE2, E' ++ [⟨T, i, (ly : Int) + 1⟩], by omega, by go_num, by simp; omega, A0, B1, B2, B3, B4⟩
                case measure => simp [intOf]; omega
              · have d3 : (T == (S' i).since + sy) = false := beq_eq_false_iff_ne.2 eqT
                have A0 := hid (HI.out eqT)
                clear eqT HN HI
                go_wp2
                go_quiet (fail)
                go_wp2
                go_roundw
                case rel => exact ⟨i + 1, S', vE', E', by omega, by go_num, by omega, A0, hs2.out.drewN _, hv2.out.of_block rfl, hb3.out.drewN _, hnb⟩
                case measure => simp [intOf]; omega
            · rw [hac] at x3
              have A0 := hid (hpar.out.same (st_idle HV0.out HL.out (fun hc => by have := hc.2.1; rw [hac] at this; cases this)))
              clear hac
              go_wp2
              go_quiet (fail)
              go_wp2
              go_roundw
              case rel => exact ⟨i + 1, S', vE', E', by omega, by go_num, by omega, A0, hs2.out.drewN _, hv2.out.of_block rfl, hb3.out.drewN _, hnb⟩
              case measure => simp [intOf]; omega
          · have d1 : decide ((S' i).level < ((f.R i).steps.length : Int)) = false := by simp; omega
            have A0 := hid (hpar.out.same (st_idle HV0.out HL.out (fun hc => lv hc.1)))
            go_wp2
            go_quiet (fail)
            go_wp2
            go_roundw
            case rel => exact ⟨i + 1, S', vE', E', by omega, by go_num, by omega, A0, hs2.out.drewN _, hv2.out.of_block rfl, hb3.out.drewN _, hnb⟩
            case measure => simp [intOf]; omega
    · obtain rfl : i = f.k := by omega
      have R : Hid (SeP Q f p F T S vE E w (.returned (.tuple #[])) wr) := sep_of hpar.out hs.out hbw.out
      go_wp2
      go_end0
      exact R.out

end Go.Proofs.YtcondcffllaaoaaGreatDoor
