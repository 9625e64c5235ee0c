/-
  THE LAW: one step of a script, the rest.
-/
import Derived.Test.YtcondcffllaaoaaGreatDoorL2
set_option linter.unusedVariables false
set_option linter.unusedSimpArgs false
namespace Go.Proofs.YtcondcffllaaoaaGreatDoor
open Go.RowKit
attribute [local go_sem ↓] Go.wp_at_zero Go.wp_at_succ

set_option maxRecDepth 100000 in
set_option maxHeartbeats 3000000 in
theorem step_none {f : Frm} {b np : Nat} {P : Nat → Pr} {nl : Nat} {xs : List Value} {tag : Nat → Nat} {bP bl cP : Nat} {vL : Value} {w : World} (h : PSt f b np P nl xs tag bP bl cP vL w) (hsame : ∀ i, i < np → (P i).ck = (P i).cd) (hf : f.Ok) (np1 : 1 ≤ np) (np2 : np ≤ 1000000000000) (hb : b ≤ 10000000000) (kd cs a v : Int) (hkd : kd ≤ 0) (c1 : -9223372036854775808 ≤ cs) (c2 : cs < 9223372036854775808) :
    Calls Tryz.prog 14 #[.pointer (some ⟨bP, 0, none⟩), .agg #[.int .i64 kd, .int .i64 cs, .int .i64 a, .int .i64 v]] w fun e w' => StpP f (b + 0) np nl xs tag bP bl cP vL w e w' := by
  have hr : pickN cs np < np := pickN_lt np1
  have PK := hid (fun W => pick_law cs np W c1 c2 np1 np2)
  have hb0 : Below w.heap.size w (w.alloc (.cells #[.int .i64 kd, .int .i64 cs, .int .i64 a, .int .i64 v] 37)) := (Below.refl _ _).alloc (Nat.le_refl _) _
  have hp := h.drop hb0
  have r0 := hp.row.cell (i := 0) (by omega)
  simp at r0
  obtain ⟨g, N, g1, g2, g3⟩ := hp.prow
  have y0 := g1.cell (i := pickN cs np * 2) (by omega)
  have y1 := g1.cell (i := pickN cs np * 2 + 1) (by omega)
  rw [g3 _ (by omega)] at y0 y1
  unfold prf at y0 y1
  rw [if_pos (by omega), show pickN cs np * 2 / 2 = pickN cs np by omega] at y0
  rw [if_neg (by omega), show (pickN cs np * 2 + 1) / 2 = pickN cs np by omega] at y1
  have gl := g1.lt
  have zP := hp.row.lt
  have HBX := hid (Below.refl (w.heap.size + 1) (w.alloc (.cells #[.int .i64 kd, .int .i64 cs, .int .i64 a, .int .i64 v] 37)))
  have b0 := boxed HBX.out 0
  have b1 := boxed HBX.out 1
  have b2 := boxed HBX.out 2
  have b3 := boxed HBX.out 3
  simp at b0 b1 b2 b3
  have H := hid h
  have HF := hid hf
  have HSAME := hid hsame
  clear h hf hsame g1 g2 g3 hp hb0
  generalize hrr : pickN cs np = r at *
  clear hrr
  go_enter Tryz.func14, Tryz.ntmps14
  go_wp2_with fail
  go_region_held3 (fun w' => w'.cell? ⟨bP, 0, none⟩ = some (.slice (some ⟨bl, 0, none⟩) np cP) ∧ w'.cell? ⟨bl, r * 2, none⟩ = some (.pointer (some ⟨(P r).pk.bp, 0, none⟩)) ∧ w'.cell? ⟨bl, r * 2 + 1, none⟩ = some (.pointer (some ⟨(P r).pd.bw, 0, none⟩)) ∧ w'.cell? ⟨w.heap.size, 1, none⟩ = some (.int .i64 cs))
    (go_keep)
    ((go_at_call 26; refine (PK.out _).mono ?_; rintro e w2 ⟨rfl, rfl⟩))
  all_goals (
    obtain ⟨W1, hW1, v1, v2, v3⟩ := of_rows w kd cs a v (P r).pk.bp (P r).pd.bw
    rw [← hW1]
    clear hW1 y0 y1 r0 b0 b1 b2 b3 HBX gl zP
    have RR : Hid (StpP f (b + 0) np nl xs tag bP bl cP vL w (.returned (.bool true)) W1) := ⟨rfl, P, tag, by rw [Nat.add_zero]; exact H.out.drop v1, HSAME.out, Kept.of v1⟩
    have x0 := v2.cell (i := 0) (by omega)
    simp [of4] at x0
    clear v1 v2 v3
    have e1 : (kd == 1) = false := beq_eq_false_iff_ne.2 (by omega)
    have e2 : (kd == 2) = false := beq_eq_false_iff_ne.2 (by omega)
    have e3 : (kd == 3) = false := beq_eq_false_iff_ne.2 (by omega)
    have e4 : (kd == 4) = false := beq_eq_false_iff_ne.2 (by omega)
    have e5 : (kd == 5) = false := beq_eq_false_iff_ne.2 (by omega)
    have e6 : (kd == 6) = false := beq_eq_false_iff_ne.2 (by omega)
    have e7 : (kd == 7) = false := beq_eq_false_iff_ne.2 (by omega)
    go_wp2
    go_ret
    exact RR.out)

set_option maxRecDepth 100000 in
set_option maxHeartbeats 3000000 in
theorem step_on {f : Frm} {b np : Nat} {P : Nat → Pr} {nl : Nat} {xs : List Value} {tag : Nat → Nat} {bP bl cP : Nat} {vL : Value} {w : World} (h : PSt f b np P nl xs tag bP bl cP vL w) (hsame : ∀ i, i < np → (P i).ck = (P i).cd) (hf : f.Ok) (np1 : 1 ≤ np) (np2 : np ≤ 1000000000000) (hb : b ≤ 10000000000) (cs a v : Int) (c1 : -9223372036854775808 ≤ cs) (c2 : cs < 9223372036854775808) (a1 : -9223372036854775808 ≤ a) (a2 : a < 9223372036854775808) :
    Calls Tryz.prog 14 #[.pointer (some ⟨bP, 0, none⟩), .agg #[.int .i64 3, .int .i64 cs, .int .i64 a, .int .i64 v]] w fun e w' => StpP f (b + 0) np nl xs tag bP bl cP vL w e w' := by
  have hr : pickN cs np < np := pickN_lt np1
  have PK := hid (fun W => pick_law cs np W c1 c2 np1 np2)
  have hb0 : Below w.heap.size w (w.alloc (.cells #[.int .i64 3, .int .i64 cs, .int .i64 a, .int .i64 v] 37)) := (Below.refl _ _).alloc (Nat.le_refl _) _
  have hp := h.drop hb0
  have r0 := hp.row.cell (i := 0) (by omega)
  simp at r0
  obtain ⟨g, N, g1, g2, g3⟩ := hp.prow
  have y0 := g1.cell (i := pickN cs np * 2) (by omega)
  have y1 := g1.cell (i := pickN cs np * 2 + 1) (by omega)
  rw [g3 _ (by omega)] at y0 y1
  unfold prf at y0 y1
  rw [if_pos (by omega), show pickN cs np * 2 / 2 = pickN cs np by omega] at y0
  rw [if_neg (by omega), show (pickN cs np * 2 + 1) / 2 = pickN cs np by omega] at y1
  have gl := g1.lt
  have zP := hp.row.lt
  have HBX := hid (Below.refl (w.heap.size + 1) (w.alloc (.cells #[.int .i64 3, .int .i64 cs, .int .i64 a, .int .i64 v] 37)))
  have b0 := boxed HBX.out 0
  have b1 := boxed HBX.out 1
  have b2 := boxed HBX.out 2
  have b3 := boxed HBX.out 3
  simp at b0 b1 b2 b3
  have H := hid h
  have HF := hid hf
  have HSAME := hid hsame
  clear h hf hsame g1 g2 g3 hp hb0
  generalize hrr : pickN cs np = r at *
  clear hrr
  go_enter Tryz.func14, Tryz.ntmps14
  go_wp2_with fail
  go_region_held3 (fun w' => w'.cell? ⟨bP, 0, none⟩ = some (.slice (some ⟨bl, 0, none⟩) np cP) ∧ w'.cell? ⟨bl, r * 2, none⟩ = some (.pointer (some ⟨(P r).pk.bp, 0, none⟩)) ∧ w'.cell? ⟨bl, r * 2 + 1, none⟩ = some (.pointer (some ⟨(P r).pd.bw, 0, none⟩)) ∧ w'.cell? ⟨w.heap.size, 1, none⟩ = some (.int .i64 cs))
    (go_keep)
    ((go_at_call 26; refine (PK.out _).mono ?_; rintro e w2 ⟨rfl, rfl⟩))
  all_goals (
    obtain ⟨W1, hW1, v1, v2, v3⟩ := of_rows w 3 cs a v (P r).pk.bp (P r).pd.bw
    rw [← hW1]
    clear hW1 y0 y1 r0 b0 b1 b2 b3 HBX gl zP
    have V1 := hid v1
    have V2 := hid v2
    have V3 := hid v3
    have H1 := hid (H.out.drop v1)
    have KOK := hid (H.out.kok r hr)
    have DOK := hid (H.out.dok r hr)
    clear v1 v2 v3
    have x0 := V2.out.cell (i := 0) (by omega)
    have x2 := V2.out.cell (i := 2) (by omega)
    have x3 := V2.out.cell (i := 3) (by omega)
    have p0 := V3.out.cell (i := 0) (by omega)
    have p1 := V3.out.cell (i := 1) (by omega)
    have zz := V3.out.lt
    simp [of4] at x0 x2 x3
    simp [of2] at p0 p1
    have w5 := (show DSt (P r).Qd f (P r).pd (P r).cd.F (P r).cd.T (P r).cd.op (P r).cd.S (P r).vd (P r).cd.E W1 from H1.out.dst r hr).row.cell (i := 5) (by omega)
    have zw := (show DSt (P r).Qd f (P r).pd (P r).cd.F (P r).cd.T (P r).cd.op (P r).cd.S (P r).vd (P r).cd.E W1 from H1.out.dst r hr).row.lt
    simp [wf] at w5
    have tt0 := DOK.out.1.t0
    have tt1 := DOK.out.1.t1
    by_cases big : a < 4611686018427387904
    · have big' : decide (a < 4611686018427387904) = true := decide_eq_true big
      go_wp2
      go_region
      have V1b : Hid (Below w.heap.size w W1.drew) := V1.out.drew
      have V2b : Hid (W1.drew.rowIs w.heap.size 37 4 (of4 3 cs a v)) := V2.out.drew
      have V3b : Hid (W1.drew.rowIs (w.heap.size + 1) 57 2 (of2 (P r).pk.bp (P r).pd.bw)) := V3.out.drew
      have H1b := hid (H.out.drop V1b.out)
      clear V1 V2 V3 H1
      have V1 := V1b
      have V2 := V2b
      have V3 := V3b
      have H1 := H1b
      clear V1b V2b V3b H1b
      generalize W1.drew = W1' at *
      have x2 := V2.out.cell (i := 2) (by omega)
      have p0 := V3.out.cell (i := 0) (by omega)
      have p1 := V3.out.cell (i := 1) (by omega)
      have zz := V3.out.lt
      simp [of4] at x2
      simp [of2] at p0 p1
      go_wp2_with fail
      refine (kadvance_any ((P r).cd.T + a) (H1.out.kst r hr) HF.out KOK.out.1 KOK.out.2 hb).mono ?_
      rintro e1 w2 ⟨vk', rfl, k1, k2⟩
      have K1 := hid k1
      have K2 := hid k2
      have D1 := hid (H1.out.mid hr k2)
      have U2 := H.out.far hr (V1.out.size) k2 V2.out (Nat.le_refl _)
      have U3 := H.out.far hr (V1.out.size) k2 V3.out (by omega)
      clear k1 k2 x2 p0 p1
      have p1 := U3.cell (i := 1) (by omega)
      simp [of2] at p1
      clear U2 U3
      go_wp2_with fail
      refine (dadvance_any ((P r).cd.T + a) D1.out HF.out DOK.out.1 DOK.out.2 hb).mono ?_
      rintro e2 w3 ⟨vd', rfl, d1, d2⟩
      have EQ := HSAME.out r hr
      have RR : Hid (StpP f (b + 0) np nl xs tag bP bl cP vL w (.returned (.bool true)) w3) := by
        have K1' := K1.out
        rw [← EQ] at d1 K1'
        obtain ⟨s1, P', tag', s2, s3, s4⟩ := H1.out.two HSAME.out hr (by omega) K1' K2.out d1 d2 (advM_ok HF.out KOK.out.1 ((P r).ck.T + a)) (advM_few HF.out KOK.out.2 ((P r).ck.T + a))
        exact ⟨s1, P', tag', s2, s3, (Kept.of V1.out).trans s4⟩
      rw [← EQ]
      clear d1 d2 EQ p1
      go_wp2_with (go_at_call 19; refine (num_any _ _).mono ?_; rintro e w' ⟨rfl, rfl⟩)
      go_ret
      exact RR.out
    · have big' : decide (a < 4611686018427387904) = false := decide_eq_false big
      go_wp2_with fail
      refine (kadvance_any a (H1.out.kst r hr) HF.out KOK.out.1 KOK.out.2 hb).mono ?_
      rintro e1 w2 ⟨vk', rfl, k1, k2⟩
      have K1 := hid k1
      have K2 := hid k2
      have D1 := hid (H1.out.mid hr k2)
      have U2 := H.out.far hr (V1.out.size) k2 V2.out (Nat.le_refl _)
      have U3 := H.out.far hr (V1.out.size) k2 V3.out (by omega)
      clear k1 k2 x0 x2 x3 p0 p1 w5
      have p1 := U3.cell (i := 1) (by omega)
      simp [of2] at p1
      clear U2 U3
      go_wp2_with fail
      refine (dadvance_any a D1.out HF.out DOK.out.1 DOK.out.2 hb).mono ?_
      rintro e2 w3 ⟨vd', rfl, d1, d2⟩
      have EQ := HSAME.out r hr
      have RR : Hid (StpP f (b + 0) np nl xs tag bP bl cP vL w (.returned (.bool true)) w3) := by
        rw [← EQ] at d1
        obtain ⟨s1, P', tag', s2, s3, s4⟩ := H1.out.two HSAME.out hr (by omega) K1.out K2.out d1 d2 (advM_ok HF.out KOK.out.1 a) (advM_few HF.out KOK.out.2 a)
        exact ⟨s1, P', tag', s2, s3, (Kept.of V1.out).trans s4⟩
      rw [← EQ]
      clear d1 d2 EQ p1
      go_wp2_with (go_at_call 19; refine (num_any _ _).mono ?_; rintro e w' ⟨rfl, rfl⟩)
      go_ret
      exact RR.out)

theorem StpP.up {f : Frm} {b' b2 np : Nat} {nl : Nat} {xs : List Value} {tag : Nat → Nat} {bP bl cP : Nat} {vL : Value} {w : World} {e : Ending} {w' : World} (h : StpP f b' np nl xs tag bP bl cP vL w e w') (hb : b' ≤ b2) : StpP f b2 np nl xs tag bP bl cP vL w e w' := by
  obtain ⟨h1, P', tag', h2, h3, h4⟩ := h
  exact ⟨h1, P', tag', ⟨h2.kst, h2.kown, h2.kq, fun i hi => ⟨(h2.kok i hi).1, few_up (h2.kok i hi).2 hb⟩, h2.dst, h2.down, h2.dq, fun i hi => ⟨(h2.dok i hi).1, few_up (h2.dok i hi).2 hb⟩, h2.row, h2.tP, h2.prs, h2.tl, h2.lst, h2.tL, h2.els⟩, h3, h4⟩

/-- A step of one of the kinds up to 5. -/
theorem steps_five {f : Frm} {b np : Nat} {P : Nat → Pr} {nl : Nat} {xs : List Value} {tag : Nat → Nat} {bP bl cP : Nat} {vL : Value} {w : World} (h : PSt f b np P nl xs tag bP bl cP vL w) (hsame : ∀ i, i < np → (P i).ck = (P i).cd) (hf : f.Ok) (np1 : 1 ≤ np) (np2 : np ≤ 1000000000000) (hb : b ≤ 10000000000) (kd cs a v : Int) (hkd : kd ≤ 5) (c1 : -9223372036854775808 ≤ cs) (c2 : cs < 9223372036854775808) (a1 : -9223372036854775808 ≤ a) (a2 : a < 9223372036854775808) :
    Calls Tryz.prog 14 #[.pointer (some ⟨bP, 0, none⟩), .agg #[.int .i64 kd, .int .i64 cs, .int .i64 a, .int .i64 v]] w fun e w' => StpP f (b + 1) np nl xs tag bP bl cP vL w e w' := by
  have hc : kd ≤ 0 ∨ kd = 1 ∨ kd = 2 ∨ kd = 3 ∨ kd = 4 ∨ kd = 5 := by omega
  rcases hc with hc | rfl | rfl | rfl | rfl | rfl
  · exact (step_none h hsame hf np1 np2 hb kd cs a v hc c1 c2).mono (fun _ _ g => g.up (by omega))
  · exact step_set h hsame hf np1 np2 hb cs a v c1 c2
  · exact (step_adv h hsame hf np1 np2 hb cs a v c1 c2).mono (fun _ _ g => g.up (by omega))
  · exact (step_on h hsame hf np1 np2 hb cs a v c1 c2 a1 a2).mono (fun _ _ g => g.up (by omega))
  · exact (step_ack h hsame hf np1 np2 hb cs a v c1 c2).mono (fun _ _ g => g.up (by omega))
  · exact (step_close h hsame hf np1 np2 hb cs a v c1 c2).mono (fun _ _ g => g.up (by omega))

end Go.Proofs.YtcondcffllaaoaaGreatDoor
