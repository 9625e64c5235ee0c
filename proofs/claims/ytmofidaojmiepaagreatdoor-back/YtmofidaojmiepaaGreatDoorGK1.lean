/-
  THE CODE: how a rule goes from state to state.
-/
import Derived.Test.YtmofidaojmiepaaGreatDoorGD10
set_option linter.unusedVariables false
set_option linter.unusedSimpArgs false
namespace Go.Proofs.YtmofidaojmiepaaGreatDoor

open Go.RowKit

attribute [local go_sem ↓] Go.wp_at_zero Go.wp_at_succ

/-- Whether a rule waits for a level, and for which instant. -/
def nsB (r : Rul) (s : St) : Bool := s.lit && !s.acked && decide (s.level < r.steps.length)

def nsV (r : Rul) (s : St) : Int := if nsB r s = true then s.since + r.steps.getD s.level.toNat 0 else 0

def NsP (r : Rul) (s : St) (w : World) (e : Ending) (w' : World) : Prop := e = .returned (.tuple #[.int .i64 (nsV r s), .bool (nsB r s)]) ∧ Below w.heap.size w w'

theorem ns_no {r : Rul} {s : St} {w w' : World} (h : nsB r s = false) (hb : Below w.heap.size w w') : NsP r s w (.returned (.tuple #[.int .i64 0, .bool false])) w' := ⟨by unfold nsV; rw [h, if_neg (by simp)], hb⟩

set_option maxRecDepth 100000 in
set_option maxHeartbeats 2000000 in
theorem nextStep_any {r : Rul} {n : Nat} (hr : RuleOk r n) {s : St} (hs : StOk s) {a : Option Addr} {cap : Nat} {w : World} (hi : IntsAt w (.slice a r.steps.length cap) r.steps) :
    Calls Tryz.prog 68 #[.agg #[.int .i64 r.guard, .slice a r.steps.length cap], s.val] w fun e w' => NsP r s w e w' := by
  obtain ⟨k0, k1, k2, k3⟩ := hs
  obtain ⟨_, _, r4, r5⟩ := hr
  have R5 := hid r5
  clear r5
  have WB0 : Hid (Below w.heap.size w ((w.alloc (.cells #[.int .i64 r.guard, .slice a r.steps.length cap] 51)).alloc (.cells #[.bool s.lit, .int .i64 s.since, .int .i64 s.level, .bool s.acked] 71))) := ((Below.refl _ _).alloc (Nat.le_refl _) _).alloc (by simp) _
  have HI := hid (SlAt.below hi WB0.out (Nat.le_refl _))
  clear hi
  cases hl : s.lit
  · have R := hid (fun w' (h : Below w.heap.size w w') => ns_no (r := r) (s := s) (by unfold nsB; rw [hl]; rfl) h)
    rw [show s.val = .agg #[.bool false, .int .i64 s.since, .int .i64 s.level, .bool s.acked] by unfold St.val; rw [hl]]
    rw [hl] at WB0
    clear hl
    go_enter Tryz.func68, Tryz.ntmps68
    go_wp2
    go_ret2
    exact R.out _ WB0.out
  · cases ha : s.acked
    · by_cases lv : s.level < r.steps.length
      · obtain ⟨ly, hly⟩ := Int.eq_ofNat_of_zero_le k2
        have lyn : ly < r.steps.length := by omega
        have hB : nsB r s = true := by unfold nsB; rw [hl, ha, decide_eq_true lv]; rfl
        have hV : nsV r s = s.since + r.steps.getD ly 0 := by unfold nsV; rw [if_pos hB, hly]; rfl
        have hst2 := R5.out ly lyn
        unfold BadAt at hst2
        have sb1 : 1 ≤ r.steps.getD ly 0 := by omega
        have sb2 : r.steps.getD ly 0 ≤ 1000000000 := by omega
        have R : Hid (∀ w', Below w.heap.size w w' → NsP r s w (.returned (.tuple #[.int .i64 (s.since + r.steps.getD ly 0), .bool true])) w') := fun w' h => ⟨by rw [hV, hB], h⟩
        rcases IntsAt.cases HI.out with h0 | ⟨bs, os, rfl, hbs, hcell⟩
        · omega
        have sx := hcell ly lyn
        rw [show s.val = .agg #[.bool true, .int .i64 s.since, .int .i64 ly, .bool false] by unfold St.val; rw [hl, ha, hly]]
        rw [hl, ha, hly] at WB0 sx
        rw [hly] at lv
        clear hl ha hly hcell hst2 hB hV HI
        generalize r.steps.getD ly 0 = sy at *
        go_enter Tryz.func68, Tryz.ntmps68
        go_wp2
        go_region
        go_wp2
        go_ret2
        exact R.out _ WB0.out.drew
      · have R := hid (fun w' (h : Below w.heap.size w w') => ns_no (r := r) (s := s) (by unfold nsB; rw [decide_eq_false lv]; simp) h)
        rw [show s.val = .agg #[.bool true, .int .i64 s.since, .int .i64 s.level, .bool false] by unfold St.val; rw [hl, ha]]
        rw [hl, ha] at WB0
        have lv0 : ¬ (s.level < 0) := by omega
        clear hl ha
        go_enter Tryz.func68, Tryz.ntmps68
        go_wp2
        go_ret2
        exact R.out _ WB0.out
    · have R := hid (fun w' (h : Below w.heap.size w w') => ns_no (r := r) (s := s) (by unfold nsB; rw [ha]; simp) h)
      rw [show s.val = .agg #[.bool true, .int .i64 s.since, .int .i64 s.level, .bool true] by unfold St.val; rw [hl, ha]]
      rw [hl, ha] at WB0
      clear hl ha
      go_enter Tryz.func68, Tryz.ntmps68
      go_wp2
      go_ret2
      exact R.out _ WB0.out

/-- A rule settles: its state, and whether that is an event. -/
def seB (r : Rul) (s : St) (g t : Int) : Bool := if g = 0 then false else if s.lit = false then true else nsB r s && decide (nsV r s = t)

def SlP (r : Rul) (s : St) (g t : Int) (w : World) (e : Ending) (w' : World) : Prop := e = .returned (.tuple #[(stepSt r s g t).val, .bool (seB r s g t)]) ∧ Below w.heap.size w w'

theorem ns_yes {r : Rul} {s : St} (h : nsB r s = true) : s.lit = true ∧ s.acked = false ∧ s.level < r.steps.length := by
  unfold nsB at h
  simp at h
  exact ⟨h.1.1, h.1.2, h.2⟩

/-- The two ways of settling are one. -/
theorem se_ev (r : Rul) (s : St) (g t : Int) (i : Nat) : stepEv r s g t i = if seB r s g t = true then [⟨t, i, (stepSt r s g t).level⟩] else [] := by
  by_cases h0 : g = 0
  · unfold stepEv seB; rw [if_pos h0, if_pos h0]; rfl
  by_cases hl : s.lit = false
  · unfold stepEv seB stepSt; rw [if_neg h0, if_neg h0, if_neg h0, if_pos hl, if_pos hl, if_pos hl]; rfl
  have hl' : s.lit = true := by simpa using hl
  by_cases hc : s.level < r.steps.length ∧ s.acked = false ∧ t = s.since + r.steps.getD s.level.toNat 0
  · have hB : nsB r s = true := by unfold nsB; rw [hl', hc.2.1, decide_eq_true hc.1]; rfl
    have hV : nsV r s = t := by unfold nsV; rw [if_pos hB]; exact hc.2.2.symm
    have e : seB r s g t = true := by unfold seB; rw [if_neg h0, if_neg hl, hB, decide_eq_true hV]; rfl
    rw [e, if_pos rfl]
    obtain ⟨a, b⟩ := st_lev (i := i) h0 hl' hc
    rw [b, a]
  · have e : seB r s g t = false := by
      unfold seB
      rw [if_neg h0, if_neg hl]
      cases hB : nsB r s
      · rfl
      · obtain ⟨a1, a2, a3⟩ := ns_yes hB
        have hV : nsV r s = s.since + r.steps.getD s.level.toNat 0 := by unfold nsV; rw [if_pos hB]
        rw [decide_eq_false (by rw [hV]; intro h; exact hc ⟨a3, a2, h.symm⟩)]
        rfl
    rw [e, if_neg (by simp)]
    exact (st_idle (i := i) h0 hl' hc).2

set_option maxRecDepth 100000 in
set_option maxHeartbeats 2000000 in
theorem rsettle_any {r : Rul} {n : Nat} (hr : RuleOk r n) {s : St} (hs : StOk s) {a : Option Addr} {cap : Nat} {w : World} (hi : IntsAt w (.slice a r.steps.length cap) r.steps) (g t : Int) :
    Calls Tryz.prog 66 #[.agg #[.int .i64 r.guard, .slice a r.steps.length cap], s.val, .int .i64 g, .int .i64 t] w fun e w' => SlP r s g t w e w' := by
  have NS := hid (fun W (h : Below w.heap.size w W) => nextStep_any hr hs (w := W) (SlAt.below hi h (Nat.le_refl _)))
  obtain ⟨k0, k1, k2, k3⟩ := hs
  clear hi hr
  by_cases g0 : g = 0
  · have d0 : (g == 0) = true := beq_iff_eq.2 g0
    have R : Hid (∀ w', Below w.heap.size w w' → SlP r s g t w (.returned (.tuple #[.agg #[.bool false, .int .i64 0, .int .i64 0, .bool false], .bool false])) w') := fun w' h => ⟨by unfold seB stepSt; rw [if_pos g0, if_pos g0]; rfl, h⟩
    clear g0
    unfold St.val
    go_enter Tryz.func66, Tryz.ntmps66
    go_wp2
    exact bodyPost_ret (v := .tuple #[.agg #[.bool false, .int .i64 0, .int .i64 0, .bool false], .bool false]) (by simp [results, Tryz.results66, go_sem]) rfl (R.out _ (by repeat' (first | exact Below.refl _ _ | refine Below.drew ?_ | refine Below.setCell ?_ (by first | exact Nat.le_refl _ | (simp; done) | (simp; omega)) _ | refine Below.alloc ?_ (by first | exact Nat.le_refl _ | (simp; done) | (simp; omega)) _)))
  have d0 : (g == 0) = false := beq_eq_false_iff_ne.2 g0
  cases hl : s.lit
  · have R : Hid (∀ w', Below w.heap.size w w' → SlP r s g t w (.returned (.tuple #[.agg #[.bool true, .int .i64 t, .int .i64 0, .bool false], .bool true])) w') := fun w' h => ⟨by unfold seB stepSt; rw [if_neg g0, if_neg g0, if_pos hl, if_pos hl]; rfl, h⟩
    unfold St.val
    rw [hl]
    clear g0 hl
    go_enter Tryz.func66, Tryz.ntmps66
    go_wp2
    exact bodyPost_ret (v := .tuple #[.agg #[.bool true, .int .i64 t, .int .i64 0, .bool false], .bool true]) (by simp [results, Tryz.results66, go_sem]) rfl (R.out _ (by repeat' (first | exact Below.refl _ _ | refine Below.drew ?_ | refine Below.setCell ?_ (by first | exact Nat.le_refl _ | (simp; done) | (simp; omega)) _ | refine Below.alloc ?_ (by first | exact Nat.le_refl _ | (simp; done) | (simp; omega)) _)))
  · have WB : Hid (∀ o1 o2 o3, Below w.heap.size w (((w.alloc o1).alloc o2).alloc o3)) := fun _ _ _ => (((Below.refl _ _).alloc (Nat.le_refl _) _).alloc (by simp) _).alloc (by simp; omega) _
    have SE : Hid (seB r s g t = (nsB r s && decide (nsV r s = t))) := by show _ = _; unfold seB; rw [if_neg g0, if_neg (by simp [hl])]
    have ST : Hid (∀ h : seB r s g t = true, stepSt r s g t = ⟨s.lit, s.since, s.level + 1, s.acked⟩) := fun h => by
      rw [SE.out] at h
      simp at h
      obtain ⟨a1, a2, a3⟩ := ns_yes h.1
      exact (st_lev (i := 0) g0 hl ⟨a3, a2, by rw [← h.2]; unfold nsV; rw [if_pos h.1]⟩).1
    have SN : Hid (∀ h : seB r s g t = false, stepSt r s g t = s) := fun h => by
      refine (st_idle (i := 0) g0 hl (fun hc => ?_)).1
      have hB : nsB r s = true := by unfold nsB; rw [hl, hc.2.1, decide_eq_true hc.1]; rfl
      have hV : nsV r s = t := by unfold nsV; rw [if_pos hB]; exact hc.2.2.symm
      rw [SE.out, hB, decide_eq_true hV] at h
      cases h
    unfold St.val at NS ⊢
    rw [hl] at NS ⊢
    have HL := hid hl
    clear g0 hl
    go_enter Tryz.func66, Tryz.ntmps66
    go_wp2_with fail
    refine (NS.out _ (WB.out _ _ _)).mono ?_
    rintro e w1 ⟨rfl, q⟩
    have QB : Hid (Below w.heap.size w w1) := (WB.out _ _ _).trans (q.mono (by simp; omega))
    have RS : Hid (w1.rowIs (w.heap.size + 1) 71 4 (stf (fun _ => s))) := by
      have h1 := World.rowIs_alloc (w.alloc (.cells #[.int .i64 r.guard, .slice a r.steps.length cap] 51)) #[.bool true, .int .i64 s.since, .int .i64 s.level, .bool s.acked] 71 (stf (fun _ => s)) (fun i hi => by
        have hi' : i = 0 ∨ i = 1 ∨ i = 2 ∨ i = 3 := by simp at hi; omega
        rcases hi' with rfl | rfl | rfl | rfl
        · show some (Value.bool true) = some (Value.bool s.lit); rw [HL.out]
        · rfl
        · rfl
        · rfl)
      have h2 := h1.alloc (.cells #[.bool false, .int .i64 0, .int .i64 0, .bool false] 71)
      simp only [World.size_alloc] at h2
      exact h2.of_block (q.block _ (by simp))
    have RR : Hid (w1.rowIs (w.heap.size + 1 + 1) 71 4 (stf (fun _ => noSt))) := by
      have h1 := World.rowIs_alloc ((w.alloc (.cells #[.int .i64 r.guard, .slice a r.steps.length cap] 51)).alloc (.cells #[.bool true, .int .i64 s.since, .int .i64 s.level, .bool s.acked] 71)) #[.bool false, .int .i64 0, .int .i64 0, .bool false] 71 (stf (fun _ => noSt)) (fun i hi => by
        have hi' : i = 0 ∨ i = 1 ∨ i = 2 ∨ i = 3 := by simp at hi; omega
        rcases hi' with rfl | rfl | rfl | rfl <;> rfl)
      simp only [World.size_alloc] at h1
      exact h1.of_block (q.block _ (by simp))
    clear q NS WB
    have x0 := RS.out.cell (i := 0) (by omega)
    have x1 := RS.out.cell (i := 1) (by omega)
    have x2 := RS.out.cell (i := 2) (by omega)
    have x3 := RS.out.cell (i := 3) (by omega)
    have y0 := RR.out.cell (i := 0) (by omega)
    have y1 := RR.out.cell (i := 1) (by omega)
    have y2 := RR.out.cell (i := 2) (by omega)
    have y3 := RR.out.cell (i := 3) (by omega)
    simp [stf] at x0 x1 x2 x3 y0 y1 y2 y3
    rw [HL.out] at x0
    have fz : ∀ j, w1.frozen? ⟨w.heap.size + 1, j, none⟩ = false := fun j => RS.out.frozen j
    have fr : ∀ j, w1.frozen? ⟨w.heap.size + 1 + 1, j, none⟩ = false := fun j => RR.out.frozen j
    have zs := RS.out.lt
    have zr := RR.out.lt
    by_cases hc : nsB r s = true ∧ nsV r s = t
    · obtain ⟨hB, hV⟩ := hc
      have se : seB r s g t = true := by rw [SE.out, hB, decide_eq_true hV]; rfl
      have R : Hid (∀ w', Below w.heap.size w w' → SlP r s g t w (.returned (.tuple #[.agg #[.bool true, .int .i64 s.since, .int .i64 (s.level + 1), .bool s.acked], .bool true])) w') := fun w' h => ⟨by rw [se, ST.out se]; unfold St.val; rw [HL.out], h⟩
      have dV : (nsV r s == t) = true := beq_iff_eq.2 hV
      rw [hB]
      clear hB hV se RS
      have FR : Hid ((((((w1.setCell ⟨w.heap.size + 1, 2, none⟩ (.int .i64 (s.level + 1))).setCell ⟨w.heap.size + 1 + 1, 0, none⟩ (.bool true)).setCell ⟨w.heap.size + 1 + 1, 1, none⟩ (.int .i64 s.since)).setCell ⟨w.heap.size + 1 + 1, 2, none⟩ (.int .i64 (s.level + 1))).setCell ⟨w.heap.size + 1 + 1, 3, none⟩ (.bool s.acked)).rowIs (w.heap.size + 1 + 1) 71 4 _) := ((((RR.out.setOther (by show w.heap.size + 1 + 1 ≠ w.heap.size + 1; omega) _).set 0 _).set 1 _).set 2 _).set 3 _
      have QF := hid (R.out (((((w1.setCell ⟨w.heap.size + 1, 2, none⟩ (.int .i64 (s.level + 1))).setCell ⟨w.heap.size + 1 + 1, 0, none⟩ (.bool true)).setCell ⟨w.heap.size + 1 + 1, 1, none⟩ (.int .i64 s.since)).setCell ⟨w.heap.size + 1 + 1, 2, none⟩ (.int .i64 (s.level + 1))).setCell ⟨w.heap.size + 1 + 1, 3, none⟩ (.bool s.acked)) (by repeat' (first | exact QB.out | refine Below.drew ?_ | refine Below.setCell ?_ (by first | exact Nat.le_refl _ | (simp; done) | (simp; omega)) _)))
      go_wp2
      have p0 := FR.out.cell (i := 0) (by omega)
      have p1 := FR.out.cell (i := 1) (by omega)
      have p2 := FR.out.cell (i := 2) (by omega)
      have p3 := FR.out.cell (i := 3) (by omega)
      simp at p0 p1 p2 p3
      clear FR R x0 x1 x2 x3 y0 y1 y2 y3 fz fr QB
      generalize (((((w1.setCell ⟨w.heap.size + 1, 2, none⟩ (.int .i64 (s.level + 1))).setCell ⟨w.heap.size + 1 + 1, 0, none⟩ (.bool true)).setCell ⟨w.heap.size + 1 + 1, 1, none⟩ (.int .i64 s.since)).setCell ⟨w.heap.size + 1 + 1, 2, none⟩ (.int .i64 (s.level + 1))).setCell ⟨w.heap.size + 1 + 1, 3, none⟩ (.bool s.acked)) = FW at *
      exact bodyPost_ret (v := .tuple #[.agg #[.bool true, .int .i64 s.since, .int .i64 (s.level + 1), .bool s.acked], .bool true]) (by simp [results, Tryz.results66, go_sem, p0, p1, p2, p3]) rfl QF.out
    · have se : seB r s g t = false := by
        rw [SE.out]
        cases hB : nsB r s
        · rfl
        · rw [decide_eq_false (fun h => hc ⟨hB, h⟩)]; rfl
      have R : Hid (∀ w', Below w.heap.size w w' → SlP r s g t w (.returned (.tuple #[.agg #[.bool true, .int .i64 s.since, .int .i64 s.level, .bool s.acked], .bool false])) w') := fun w' h => ⟨by rw [se, SN.out se]; unfold St.val; rw [HL.out], h⟩
      cases hB : nsB r s
      · clear hB hc se RS
        have FR : Hid (((((w1.setCell ⟨w.heap.size + 1 + 1, 0, none⟩ (.bool true)).setCell ⟨w.heap.size + 1 + 1, 1, none⟩ (.int .i64 s.since)).setCell ⟨w.heap.size + 1 + 1, 2, none⟩ (.int .i64 s.level)).setCell ⟨w.heap.size + 1 + 1, 3, none⟩ (.bool s.acked)).rowIs (w.heap.size + 1 + 1) 71 4 _) := (((RR.out.set 0 _).set 1 _).set 2 _).set 3 _
        have QF := hid (R.out ((((w1.setCell ⟨w.heap.size + 1 + 1, 0, none⟩ (.bool true)).setCell ⟨w.heap.size + 1 + 1, 1, none⟩ (.int .i64 s.since)).setCell ⟨w.heap.size + 1 + 1, 2, none⟩ (.int .i64 s.level)).setCell ⟨w.heap.size + 1 + 1, 3, none⟩ (.bool s.acked)) (by repeat' (first | exact QB.out | refine Below.drew ?_ | refine Below.setCell ?_ (by first | exact Nat.le_refl _ | (simp; done) | (simp; omega)) _)))
        go_wp2
        have p0 := FR.out.cell (i := 0) (by omega)
        have p1 := FR.out.cell (i := 1) (by omega)
        have p2 := FR.out.cell (i := 2) (by omega)
        have p3 := FR.out.cell (i := 3) (by omega)
        simp at p0 p1 p2 p3
        clear FR R x0 x1 x2 x3 y0 y1 y2 y3 fz fr QB
        generalize ((((w1.setCell ⟨w.heap.size + 1 + 1, 0, none⟩ (.bool true)).setCell ⟨w.heap.size + 1 + 1, 1, none⟩ (.int .i64 s.since)).setCell ⟨w.heap.size + 1 + 1, 2, none⟩ (.int .i64 s.level)).setCell ⟨w.heap.size + 1 + 1, 3, none⟩ (.bool s.acked)) = FW at *
        exact bodyPost_ret (v := .tuple #[.agg #[.bool true, .int .i64 s.since, .int .i64 s.level, .bool s.acked], .bool false]) (by simp [results, Tryz.results66, go_sem, p0, p1, p2, p3]) rfl QF.out
      · have dV : (nsV r s == t) = false := beq_eq_false_iff_ne.2 (fun h => hc ⟨hB, h⟩)
        clear hB hc se RS
        have FR : Hid (((((w1.setCell ⟨w.heap.size + 1 + 1, 0, none⟩ (.bool true)).setCell ⟨w.heap.size + 1 + 1, 1, none⟩ (.int .i64 s.since)).setCell ⟨w.heap.size + 1 + 1, 2, none⟩ (.int .i64 s.level)).setCell ⟨w.heap.size + 1 + 1, 3, none⟩ (.bool s.acked)).rowIs (w.heap.size + 1 + 1) 71 4 _) := (((RR.out.set 0 _).set 1 _).set 2 _).set 3 _
        have QF := hid (R.out ((((w1.setCell ⟨w.heap.size + 1 + 1, 0, none⟩ (.bool true)).setCell ⟨w.heap.size + 1 + 1, 1, none⟩ (.int .i64 s.since)).setCell ⟨w.heap.size + 1 + 1, 2, none⟩ (.int .i64 s.level)).setCell ⟨w.heap.size + 1 + 1, 3, none⟩ (.bool s.acked)) (by repeat' (first | exact QB.out | refine Below.drew ?_ | refine Below.setCell ?_ (by first | exact Nat.le_refl _ | (simp; done) | (simp; omega)) _)))
        go_wp2
        have p0 := FR.out.cell (i := 0) (by omega)
        have p1 := FR.out.cell (i := 1) (by omega)
        have p2 := FR.out.cell (i := 2) (by omega)
        have p3 := FR.out.cell (i := 3) (by omega)
        simp at p0 p1 p2 p3
        clear FR R x0 x1 x2 x3 y0 y1 y2 y3 fz fr QB
        generalize ((((w1.setCell ⟨w.heap.size + 1 + 1, 0, none⟩ (.bool true)).setCell ⟨w.heap.size + 1 + 1, 1, none⟩ (.int .i64 s.since)).setCell ⟨w.heap.size + 1 + 1, 2, none⟩ (.int .i64 s.level)).setCell ⟨w.heap.size + 1 + 1, 3, none⟩ (.bool s.acked)) = FW at *
        exact bodyPost_ret (v := .tuple #[.agg #[.bool true, .int .i64 s.since, .int .i64 s.level, .bool s.acked], .bool false]) (by simp [results, Tryz.results66, go_sem, p0, p1, p2, p3]) rfl QF.out

end Go.Proofs.YtmofidaojmiepaaGreatDoor
