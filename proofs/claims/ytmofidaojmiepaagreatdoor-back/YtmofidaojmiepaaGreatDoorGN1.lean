/-
  THE LAW: docketkeep: a form with noughts, or with numbers, where a cell's row names nothing.
-/
import Derived.Test.YtmofidaojmiepaaGreatDoorGT1
import Derived.Test.YtmofidaojmiepaaGreatDoorGY11
set_option linter.unusedVariables false
set_option linter.unusedSimpArgs false
namespace Go.Proofs.YtmofidaojmiepaaGreatDoor
open Go.RowKit
attribute [local go_sem ↓] Go.wp_at_zero Go.wp_at_succ

/-- The memory of a form whose cells are being made anew. -/
structure NI (w : World) (f : Frm) (C' : Nat → Cel) (aC aR aH : Option Addr) (cC cR cH : Nat) (i : Nat) (vC : Value) (wr : World) : Prop where
  own : wr.ownsRow (w.heap.size + 1 + 1 + 1) 47 5 vC i (cells5 C' i)
  low : Below w.heap.size w wr
  src : wr.rowIs w.heap.size 26 4 (f4 (.slice aC f.n cC) (.slice aR f.k cR) (.int .i64 f.week) (.slice aH f.hol.length cH))
  res : wr.rowIs (w.heap.size + 1) 26 4 (f4 (.slice none 0 0) (.slice none 0 0) (.int .i64 0) (.slice none 0 0))
  box : wr.rowIs (w.heap.size + 1 + 1) 26 4 (f4 vC (.slice aR f.k cR) (.int .i64 f.week) (.slice aH f.hol.length cH))

theorem NI.below {w : World} {f : Frm} {C' : Nat → Cel} {aC aR aH : Option Addr} {cC cR cH i : Nat} {vC : Value} {wr w' : World} (h : NI w f C' aC aR aH cC cR cH i vC wr) (hb : Below wr.heap.size wr w') : NI w f C' aC aR aH cC cR cH i vC w' :=
  ⟨own_of_block h.own (fun g _ hl => hb.block g hl), h.low.trans (hb.mono h.low.size), h.src.of_block (hb.block _ h.src.lt), h.res.of_block (hb.block _ h.res.lt), h.box.of_block (hb.block _ h.box.lt)⟩
theorem NI.add {w : World} {f : Frm} {C' : Nat → Cel} {aC aR aH : Option Addr} {cC cR cH i : Nat} {vC v' : Value} {w5 w6 : World} {o : Obj} {c : Cel} (h : NI w f C' aC aR aH cC cR cH i vC w5) (hc : C' i = c)
    (hown : w6.ownsRow (w.heap.size + 1 + 1 + 1) 47 5 v' (i + 1) (cells5 C' i ++ [.int .i64 c.kind, .int .i64 c.a, .int .i64 c.b, .int .i64 c.c, .int .i64 c.k])) (hg : (w5.alloc o).grownBy w6 vC.ownBlock) :
    NI w f C' aC aR aH cC cR cH (i + 1) v' (w6.setCell ⟨w.heap.size + 1 + 1, 0, none⟩ v') := by
  have far : ∀ g, g < w5.heap.size → vC.ownBlock ≠ some g → w6.heap[g]? = w5.heap[g]? := fun g hl hn => ev_far0 w5 _ hg hl hn
  have rb : w6.rowIs (w.heap.size + 1 + 1) 26 4 _ := h.box.of_block (far _ h.box.lt (own_ne_row h.own h.box (by decide)))
  have rs : w6.rowIs w.heap.size 26 4 _ := h.src.of_block (far _ h.src.lt (own_ne_row h.own h.src (by decide)))
  have rr : w6.rowIs (w.heap.size + 1) 26 4 _ := h.res.of_block (far _ h.res.lt (own_ne_row h.own h.res (by decide)))
  have gb : Below w.heap.size w5 w6 := grow_below0 hg h.low.size (fun g hg' => by have := own_base h.own hg'; omega)
  refine ⟨?_, (h.low.trans gb).setCell (by show _ ≤ w.heap.size + 1 + 1; omega) _, rs.setOther (by show _ ≠ w.heap.size + 1 + 1; omega) _, rr.setOther (by show _ ≠ w.heap.size + 1 + 1; omega) _, (rb.set 0 _).congr (fun j hj => ?_)⟩
  · rw [cells5_more, hc]
    exact ownsRow_setCell_below hown (show w.heap.size + 1 + 1 < w.heap.size + 1 + 1 + 1 by omega) _
  · have : j = 0 ∨ j = 1 ∨ j = 2 ∨ j = 3 := by omega
    rcases this with rfl | rfl | rfl | rfl <;> rfl

theorem six {kd : Int} (h0 : 0 ≤ kd) (h1 : kd ≤ 12) : (M.needs kd = 0 ∧ kd ≠ 11 ∧ kd ≠ 12) ∨ (kd = 10) ∨ (kd = 11) ∨ (kd = 12) ∨ (M.needs kd = 2 ∧ kd ≠ 11 ∧ kd ≠ 12) ∨ (M.needs kd = 3 ∧ kd ≠ 11 ∧ kd ≠ 12) := by
  have : kd = 0 ∨ kd = 1 ∨ kd = 2 ∨ kd = 3 ∨ kd = 4 ∨ kd = 5 ∨ kd = 6 ∨ kd = 7 ∨ kd = 8 ∨ kd = 9 ∨ kd = 10 ∨ kd = 11 ∨ kd = 12 := by omega
  rcases this with rfl | rfl | rfl | rfl | rfl | rfl | rfl | rfl | rfl | rfl | rfl | rfl | rfl <;> decide

/-- What makes a form anew leaves. -/
def NfP (g : Frm) (w : World) (e : Ending) (w' : World) : Prop := ∃ fv, e = .returned fv ∧ FAt w' g fv ∧ Below w.heap.size w w'

theorem box_row4 (w : World) (a b c d : Value) : (w.alloc (.cells #[a, b, c, d] 26)).rowIs w.heap.size 26 4 (f4 a b c d) := World.rowIs_alloc w #[a, b, c, d] 26 _ (fun i hi => by
  have : i = 0 ∨ i = 1 ∨ i = 2 ∨ i = 3 := by simp at hi; omega
  rcases this with rfl | rfl | rfl | rfl <;> rfl)

set_option maxRecDepth 100000 in
set_option maxHeartbeats 4000000 in
theorem knoisy_any {f : Frm} {w : World} {fv : Value} {n n1 n2 : Int} (e1 : IntKind.i64.wrap (n - 1) = n1) (e2 : IntKind.i64.wrap (n - 2) = n2) (hf : f.Ok) (hfv : FAt w f fv) :
    Calls Tryz.prog 5 #[fv, .int .i64 n] w fun e w' => NfP (f.noise n n1 n2) w e w' := by
  obtain ⟨i76, y1, y2⟩ := Option.map_eq_some_iff.1 info76
  simp only [Prod.mk.injEq] at y2
  have I76 := hid y1
  have Z76 := hid y2
  clear y1 y2
  obtain ⟨aC, cC, aR, cR, aH, cH, rfl, h1, h2, h3⟩ := hfv
  obtain ⟨n1', n20, _, _, _⟩ := hf.sizes
  have CE := hid hf.cells
  have H1 := hid h1
  have FIN : Hid (∀ W aC' cC', Below w.heap.size w W → CAt W aC' f.n (f.noise n n1 n2).C → FAt W (f.noise n n1 n2) (.agg #[.slice aC' f.n cC', .slice aR f.k cR, .int .i64 f.week, .slice aH f.hol.length cH])) := fun W aC' cC' hb hc => ⟨aC', cC', aR, cR, aH, cH, rfl, hc, h2.below hb, SlAt.below h3 hb (Nat.le_refl _)⟩
  have N0 : Hid (NI w f (f.noise n n1 n2).C aC aR aH cC cR cH 0 (.slice none 0 0) (((w.alloc (.cells #[.slice aC f.n cC, .slice aR f.k cR, .int .i64 f.week, .slice aH f.hol.length cH] 26)).alloc (.cells #[.slice none 0 0, .slice none 0 0, .int .i64 0, .slice none 0 0] 26)).alloc (.cells #[.slice none 0 0, .slice aR f.k cR, .int .i64 f.week, .slice aH f.hol.length cH] 26))) := by
    have r1 := box_row4 w (.slice aC f.n cC) (.slice aR f.k cR) (.int .i64 f.week) (.slice aH f.hol.length cH)
    have r2 := box_row4 (w.alloc (.cells #[.slice aC f.n cC, .slice aR f.k cR, .int .i64 f.week, .slice aH f.hol.length cH] 26)) (.slice none 0 0) (.slice none 0 0) (.int .i64 0) (.slice none 0 0)
    have r3 := box_row4 ((w.alloc (.cells #[.slice aC f.n cC, .slice aR f.k cR, .int .i64 f.week, .slice aH f.hol.length cH] 26)).alloc (.cells #[.slice none 0 0, .slice none 0 0, .int .i64 0, .slice none 0 0] 26)) (.slice none 0 0) (.slice aR f.k cR) (.int .i64 f.week) (.slice aH f.hol.length cH)
    simp only [World.size_alloc] at r2 r3
    refine ⟨own_nil _ _ _ _, (((Below.refl _ _).alloc (Nat.le_refl _) _).alloc (by simp) _).alloc (by simp; omega) _, (r1.alloc _).alloc _, r2.alloc _, r3⟩
  clear h1 h2 h3 hf
  go_enter Tryz.func5, Tryz.ntmps5
  go_wp2_with fail
  generalize (((w.alloc (.cells #[.slice aC f.n cC, .slice aR f.k cR, .int .i64 f.week, .slice aH f.hol.length cH] 26)).alloc (.cells #[.slice none 0 0, .slice none 0 0, .int .i64 0, .slice none 0 0] 26)).alloc (.cells #[.slice none 0 0, .slice aR f.k cR, .int .i64 f.week, .slice aH f.hol.length cH] 26)) = wB at *
  go_loopw [6] (fun t wr => ∃ (i : Nat) (vC : Value), i ≤ f.n ∧ t = .int .i64 i ∧ Hid (NI w f (f.noise n n1 n2).C aC aR aH cC cR cH i vC wr)) (fun t _ => f.n - (intOf t).toNat)
  case atStart => exact ⟨0, .slice none 0 0, by omega, by go_num, N0⟩
  case round =>
    clear N0
    obtain ⟨i, vC, i1, rfl, hN⟩ := hrel
    have s0 : wr.cell? ⟨w.heap.size, 0, none⟩ = some (.slice aC f.n cC) := hN.out.src.cell (i := 0) (by omega)
    have zs := hN.out.src.lt
    by_cases hit : i < f.n
    · obtain ⟨bC, oC, ea, hbC, hcc⟩ : ∃ bC oC, aC = some ⟨bC, oC, none⟩ ∧ bC < wr.heap.size ∧ CelIs wr bC (oC + i * 5) (f.C i) := by
        rcases H1.out.below hN.out.low with h0 | ⟨b, o, e, hb, hc⟩
        · omega
        · exact ⟨b, o, e, hb, hc i hit⟩
      subst ea
      obtain ⟨k0, k1, _⟩ := CE.out i hit
      have CI : Hid ((f.noise n n1 n2).C i = noiseC n n1 n2 (f.C i)) := rfl
      obtain ⟨u0, u1, u2, u3, u4⟩ := hcc
      rcases hC : f.C i with ⟨kd, ca, cb, cc, ck⟩
      rw [hC] at u0 u1 u2 u3 u4 k0 k1 CI
      simp only at u0 u1 u2 u3 u4 k0 k1
      clear hC
      have ND := hid (fun W => kneeds_any kd W k0 k1)
      rcases six k0 k1 with ⟨q, n11, n12⟩ | q | q | q | ⟨q, n11, n12⟩ | ⟨q, n11, n12⟩
      · have x11 : (kd != 11) = true := bne_iff_ne.2 n11
        have x12 : (kd != 12) = true := bne_iff_ne.2 n12
        rw [q] at ND
        have CV : Hid ((f.noise n n1 n2).C i = ⟨kd, n, n1, n2, ck⟩) := by
          show _ = _
          rw [CI.out]
          unfold noiseC
          simp [q, n11, n12, hasKB]
        clear CI
        go_wp2_with fail
        refine (ND.out _).mono ?_
        rintro e w1 ⟨rfl, hw1⟩
        rw [hw1]
        clear hw1 w1 ND
        go_upto_region 15 with (fail)
        have BA : Hid (Below wr.heap.size wr (wr.alloc (.cells #[.int .i64 kd, .int .i64 n, .int .i64 n1, .int .i64 n2, .int .i64 ck] 47))) := by
          first
            | exact (Below.refl _ _).alloc (Nat.le_refl _) _
            | exact ((Below.refl _ _).alloc (Nat.le_refl _) _).alloc (by simp) _
        have N4 := hid (hN.out.below BA.out)
        have y0 : (wr.alloc (.cells #[.int .i64 kd, .int .i64 n, .int .i64 n1, .int .i64 n2, .int .i64 ck] 47)).cell? ⟨wr.heap.size, 0, none⟩ = some (.int .i64 kd) := by simp
        have y1 : (wr.alloc (.cells #[.int .i64 kd, .int .i64 n, .int .i64 n1, .int .i64 n2, .int .i64 ck] 47)).cell? ⟨wr.heap.size, 1, none⟩ = some (.int .i64 n) := by simp
        have y2 : (wr.alloc (.cells #[.int .i64 kd, .int .i64 n, .int .i64 n1, .int .i64 n2, .int .i64 ck] 47)).cell? ⟨wr.heap.size, 2, none⟩ = some (.int .i64 n1) := by simp
        have y3 : (wr.alloc (.cells #[.int .i64 kd, .int .i64 n, .int .i64 n1, .int .i64 n2, .int .i64 ck] 47)).cell? ⟨wr.heap.size, 3, none⟩ = some (.int .i64 n2) := by simp
        have y4 : (wr.alloc (.cells #[.int .i64 kd, .int .i64 n, .int .i64 n1, .int .i64 n2, .int .i64 ck] 47)).cell? ⟨wr.heap.size, 4, none⟩ = some (.int .i64 ck) := by simp
        have zx : wr.heap.size < (wr.alloc (.cells #[.int .i64 kd, .int .i64 n, .int .i64 n1, .int .i64 n2, .int .i64 ck] 47)).heap.size := by simp
        clear hN u0 u1 u2 u3 u4 BA s0
        generalize (wr.alloc (.cells #[.int .i64 kd, .int .i64 n, .int .i64 n1, .int .i64 n2, .int .i64 ck] 47)) = w4 at *
        have d0 : w4.cell? ⟨w.heap.size + 1 + 1, 0, none⟩ = some vC := N4.out.box.cell (i := 0) (by omega)
        have d9 := N4.out.box.frozen 0
        have zf := N4.out.box.lt
        go_wp2_with (at_builtin; refine wpList_append_lies _ rfl (.tmp 60) (.tmp 62) 22 rfl (w.heap.size + 1 + 1 + 1) 47 i76 _ 5 40 Tryz.underlying22 I76.out Z76.out.1 Z76.out.2.1 Z76.out.2.2 rfl (by omega) vC i (cells5 (f.noise n n1 n2).C i) (by rfl) (own_alloc0 N4.out.own _) ⟨w4.heap.size, 0, none⟩ 1 1 [.int .i64 kd, .int .i64 n, .int .i64 n1, .int .i64 n2, .int .i64 ck] (by rfl) (by rfl) (news5k _ _ _ _ _ _ _ rfl) (by simp [Value.oneCell']) (by omega) (by unfold maxLen; omega) (by omega) (by simp; omega) (w4.heap.size + 1) (by simp) ?_; intro g5 cap5 w6 hown2 hgrow hat hlt5; refine stopH ?_)
        have N6 := hid (N4.out.add CV.out hown2 hgrow)
        have hbk : w6.heap[w.heap.size + 1 + 1]? = w4.heap[w.heap.size + 1 + 1]? := ev_far0 w4 _ hgrow zf (own_ne_row N4.out.own N4.out.box (by decide))
        have e8 : w6.cell? ⟨w.heap.size + 1 + 1, 0, none⟩ = some vC := by rw [World.cell?_of_block (w := w4) hbk]; exact d0
        have e9 : w6.frozen? ⟨w.heap.size + 1 + 1, 0, none⟩ = false := by rw [World.frozen?_of_block (w := w4) hbk]; exact d9
        have s6 := hgrow.size
        simp at s6
        have z6 : w.heap.size + 1 + 1 < w6.heap.size := by omega
        clear hown2 hgrow hat hlt5 hbk d0 d9 y0 y1 y2 y3 y4 N4 CV
        refine hid ?_
        go_wp2
        go_roundw
        case rel => exact ⟨i + 1, _, by omega, by go_num, N6⟩
        case measure => simp [intOf]; omega
      · subst q
        have q : M.needs 10 = 1 := by decide
        rw [q] at ND
        have CV : Hid ((f.noise n n1 n2).C i = ⟨10, ca, n1, n2, n⟩) := by
          show _ = _
          rw [CI.out]
          unfold noiseC
          simp [q, hasKB]
        clear CI
        go_wp2_with fail
        refine (ND.out _).mono ?_
        rintro e w1 ⟨rfl, hw1⟩
        rw [hw1]
        clear hw1 w1 ND
        go_upto_region 15 with (fail)
        have BA : Hid (Below wr.heap.size wr (wr.alloc (.cells #[.int .i64 10, .int .i64 ca, .int .i64 n1, .int .i64 n2, .int .i64 n] 47))) := by
          first
            | exact (Below.refl _ _).alloc (Nat.le_refl _) _
            | exact ((Below.refl _ _).alloc (Nat.le_refl _) _).alloc (by simp) _
        have N4 := hid (hN.out.below BA.out)
        have y0 : (wr.alloc (.cells #[.int .i64 10, .int .i64 ca, .int .i64 n1, .int .i64 n2, .int .i64 n] 47)).cell? ⟨wr.heap.size, 0, none⟩ = some (.int .i64 10) := by simp
        have y1 : (wr.alloc (.cells #[.int .i64 10, .int .i64 ca, .int .i64 n1, .int .i64 n2, .int .i64 n] 47)).cell? ⟨wr.heap.size, 1, none⟩ = some (.int .i64 ca) := by simp
        have y2 : (wr.alloc (.cells #[.int .i64 10, .int .i64 ca, .int .i64 n1, .int .i64 n2, .int .i64 n] 47)).cell? ⟨wr.heap.size, 2, none⟩ = some (.int .i64 n1) := by simp
        have y3 : (wr.alloc (.cells #[.int .i64 10, .int .i64 ca, .int .i64 n1, .int .i64 n2, .int .i64 n] 47)).cell? ⟨wr.heap.size, 3, none⟩ = some (.int .i64 n2) := by simp
        have y4 : (wr.alloc (.cells #[.int .i64 10, .int .i64 ca, .int .i64 n1, .int .i64 n2, .int .i64 n] 47)).cell? ⟨wr.heap.size, 4, none⟩ = some (.int .i64 n) := by simp
        have zx : wr.heap.size < (wr.alloc (.cells #[.int .i64 10, .int .i64 ca, .int .i64 n1, .int .i64 n2, .int .i64 n] 47)).heap.size := by simp
        clear hN u0 u1 u2 u3 u4 BA s0
        generalize (wr.alloc (.cells #[.int .i64 10, .int .i64 ca, .int .i64 n1, .int .i64 n2, .int .i64 n] 47)) = w4 at *
        have d0 : w4.cell? ⟨w.heap.size + 1 + 1, 0, none⟩ = some vC := N4.out.box.cell (i := 0) (by omega)
        have d9 := N4.out.box.frozen 0
        have zf := N4.out.box.lt
        go_wp2_with (at_builtin; refine wpList_append_lies _ rfl (.tmp 60) (.tmp 62) 22 rfl (w.heap.size + 1 + 1 + 1) 47 i76 _ 5 40 Tryz.underlying22 I76.out Z76.out.1 Z76.out.2.1 Z76.out.2.2 rfl (by omega) vC i (cells5 (f.noise n n1 n2).C i) (by rfl) (own_alloc0 N4.out.own _) ⟨w4.heap.size, 0, none⟩ 1 1 [.int .i64 10, .int .i64 ca, .int .i64 n1, .int .i64 n2, .int .i64 n] (by rfl) (by rfl) (news5k _ _ _ _ _ _ _ rfl) (by simp [Value.oneCell']) (by omega) (by unfold maxLen; omega) (by omega) (by simp; omega) (w4.heap.size + 1) (by simp) ?_; intro g5 cap5 w6 hown2 hgrow hat hlt5; refine stopH ?_)
        have N6 := hid (N4.out.add CV.out hown2 hgrow)
        have hbk : w6.heap[w.heap.size + 1 + 1]? = w4.heap[w.heap.size + 1 + 1]? := ev_far0 w4 _ hgrow zf (own_ne_row N4.out.own N4.out.box (by decide))
        have e8 : w6.cell? ⟨w.heap.size + 1 + 1, 0, none⟩ = some vC := by rw [World.cell?_of_block (w := w4) hbk]; exact d0
        have e9 : w6.frozen? ⟨w.heap.size + 1 + 1, 0, none⟩ = false := by rw [World.frozen?_of_block (w := w4) hbk]; exact d9
        have s6 := hgrow.size
        simp at s6
        have z6 : w.heap.size + 1 + 1 < w6.heap.size := by omega
        clear hown2 hgrow hat hlt5 hbk d0 d9 y0 y1 y2 y3 y4 N4 CV
        refine hid ?_
        go_wp2
        go_roundw
        case rel => exact ⟨i + 1, _, by omega, by go_num, N6⟩
        case measure => simp [intOf]; omega
      · subst q
        have q : M.needs 11 = 1 := by decide
        rw [q] at ND
        have CV : Hid ((f.noise n n1 n2).C i = ⟨11, ca, n1, n2, ck⟩) := by
          show _ = _
          rw [CI.out]
          unfold noiseC
          simp [q, hasKB]
        clear CI
        go_wp2_with fail
        refine (ND.out _).mono ?_
        rintro e w1 ⟨rfl, hw1⟩
        rw [hw1]
        clear hw1 w1 ND
        go_upto_region 15 with (fail)
        have BA : Hid (Below wr.heap.size wr (wr.alloc (.cells #[.int .i64 11, .int .i64 ca, .int .i64 n1, .int .i64 n2, .int .i64 ck] 47))) := by
          first
            | exact (Below.refl _ _).alloc (Nat.le_refl _) _
            | exact ((Below.refl _ _).alloc (Nat.le_refl _) _).alloc (by simp) _
        have N4 := hid (hN.out.below BA.out)
        have y0 : (wr.alloc (.cells #[.int .i64 11, .int .i64 ca, .int .i64 n1, .int .i64 n2, .int .i64 ck] 47)).cell? ⟨wr.heap.size, 0, none⟩ = some (.int .i64 11) := by simp
        have y1 : (wr.alloc (.cells #[.int .i64 11, .int .i64 ca, .int .i64 n1, .int .i64 n2, .int .i64 ck] 47)).cell? ⟨wr.heap.size, 1, none⟩ = some (.int .i64 ca) := by simp
        have y2 : (wr.alloc (.cells #[.int .i64 11, .int .i64 ca, .int .i64 n1, .int .i64 n2, .int .i64 ck] 47)).cell? ⟨wr.heap.size, 2, none⟩ = some (.int .i64 n1) := by simp
        have y3 : (wr.alloc (.cells #[.int .i64 11, .int .i64 ca, .int .i64 n1, .int .i64 n2, .int .i64 ck] 47)).cell? ⟨wr.heap.size, 3, none⟩ = some (.int .i64 n2) := by simp
        have y4 : (wr.alloc (.cells #[.int .i64 11, .int .i64 ca, .int .i64 n1, .int .i64 n2, .int .i64 ck] 47)).cell? ⟨wr.heap.size, 4, none⟩ = some (.int .i64 ck) := by simp
        have zx : wr.heap.size < (wr.alloc (.cells #[.int .i64 11, .int .i64 ca, .int .i64 n1, .int .i64 n2, .int .i64 ck] 47)).heap.size := by simp
        clear hN u0 u1 u2 u3 u4 BA s0
        generalize (wr.alloc (.cells #[.int .i64 11, .int .i64 ca, .int .i64 n1, .int .i64 n2, .int .i64 ck] 47)) = w4 at *
        have d0 : w4.cell? ⟨w.heap.size + 1 + 1, 0, none⟩ = some vC := N4.out.box.cell (i := 0) (by omega)
        have d9 := N4.out.box.frozen 0
        have zf := N4.out.box.lt
        go_wp2_with (at_builtin; refine wpList_append_lies _ rfl (.tmp 60) (.tmp 62) 22 rfl (w.heap.size + 1 + 1 + 1) 47 i76 _ 5 40 Tryz.underlying22 I76.out Z76.out.1 Z76.out.2.1 Z76.out.2.2 rfl (by omega) vC i (cells5 (f.noise n n1 n2).C i) (by rfl) (own_alloc0 N4.out.own _) ⟨w4.heap.size, 0, none⟩ 1 1 [.int .i64 11, .int .i64 ca, .int .i64 n1, .int .i64 n2, .int .i64 ck] (by rfl) (by rfl) (news5k _ _ _ _ _ _ _ rfl) (by simp [Value.oneCell']) (by omega) (by unfold maxLen; omega) (by omega) (by simp; omega) (w4.heap.size + 1) (by simp) ?_; intro g5 cap5 w6 hown2 hgrow hat hlt5; refine stopH ?_)
        have N6 := hid (N4.out.add CV.out hown2 hgrow)
        have hbk : w6.heap[w.heap.size + 1 + 1]? = w4.heap[w.heap.size + 1 + 1]? := ev_far0 w4 _ hgrow zf (own_ne_row N4.out.own N4.out.box (by decide))
        have e8 : w6.cell? ⟨w.heap.size + 1 + 1, 0, none⟩ = some vC := by rw [World.cell?_of_block (w := w4) hbk]; exact d0
        have e9 : w6.frozen? ⟨w.heap.size + 1 + 1, 0, none⟩ = false := by rw [World.frozen?_of_block (w := w4) hbk]; exact d9
        have s6 := hgrow.size
        simp at s6
        have z6 : w.heap.size + 1 + 1 < w6.heap.size := by omega
        clear hown2 hgrow hat hlt5 hbk d0 d9 y0 y1 y2 y3 y4 N4 CV
        refine hid ?_
        go_wp2
        go_roundw
        case rel => exact ⟨i + 1, _, by omega, by go_num, N6⟩
        case measure => simp [intOf]; omega
      · subst q
        have q : M.needs 12 = 1 := by decide
        rw [q] at ND
        have CV : Hid ((f.noise n n1 n2).C i = ⟨12, ca, n1, n2, ck⟩) := by
          show _ = _
          rw [CI.out]
          unfold noiseC
          simp [q, hasKB]
        clear CI
        go_wp2_with fail
        refine (ND.out _).mono ?_
        rintro e w1 ⟨rfl, hw1⟩
        rw [hw1]
        clear hw1 w1 ND
        go_upto_region 15 with (fail)
        have BA : Hid (Below wr.heap.size wr (wr.alloc (.cells #[.int .i64 12, .int .i64 ca, .int .i64 n1, .int .i64 n2, .int .i64 ck] 47))) := by
          first
            | exact (Below.refl _ _).alloc (Nat.le_refl _) _
            | exact ((Below.refl _ _).alloc (Nat.le_refl _) _).alloc (by simp) _
        have N4 := hid (hN.out.below BA.out)
        have y0 : (wr.alloc (.cells #[.int .i64 12, .int .i64 ca, .int .i64 n1, .int .i64 n2, .int .i64 ck] 47)).cell? ⟨wr.heap.size, 0, none⟩ = some (.int .i64 12) := by simp
        have y1 : (wr.alloc (.cells #[.int .i64 12, .int .i64 ca, .int .i64 n1, .int .i64 n2, .int .i64 ck] 47)).cell? ⟨wr.heap.size, 1, none⟩ = some (.int .i64 ca) := by simp
        have y2 : (wr.alloc (.cells #[.int .i64 12, .int .i64 ca, .int .i64 n1, .int .i64 n2, .int .i64 ck] 47)).cell? ⟨wr.heap.size, 2, none⟩ = some (.int .i64 n1) := by simp
        have y3 : (wr.alloc (.cells #[.int .i64 12, .int .i64 ca, .int .i64 n1, .int .i64 n2, .int .i64 ck] 47)).cell? ⟨wr.heap.size, 3, none⟩ = some (.int .i64 n2) := by simp
        have y4 : (wr.alloc (.cells #[.int .i64 12, .int .i64 ca, .int .i64 n1, .int .i64 n2, .int .i64 ck] 47)).cell? ⟨wr.heap.size, 4, none⟩ = some (.int .i64 ck) := by simp
        have zx : wr.heap.size < (wr.alloc (.cells #[.int .i64 12, .int .i64 ca, .int .i64 n1, .int .i64 n2, .int .i64 ck] 47)).heap.size := by simp
        clear hN u0 u1 u2 u3 u4 BA s0
        generalize (wr.alloc (.cells #[.int .i64 12, .int .i64 ca, .int .i64 n1, .int .i64 n2, .int .i64 ck] 47)) = w4 at *
        have d0 : w4.cell? ⟨w.heap.size + 1 + 1, 0, none⟩ = some vC := N4.out.box.cell (i := 0) (by omega)
        have d9 := N4.out.box.frozen 0
        have zf := N4.out.box.lt
        go_wp2_with (at_builtin; refine wpList_append_lies _ rfl (.tmp 60) (.tmp 62) 22 rfl (w.heap.size + 1 + 1 + 1) 47 i76 _ 5 40 Tryz.underlying22 I76.out Z76.out.1 Z76.out.2.1 Z76.out.2.2 rfl (by omega) vC i (cells5 (f.noise n n1 n2).C i) (by rfl) (own_alloc0 N4.out.own _) ⟨w4.heap.size, 0, none⟩ 1 1 [.int .i64 12, .int .i64 ca, .int .i64 n1, .int .i64 n2, .int .i64 ck] (by rfl) (by rfl) (news5k _ _ _ _ _ _ _ rfl) (by simp [Value.oneCell']) (by omega) (by unfold maxLen; omega) (by omega) (by simp; omega) (w4.heap.size + 1) (by simp) ?_; intro g5 cap5 w6 hown2 hgrow hat hlt5; refine stopH ?_)
        have N6 := hid (N4.out.add CV.out hown2 hgrow)
        have hbk : w6.heap[w.heap.size + 1 + 1]? = w4.heap[w.heap.size + 1 + 1]? := ev_far0 w4 _ hgrow zf (own_ne_row N4.out.own N4.out.box (by decide))
        have e8 : w6.cell? ⟨w.heap.size + 1 + 1, 0, none⟩ = some vC := by rw [World.cell?_of_block (w := w4) hbk]; exact d0
        have e9 : w6.frozen? ⟨w.heap.size + 1 + 1, 0, none⟩ = false := by rw [World.frozen?_of_block (w := w4) hbk]; exact d9
        have s6 := hgrow.size
        simp at s6
        have z6 : w.heap.size + 1 + 1 < w6.heap.size := by omega
        clear hown2 hgrow hat hlt5 hbk d0 d9 y0 y1 y2 y3 y4 N4 CV
        refine hid ?_
        go_wp2
        go_roundw
        case rel => exact ⟨i + 1, _, by omega, by go_num, N6⟩
        case measure => simp [intOf]; omega
      · have x11 : (kd != 11) = true := bne_iff_ne.2 n11
        have x12 : (kd != 12) = true := bne_iff_ne.2 n12
        rw [q] at ND
        have CV : Hid ((f.noise n n1 n2).C i = ⟨kd, ca, cb, n2, n⟩) := by
          show _ = _
          rw [CI.out]
          unfold noiseC
          simp [q, n11, n12, hasKB]
        clear CI
        go_wp2_with fail
        refine (ND.out _).mono ?_
        rintro e w1 ⟨rfl, hw1⟩
        rw [hw1]
        clear hw1 w1 ND
        go_upto_region 15 with (fail)
        have BA : Hid (Below wr.heap.size wr (wr.alloc (.cells #[.int .i64 kd, .int .i64 ca, .int .i64 cb, .int .i64 n2, .int .i64 n] 47))) := by
          first
            | exact (Below.refl _ _).alloc (Nat.le_refl _) _
            | exact ((Below.refl _ _).alloc (Nat.le_refl _) _).alloc (by simp) _
        have N4 := hid (hN.out.below BA.out)
        have y0 : (wr.alloc (.cells #[.int .i64 kd, .int .i64 ca, .int .i64 cb, .int .i64 n2, .int .i64 n] 47)).cell? ⟨wr.heap.size, 0, none⟩ = some (.int .i64 kd) := by simp
        have y1 : (wr.alloc (.cells #[.int .i64 kd, .int .i64 ca, .int .i64 cb, .int .i64 n2, .int .i64 n] 47)).cell? ⟨wr.heap.size, 1, none⟩ = some (.int .i64 ca) := by simp
        have y2 : (wr.alloc (.cells #[.int .i64 kd, .int .i64 ca, .int .i64 cb, .int .i64 n2, .int .i64 n] 47)).cell? ⟨wr.heap.size, 2, none⟩ = some (.int .i64 cb) := by simp
        have y3 : (wr.alloc (.cells #[.int .i64 kd, .int .i64 ca, .int .i64 cb, .int .i64 n2, .int .i64 n] 47)).cell? ⟨wr.heap.size, 3, none⟩ = some (.int .i64 n2) := by simp
        have y4 : (wr.alloc (.cells #[.int .i64 kd, .int .i64 ca, .int .i64 cb, .int .i64 n2, .int .i64 n] 47)).cell? ⟨wr.heap.size, 4, none⟩ = some (.int .i64 n) := by simp
        have zx : wr.heap.size < (wr.alloc (.cells #[.int .i64 kd, .int .i64 ca, .int .i64 cb, .int .i64 n2, .int .i64 n] 47)).heap.size := by simp
        clear hN u0 u1 u2 u3 u4 BA s0
        generalize (wr.alloc (.cells #[.int .i64 kd, .int .i64 ca, .int .i64 cb, .int .i64 n2, .int .i64 n] 47)) = w4 at *
        have d0 : w4.cell? ⟨w.heap.size + 1 + 1, 0, none⟩ = some vC := N4.out.box.cell (i := 0) (by omega)
        have d9 := N4.out.box.frozen 0
        have zf := N4.out.box.lt
        go_wp2_with (at_builtin; refine wpList_append_lies _ rfl (.tmp 60) (.tmp 62) 22 rfl (w.heap.size + 1 + 1 + 1) 47 i76 _ 5 40 Tryz.underlying22 I76.out Z76.out.1 Z76.out.2.1 Z76.out.2.2 rfl (by omega) vC i (cells5 (f.noise n n1 n2).C i) (by rfl) (own_alloc0 N4.out.own _) ⟨w4.heap.size, 0, none⟩ 1 1 [.int .i64 kd, .int .i64 ca, .int .i64 cb, .int .i64 n2, .int .i64 n] (by rfl) (by rfl) (news5k _ _ _ _ _ _ _ rfl) (by simp [Value.oneCell']) (by omega) (by unfold maxLen; omega) (by omega) (by simp; omega) (w4.heap.size + 1) (by simp) ?_; intro g5 cap5 w6 hown2 hgrow hat hlt5; refine stopH ?_)
        have N6 := hid (N4.out.add CV.out hown2 hgrow)
        have hbk : w6.heap[w.heap.size + 1 + 1]? = w4.heap[w.heap.size + 1 + 1]? := ev_far0 w4 _ hgrow zf (own_ne_row N4.out.own N4.out.box (by decide))
        have e8 : w6.cell? ⟨w.heap.size + 1 + 1, 0, none⟩ = some vC := by rw [World.cell?_of_block (w := w4) hbk]; exact d0
        have e9 : w6.frozen? ⟨w.heap.size + 1 + 1, 0, none⟩ = false := by rw [World.frozen?_of_block (w := w4) hbk]; exact d9
        have s6 := hgrow.size
        simp at s6
        have z6 : w.heap.size + 1 + 1 < w6.heap.size := by omega
        clear hown2 hgrow hat hlt5 hbk d0 d9 y0 y1 y2 y3 y4 N4 CV
        refine hid ?_
        go_wp2
        go_roundw
        case rel => exact ⟨i + 1, _, by omega, by go_num, N6⟩
        case measure => simp [intOf]; omega
      · have x11 : (kd != 11) = true := bne_iff_ne.2 n11
        have x12 : (kd != 12) = true := bne_iff_ne.2 n12
        rw [q] at ND
        have CV : Hid ((f.noise n n1 n2).C i = ⟨kd, ca, cb, cc, n⟩) := by
          show _ = _
          rw [CI.out]
          unfold noiseC
          simp [q, n11, n12, hasKB]
        clear CI
        go_wp2_with fail
        refine (ND.out _).mono ?_
        rintro e w1 ⟨rfl, hw1⟩
        rw [hw1]
        clear hw1 w1 ND
        go_upto_region 15 with (fail)
        have BA : Hid (Below wr.heap.size wr (wr.alloc (.cells #[.int .i64 kd, .int .i64 ca, .int .i64 cb, .int .i64 cc, .int .i64 n] 47))) := by
          first
            | exact (Below.refl _ _).alloc (Nat.le_refl _) _
            | exact ((Below.refl _ _).alloc (Nat.le_refl _) _).alloc (by simp) _
        have N4 := hid (hN.out.below BA.out)
        have y0 : (wr.alloc (.cells #[.int .i64 kd, .int .i64 ca, .int .i64 cb, .int .i64 cc, .int .i64 n] 47)).cell? ⟨wr.heap.size, 0, none⟩ = some (.int .i64 kd) := by simp
        have y1 : (wr.alloc (.cells #[.int .i64 kd, .int .i64 ca, .int .i64 cb, .int .i64 cc, .int .i64 n] 47)).cell? ⟨wr.heap.size, 1, none⟩ = some (.int .i64 ca) := by simp
        have y2 : (wr.alloc (.cells #[.int .i64 kd, .int .i64 ca, .int .i64 cb, .int .i64 cc, .int .i64 n] 47)).cell? ⟨wr.heap.size, 2, none⟩ = some (.int .i64 cb) := by simp
        have y3 : (wr.alloc (.cells #[.int .i64 kd, .int .i64 ca, .int .i64 cb, .int .i64 cc, .int .i64 n] 47)).cell? ⟨wr.heap.size, 3, none⟩ = some (.int .i64 cc) := by simp
        have y4 : (wr.alloc (.cells #[.int .i64 kd, .int .i64 ca, .int .i64 cb, .int .i64 cc, .int .i64 n] 47)).cell? ⟨wr.heap.size, 4, none⟩ = some (.int .i64 n) := by simp
        have zx : wr.heap.size < (wr.alloc (.cells #[.int .i64 kd, .int .i64 ca, .int .i64 cb, .int .i64 cc, .int .i64 n] 47)).heap.size := by simp
        clear hN u0 u1 u2 u3 u4 BA s0
        generalize (wr.alloc (.cells #[.int .i64 kd, .int .i64 ca, .int .i64 cb, .int .i64 cc, .int .i64 n] 47)) = w4 at *
        have d0 : w4.cell? ⟨w.heap.size + 1 + 1, 0, none⟩ = some vC := N4.out.box.cell (i := 0) (by omega)
        have d9 := N4.out.box.frozen 0
        have zf := N4.out.box.lt
        go_wp2_with (at_builtin; refine wpList_append_lies _ rfl (.tmp 60) (.tmp 62) 22 rfl (w.heap.size + 1 + 1 + 1) 47 i76 _ 5 40 Tryz.underlying22 I76.out Z76.out.1 Z76.out.2.1 Z76.out.2.2 rfl (by omega) vC i (cells5 (f.noise n n1 n2).C i) (by rfl) (own_alloc0 N4.out.own _) ⟨w4.heap.size, 0, none⟩ 1 1 [.int .i64 kd, .int .i64 ca, .int .i64 cb, .int .i64 cc, .int .i64 n] (by rfl) (by rfl) (news5k _ _ _ _ _ _ _ rfl) (by simp [Value.oneCell']) (by omega) (by unfold maxLen; omega) (by omega) (by simp; omega) (w4.heap.size + 1) (by simp) ?_; intro g5 cap5 w6 hown2 hgrow hat hlt5; refine stopH ?_)
        have N6 := hid (N4.out.add CV.out hown2 hgrow)
        have hbk : w6.heap[w.heap.size + 1 + 1]? = w4.heap[w.heap.size + 1 + 1]? := ev_far0 w4 _ hgrow zf (own_ne_row N4.out.own N4.out.box (by decide))
        have e8 : w6.cell? ⟨w.heap.size + 1 + 1, 0, none⟩ = some vC := by rw [World.cell?_of_block (w := w4) hbk]; exact d0
        have e9 : w6.frozen? ⟨w.heap.size + 1 + 1, 0, none⟩ = false := by rw [World.frozen?_of_block (w := w4) hbk]; exact d9
        have s6 := hgrow.size
        simp at s6
        have z6 : w.heap.size + 1 + 1 < w6.heap.size := by omega
        clear hown2 hgrow hat hlt5 hbk d0 d9 y0 y1 y2 y3 y4 N4 CV
        refine hid ?_
        go_wp2
        go_roundw
        case rel => exact ⟨i + 1, _, by omega, by go_num, N6⟩
        case measure => simp [intOf]; omega
    · obtain rfl : i = f.n := by omega
      obtain ⟨aC', cC', eC, hca⟩ := own_cells hN.out.own
      subst eC
      have d0 : wr.cell? ⟨w.heap.size + 1 + 1, 0, none⟩ = some (.slice aC' f.n cC') := hN.out.box.cell (i := 0) (by omega)
      have d1 : wr.cell? ⟨w.heap.size + 1 + 1, 1, none⟩ = some (.slice aR f.k cR) := hN.out.box.cell (i := 1) (by omega)
      have d2 : wr.cell? ⟨w.heap.size + 1 + 1, 2, none⟩ = some (.int .i64 f.week) := hN.out.box.cell (i := 2) (by omega)
      have d3 : wr.cell? ⟨w.heap.size + 1 + 1, 3, none⟩ = some (.slice aH f.hol.length cH) := hN.out.box.cell (i := 3) (by omega)
      have z0 : wr.cell? ⟨w.heap.size + 1, 0, none⟩ = some (.slice none 0 0) := hN.out.res.cell (i := 0) (by omega)
      have z1 : wr.cell? ⟨w.heap.size + 1, 1, none⟩ = some (.slice none 0 0) := hN.out.res.cell (i := 1) (by omega)
      have z2 : wr.cell? ⟨w.heap.size + 1, 2, none⟩ = some (.int .i64 0) := hN.out.res.cell (i := 2) (by omega)
      have z3 : wr.cell? ⟨w.heap.size + 1, 3, none⟩ = some (.slice none 0 0) := hN.out.res.cell (i := 3) (by omega)
      have fz : ∀ j, wr.frozen? ⟨w.heap.size + 1, j, none⟩ = false := fun j => hN.out.res.frozen j
      have zr := hN.out.res.lt
      have zx := hN.out.box.lt
      have R : Hid (NfP (f.noise n n1 n2) w (.returned (.agg #[.slice aC' f.n cC', .slice aR f.k cR, .int .i64 f.week, .slice aH f.hol.length cH])) ((((wr.setCell ⟨w.heap.size + 1, 0, none⟩ (.slice aC' f.n cC')).setCell ⟨w.heap.size + 1, 1, none⟩ (.slice aR f.k cR)).setCell ⟨w.heap.size + 1, 2, none⟩ (.int .i64 f.week)).setCell ⟨w.heap.size + 1, 3, none⟩ (.slice aH f.hol.length cH))) := by
        have lo : w.heap.size + 1 < w.heap.size + 1 + 1 + 1 := by omega
        have own4 := ownsRow_setCell_below (a := ⟨w.heap.size + 1, 3, none⟩) (ownsRow_setCell_below (a := ⟨w.heap.size + 1, 2, none⟩) (ownsRow_setCell_below (a := ⟨w.heap.size + 1, 1, none⟩) (ownsRow_setCell_below (a := ⟨w.heap.size + 1, 0, none⟩) hN.out.own lo (.slice aC' f.n cC')) lo (.slice aR f.k cR)) lo (.int .i64 f.week)) lo (.slice aH f.hol.length cH)
        have lw := (((hN.out.low.setCell (p := ⟨w.heap.size + 1, 0, none⟩) (by show _ ≤ w.heap.size + 1; omega) (.slice aC' f.n cC')).setCell (p := ⟨w.heap.size + 1, 1, none⟩) (by show _ ≤ w.heap.size + 1; omega) (.slice aR f.k cR)).setCell (p := ⟨w.heap.size + 1, 2, none⟩) (by show _ ≤ w.heap.size + 1; omega) (.int .i64 f.week)).setCell (p := ⟨w.heap.size + 1, 3, none⟩) (by show _ ≤ w.heap.size + 1; omega) (.slice aH f.hol.length cH)
        obtain ⟨a2, c2, e2, h2⟩ := own_cells own4
        injection e2 with e2 _ _
        subst e2
        exact ⟨_, rfl, FIN.out _ _ _ lw h2, lw⟩
      clear hN FIN hca
      go_wp2
      exact bodyPost_ret (v := .agg #[.slice aC' f.n cC', .slice aR f.k cR, .int .i64 f.week, .slice aH f.hol.length cH]) (by simp [results, Tryz.results5, go_sem, *]) rfl R.out

end Go.Proofs.YtmofidaojmiepaaGreatDoor
