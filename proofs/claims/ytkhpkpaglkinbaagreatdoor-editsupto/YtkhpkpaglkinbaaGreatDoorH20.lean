/-
  THE LAW: one step of a script.
-/
import Derived.Test.YtkhpkpaglkinbaaGreatDoorH19
set_option linter.unusedVariables false
set_option linter.unusedSimpArgs false
namespace Go.Proofs.YtkhpkpaglkinbaaGreatDoor
open Go.RowKit
attribute [local go_sem ↓] Go.wp_at_zero Go.wp_at_succ

theorem PSt.drop {C : Nat → Cel} {n : Nat} {R : Nat → Rul} {k : Nat} {week : Int} {hol : List Int} {F : Nat → Int} {w : World} {L B bp bk : Nat} {Ck : Nat → Cel} {cC : Nat} {aR : Option Addr} {cR : Nat} {aH : Option Addr} {cH : Nat} {w0 : World} {bw bc : Nat} {aO : Option Addr} {cO bh bF cF bS : Nat} {S : Nat → St} {vE : Value} {nE bP bl cP : Nat}
    (h : PSt C n R k week hol F w L B bp bk Ck cC aR cR aH cH w0 bw bc aO cO bh bF cF bS S vE nE bP bl cP) {w1 : World} (hb : Below w.heap.size w w1) : PSt C n R k week hol F w1 L B bp bk Ck cC aR cR aH cH w0 bw bc aO cO bh bF cF bS S vE nE bP bl cP :=
  ⟨h.kst.below (hb.mono (by have := h.wst.row.lt; have := h.base.hbc; have := h.bbc; omega)), h.base, h.wst.drop hb, h.sts, h.fv, h.eff, h.floor, h.l1, h.bbc, h.pl.below hb, h.plB, h.tab.below hb (Nat.le_refl _)⟩

/-- What a step leaves: it was as the document says; both sides stand as they should; nothing below L has turned. -/
def StPost (C : Nat → Cel) (n : Nat) (R : Nat → Rul) (k : Nat) (week : Int) (hol : List Int) (w : World) (L B bp bk : Nat) (cC : Nat) (aR : Option Addr) (cR : Nat) (aH : Option Addr) (cH : Nat) (bw bc : Nat) (aO : Option Addr) (cO bh bF cF bS : Nat) (nE bP bl cP : Nat) (e : Ending) (w' : World) : Prop :=
  e = .returned (.bool true) ∧ Below L w w' ∧ ∃ F' Ck' w0' S' vE' nE', nE' ≤ nE + k ∧ PSt C n R k week hol F' w' L B bp bk Ck' cC aR cR aH cH w0' bw bc aO cO bh bF cF bS S' vE' nE' bP bl cP

def of4 (kd cs a b : Int) (j : Nat) : Value := if j = 0 then .int .i64 kd else if j = 1 then .int .i64 cs else if j = 2 then .int .i64 a else .int .i64 b
def of2 (bp bw : Nat) (j : Nat) : Value := if j = 0 then .pointer (some ⟨bp, 0, none⟩) else .pointer (some ⟨bw, 0, none⟩)

theorem of_rows (w : World) (kd cs a b : Int) (bp bw : Nat) : ∃ W1, W1 = ((w.alloc (.cells #[.int .i64 kd, .int .i64 cs, .int .i64 a, .int .i64 b] 36)).alloc (.cells #[.pointer (some ⟨bp, 0, none⟩), .pointer (some ⟨bw, 0, none⟩)] 56)).drew ∧ Below w.heap.size w W1 ∧ W1.rowIs w.heap.size 36 4 (of4 kd cs a b) ∧ W1.rowIs (w.heap.size + 1) 56 2 (of2 bp bw) := by
  refine ⟨_, rfl, (((Below.refl _ _).alloc (Nat.le_refl _) _).alloc (by simp) _).drew, ?_, ?_⟩
  · have h1 := World.rowIs_alloc w #[.int .i64 kd, .int .i64 cs, .int .i64 a, .int .i64 b] 36 (of4 kd cs a b) (fun i hi => by
      have hi' : i = 0 ∨ i = 1 ∨ i = 2 ∨ i = 3 := by simp at hi; omega
      rcases hi' with rfl | rfl | rfl | rfl <;> rfl)
    exact (h1.alloc _).drew
  · have h1 := World.rowIs_alloc (w.alloc (.cells #[.int .i64 kd, .int .i64 cs, .int .i64 a, .int .i64 b] 36)) #[.pointer (some ⟨bp, 0, none⟩), .pointer (some ⟨bw, 0, none⟩)] 56 (of2 bp bw) (fun i hi => by
      have hi' : i = 0 ∨ i = 1 := by simp at hi; omega
      rcases hi' with rfl | rfl <;> rfl)
    simp only [World.size_alloc] at h1
    exact h1.drew

set_option maxRecDepth 100000 in
set_option maxHeartbeats 3000000 in
theorem step_set {C : Nat → Cel} {n : Nat} {R : Nat → Rul} {k : Nat} {week : Int} {hol : List Int} {F : Nat → Int} {w : World} {L B bp bk : Nat} {Ck : Nat → Cel} {cC : Nat} {aR : Option Addr} {cR : Nat} {aH : Option Addr} {cH : Nat} {w0 : World} {bw bc : Nat} {aO : Option Addr} {cO bh bF cF bS : Nat} {S : Nat → St} {vE : Value} {nE bP bl cP : Nat}
    (h : PSt C n R k week hol F w L B bp bk Ck cC aR cR aH cH w0 bw bc aO cO bh bF cF bS S vE nE bP bl cP) (hf : FormOk C n R k week hol) (hn : n ≤ 20) (n1 : 1 ≤ n) (hk : k ≤ 6) (hE : nE ≤ 50000000) (h1 : 1 ≤ week) (h2 : week ≤ 127) (cs a b : Int) (c1 : -9223372036854775808 ≤ cs) (c2 : cs < 9223372036854775808) :
    Calls Tryz.prog 7 #[.pointer (some ⟨bP, 0, none⟩), .agg #[.int .i64 1, .int .i64 cs, .int .i64 a, .int .i64 b]] w fun e w' => StPost C n R k week hol w L B bp bk cC aR cR aH cH bw bc aO cO bh bF cF bS nE bP bl cP e w' := by
  have hb0 : Below w.heap.size w (w.alloc (.cells #[.int .i64 1, .int .i64 cs, .int .i64 a, .int .i64 b] 36)) := (Below.refl _ _).alloc (Nat.le_refl _) _
  have hp := (h.drop hb0).pl
  have r0 := hp.row.cell (i := 0) (by omega)
  simp at r0
  obtain ⟨f, N, g1, g2, g3, g4⟩ := hp.prs
  have y0 := g1.cell (i := 0) (by omega)
  have y1 := g1.cell (i := 1) (by omega)
  rw [g3] at y0
  rw [g4] at y1
  have gl := g1.lt
  have zP := hp.row.lt
  have HBX := hid (Below.refl (w.heap.size + 1) (w.alloc (.cells #[.int .i64 1, .int .i64 cs, .int .i64 a, .int .i64 b] 36)))
  have b0 := boxed HBX.out 0
  have b1 := boxed HBX.out 1
  have b2 := boxed HBX.out 2
  have b3 := boxed HBX.out 3
  simp at b0 b1 b2 b3
  have H := hid h
  have HF := hid hf
  clear h hf g1 g2 g3 g4 hp hb0
  go_enter Tryz.func7, Tryz.ntmps7
  go_wp2_with fail
  go_region_held3 (fun w' => w'.cell? ⟨bP, 0, none⟩ = some (.slice (some ⟨bl, 0, none⟩) 1 cP) ∧ w'.cell? ⟨bl, 0, none⟩ = some (.pointer (some ⟨bp, 0, none⟩)) ∧ w'.cell? ⟨bl, 1, none⟩ = some (.pointer (some ⟨bw, 0, none⟩)) ∧ w'.cell? ⟨w.heap.size, 1, none⟩ = some (.int .i64 cs))
    (go_keep)
    ((go_at_call 19; refine (pick1_any _ _ c1 c2).mono ?_; rintro e w2 ⟨rfl, rfl⟩))
  all_goals (
    obtain ⟨W1, hW1, v1, v2, v3⟩ := of_rows w 1 cs a b bp bw
    rw [← hW1]
    clear hW1 y0 y1 r0 b0 b1 b2 b3 HBX gl zP
    have x0 := v2.cell (i := 0) (by omega)
    have x2 := v2.cell (i := 2) (by omega)
    have x3 := v2.cell (i := 3) (by omega)
    have p0 := v3.cell (i := 0) (by omega)
    simp [of4] at x0 x2 x3
    simp [of2] at p0
    have V1 := hid v1
    have V2 := hid v2
    have V3 := hid v3
    have H1 := hid (H.out.drop v1)
    clear v1 v2 v3
    go_wp2_with fail
    refine (kSet_any a b H1.out.kst (eff_ok H1.out.eff HF.out.cells H1.out.fv)).mono ?_
    rintro e1 w2 q
    have bnd : bk < w.heap.size ∧ L ≤ bk ∧ L ≤ w.heap.size ∧ L ≤ bw := by
      have z1 := H.out.kst.c1
      have z2 := H.out.kst.c2
      have z3 := H.out.bbc
      have z4 := H.out.base.hbc
      have z5 := H.out.wst.row.lt
      exact ⟨by omega, by omega, by omega, by omega⟩
    obtain ⟨n2, n3, n4, n5⟩ := bnd
    have kq : ∀ bb t l f, bb ≠ bk → W1.rowIs bb t l f → w2.rowIs bb t l f := fun bb t l f hne r => by
      rw [q.2]
      split
      · exact r.setOther hne _
      · exact r
    have kb : Below L W1 w2 := by
      rw [q.2]
      split
      · exact (Below.refl _ _).setCell n3 _
      · exact Below.refl _ _
    have KB := hid kb
    have U2 := kq _ _ _ _ (by omega) V2.out
    have U3 := kq _ _ _ _ (by omega) V3.out
    obtain ⟨rfl, w0', k1, k2, k3, k4, k5, k6⟩ := H1.out.half a b q
    have K1 := hid k1
    have K2 := hid k2
    have K3 := hid k3
    have K4 := hid k4
    have K5 := hid k5
    have K6 := hid k6
    clear q k1 k2 k3 k4 k5 k6 kq kb x0 x2 x3 p0 V2 V3
    have x2 := U2.cell (i := 2) (by omega)
    have x3 := U2.cell (i := 3) (by omega)
    have p1 := U3.cell (i := 1) (by omega)
    simp [of4] at x2 x3
    simp [of2] at p1
    clear U2 U3
    go_wp2_with fail
    refine (wSet_any a b K2.out K3.out H1.out.sts H1.out.fv HF.out hn n1 hk hE h1 h2 (Int.le_refl _) (by omega)).mono ?_
    rintro e2 w3 q2
    have wb : Below bw w2 w3 := by obtain ⟨_, _, _, _, _, _, _, wb, _⟩ := q2; exact wb
    obtain ⟨rfl, S', vE', nE', z1, z2⟩ := H1.out.whole a b K1.out K2.out K3.out K4.out K5.out K6.out q2
    have RR : Hid (StPost C n R k week hol w L B bp bk cC aR cR aH cH bw bc aO cO bh bF cF bS nE bP bl cP (.returned (.bool true)) w3) := ⟨rfl, ((V1.out.mono n4).trans KB.out).trans (wb.mono n5), _, _, _, _, _, _, z1, z2⟩
    clear q2 wb z1 z2 x2 x3 p1
    go_wp2_with (go_at_call 12; refine (num_any _ _).mono ?_; rintro e w' ⟨rfl, rfl⟩)
    go_ret
    exact RR.out)

end Go.Proofs.YtkhpkpaglkinbaaGreatDoor
