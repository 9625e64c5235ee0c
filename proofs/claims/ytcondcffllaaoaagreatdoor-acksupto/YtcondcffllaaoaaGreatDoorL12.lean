/-
  THE LAW: what a pair shows of what is to come.
-/
import Derived.Test.YtcondcffllaaoaaGreatDoorL4
import Derived.Test.YtcondcffllaaoaaGreatDoorK10
import Derived.Test.YtcondcffllaaoaaGreatDoorL3
set_option linter.unusedVariables false
set_option linter.unusedSimpArgs false
namespace Go.Proofs.YtcondcffllaaoaaGreatDoor
open Go.RowKit
attribute [local go_sem ↓] Go.wp_at_zero Go.wp_at_succ

set_option maxRecDepth 100000 in
set_option maxHeartbeats 2000000 in
theorem pahead_any {Qk Qd : Nat → Prop} {f : Frm} {pk : KPl} {pd : Pl} {m : Cs} {vk vd : Value} {w : World} {b : Nat} (hK : KAt Qk f pk m vk w) (hS : DAt Qd f pd m vd w) (hf : f.Ok) (hm : m.Ok f) (hE : Few b m) (hb : b ≤ 10000000000) :
    Calls Tryz.prog 24 #[.agg #[.pointer (some ⟨pk.bp, 0, none⟩), .pointer (some ⟨pd.bw, 0, none⟩)]] w fun e w' => TPost w e w' := by
  have KN := hid (fun W (hW : Below w.heap.size w W) => kNext_any (show KAt Qk f pk m vk W from KSt.drop hK hW) hf hm)
  have DN := hid (fun W (hW : Below w.heap.size w W) => dNext_any (show DAt Qd f pd m vd W from DSt.drop hS hW) hf hm hE hb)
  have HBX := hid (Below.refl (w.heap.size + 1) (w.alloc (.cells #[.pointer (some ⟨pk.bp, 0, none⟩), .pointer (some ⟨pd.bw, 0, none⟩)] 57)))
  have f0 := boxed HBX.out 0
  simp at f0
  clear hK hS hf hm hE
  go_enter Tryz.func24, Tryz.ntmps24
  go_wp2_with fail
  refine (KN.out _ (boxed_below HBX.out)).mono ?_
  rintro e1 w1 ⟨t, ok, rfl, x1, x2⟩
  have X1 := hid x1
  have B1 : Hid (Below (w.heap.size + 1) (w.alloc (.cells #[.pointer (some ⟨pk.bp, 0, none⟩), .pointer (some ⟨pd.bw, 0, none⟩)] 57)) w1) := by have h := x2; rw [World.size_alloc] at h; exact h
  clear x1 x2 f0 KN HBX
  have f1 := boxed B1.out 1
  simp at f1
  go_wp2_with fail
  refine (DN.out _ (boxed_below B1.out)).mono ?_
  rintro e2 w2 ⟨u, yes, rfl, y1, y2⟩
  obtain ⟨rfl, rfl⟩ := next_unique X1.out y1
  have R : Hid (TPost w (.returned (.bool true)) w2) := ⟨rfl, (boxed_below B1.out).trans (y2.mono (boxed_below B1.out).size)⟩
  clear y1 y2 f1 DN B1 X1
  go_wp2
  go_ret
  exact R.out

end Go.Proofs.YtcondcffllaaoaaGreatDoor

/-
  THE LAW: one step of a script: When.
-/
set_option linter.unusedVariables false
set_option linter.unusedSimpArgs false
namespace Go.Proofs.YtcondcffllaaoaaGreatDoor
open Go.RowKit
attribute [local go_sem ↓] Go.wp_at_zero Go.wp_at_succ

set_option maxRecDepth 100000 in
set_option maxHeartbeats 3000000 in
theorem step_when {f : Frm} {b np : Nat} {P : Nat → Pr} {nl : Nat} {xs : List Value} {tag : Nat → Nat} {bP bl cP : Nat} {vL : Value} {w : World} (h : PSt f b np P nl xs tag bP bl cP vL w) (hsame : ∀ i, i < np → (P i).ck = (P i).cd) (hf : f.Ok) (np1 : 1 ≤ np) (np2 : np ≤ 1000000000000) (hb : b ≤ 10000000000) (cs a v : Int) (c1 : -9223372036854775808 ≤ cs) (c2 : cs < 9223372036854775808) :
    Calls Tryz.prog 14 #[.pointer (some ⟨bP, 0, none⟩), .agg #[.int .i64 7, .int .i64 cs, .int .i64 a, .int .i64 v]] w fun e w' => StpP f (b + 0) np nl xs tag bP bl cP vL w e w' := by
  have hr : pickN cs np < np := pickN_lt np1
  have PK := hid (fun W => pick_law cs np W c1 c2 np1 np2)
  have hb0 : Below w.heap.size w (w.alloc (.cells #[.int .i64 7, .int .i64 cs, .int .i64 a, .int .i64 v] 37)) := (Below.refl _ _).alloc (Nat.le_refl _) _
  have hp := h.drop hb0
  have r0 := hp.row.cell (i := 0) (by omega)
  simp at r0
  obtain ⟨g, N, g1, g2, g3⟩ := hp.prow
  have y0 := g1.cell (i := pickN cs np * 2) (by omega)
  have y1 := g1.cell (i := pickN cs np * 2 + 1) (by omega)
  rw [g3 _ (by omega)] at y0 y1
  unfold prf at y0 y1
  rw [if_pos (by omega), show pickN cs np * 2 / 2 = pickN cs np by omega] at y0
  rw [if_neg (by omega), show (pickN cs np * 2 + 1) / 2 = pickN cs np by omega] at y1
  have gl := g1.lt
  have zP := hp.row.lt
  have HBX := hid (Below.refl (w.heap.size + 1) (w.alloc (.cells #[.int .i64 7, .int .i64 cs, .int .i64 a, .int .i64 v] 37)))
  have b0 := boxed HBX.out 0
  have b1 := boxed HBX.out 1
  have b2 := boxed HBX.out 2
  have b3 := boxed HBX.out 3
  simp at b0 b1 b2 b3
  have H := hid h
  have HF := hid hf
  have HSAME := hid hsame
  clear h hf hsame g1 g2 g3 hp hb0
  generalize hrr : pickN cs np = r at *
  clear hrr
  go_enter Tryz.func14, Tryz.ntmps14
  go_wp2_with fail
  go_region_held3 (fun w' => w'.cell? ⟨bP, 0, none⟩ = some (.slice (some ⟨bl, 0, none⟩) np cP) ∧ w'.cell? ⟨bl, r * 2, none⟩ = some (.pointer (some ⟨(P r).pk.bp, 0, none⟩)) ∧ w'.cell? ⟨bl, r * 2 + 1, none⟩ = some (.pointer (some ⟨(P r).pd.bw, 0, none⟩)) ∧ w'.cell? ⟨w.heap.size, 1, none⟩ = some (.int .i64 cs))
    (go_keep)
    ((go_at_call 26; refine (PK.out _).mono ?_; rintro e w2 ⟨rfl, rfl⟩))
  all_goals (
    obtain ⟨W1, hW1, v1, v2, v3⟩ := of_rows w 7 cs a v (P r).pk.bp (P r).pd.bw
    rw [← hW1]
    clear hW1 y0 y1 r0 b0 b1 b2 b3 HBX gl zP
    have V1 := hid v1
    have V2 := hid v2
    have V3 := hid v3
    have H1 := hid (H.out.drop v1)
    have KOK := hid (H.out.kok r hr)
    have DOK := hid (H.out.dok r hr)
    clear v1 v2 v3
    have x0 := V2.out.cell (i := 0) (by omega)
    have x2 := V2.out.cell (i := 2) (by omega)
    have x3 := V2.out.cell (i := 3) (by omega)
    have p0 := V3.out.cell (i := 0) (by omega)
    have p1 := V3.out.cell (i := 1) (by omega)
    have zz := V3.out.lt
    simp [of4] at x0 x2 x3
    simp [of2] at p0 p1
    have KW := hid (fun W (hW : Below W1.heap.size W1 W) => kWhen_any a (show KAt (P r).Qk f (P r).pk (P r).ck (P r).vk W from KSt.drop (H1.out.kst r hr) hW) HF.out KOK.out.1)
    have DW := hid (fun W (hW : Below W1.heap.size W1 W) => dWhen_any a (show DAt (P r).Qd f (P r).pd (P r).cd (P r).vd W from DSt.drop (H1.out.dst r hr) hW) HF.out DOK.out.1 DOK.out.2 hb)
    rw [← HSAME.out r hr] at DW
    go_wp2_with fail
    refine (KW.out _ (Below.refl _ _)).mono ?_
    rintro e1 w2 K1
    obtain ⟨t, ok, er, rfl, k1, k2⟩ := id K1
    have K1 := hid K1
    have K2 := hid k2
    have U2 := V2.out.of_block (k2.block _ V2.out.lt)
    have U3 := V3.out.of_block (k2.block _ V3.out.lt)
    clear k1 k2 x0 x2 x3 p0 p1
    have x2 := U2.cell (i := 2) (by omega)
    have p1 := U3.cell (i := 1) (by omega)
    simp [of4] at x2
    simp [of2] at p1
    clear U2 U3
    go_wp2_with fail
    refine (DW.out _ K2.out).mono ?_
    rintro e2 w3 D1
    obtain ⟨u, yes, fr, rfl, d1, d2⟩ := id D1
    have EQ := wn_unique K1.out D1
    simp only [Ending.returned.injEq, Value.tuple.injEq, Array.mk.injEq, List.cons.injEq, Value.int.injEq, Value.bool.injEq, and_true, true_and] at EQ
    obtain ⟨rfl, rfl, rfl⟩ := EQ
    have RR : Hid (StpP f (b + 0) np nl xs tag bP bl cP vL w (.returned (.bool true)) w3) := ⟨rfl, P, tag, H1.out.drop (K2.out.trans (d2.mono K2.out.size)), HSAME.out, (Kept.of V1.out).trans (Kept.of (K2.out.trans (d2.mono K2.out.size)))⟩
    clear d1 d2 D1 K1 x2 p1
    go_wp2_with (go_at_call 19; refine (num_any _ _).mono ?_; rintro e w' ⟨rfl, rfl⟩)
    go_ret
    exact RR.out)

end Go.Proofs.YtcondcffllaaoaaGreatDoor
