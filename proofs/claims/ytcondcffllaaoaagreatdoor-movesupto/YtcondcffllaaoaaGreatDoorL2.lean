/-
  THE LAW: one step of a script.
-/
import Derived.Test.YtcondcffllaaoaaGreatDoorL1
set_option linter.unusedVariables false
set_option linter.unusedSimpArgs false
namespace Go.Proofs.YtcondcffllaaoaaGreatDoor
open Go.RowKit
attribute [local go_sem ↓] Go.wp_at_zero Go.wp_at_succ

/-- Which of n things the raw number c speaks of. -/
def pickN (c : Int) (n : Nat) : Nat := ((if c < 0 then -(c + 1) else c) % (n : Int)).toNat
theorem pickN_lt {c : Int} {n : Nat} (hn : 1 ≤ n) : pickN c n < n := by
  unfold pickN
  have h1 := Int.emod_nonneg (if c < 0 then -(c + 1) else c) (show (n : Int) ≠ 0 by omega)
  have h2 := Int.emod_lt_of_pos (if c < 0 then -(c + 1) else c) (show (0 : Int) < n by omega)
  omega

theorem pick_law (c : Int) (n : Nat) (w : World) (h1 : -9223372036854775808 ≤ c) (h2 : c < 9223372036854775808) (n1 : 1 ≤ n) (n2 : n ≤ 1000000000000) : Calls Tryz.prog 26 #[.int .i64 c, .int .i64 n] w fun e w' => e = .returned (.int .i64 (pickN c n)) ∧ w' = w := by
  have m1 := Int.emod_nonneg (if c < 0 then -(c + 1) else c) (show (n : Int) ≠ 0 by omega)
  have m2 := Int.emod_lt_of_pos (if c < 0 then -(c + 1) else c) (show (0 : Int) < n by omega)
  by_cases c0 : c < 0
  · have e : ((pickN c n : Nat) : Int) = (-(c + 1)) % (n : Int) := by unfold pickN; rw [if_pos c0] at m1 ⊢; omega
    rw [e]
    rw [if_pos c0] at m1 m2
    have m3 : -(c + 1).tmod (n : Int) = -(c + 1) % (n : Int) := by rw [← Int.neg_tmod]; exact Int.tmod_eq_emod_of_nonneg (by omega)
    have M3 := hid m3
    clear e m3
    go_enter Tryz.func26, Tryz.ntmps26
    go_wp2
    go_ret
    refine ⟨?_, rfl⟩
    simp [M3.out]
  · have e : ((pickN c n : Nat) : Int) = c % (n : Int) := by unfold pickN; rw [if_neg c0] at m1 ⊢; omega
    rw [e]
    rw [if_neg c0] at m1 m2
    clear e
    go_enter Tryz.func26, Tryz.ntmps26
    go_wp2
    go_ret
    first | exact ⟨rfl, rfl⟩ | simp

/-- What a step leaves. -/
def StpP (f : Frm) (b' np : Nat) (nl : Nat) (xs : List Value) (tag : Nat → Nat) (bP bl cP : Nat) (vL : Value) (w : World) (e : Ending) (w' : World) : Prop :=
  e = .returned (.bool true) ∧ ∃ P' tag', PSt f b' np P' nl xs tag' bP bl cP vL w' ∧ (∀ i, i < np → (P' i).ck = (P' i).cd) ∧ Kept tag tag' w w'

theorem few_up {b b' : Nat} {m : Cs} (h : Few b m) (hb : b ≤ b') : Few b' m := by unfold Few at h ⊢; omega
theorem few_len {f : Frm} {b : Nat} {m : Cs} (hm : m.Ok f) (h : Few b m) (hb : b ≤ 10000000000) : m.E.length ≤ 999999999000 := by
  have h2 := hm.t1
  unfold Few at h
  omega
theorem setM_few {f : Frm} (hf : f.Ok) {b : Nat} {m : Cs} (h : Few b m) (c v : Int) : Few (b + 1) (setM f m c v) := by
  obtain ⟨_, _, k6, _, _⟩ := hf.sizes
  unfold setM
  split
  · have h1 := settle_len f (m.fill c.toNat v)
    unfold Few at h ⊢
    rw [settle_T]
    have e1 : (m.fill c.toNat v).E = m.E := rfl
    have e2 : (m.fill c.toNat v).T = m.T := rfl
    rw [e1] at h1
    rw [e2]
    omega
  · exact few_up h (by omega)
theorem advM_few {f : Frm} (hf : f.Ok) {b : Nat} {m : Cs} (h : Few b m) (to : Int) : Few b (advM f m to) := by
  unfold advM
  split
  · exact h
  · exact go_few hf h _
theorem advM_ok {f : Frm} (hf : f.Ok) {m : Cs} (h : m.Ok f) (to : Int) : (advM f m to).Ok f := by
  unfold advM
  split
  · exact h
  · exact go_ok hf h _ (by omega)
theorem ackM_few {f : Frm} {b : Nat} {m : Cs} (h : Few b m) (r : Int) : Few b (ackM f m r) := by
  unfold ackM
  split
  · exact h
  · exact h
theorem closeM_few {f : Frm} {b : Nat} {m : Cs} (h : Few b m) : Few b (closeM f m) := by
  unfold closeM
  split
  · exact h
  · exact h

section
variable {f : Frm} {b np : Nat} {P : Nat → Pr} {nl : Nat} {xs : List Value} {tag : Nat → Nat} {bP bl cP : Nat} {vL : Value} {w : World}

/-- Both sides of pair r have been called. -/
theorem PSt.two (h : PSt f b np P nl xs tag bP bl cP vL w) (hsame : ∀ i, i < np → (P i).ck = (P i).cd) {r : Nat} (hr : r < np) {w1 w2 : World} {vk' vd' : Value} {m' : Cs} {b' : Nat} (hb : b ≤ b')
    (k1 : KAt (P r).Qk f (P r).pk m' vk' w1) (k2 : KGone (P r).pk (P r).vk vk' w w1) (d1 : DAt (P r).Qd f (P r).pd m' vd' w2) (d2 : Gone (P r).pd (P r).vd vd' w1 w2) (hok : m'.Ok f) (hfew : Few b' m') :
    StpP f b' np nl xs tag bP bl cP vL w (.returned (.bool true)) w2 := by
  obtain ⟨h1, h2⟩ := h.kgo hr k1 k2 hok hfew hb
  have e : upd P r ⟨(P r).Qk, (P r).pk, vk', m', (P r).Qd, (P r).pd, (P r).vd, (P r).cd⟩ r = ⟨(P r).Qk, (P r).pk, vk', m', (P r).Qd, (P r).pd, (P r).vd, (P r).cd⟩ := upd_same _ _ _
  obtain ⟨g1, g2⟩ := h1.dgo hr (vd' := vd') (m' := m') (b' := b') (by rw [e]; exact d1) (by rw [e]; exact d2) hok hfew (Nat.le_refl _)
  refine ⟨rfl, _, _, g1, fun i hi => ?_, h2.trans g2⟩
  by_cases ei : i = r
  · subst ei; rw [upd_same, upd_same]
  · rw [upd_other _ _ ei, upd_other _ _ ei]; exact hsame i hi

/-- The document's world stands where the case was called. -/
theorem PSt.mid (h : PSt f b np P nl xs tag bP bl cP vL w) {r : Nat} (hr : r < np) {w1 : World} {vk' : Value} (k2 : KGone (P r).pk (P r).vk vk' w w1) : DAt (P r).Qd f (P r).pd (P r).cd (P r).vd w1 := by
  refine DSt.move (h.dst r hr) k2.1.size (fun j hj => ?_)
  rcases hj with hj | hj
  · exact k2.1.block j (DSt.qlt (h.dst r hr) j hj) (fun e => by have := h.kown r hr j e; have := h.dq r hr j hj; omega)
  · exact k2.1.block j (DSt.own_lt (h.dst r hr) j hj) (fun e => by have := h.kown r hr j e; have := h.down r hr j hj; omega)

/-- A row that is no case's stands. -/
theorem PSt.far (h : PSt f b np P nl xs tag bP bl cP vL w) {r : Nat} (hr : r < np) {w0 w1 : World} {vk' : Value} (hw : w.heap.size ≤ w0.heap.size) (k2 : KGone (P r).pk (P r).vk vk' w0 w1) {bb t l : Nat} {g : Nat → Value} (hrow : w0.rowIs bb t l g) (hb : w.heap.size ≤ bb) : w1.rowIs bb t l g :=
  k2.row hrow (fun e => by have := KSt.own_lt (h.kst r hr) bb e; omega)

end

def of4 (kd cs a b : Int) (j : Nat) : Value := if j = 0 then .int .i64 kd else if j = 1 then .int .i64 cs else if j = 2 then .int .i64 a else .int .i64 b
def of2 (bp bw : Nat) (j : Nat) : Value := if j = 0 then .pointer (some ⟨bp, 0, none⟩) else .pointer (some ⟨bw, 0, none⟩)

theorem of_rows (w : World) (kd cs a b : Int) (bp bw : Nat) : ∃ W1, W1 = ((w.alloc (.cells #[.int .i64 kd, .int .i64 cs, .int .i64 a, .int .i64 b] 37)).alloc (.cells #[.pointer (some ⟨bp, 0, none⟩), .pointer (some ⟨bw, 0, none⟩)] 57)).drew ∧ Below w.heap.size w W1 ∧ W1.rowIs w.heap.size 37 4 (of4 kd cs a b) ∧ W1.rowIs (w.heap.size + 1) 57 2 (of2 bp bw) := by
  refine ⟨_, rfl, (((Below.refl _ _).alloc (Nat.le_refl _) _).alloc (by simp) _).drew, ?_, ?_⟩
  · have h1 := World.rowIs_alloc w #[.int .i64 kd, .int .i64 cs, .int .i64 a, .int .i64 b] 37 (of4 kd cs a b) (fun i hi => by
      have hi' : i = 0 ∨ i = 1 ∨ i = 2 ∨ i = 3 := by simp at hi; omega
      rcases hi' with rfl | rfl | rfl | rfl <;> rfl)
    exact (h1.alloc _).drew
  · have h1 := World.rowIs_alloc (w.alloc (.cells #[.int .i64 kd, .int .i64 cs, .int .i64 a, .int .i64 b] 37)) #[.pointer (some ⟨bp, 0, none⟩), .pointer (some ⟨bw, 0, none⟩)] 57 (of2 bp bw) (fun i hi => by
      have hi' : i = 0 ∨ i = 1 := by simp at hi; omega
      rcases hi' with rfl | rfl <;> rfl)
    simp only [World.size_alloc] at h1
    exact h1.drew

set_option maxRecDepth 100000 in
set_option maxHeartbeats 3000000 in
theorem step_set {f : Frm} {b np : Nat} {P : Nat → Pr} {nl : Nat} {xs : List Value} {tag : Nat → Nat} {bP bl cP : Nat} {vL : Value} {w : World} (h : PSt f b np P nl xs tag bP bl cP vL w) (hsame : ∀ i, i < np → (P i).ck = (P i).cd) (hf : f.Ok) (np1 : 1 ≤ np) (np2 : np ≤ 1000000000000) (hb : b ≤ 10000000000) (cs a v : Int) (c1 : -9223372036854775808 ≤ cs) (c2 : cs < 9223372036854775808) :
    Calls Tryz.prog 14 #[.pointer (some ⟨bP, 0, none⟩), .agg #[.int .i64 1, .int .i64 cs, .int .i64 a, .int .i64 v]] w fun e w' => StpP f (b + 1) np nl xs tag bP bl cP vL w e w' := by
  have hr : pickN cs np < np := pickN_lt np1
  have PK := hid (fun W => pick_law cs np W c1 c2 np1 np2)
  have hb0 : Below w.heap.size w (w.alloc (.cells #[.int .i64 1, .int .i64 cs, .int .i64 a, .int .i64 v] 37)) := (Below.refl _ _).alloc (Nat.le_refl _) _
  have hp := h.drop hb0
  have r0 := hp.row.cell (i := 0) (by omega)
  simp at r0
  obtain ⟨g, N, g1, g2, g3⟩ := hp.prow
  have y0 := g1.cell (i := pickN cs np * 2) (by omega)
  have y1 := g1.cell (i := pickN cs np * 2 + 1) (by omega)
  rw [g3 _ (by omega)] at y0 y1
  unfold prf at y0 y1
  rw [if_pos (by omega), show pickN cs np * 2 / 2 = pickN cs np by omega] at y0
  rw [if_neg (by omega), show (pickN cs np * 2 + 1) / 2 = pickN cs np by omega] at y1
  have gl := g1.lt
  have zP := hp.row.lt
  have HBX := hid (Below.refl (w.heap.size + 1) (w.alloc (.cells #[.int .i64 1, .int .i64 cs, .int .i64 a, .int .i64 v] 37)))
  have b0 := boxed HBX.out 0
  have b1 := boxed HBX.out 1
  have b2 := boxed HBX.out 2
  have b3 := boxed HBX.out 3
  simp at b0 b1 b2 b3
  have H := hid h
  have HF := hid hf
  have HSAME := hid hsame
  clear h hf hsame g1 g2 g3 hp hb0
  generalize hrr : pickN cs np = r at *
  clear hrr
  go_enter Tryz.func14, Tryz.ntmps14
  go_wp2_with fail
  go_region_held3 (fun w' => w'.cell? ⟨bP, 0, none⟩ = some (.slice (some ⟨bl, 0, none⟩) np cP) ∧ w'.cell? ⟨bl, r * 2, none⟩ = some (.pointer (some ⟨(P r).pk.bp, 0, none⟩)) ∧ w'.cell? ⟨bl, r * 2 + 1, none⟩ = some (.pointer (some ⟨(P r).pd.bw, 0, none⟩)) ∧ w'.cell? ⟨w.heap.size, 1, none⟩ = some (.int .i64 cs))
    (go_keep)
    ((go_at_call 26; refine (PK.out _).mono ?_; rintro e w2 ⟨rfl, rfl⟩))
  all_goals (
    obtain ⟨W1, hW1, v1, v2, v3⟩ := of_rows w 1 cs a v (P r).pk.bp (P r).pd.bw
    rw [← hW1]
    clear hW1 y0 y1 r0 b0 b1 b2 b3 HBX gl zP
    have V1 := hid v1
    have V2 := hid v2
    have V3 := hid v3
    have H1 := hid (H.out.drop v1)
    have KOK := hid (H.out.kok r hr)
    have DOK := hid (H.out.dok r hr)
    clear v1 v2 v3
    have x0 := V2.out.cell (i := 0) (by omega)
    have x2 := V2.out.cell (i := 2) (by omega)
    have x3 := V2.out.cell (i := 3) (by omega)
    have p0 := V3.out.cell (i := 0) (by omega)
    have p1 := V3.out.cell (i := 1) (by omega)
    have zz := V3.out.lt
    simp [of4] at x0 x2 x3
    simp [of2] at p0 p1
    go_wp2_with fail
    refine (kSet_any a v (H1.out.kst r hr) HF.out KOK.out.1 (few_len KOK.out.1 KOK.out.2 hb)).mono ?_
    rintro e1 w2 ⟨vk', rfl, k1, k2⟩
    have K1 := hid k1
    have K2 := hid k2
    have D1 := hid (H1.out.mid hr k2)
    have U2 := H.out.far hr (V1.out.size) k2 V2.out (Nat.le_refl _)
    have U3 := H.out.far hr (V1.out.size) k2 V3.out (by omega)
    clear k1 k2 x0 x2 x3 p0 p1
    have x2 := U2.cell (i := 2) (by omega)
    have x3 := U2.cell (i := 3) (by omega)
    have p1 := U3.cell (i := 1) (by omega)
    simp [of4] at x2 x3
    simp [of2] at p1
    clear U2 U3
    go_wp2_with fail
    refine (dSet_any a v D1.out HF.out DOK.out.1 (few_len DOK.out.1 DOK.out.2 hb)).mono ?_
    rintro e2 w3 ⟨vd', rfl, d1, d2⟩
    have EQ := HSAME.out r hr
    have RR : Hid (StpP f (b + 1) np nl xs tag bP bl cP vL w (.returned (.bool true)) w3) := by
      rw [← EQ] at d1
      obtain ⟨s1, P', tag', s2, s3, s4⟩ := H1.out.two HSAME.out hr (by omega) K1.out K2.out d1 d2 (setM_ok HF.out KOK.out.1 a v) (setM_few HF.out KOK.out.2 a v)
      exact ⟨s1, P', tag', s2, s3, (Kept.of V1.out).trans s4⟩
    rw [← EQ]
    clear d1 d2 EQ x2 x3 p1
    go_wp2_with (go_at_call 19; refine (num_any _ _).mono ?_; rintro e w' ⟨rfl, rfl⟩)
    go_ret
    exact RR.out)

set_option maxRecDepth 100000 in
set_option maxHeartbeats 3000000 in
theorem step_adv {f : Frm} {b np : Nat} {P : Nat → Pr} {nl : Nat} {xs : List Value} {tag : Nat → Nat} {bP bl cP : Nat} {vL : Value} {w : World} (h : PSt f b np P nl xs tag bP bl cP vL w) (hsame : ∀ i, i < np → (P i).ck = (P i).cd) (hf : f.Ok) (np1 : 1 ≤ np) (np2 : np ≤ 1000000000000) (hb : b ≤ 10000000000) (cs a v : Int) (c1 : -9223372036854775808 ≤ cs) (c2 : cs < 9223372036854775808) :
    Calls Tryz.prog 14 #[.pointer (some ⟨bP, 0, none⟩), .agg #[.int .i64 2, .int .i64 cs, .int .i64 a, .int .i64 v]] w fun e w' => StpP f (b + 0) np nl xs tag bP bl cP vL w e w' := by
  have hr : pickN cs np < np := pickN_lt np1
  have PK := hid (fun W => pick_law cs np W c1 c2 np1 np2)
  have hb0 : Below w.heap.size w (w.alloc (.cells #[.int .i64 2, .int .i64 cs, .int .i64 a, .int .i64 v] 37)) := (Below.refl _ _).alloc (Nat.le_refl _) _
  have hp := h.drop hb0
  have r0 := hp.row.cell (i := 0) (by omega)
  simp at r0
  obtain ⟨g, N, g1, g2, g3⟩ := hp.prow
  have y0 := g1.cell (i := pickN cs np * 2) (by omega)
  have y1 := g1.cell (i := pickN cs np * 2 + 1) (by omega)
  rw [g3 _ (by omega)] at y0 y1
  unfold prf at y0 y1
  rw [if_pos (by omega), show pickN cs np * 2 / 2 = pickN cs np by omega] at y0
  rw [if_neg (by omega), show (pickN cs np * 2 + 1) / 2 = pickN cs np by omega] at y1
  have gl := g1.lt
  have zP := hp.row.lt
  have HBX := hid (Below.refl (w.heap.size + 1) (w.alloc (.cells #[.int .i64 2, .int .i64 cs, .int .i64 a, .int .i64 v] 37)))
  have b0 := boxed HBX.out 0
  have b1 := boxed HBX.out 1
  have b2 := boxed HBX.out 2
  have b3 := boxed HBX.out 3
  simp at b0 b1 b2 b3
  have H := hid h
  have HF := hid hf
  have HSAME := hid hsame
  clear h hf hsame g1 g2 g3 hp hb0
  generalize hrr : pickN cs np = r at *
  clear hrr
  go_enter Tryz.func14, Tryz.ntmps14
  go_wp2_with fail
  go_region_held3 (fun w' => w'.cell? ⟨bP, 0, none⟩ = some (.slice (some ⟨bl, 0, none⟩) np cP) ∧ w'.cell? ⟨bl, r * 2, none⟩ = some (.pointer (some ⟨(P r).pk.bp, 0, none⟩)) ∧ w'.cell? ⟨bl, r * 2 + 1, none⟩ = some (.pointer (some ⟨(P r).pd.bw, 0, none⟩)) ∧ w'.cell? ⟨w.heap.size, 1, none⟩ = some (.int .i64 cs))
    (go_keep)
    ((go_at_call 26; refine (PK.out _).mono ?_; rintro e w2 ⟨rfl, rfl⟩))
  all_goals (
    obtain ⟨W1, hW1, v1, v2, v3⟩ := of_rows w 2 cs a v (P r).pk.bp (P r).pd.bw
    rw [← hW1]
    clear hW1 y0 y1 r0 b0 b1 b2 b3 HBX gl zP
    have V1 := hid v1
    have V2 := hid v2
    have V3 := hid v3
    have H1 := hid (H.out.drop v1)
    have KOK := hid (H.out.kok r hr)
    have DOK := hid (H.out.dok r hr)
    clear v1 v2 v3
    have x0 := V2.out.cell (i := 0) (by omega)
    have x2 := V2.out.cell (i := 2) (by omega)
    have x3 := V2.out.cell (i := 3) (by omega)
    have p0 := V3.out.cell (i := 0) (by omega)
    have p1 := V3.out.cell (i := 1) (by omega)
    have zz := V3.out.lt
    simp [of4] at x0 x2 x3
    simp [of2] at p0 p1
    go_wp2_with fail
    refine (kadvance_any a (H1.out.kst r hr) HF.out KOK.out.1 KOK.out.2 hb).mono ?_
    rintro e1 w2 ⟨vk', rfl, k1, k2⟩
    have K1 := hid k1
    have K2 := hid k2
    have D1 := hid (H1.out.mid hr k2)
    have U2 := H.out.far hr (V1.out.size) k2 V2.out (Nat.le_refl _)
    have U3 := H.out.far hr (V1.out.size) k2 V3.out (by omega)
    clear k1 k2 x0 x2 x3 p0 p1
    have x2 := U2.cell (i := 2) (by omega)
    have x3 := U2.cell (i := 3) (by omega)
    have p1 := U3.cell (i := 1) (by omega)
    simp [of4] at x2 x3
    simp [of2] at p1
    clear U2 U3
    go_wp2_with fail
    refine (dadvance_any a D1.out HF.out DOK.out.1 DOK.out.2 hb).mono ?_
    rintro e2 w3 ⟨vd', rfl, d1, d2⟩
    have EQ := HSAME.out r hr
    have RR : Hid (StpP f (b + 0) np nl xs tag bP bl cP vL w (.returned (.bool true)) w3) := by
      rw [← EQ] at d1
      obtain ⟨s1, P', tag', s2, s3, s4⟩ := H1.out.two HSAME.out hr (by omega) K1.out K2.out d1 d2 (advM_ok HF.out KOK.out.1 a) (advM_few HF.out KOK.out.2 a)
      exact ⟨s1, P', tag', s2, s3, (Kept.of V1.out).trans s4⟩
    rw [← EQ]
    clear d1 d2 EQ x2 x3 p1
    go_wp2_with (go_at_call 19; refine (num_any _ _).mono ?_; rintro e w' ⟨rfl, rfl⟩)
    go_ret
    exact RR.out)

set_option maxRecDepth 100000 in
set_option maxHeartbeats 3000000 in
theorem step_ack {f : Frm} {b np : Nat} {P : Nat → Pr} {nl : Nat} {xs : List Value} {tag : Nat → Nat} {bP bl cP : Nat} {vL : Value} {w : World} (h : PSt f b np P nl xs tag bP bl cP vL w) (hsame : ∀ i, i < np → (P i).ck = (P i).cd) (hf : f.Ok) (np1 : 1 ≤ np) (np2 : np ≤ 1000000000000) (hb : b ≤ 10000000000) (cs a v : Int) (c1 : -9223372036854775808 ≤ cs) (c2 : cs < 9223372036854775808) :
    Calls Tryz.prog 14 #[.pointer (some ⟨bP, 0, none⟩), .agg #[.int .i64 4, .int .i64 cs, .int .i64 a, .int .i64 v]] w fun e w' => StpP f (b + 0) np nl xs tag bP bl cP vL w e w' := by
  have hr : pickN cs np < np := pickN_lt np1
  have PK := hid (fun W => pick_law cs np W c1 c2 np1 np2)
  have hb0 : Below w.heap.size w (w.alloc (.cells #[.int .i64 4, .int .i64 cs, .int .i64 a, .int .i64 v] 37)) := (Below.refl _ _).alloc (Nat.le_refl _) _
  have hp := h.drop hb0
  have r0 := hp.row.cell (i := 0) (by omega)
  simp at r0
  obtain ⟨g, N, g1, g2, g3⟩ := hp.prow
  have y0 := g1.cell (i := pickN cs np * 2) (by omega)
  have y1 := g1.cell (i := pickN cs np * 2 + 1) (by omega)
  rw [g3 _ (by omega)] at y0 y1
  unfold prf at y0 y1
  rw [if_pos (by omega), show pickN cs np * 2 / 2 = pickN cs np by omega] at y0
  rw [if_neg (by omega), show (pickN cs np * 2 + 1) / 2 = pickN cs np by omega] at y1
  have gl := g1.lt
  have zP := hp.row.lt
  have HBX := hid (Below.refl (w.heap.size + 1) (w.alloc (.cells #[.int .i64 4, .int .i64 cs, .int .i64 a, .int .i64 v] 37)))
  have b0 := boxed HBX.out 0
  have b1 := boxed HBX.out 1
  have b2 := boxed HBX.out 2
  have b3 := boxed HBX.out 3
  simp at b0 b1 b2 b3
  have H := hid h
  have HF := hid hf
  have HSAME := hid hsame
  clear h hf hsame g1 g2 g3 hp hb0
  generalize hrr : pickN cs np = r at *
  clear hrr
  go_enter Tryz.func14, Tryz.ntmps14
  go_wp2_with fail
  go_region_held3 (fun w' => w'.cell? ⟨bP, 0, none⟩ = some (.slice (some ⟨bl, 0, none⟩) np cP) ∧ w'.cell? ⟨bl, r * 2, none⟩ = some (.pointer (some ⟨(P r).pk.bp, 0, none⟩)) ∧ w'.cell? ⟨bl, r * 2 + 1, none⟩ = some (.pointer (some ⟨(P r).pd.bw, 0, none⟩)) ∧ w'.cell? ⟨w.heap.size, 1, none⟩ = some (.int .i64 cs))
    (go_keep)
    ((go_at_call 26; refine (PK.out _).mono ?_; rintro e w2 ⟨rfl, rfl⟩))
  all_goals (
    obtain ⟨W1, hW1, v1, v2, v3⟩ := of_rows w 4 cs a v (P r).pk.bp (P r).pd.bw
    rw [← hW1]
    clear hW1 y0 y1 r0 b0 b1 b2 b3 HBX gl zP
    have V1 := hid v1
    have V2 := hid v2
    have V3 := hid v3
    have H1 := hid (H.out.drop v1)
    have KOK := hid (H.out.kok r hr)
    have DOK := hid (H.out.dok r hr)
    clear v1 v2 v3
    have x0 := V2.out.cell (i := 0) (by omega)
    have x2 := V2.out.cell (i := 2) (by omega)
    have x3 := V2.out.cell (i := 3) (by omega)
    have p0 := V3.out.cell (i := 0) (by omega)
    have p1 := V3.out.cell (i := 1) (by omega)
    have zz := V3.out.lt
    simp [of4] at x0 x2 x3
    simp [of2] at p0 p1
    go_wp2_with fail
    refine (kAck_any a (H1.out.kst r hr) HF.out).mono ?_
    rintro e1 w2 ⟨vk', rfl, k1, k2⟩
    have K1 := hid k1
    have K2 := hid k2
    have D1 := hid (H1.out.mid hr k2)
    have U2 := H.out.far hr (V1.out.size) k2 V2.out (Nat.le_refl _)
    have U3 := H.out.far hr (V1.out.size) k2 V3.out (by omega)
    clear k1 k2 x0 x2 x3 p0 p1
    have x2 := U2.cell (i := 2) (by omega)
    have x3 := U2.cell (i := 3) (by omega)
    have p1 := U3.cell (i := 1) (by omega)
    simp [of4] at x2 x3
    simp [of2] at p1
    clear U2 U3
    go_wp2_with fail
    refine (dAck_any a D1.out HF.out).mono ?_
    rintro e2 w3 ⟨vd', rfl, d1, d2⟩
    have EQ := HSAME.out r hr
    have RR : Hid (StpP f (b + 0) np nl xs tag bP bl cP vL w (.returned (.bool true)) w3) := by
      rw [← EQ] at d1
      obtain ⟨s1, P', tag', s2, s3, s4⟩ := H1.out.two HSAME.out hr (by omega) K1.out K2.out d1 d2 (ackM_ok KOK.out.1 a) (ackM_few KOK.out.2 a)
      exact ⟨s1, P', tag', s2, s3, (Kept.of V1.out).trans s4⟩
    rw [← EQ]
    clear d1 d2 EQ x2 x3 p1
    go_wp2_with (go_at_call 19; refine (num_any _ _).mono ?_; rintro e w' ⟨rfl, rfl⟩)
    go_ret
    exact RR.out)

set_option maxRecDepth 100000 in
set_option maxHeartbeats 3000000 in
theorem step_close {f : Frm} {b np : Nat} {P : Nat → Pr} {nl : Nat} {xs : List Value} {tag : Nat → Nat} {bP bl cP : Nat} {vL : Value} {w : World} (h : PSt f b np P nl xs tag bP bl cP vL w) (hsame : ∀ i, i < np → (P i).ck = (P i).cd) (hf : f.Ok) (np1 : 1 ≤ np) (np2 : np ≤ 1000000000000) (hb : b ≤ 10000000000) (cs a v : Int) (c1 : -9223372036854775808 ≤ cs) (c2 : cs < 9223372036854775808) :
    Calls Tryz.prog 14 #[.pointer (some ⟨bP, 0, none⟩), .agg #[.int .i64 5, .int .i64 cs, .int .i64 a, .int .i64 v]] w fun e w' => StpP f (b + 0) np nl xs tag bP bl cP vL w e w' := by
  have hr : pickN cs np < np := pickN_lt np1
  have PK := hid (fun W => pick_law cs np W c1 c2 np1 np2)
  have hb0 : Below w.heap.size w (w.alloc (.cells #[.int .i64 5, .int .i64 cs, .int .i64 a, .int .i64 v] 37)) := (Below.refl _ _).alloc (Nat.le_refl _) _
  have hp := h.drop hb0
  have r0 := hp.row.cell (i := 0) (by omega)
  simp at r0
  obtain ⟨g, N, g1, g2, g3⟩ := hp.prow
  have y0 := g1.cell (i := pickN cs np * 2) (by omega)
  have y1 := g1.cell (i := pickN cs np * 2 + 1) (by omega)
  rw [g3 _ (by omega)] at y0 y1
  unfold prf at y0 y1
  rw [if_pos (by omega), show pickN cs np * 2 / 2 = pickN cs np by omega] at y0
  rw [if_neg (by omega), show (pickN cs np * 2 + 1) / 2 = pickN cs np by omega] at y1
  have gl := g1.lt
  have zP := hp.row.lt
  have HBX := hid (Below.refl (w.heap.size + 1) (w.alloc (.cells #[.int .i64 5, .int .i64 cs, .int .i64 a, .int .i64 v] 37)))
  have b0 := boxed HBX.out 0
  have b1 := boxed HBX.out 1
  have b2 := boxed HBX.out 2
  have b3 := boxed HBX.out 3
  simp at b0 b1 b2 b3
  have H := hid h
  have HF := hid hf
  have HSAME := hid hsame
  clear h hf hsame g1 g2 g3 hp hb0
  generalize hrr : pickN cs np = r at *
  clear hrr
  go_enter Tryz.func14, Tryz.ntmps14
  go_wp2_with fail
  go_region_held3 (fun w' => w'.cell? ⟨bP, 0, none⟩ = some (.slice (some ⟨bl, 0, none⟩) np cP) ∧ w'.cell? ⟨bl, r * 2, none⟩ = some (.pointer (some ⟨(P r).pk.bp, 0, none⟩)) ∧ w'.cell? ⟨bl, r * 2 + 1, none⟩ = some (.pointer (some ⟨(P r).pd.bw, 0, none⟩)) ∧ w'.cell? ⟨w.heap.size, 1, none⟩ = some (.int .i64 cs))
    (go_keep)
    ((go_at_call 26; refine (PK.out _).mono ?_; rintro e w2 ⟨rfl, rfl⟩))
  all_goals (
    obtain ⟨W1, hW1, v1, v2, v3⟩ := of_rows w 5 cs a v (P r).pk.bp (P r).pd.bw
    rw [← hW1]
    clear hW1 y0 y1 r0 b0 b1 b2 b3 HBX gl zP
    have V1 := hid v1
    have V2 := hid v2
    have V3 := hid v3
    have H1 := hid (H.out.drop v1)
    have KOK := hid (H.out.kok r hr)
    have DOK := hid (H.out.dok r hr)
    clear v1 v2 v3
    have x0 := V2.out.cell (i := 0) (by omega)
    have x2 := V2.out.cell (i := 2) (by omega)
    have x3 := V2.out.cell (i := 3) (by omega)
    have p0 := V3.out.cell (i := 0) (by omega)
    have p1 := V3.out.cell (i := 1) (by omega)
    have zz := V3.out.lt
    simp [of4] at x0 x2 x3
    simp [of2] at p0 p1
    go_wp2_with fail
    refine (kClose_any (H1.out.kst r hr) HF.out).mono ?_
    rintro e1 w2 ⟨vk', rfl, k1, k2⟩
    have K1 := hid k1
    have K2 := hid k2
    have D1 := hid (H1.out.mid hr k2)
    have U2 := H.out.far hr (V1.out.size) k2 V2.out (Nat.le_refl _)
    have U3 := H.out.far hr (V1.out.size) k2 V3.out (by omega)
    clear k1 k2 x0 x2 x3 p0 p1
    have x2 := U2.cell (i := 2) (by omega)
    have x3 := U2.cell (i := 3) (by omega)
    have p1 := U3.cell (i := 1) (by omega)
    simp [of4] at x2 x3
    simp [of2] at p1
    clear U2 U3
    go_wp2_with fail
    refine (dClose_any D1.out HF.out).mono ?_
    rintro e2 w3 ⟨vd', rfl, d1, d2⟩
    have EQ := HSAME.out r hr
    have RR : Hid (StpP f (b + 0) np nl xs tag bP bl cP vL w (.returned (.bool true)) w3) := by
      rw [← EQ] at d1
      obtain ⟨s1, P', tag', s2, s3, s4⟩ := H1.out.two HSAME.out hr (by omega) K1.out K2.out d1 d2 (closeM_ok KOK.out.1) (closeM_few KOK.out.2)
      exact ⟨s1, P', tag', s2, s3, (Kept.of V1.out).trans s4⟩
    rw [← EQ]
    clear d1 d2 EQ x2 x3 p1
    go_wp2_with (go_at_call 19; refine (num_any _ _).mono ?_; rintro e w' ⟨rfl, rfl⟩)
    go_ret
    exact RR.out)

end Go.Proofs.YtcondcffllaaoaaGreatDoor
