/-
  THE WALKS: docketkeep's fits.
-/
import Derived.Test.YtmofidaojmiepaaDoorGE20
import Derived.BigQuiet
set_option linter.unusedVariables false
set_option linter.unusedSimpArgs false
namespace Go.Proofs.YtmofidaojmiepaaDoor
open Go.RowKit
attribute [local go_sem ↓] Go.wp_at_zero Go.wp_at_succ

theorem intsV_at (V : Nat → Int) {n j : Nat} (h : j < n) : (intsV V n)[j]? = some (.int .i64 (V j)) := by simp [intsV, h]
theorem pk_at {V : Nat → Int} {n j : Nat} (h : j < n) : pk V n (j : Int) = V j := by
  unfold pk
  rw [if_pos (by omega)]
  rfl
theorem age_says {v k g : Int} (hk : 1000000 ≤ k) (hk' : k ≤ 1000000000) (g0 : 0 ≤ g) (g1 : g ≤ 3000000000) (h : v = g / k) : 0 ≤ v ∧ v ≤ 3000 ∧ v * k ≤ g ∧ g < (v + 1) * k ∧ v * k ≤ 3000000000 ∧ (v + 1) * k ≤ 4000000000 ∧ 0 ≤ v * k ∧ 0 ≤ (v + 1) * k := by
  subst h
  have a1 : 0 ≤ g / k := Int.ediv_nonneg g0 (by omega)
  have a2 : g / k * k ≤ g := Int.ediv_mul_le _ (by omega)
  have a3 : g < (g / k + 1) * k := Int.lt_ediv_add_one_mul_self g (by omega)
  have a5 : (g / k + 1) * k = g / k * k + k := by rw [Int.add_mul, Int.one_mul]
  have a6 : g / k ≤ 3000 := by
    rcases Int.lt_or_le 3000 (g / k) with h | h
    · exfalso
      have h1 : 3001 * k ≤ g / k * k := Int.mul_le_mul_of_nonneg_right (by omega) (by omega)
      omega
    · exact h
  have a7 : 0 ≤ g / k * k := Int.mul_nonneg a1 (by omega)
  exact ⟨a1, a6, a2, a3, by omega, by omega, a7, by omega⟩

set_option maxRecDepth 100000 in
set_option maxHeartbeats 8000000 in
theorem kfits_any {f : Frm} (hs : f.Shaped) {fv : Value} {w : World} (hfv : FAt w f fv) {Bv Bf : Nat} {vV vF : Value} {V F : Nat → Int} {now : Int} (hV : w.ownsRow Bv 3 1 vV f.n (intsV V f.n)) (hF : w.ownsRow Bf 3 1 vF f.n (intsV F f.n)) (t0 : 0 ≤ now) (t1 : now ≤ 1000000000) {i : Nat} (hi : i < f.n) (hl : LocalAt (effC f.C F) f.n f.week f.hol now V i) (hv : ∀ j, j < f.n → IsV (V j)) :
    Calls Tryd.prog 50 #[fv, vV, vF, .int .i64 i, .int .i64 now] w fun e w' => TPost w e w' := by
  have HF := hid hs.ok
  have FV := hid hfv
  obtain ⟨n1, n20, k6, _, _⟩ := hs.ok.sizes
  obtain ⟨aC, cC, aR, cR, aH, cH, rfl, hc, _, _⟩ := hfv
  obtain ⟨bC, oC, rfl, zC, hC⟩ : ∃ b off, aC = some ⟨b, off, none⟩ ∧ b < w.heap.size ∧ ∀ m, m < f.n → CelIs w b (off + m * 5) (f.C m) := by
    rcases hc with h | h
    · omega
    · exact h
  obtain ⟨gV, cV, rfl, zV, xV⟩ := own_cell hV (by omega)
  obtain ⟨gF, cF, rfl, zF, xF⟩ := own_cell hF (by omega)
  obtain ⟨ia, hia⟩ := Int.eq_ofNat_of_zero_le (hs.a0 i hi).1
  obtain ⟨ib, hib⟩ := Int.eq_ofNat_of_zero_le (hs.b0 i hi).1
  obtain ⟨ic, hic⟩ := Int.eq_ofNat_of_zero_le (hs.c0 i hi).1
  have la : ia < f.n := by have := (hs.a0 i hi).2; omega
  have lb : ib < f.n := by have := (hs.b0 i hi).2; omega
  have lc : ic < f.n := by have := (hs.c0 i hi).2; omega
  have yI := xV i (by omega)
  have yA := xV ia (by omega)
  have yB := xV ib (by omega)
  have yC := xV ic (by omega)
  have yF := xF i (by omega)
  rw [intsV_at V hi] at yI
  rw [intsV_at V la] at yA
  rw [intsV_at V lb] at yB
  rw [intsV_at V lc] at yC
  rw [intsV_at F hi] at yF
  obtain ⟨x0, x1, x2, x3, x4⟩ := hC i hi
  obtain ⟨kd0, kd1, hK, _⟩ := hs.ok.cells i hi
  obtain ⟨r0, r2, r9, r10, r11, r12⟩ := hl
  have vA := hv ia la
  have vB := hv ib lb
  have vI := hv i hi
  have e1 : pk V f.n (effC f.C F i).a = V ia := by show pk V f.n (f.C i).a = _; rw [hia]; exact pk_at la
  have e2 : pk V f.n (effC f.C F i).b = V ib := by show pk V f.n (f.C i).b = _; rw [hib]; exact pk_at lb
  have e3 : pk V f.n (effC f.C F i).c = V ic := by show pk V f.n (f.C i).c = _; rw [hic]; exact pk_at lc
  rw [e1] at r2 r9 r10 r11 r12
  rw [e2] at r2 r9
  rw [e3] at r9
  have r0a : (f.C i).kind = 0 → V i = F i := fun e => by
    have := r0 (Or.inl e)
    rw [this]
    show (if (f.C i).kind = 0 then F i else _) = _
    rw [if_pos e]
  have kk : (f.C i).kind ≠ 0 → (effC f.C F i).k = (f.C i).k := fun e => by
    show (if (f.C i).kind = 0 then F i else _) = _
    rw [if_neg e]
  have r0b : (f.C i).kind = 1 → V i = (f.C i).k := fun e => by rw [r0 (Or.inr e), kk (by omega)]
  have r11b : (f.C i).kind = 11 → V i = if now < V ia then 0 else (now - V ia) / (f.C i).k := fun e => by rw [r11 e, kk (by omega)]
  have r12b : (f.C i).kind = 12 → ∃ T, M.IsDue (M.wkd f.week f.hol) (V ia / 86400) (f.C i).k.toNat T ∧ V i = M.cutv (T * 86400) := fun e => by
    have := r12 e
    rw [kk (by omega)] at this
    exact this
  have R0 := hid r0a
  have R1 := hid r0b
  have R2 : Hid ((2 ≤ (f.C i).kind ∧ (f.C i).kind ≤ 8) → V i = M.two (f.C i).kind (V ia) (V ib)) := r2
  have R9 : Hid ((f.C i).kind = 9 → V i = if V ia = 0 then V ic else V ib) := r9
  have R10 : Hid ((f.C i).kind = 10 → V i = M.num (decide (V ia ≤ now))) := r10
  have R11 := hid r11b
  have R12 := hid r12b
  have HK : Hid (KOk (f.C i)) := hK
  rw [hia] at x1
  rw [hib] at x2
  rw [hic] at x3
  obtain ⟨va0, va1⟩ := vA
  obtain ⟨vb0, vb1⟩ := vB
  have DR : Hid (∀ T k W, Below w.heap.size w W → 0 ≤ k → k ≤ 250 → M.IsDue (M.wkd f.week f.hol) (V ia / 86400) k.toNat T → Calls Tryd.prog 72 #[.agg #[.slice (some ⟨bC, oC, none⟩) f.n cC, .slice aR f.k cR, .int .i64 f.week, .slice aH f.hol.length cH], .int .i64 (M.cutv (T * 86400)), .int .i64 (V ia), .int .i64 k] W fun e w' => TPost W e w') := fun T k W hW k0 k1 hd => kdueRight_any HF.out (FV.out.below hW) (V ia) T k va0 va1 k0 k1 hd
  unfold KOk at HK
  clear r0 r0a r0b r2 r9 r10 r11 r11b r12 r12b kk hia hib hic e1 e2 e3 hK vI hC xV xF hs hc hV hF hv
  generalize (f.C i).kind = kd at *
  generalize (f.C i).k = ck at *
  generalize V i = vi at *
  generalize V ia = va at *
  generalize V ib = vb at *
  generalize V ic = vc at *
  generalize F i = fi at *
  have BX := hid (Below.refl (w.heap.size + 1) (w.alloc (.cells #[.slice (some ⟨bC, oC, none⟩) f.n cC, .slice aR f.k cR, .int .i64 f.week, .slice aH f.hol.length cH] 26)))
  have BW := hid (boxed_below BX.out)
  have g0 : (w.alloc (.cells #[.slice (some ⟨bC, oC, none⟩) f.n cC, .slice aR f.k cR, .int .i64 f.week, .slice aH f.hol.length cH] 26)).cell? ⟨w.heap.size, 0, none⟩ = some (Value.slice (some ⟨bC, oC, none⟩) f.n cC) := boxed BX.out 0
  have g1 : (w.alloc (.cells #[.slice (some ⟨bC, oC, none⟩) f.n cC, .slice aR f.k cR, .int .i64 f.week, .slice aH f.hol.length cH] 26)).cell? ⟨w.heap.size, 1, none⟩ = some (Value.slice aR f.k cR) := boxed BX.out 1
  have g2 : (w.alloc (.cells #[.slice (some ⟨bC, oC, none⟩) f.n cC, .slice aR f.k cR, .int .i64 f.week, .slice aH f.hol.length cH] 26)).cell? ⟨w.heap.size, 2, none⟩ = some (.int .i64 f.week) := boxed BX.out 2
  have g3 : (w.alloc (.cells #[.slice (some ⟨bC, oC, none⟩) f.n cC, .slice aR f.k cR, .int .i64 f.week, .slice aH f.hol.length cH] 26)).cell? ⟨w.heap.size, 3, none⟩ = some (Value.slice aH f.hol.length cH) := boxed BX.out 3
  have zg : w.heap.size < (w.alloc (.cells #[.slice (some ⟨bC, oC, none⟩) f.n cC, .slice aR f.k cR, .int .i64 f.week, .slice aH f.hol.length cH] 26)).heap.size := by simp
  have x0 := (BW.out.cell (p := ⟨bC, oC + i * 5, none⟩) zC).trans x0
  have x1 := (BW.out.cell (p := ⟨bC, oC + i * 5 + 1, none⟩) zC).trans x1
  have x2 := (BW.out.cell (p := ⟨bC, oC + i * 5 + 2, none⟩) zC).trans x2
  have x3 := (BW.out.cell (p := ⟨bC, oC + i * 5 + 3, none⟩) zC).trans x3
  have x4 := (BW.out.cell (p := ⟨bC, oC + i * 5 + 4, none⟩) zC).trans x4
  have yI := (BW.out.cell (p := ⟨gV, i, none⟩) zV).trans yI
  have yA := (BW.out.cell (p := ⟨gV, ia, none⟩) zV).trans yA
  have yB := (BW.out.cell (p := ⟨gV, ib, none⟩) zV).trans yB
  have yC := (BW.out.cell (p := ⟨gV, ic, none⟩) zV).trans yC
  have yF := (BW.out.cell (p := ⟨gF, i, none⟩) zF).trans yF
  have li : (i : Int) < (f.n : Int) := by omega
  have la' : (ia : Int) < (f.n : Int) := by omega
  have lb' : (ib : Int) < (f.n : Int) := by omega
  have lc' : (ic : Int) < (f.n : Int) := by omega
  have zs := BW.out.size
  go_enter Tryd.func50, Tryd.ntmps50
  go_upto_region 1 with (fail)
  generalize w.alloc (.cells #[.slice (some ⟨bC, oC, none⟩) f.n cC, .slice aR f.k cR, .int .i64 f.week, .slice aH f.hol.length cH] 26) = wB at *
  generalize hgg : w.heap.size = g at *
  have HG := hid hgg
  clear hgg BX
  go_upto_region 2 with (fail)
  have BY := hid (Below.refl (wB.heap.size + 1) (wB.alloc (.cells #[.int .i64 kd, .int .i64 ia, .int .i64 ib, .int .i64 ic, .int .i64 ck] 82)))
  have BZ := hid (boxed_below BY.out)
  have c0 : (wB.alloc (.cells #[.int .i64 kd, .int .i64 ia, .int .i64 ib, .int .i64 ic, .int .i64 ck] 82)).cell? ⟨wB.heap.size, 0, none⟩ = some (.int .i64 kd) := boxed BY.out 0
  have c1 : (wB.alloc (.cells #[.int .i64 kd, .int .i64 ia, .int .i64 ib, .int .i64 ic, .int .i64 ck] 82)).cell? ⟨wB.heap.size, 1, none⟩ = some (.int .i64 ia) := boxed BY.out 1
  have c2 : (wB.alloc (.cells #[.int .i64 kd, .int .i64 ia, .int .i64 ib, .int .i64 ic, .int .i64 ck] 82)).cell? ⟨wB.heap.size, 2, none⟩ = some (.int .i64 ib) := boxed BY.out 2
  have c3 : (wB.alloc (.cells #[.int .i64 kd, .int .i64 ia, .int .i64 ib, .int .i64 ic, .int .i64 ck] 82)).cell? ⟨wB.heap.size, 3, none⟩ = some (.int .i64 ic) := boxed BY.out 3
  have c4 : (wB.alloc (.cells #[.int .i64 kd, .int .i64 ia, .int .i64 ib, .int .i64 ic, .int .i64 ck] 82)).cell? ⟨wB.heap.size, 4, none⟩ = some (.int .i64 ck) := boxed BY.out 4
  have yI := (BZ.out.cell (p := ⟨gV, i, none⟩) (by show gV < _; omega)).trans yI
  have yA := (BZ.out.cell (p := ⟨gV, ia, none⟩) (by show gV < _; omega)).trans yA
  have yB := (BZ.out.cell (p := ⟨gV, ib, none⟩) (by show gV < _; omega)).trans yB
  have yC := (BZ.out.cell (p := ⟨gV, ic, none⟩) (by show gV < _; omega)).trans yC
  have yF := (BZ.out.cell (p := ⟨gF, i, none⟩) (by show gF < _; omega)).trans yF
  have g0 := (BZ.out.cell (p := ⟨g, 0, none⟩) zg).trans g0
  have g1 := (BZ.out.cell (p := ⟨g, 1, none⟩) zg).trans g1
  have g2 := (BZ.out.cell (p := ⟨g, 2, none⟩) zg).trans g2
  have g3 := (BZ.out.cell (p := ⟨g, 3, none⟩) zg).trans g3
  have BA : Hid (Below w.heap.size w (wB.alloc (.cells #[.int .i64 kd, .int .i64 ia, .int .i64 ib, .int .i64 ic, .int .i64 ck] 82))) := by
    have h1 := BW.out
    rw [HG.out]
    exact h1.trans (BZ.out.mono (by omega))
  have zz : wB.heap.size < (wB.alloc (.cells #[.int .i64 kd, .int .i64 ia, .int .i64 ib, .int .i64 ic, .int .i64 ck] 82)).heap.size := by simp
  clear BY BZ BW x0 x1 x2 x3 x4
  generalize wB.alloc (.cells #[.int .i64 kd, .int .i64 ia, .int .i64 ib, .int .i64 ic, .int .i64 ck] 82) = wC at *
  generalize wB.heap.size = gc at *
  have RT : Hid (TPost w (.returned (.bool true)) wC) := ⟨rfl, BA.out⟩
  have RW : Hid (∀ W, Below wC.heap.size wC W → TPost w (.returned (.bool true)) W) := fun W hW => ⟨rfl, BA.out.trans (hW.mono BA.out.size)⟩
  go_upto_region 3 with (fail)
  have cs : kd = 0 ∨ kd = 1 ∨ (2 ≤ kd ∧ kd ≤ 8) ∨ kd = 9 ∨ kd = 10 ∨ kd = 11 ∨ kd = 12 := by omega
  rcases cs with rfl | rfl | ⟨k2, k8⟩ | rfl | rfl | rfl | rfl
  · have e := R0.out rfl
    subst e
    clear R0 R1 R2 R9 R10 R11 R12 HK DR
    go_wp2
    go_region
    go_wp2
    go_ret
    exact RW.out _ (Below.refl _ _).drew
  · have e := R1.out rfl
    subst e
    clear R0 R1 R2 R9 R10 R11 R12 HK DR
    go_wp2
    go_region
    go_wp2
    go_ret
    exact RW.out _ (Below.refl _ _).drew
  · have e := R2.out ⟨k2, k8⟩
    have d0 : (kd == 0) = false := beq_eq_false_iff_ne.2 (by omega)
    have d1 : (kd == 1) = false := beq_eq_false_iff_ne.2 (by omega)
    have d9 : (kd == 9) = false := beq_eq_false_iff_ne.2 (by omega)
    have d10 : (kd == 10) = false := beq_eq_false_iff_ne.2 (by omega)
    have d11 : (kd == 11) = false := beq_eq_false_iff_ne.2 (by omega)
    have d12 : (kd == 12) = false := beq_eq_false_iff_ne.2 (by omega)
    have PL := hid (fun W => kplain_any kd va vb W k2 k8 va0 va1 vb0 vb1)
    subst e
    clear R0 R1 R2 R9 R10 R11 R12 HK DR
    generalize M.two kd va vb = tw at *
    go_upto_region 21 with (fail)
    go_region_held3 (fun w' => w'.cell? ⟨gV, i, none⟩ = some (.int .i64 tw) ∧ w'.cell? ⟨gV, ib, none⟩ = some (.int .i64 vb) ∧ w'.cell? ⟨gc, 0, none⟩ = some (.int .i64 kd) ∧ w'.cell? ⟨gc, 2, none⟩ = some (.int .i64 ib))
      (refine ⟨?_, ?_, ?_, ?_⟩ <;> assumption)
      ((go_at_call 73; refine (PL.out _).mono ?_; rintro e w' ⟨rfl, hw⟩; rw [hw]; clear hw w'))
    all_goals (
      go_wp2
      go_ret
      exact RW.out _ (Below.refl _ _).drew)
  · have e := R9.out rfl
    clear R0 R1 R2 R9 R10 R11 R12 HK DR
    by_cases hz : va = 0
    · rw [if_pos hz] at e
      subst e hz
      go_wp2
      go_region
      go_wp2
      go_ret
      exact RW.out _ (Below.refl _ _).drew
    · rw [if_neg hz] at e
      have dz : (va != 0) = true := by simp [hz]
      subst e
      clear hz
      go_wp2
      go_region
      go_wp2
      go_ret
      exact RW.out _ (Below.refl _ _).drew
  · have e := R10.out rfl
    have NU := hid (fun b W => knumber_any b W)
    subst e
    clear R0 R1 R2 R9 R10 R11 R12 HK DR
    go_upto_region 13 with (fail)
    by_cases hle : va ≤ now
    · rw [show decide (va ≤ now) = true from decide_eq_true hle] at yI
      go_region_held3 (fun w' => w'.cell? ⟨gV, i, none⟩ = some (.int .i64 (M.num true)))
        (assumption)
        ((go_at_call 71; refine (NU.out _ _).mono ?_; rintro e w' ⟨rfl, hw⟩; rw [hw]; clear hw w'))
      all_goals (
        go_wp2
        go_ret
        first | exact RW.out _ (Below.refl _ _).drew | (have h := RW.out _ (Below.refl _ _).drew; simpa [hle] using h))
    · rw [show decide (va ≤ now) = false from decide_eq_false hle] at yI
      go_region_held3 (fun w' => w'.cell? ⟨gV, i, none⟩ = some (.int .i64 (M.num false)))
        (assumption)
        ((go_at_call 71; refine (NU.out _ _).mono ?_; rintro e w' ⟨rfl, hw⟩; rw [hw]; clear hw w'))
      all_goals (
        go_wp2
        go_ret
        first | exact RW.out _ (Below.refl _ _).drew | (have h := RW.out _ (Below.refl _ _).drew; simpa [hle] using h))
  · have e := R11.out rfl
    obtain ⟨hk0, hk1⟩ := HK.out.2.1 rfl
    clear R0 R1 R2 R9 R10 R11 R12 HK DR
    by_cases hlt : now < va
    · rw [if_pos hlt] at e
      subst e
      go_wp2
      go_ret
      exact RT.out
    · rw [if_neg hlt] at e
      obtain ⟨a1, a2, a3, a4, a5, a6, a7, a8⟩ := age_says hk0 hk1 (g := now - va) (by omega) (by omega) e
      clear e
      generalize hm1 : vi * ck = m1 at *
      generalize hm2 : (vi + 1) * ck = m2 at *
      have e1 : decide (0 ≤ vi) = true := decide_eq_true a1
      have e2 : decide (vi ≤ 3000) = true := decide_eq_true a2
      have e3 : decide (m1 ≤ now - va) = true := decide_eq_true a3
      have e4 : decide (now - va < m2) = true := decide_eq_true a4
      go_upto_region 18 with (fail)
      go_quiet (fail)
      go_wp2
      go_ret
      exact RW.out _ (below_drewN (Below.refl _ _) _)
  · obtain ⟨Td, hT, e⟩ := R12.out rfl
    obtain ⟨hk0, hk1⟩ := HK.out.2.2 rfl
    have DD := hid (fun W (hW : Below w.heap.size w W) => DR.out Td ck W (by have h := hW; rw [HG.out] at h; exact h) hk0 hk1 hT)
    rw [← e] at DD
    clear R0 R1 R2 R9 R10 R11 R12 HK DR e hT
    have zgC : g < wC.heap.size := by omega
    have zVC : gV < wC.heap.size := by omega
    have zcC : gc < wC.heap.size := by omega
    go_upto_region 20 with (fail)
    go_region_held3 (fun w' => w'.cell? ⟨g, 0, none⟩ = some (.slice (some ⟨bC, oC, none⟩) f.n cC) ∧ w'.cell? ⟨g, 1, none⟩ = some (.slice aR f.k cR) ∧ w'.cell? ⟨g, 2, none⟩ = some (.int .i64 f.week) ∧ w'.cell? ⟨g, 3, none⟩ = some (.slice aH f.hol.length cH) ∧ w'.cell? ⟨gV, i, none⟩ = some (.int .i64 vi) ∧ w'.cell? ⟨gc, 4, none⟩ = some (.int .i64 ck))
      (refine ⟨?_, ?_, ?_, ?_, ?_, ?_⟩ <;> assumption)
      ((go_at_call 72; refine (DD.out _ BA.out.drew).mono ?_; rintro e w5 ⟨rfl, hb5⟩; have m0 := (hb5.cell (p := ⟨g, 0, none⟩) zgC).trans g0; have m1 := (hb5.cell (p := ⟨g, 1, none⟩) zgC).trans g1; have m2 := (hb5.cell (p := ⟨g, 2, none⟩) zgC).trans g2; have m3 := (hb5.cell (p := ⟨g, 3, none⟩) zgC).trans g3; have m4 := (hb5.cell (p := ⟨gV, i, none⟩) zVC).trans yI; have m5 := (hb5.cell (p := ⟨gc, 4, none⟩) zcC).trans c4))
    all_goals (
      have R : Hid (TPost w (.returned (.bool true)) w5) := ⟨rfl, BA.out.trans ((show Below wC.heap.size wC w5 from ⟨hb5.os, hb5.tape, hb5.output, hb5.size, hb5.block⟩).mono BA.out.size)⟩
      clear hb5
      go_wp2
      go_ret
      exact R.out)

end Go.Proofs.YtmofidaojmiepaaDoor
