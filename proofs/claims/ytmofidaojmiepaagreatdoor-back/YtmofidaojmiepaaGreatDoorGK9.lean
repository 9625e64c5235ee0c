/-
  THE CODE: a new case, exactly.
-/
import Derived.Test.YtmofidaojmiepaaGreatDoorGH24
import Derived.Test.YtmofidaojmiepaaGreatDoorGK8
import Derived.Test.YtmofidaojmiepaaGreatDoorGD10
set_option linter.unusedVariables false
set_option linter.unusedSimpArgs false
namespace Go.Proofs.YtmofidaojmiepaaGreatDoor

open Go.RowKit

attribute [local go_sem ↓] Go.wp_at_zero Go.wp_at_succ

theorem irow_sp {w : World} {b : Nat} {l : List Int} (h : w.rowIs b 3 (l.length + 8) (intSp l)) : IRow w b l := ⟨_, _, h, by omega, fun j hj => intSp_at l j hj⟩

theorem cat_hand {w : World} {b n : Nat} {C : Nat → Cel} (h : w.rowIs b 47 ((n + 8) * 5) (cellSt C n 8)) : CAt w (some ⟨b, 0, none⟩) n C :=
  Or.inr ⟨b, 0, rfl, h.lt, fun m hm => by rw [Nat.zero_add]; exact cellSt_cel h hm (by omega)⟩

theorem rat_hand {w : World} {b k : Nat} {R : Nat → Rul} {bs : Nat → Nat} (h : w.rowIs b 51 ((k + 8) * 2) (ruleSt R bs k 8)) (hst : ∀ x, x < k → w.rowIs (bs x) 3 ((R x).steps.length + 8) (intSp (R x).steps)) (hsl : ∀ i, i < k → (R i).steps.length ≤ 1000000000) : RAt w (some ⟨b, 0, none⟩) k R :=
  Or.inr ⟨b, 0, rfl, h.lt, fun m hm => by
    rw [Nat.zero_add]
    exact ⟨by rw [h.cell (by omega), ruleSt0 hm], some ⟨bs m, 0, none⟩, (R m).steps.length + 8, by rw [h.cell (by omega), ruleSt1 hm], (irow_sp (hst m hm)).ints _, hsl m hm⟩⟩

theorem effC_id (C : Nat → Cel) : effC C (fun j => (C j).k) = C := by
  funext i
  unfold effC
  rw [ite_self]

/-- What New answers: the document's error and number, or a case in memory of its own. -/
def NwP (f : Frm) (w : World) (e : Ending) (w' : World) : Prop :=
  Below w.heap.size w w' ∧ ∃ er a, ChkRel f.C f.n f.R f.k f.week f.hol er a ∧ ((er ≠ 0 ∧ e = .returned (.tuple #[.pointer none, .int .i64 er, .int .i64 a])) ∨
    (er = 0 ∧ a = 0 ∧ ∃ Q p vE, e = .returned (.tuple #[.pointer (some ⟨p.bp, 0, none⟩), .int .i64 0, .int .i64 0]) ∧ KAt Q f p (beginM f) vE w' ∧ (∀ j, KOwn p vE j → w.heap.size ≤ j) ∧ ∀ j, Q j → j = 0 ∨ w.heap.size ≤ j))

theorem four {W w' : World} {b : Nat} {v0 v1 v2 v3 : Value} (x0 : W.cell? ⟨b, 0, none⟩ = some v0) (x1 : W.cell? ⟨b, 1, none⟩ = some v1) (x2 : W.cell? ⟨b, 2, none⟩ = some v2) (x3 : W.cell? ⟨b, 3, none⟩ = some v3) (z : b < W.heap.size) (h : Lo W w') :
    Lo W w' ∧ w'.cell? ⟨b, 0, none⟩ = some v0 ∧ w'.cell? ⟨b, 1, none⟩ = some v1 ∧ w'.cell? ⟨b, 2, none⟩ = some v2 ∧ w'.cell? ⟨b, 3, none⟩ = some v3 := ⟨h, (h.2 _ _ z).trans x0, (h.2 _ _ z).trans x1, (h.2 _ _ z).trans x2, (h.2 _ _ z).trans x3⟩

/-- A case, just made. -/
structure Made (f : Frm) (p : KPl) (Q : Nat → Prop) (w1 X : World) : Prop where
  bel : Below w1.heap.size w1 X
  st : KSt Q f p (fun j => (f.C j).k) 0 true (fun _ => noSt) (.slice none 0 0) [] X
  own : ∀ j, KOwn p (.slice none 0 0) j → w1.heap.size ≤ j
  base : ∀ j, Q j → j = 0 ∨ w1.heap.size ≤ j

/-- The states lie ahead of the form's copy (L = 1), or behind it (L = 0). -/
theorem made_of {f : Frm} {w1 W2 w2 X : World} {bc cC bh cH bS bp : Nat} {aR : Option Addr} {cR : Nat} (ht : Tab w1) (h12 : Below w1.heap.size w1 W2) (hb2 : Below W2.heap.size W2 w2) (hX : Below w2.heap.size w2 X)
    (q1 : W2.heap.size ≤ bc) (q2 : CRow w2 bc f.C f.n) (q3 : W2.heap.size ≤ bh) (q4 : IRow w2 bh f.hol) (q5 : ∀ W, w2.heap.size ≤ W.heap.size → (∀ b, W2.heap.size ≤ b → b < w2.heap.size → b ≠ bc → W.heap[b]? = w2.heap[b]?) → RAt W aR f.k f.R)
    (hS : X.rowIs bS 71 (f.k * 4) (stf (fun _ => noSt))) (hS2 : w1.heap.size ≤ bS) (hS3 : bS < W2.heap.size ∨ w2.heap.size ≤ bS) (hp : X.rowIs bp 94 8 (kf f ⟨bp, bc, cC, aR, cR, some ⟨bh, 0, none⟩, cH, bS, f.k⟩ 0 true (.slice none 0 0))) (hp2 : w2.heap.size ≤ bp) :
    Made f ⟨bp, bc, cC, aR, cR, some ⟨bh, 0, none⟩, cH, bS, f.k⟩ (fun j => j = 0 ∨ (W2.heap.size ≤ j ∧ j < w2.heap.size ∧ j ≠ bc)) w1 X := by
  have s1 := h12.size
  have s2 := hb2.size
  have s3 := hX.size
  have lc := q2.lt
  have lh := q4.lt
  have t1 := ht.1
  obtain ⟨fc, Nc, rc, rc2⟩ := q2
  obtain ⟨fh, Nh, rh, rh2, rh3⟩ := q4
  have nbh : bh ≠ bc := row_ne rh rc (by decide)
  have bX : Below w1.heap.size w1 X := h12.trans ((hb2.mono s1).trans (hX.mono (by omega)))
  refine ⟨bX, ⟨fun W hW => ?_, fun j hj => ?_, fun j hj => ?_, hp, ⟨fc, Nc, rc.of_block (hX.block _ lc), by have := rc2.1; exact this, fun j hj => ?_⟩, FRow.of hS, own_none _ _ _⟩, fun j hj => ?_, fun j hj => ?_⟩
  · have hst : ∀ b, W2.heap.size ≤ b → b < w2.heap.size → b ≠ bc → W.heap[b]? = w2.heap[b]? := fun b h1 h2 h3 => (hW.2 b (Or.inr ⟨h1, h2, h3⟩) (by omega)).trans (hX.block b h2)
    refine ⟨⟨by have := hW.1; omega, fun i hi => ?_⟩, q5 W (by have := hW.1; omega) hst, some ⟨bh, 0, none⟩, cH, rfl, fun j hj => ⟨bh, 0, rfl, by have := hW.1; omega, ?_⟩⟩
    · have e : W.heap[0]? = w1.heap[0]? := (hW.2 0 (Or.inl rfl) (by omega)).trans (bX.block 0 (by omega))
      have := ht.2 i hi
      unfold World.cell? at this ⊢
      rw [e]
      exact this
    · rw [Nat.zero_add, (rh.of_block (hst bh q3 lh nbh)).cell (by omega), rh3 j (by omega)]
  · rcases hj with rfl | hj <;> omega
  · have hj' : j ≠ bp ∧ j ≠ bc ∧ j ≠ bS := by
      rcases hj with rfl | ⟨h1, h2, h3⟩
      · exact ⟨by omega, by omega, by omega⟩
      · exact ⟨by omega, h3, by omega⟩
    exact ⟨hj'.1, hj'.2.1, hj'.2.2, by show (none : Option Nat) ≠ _; simp⟩
  · rw [effC_id]
    exact rc2.2 j hj
  · rcases hj with h | h | h | h
    · have h' : j = bp := h; omega
    · have h' : j = bc := h; omega
    · have h' : j = bS := h; omega
    · cases h
  · rcases hj with rfl | hj
    · exact Or.inl rfl
    · exact Or.inr (by omega)

theorem case_row {f : Frm} (w : World) (p : KPl) (hp : p.bp = w.heap.size) : (w.alloc (.cells #[.slice (some ⟨p.bc, 0, none⟩) f.n p.cC, .slice p.aR f.k p.cR, .int .i64 f.week, .slice p.aH f.hol.length p.cH, .int .i64 0, .bool false, .slice (some ⟨p.bS, 0, none⟩) f.k p.cS, .slice none 0 0] 94)).rowIs p.bp 94 8 (kf f p 0 true (.slice none 0 0)) := by
  rw [hp]
  exact World.rowIs_alloc w #[.slice (some ⟨p.bc, 0, none⟩) f.n p.cC, .slice p.aR f.k p.cR, .int .i64 f.week, .slice p.aH f.hol.length p.cH, .int .i64 0, .bool false, .slice (some ⟨p.bS, 0, none⟩) f.k p.cS, .slice none 0 0] 94 (kf f p 0 true (.slice none 0 0)) (fun i hi => by
    have hi' : i = 0 ∨ i = 1 ∨ i = 2 ∨ i = 3 ∨ i = 4 ∨ i = 5 ∨ i = 6 ∨ i = 7 := by simp at hi; omega
    rcases hi' with rfl | rfl | rfl | rfl | rfl | rfl | rfl | rfl <;> rfl)

set_option maxRecDepth 100000 in
set_option maxHeartbeats 2000000 in
theorem new_gen (f : Frm) (aC aR aH : Option Addr) (cC0 cR0 cH0 : Nat) (w : World) (ht : Tab w) (hn : f.n ≤ 1000000000) (hk : f.k ≤ 1000000000) (hhl : f.hol.length ≤ 1000000000)
    (hrc : CAt w aC f.n f.C) (hrr : RAt w aR f.k f.R) (hrh : IntsAt w (.slice aH f.hol.length cH0) f.hol) :
    Calls Tryz.prog 43 #[.agg #[.slice aC f.n cC0, .slice aR f.k cR0, .int .i64 f.week, .slice aH f.hol.length cH0]] w fun e w' => NwP f w e w' := by
  have HB : Hid (∀ o, Below w.heap.size w (w.alloc o)) := fun o => (Below.refl _ _).alloc (Nat.le_refl _) _
  have FORM : Hid (∀ o, Calls Tryz.prog 20 #[.agg #[.slice aC f.n cC0, .slice aR f.k cR0, .int .i64 f.week, .slice aH f.hol.length cH0]] (w.alloc o) fun e w' => ChkPost f.C f.n f.R f.k f.week f.hol (w.alloc o) e w') := fun o =>
    form_any f.C f.R f.hol _ _ _ f.n cC0 f.k cR0 cH0 f.week _ (ht.below (HB.out o) (Nat.le_refl _)) hn hk hhl (hrc.below (HB.out o)) (hrr.below (HB.out o)) (SlAt.below hrh (HB.out o) (Nat.le_refl _))
  have HRC := hid hrc
  have HRR := hid hrr
  have HRH := hid hrh
  have HT := hid ht
  clear hrc hrr hrh ht
  go_enter Tryz.func43, Tryz.ntmps43
  go_wp2_with fail
  refine (FORM.out _).mono ?_
  rintro e1 w1 ⟨er, a, rfl, hrel, hb1⟩
  have REL := hid hrel
  have B1 : Hid (Below (w.heap.size + 1) (w.alloc (.cells #[.slice aC f.n cC0, .slice aR f.k cR0, .int .i64 f.week, .slice aH f.hol.length cH0] 26)) w1) := by have h := hb1; rw [World.size_alloc] at h; exact h
  have B0 := hid (boxed_below B1.out)
  clear hb1 hrel FORM
  by_cases e0 : er = 0
  · subst e0
    obtain ⟨rfl, hfo⟩ := REL.out.ok
    have HF : Hid (f.Ok) := hfo
    obtain ⟨n1, hn', hk', _, _⟩ := hfo.sizes
    have hhl' : f.hol.length ≤ 20 := hfo.hol.1
    clear hfo
    have f0 := boxed B1.out 0
    have f1 := boxed B1.out 1
    have f2 := boxed B1.out 2
    have f3 := boxed B1.out 3
    simp at f0 f1 f2 f3
    have zw : w.heap.size < w1.heap.size := by have := B1.out.size; simp at this; omega
    have HT1 := hid (HT.out.below B0.out (Nat.le_refl _))
    obtain ⟨bC, oC, rfl, hbC, hcC⟩ : ∃ b off, aC = some ⟨b, off, none⟩ ∧ b < w.heap.size ∧ ∀ m, m < f.n → CelIs w b (off + m * 5) (f.C m) := by
      rcases HRC.out with h | h
      · omega
      · exact h
    have CF := hid (fun W (h : Below w1.heap.size w1 W) => copyForm_any f.C f.R f.hol bC oC cC0 aR cR0 aH cH0 f.n f.k f.week W hn' hk' hhl' (by have := B0.out.size; have := h.size; omega) (fun m hm => ((hcC m hm).below B0.out hbC).below h (by have := B0.out.size; omega)) ((HRR.out.below B0.out).below h) (SlAt.below (SlAt.below HRH.out B0.out (Nat.le_refl _)) h (Nat.le_refl _)))
    clear hcC
    have mk := run_make_is (P := Tryz.prog) 38 71 _ 4 32 underlyingE info92 f.k (by omega) (by omega)
    go_wp2
    go_region_held3 (fun w' => Lo w1 w' ∧ w'.cell? ⟨w.heap.size, 0, none⟩ = some (.slice (some ⟨bC, oC, none⟩) f.n cC0) ∧ w'.cell? ⟨w.heap.size, 1, none⟩ = some (.slice aR f.k cR0) ∧ w'.cell? ⟨w.heap.size, 2, none⟩ = some (.int .i64 f.week) ∧ w'.cell? ⟨w.heap.size, 3, none⟩ = some (.slice aH f.hol.length cH0))
      ((refine four f0 f1 f2 f3 zw ?_; repeat (first | assumption | exact Lo.drew0 _ | exact ⟨Nat.le_refl _, fun _ _ _ => rfl⟩ | refine Lo.alloc ?_ _ | refine Lo.below (w := w1.drew) ?_ hb2 | refine Lo.below (w := (w1.alloc _).drew) ?_ hb2 | refine Lo.drewM ?_)))
      ((go_at_call 64; refine (CF.out _ (by repeat' (first | exact Below.refl _ _ | refine Below.drew ?_ | refine Below.alloc ?_ (by first | exact Nat.le_refl _ | (simp; done) | (simp; omega)) _))).mono ?_; rintro e w2 ⟨bc, cC, aR, cR, bh, cH, rfl, q1, q2, q3, q4, q5, hb2⟩))
    · have MD : Hid (Made f ⟨w2.heap.size + 1, bc, cC, aR, cR, some ⟨bh, 0, none⟩, cH, w2.heap.size, f.k⟩ (fun j => j = 0 ∨ (w1.drew.heap.size ≤ j ∧ j < w2.heap.size ∧ j ≠ bc)) w1 ((w2.alloc (.cells (madeCells #[.bool false, .int .i64 0, .int .i64 0, .bool false] (f.k * 4)) 71)).alloc (.cells #[.slice (some ⟨bc, 0, none⟩) f.n cC, .slice aR f.k cR, .int .i64 f.week, .slice (some ⟨bh, 0, none⟩) f.hol.length cH, .int .i64 0, .bool false, .slice (some ⟨w2.heap.size, 0, none⟩) f.k f.k, .slice none 0 0] 94))) :=
        made_of HT1.out (W2 := w1.drew) (Below.refl _ _).drew hb2 (((Below.refl _ _).alloc (Nat.le_refl _) _).alloc (by simp) _) q1 q2 q3 q4 q5 ((sta_made f.k).alloc _) hb2.size (Or.inr (Nat.le_refl _)) (case_row (w2.alloc (.cells (madeCells #[.bool false, .int .i64 0, .int .i64 0, .bool false] (f.k * 4)) 71)) ⟨w2.heap.size + 1, bc, cC, aR, cR, some ⟨bh, 0, none⟩, cH, w2.heap.size, f.k⟩ (by simp)) (by omega)
      generalize ((w2.alloc (.cells (madeCells #[.bool false, .int .i64 0, .int .i64 0, .bool false] (f.k * 4)) 71)).alloc (.cells #[.slice (some ⟨bc, 0, none⟩) f.n cC, .slice aR f.k cR, .int .i64 f.week, .slice (some ⟨bh, 0, none⟩) f.hol.length cH, .int .i64 0, .bool false, .slice (some ⟨w2.heap.size, 0, none⟩) f.k f.k, .slice none 0 0] 94)) = X at *
      have PB : ∃ p : KPl, p = ⟨w2.heap.size + 1, bc, cC, aR, cR, some ⟨bh, 0, none⟩, cH, w2.heap.size, f.k⟩ := ⟨_, rfl⟩
      obtain ⟨p, hp⟩ := PB
      rw [← hp] at MD
      have hpb : w2.heap.size + 1 = p.bp := by rw [hp]
      rw [hpb]
      clear hp hpb q1 q2 q3 q4 q5 hb2 CF mk f0 f1 f2 f3
      have FV0 := hid (begin_fv HF.out)
      have SOK : Hid (∀ i, i < f.k → StOk noSt) := fun _ _ => ⟨Int.le_refl _, by show (0 : Int) ≤ _; omega, Int.le_refl _, by show (0 : Int) ≤ _; omega⟩
      go_wp2_with fail
      refine (kvalues_any MD.out.st HF.out FV0.out (Int.le_refl _) (by omega)).mono ?_
      rintro e w4 ⟨bn, rfl, y1, y2, y3⟩
      have S4 : Hid (KAt _ f p ⟨fun j => (f.C j).k, 0, true, fun _ => noSt, []⟩ (.slice none 0 0) w4) := KSt.drop MD.out.st y3
      have V4 := hid y2
      have N4 : Hid (¬ KOwn p (.slice none 0 0) bn) := fun h => by have := KSt.own_lt MD.out.st _ h; omega
      have B4 : Hid (Below w1.heap.size w1 w4) := MD.out.bel.trans (y3.mono MD.out.bel.size)
      clear y1 y2 y3
      go_wp2_with fail
      refine (ksettle_cs S4.out HF.out SOK.out (by show 0 ≤ _; omega) V4.out N4.out).mono ?_
      rintro e w5 ⟨vE2, rfl, z1, z2⟩
      have R : Hid (NwP f w (.returned (.tuple #[.pointer (some ⟨p.bp, 0, none⟩), .int .i64 0, .int .i64 0])) w5) := by
        have b5 : Below w1.heap.size w1 w5 := B4.out.trans (z2.1.below MD.out.own B4.out.size)
        have s4 := B4.out.size
        refine ⟨B0.out.trans (b5.mono (by omega)), 0, 0, REL.out, Or.inr ⟨rfl, rfl, _, p, vE2, rfl, z1, fun j hj => ?_, fun j hj => ?_⟩⟩
        · by_cases e : j < w4.heap.size
          · have := MD.out.own j (KOwn.grew z2.2 j e hj)
            omega
          · omega
        · rcases MD.out.base j hj with e | e
          · exact Or.inl e
          · exact Or.inr (by omega)
      clear z1 z2
      go_wp2
      go_ret3
      exact R.out
    · have MD : Hid (Made f ⟨w2.heap.size, bc, cC, aR, cR, some ⟨bh, 0, none⟩, cH, w1.heap.size, f.k⟩ (fun j => j = 0 ∨ ((w1.alloc (.cells (madeCells #[.bool false, .int .i64 0, .int .i64 0, .bool false] (f.k * 4)) 71)).drew.heap.size ≤ j ∧ j < w2.heap.size ∧ j ≠ bc)) w1 (w2.alloc (.cells #[.slice (some ⟨bc, 0, none⟩) f.n cC, .slice aR f.k cR, .int .i64 f.week, .slice (some ⟨bh, 0, none⟩) f.hol.length cH, .int .i64 0, .bool false, .slice (some ⟨w1.heap.size, 0, none⟩) f.k f.k, .slice none 0 0] 94))) :=
        made_of HT1.out (W2 := (w1.alloc (.cells (madeCells #[.bool false, .int .i64 0, .int .i64 0, .bool false] (f.k * 4)) 71)).drew) ((Below.refl _ _).alloc (Nat.le_refl _) _).drew hb2 ((Below.refl _ _).alloc (Nat.le_refl _) _) q1 q2 q3 q4 q5 ((((sta_made (W := w1) f.k).drew).of_block (hb2.block _ (sta_made (W := w1) f.k).lt)).alloc _) (Nat.le_refl _) (Or.inl (sta_made (W := w1) f.k).lt) (case_row w2 ⟨w2.heap.size, bc, cC, aR, cR, some ⟨bh, 0, none⟩, cH, w1.heap.size, f.k⟩ rfl) (Nat.le_refl _)
      generalize (w2.alloc (.cells #[.slice (some ⟨bc, 0, none⟩) f.n cC, .slice aR f.k cR, .int .i64 f.week, .slice (some ⟨bh, 0, none⟩) f.hol.length cH, .int .i64 0, .bool false, .slice (some ⟨w1.heap.size, 0, none⟩) f.k f.k, .slice none 0 0] 94)) = X at *
      have PB : ∃ p : KPl, p = ⟨w2.heap.size, bc, cC, aR, cR, some ⟨bh, 0, none⟩, cH, w1.heap.size, f.k⟩ := ⟨_, rfl⟩
      obtain ⟨p, hp⟩ := PB
      rw [← hp] at MD
      have hpb : w2.heap.size = p.bp := by rw [hp]
      rw [hpb]
      clear hp hpb q1 q2 q3 q4 q5 hb2 CF mk f0 f1 f2 f3
      have FV0 := hid (begin_fv HF.out)
      have SOK : Hid (∀ i, i < f.k → StOk noSt) := fun _ _ => ⟨Int.le_refl _, by show (0 : Int) ≤ _; omega, Int.le_refl _, by show (0 : Int) ≤ _; omega⟩
      go_wp2_with fail
      refine (kvalues_any MD.out.st HF.out FV0.out (Int.le_refl _) (by omega)).mono ?_
      rintro e w4 ⟨bn, rfl, y1, y2, y3⟩
      have S4 : Hid (KAt _ f p ⟨fun j => (f.C j).k, 0, true, fun _ => noSt, []⟩ (.slice none 0 0) w4) := KSt.drop MD.out.st y3
      have V4 := hid y2
      have N4 : Hid (¬ KOwn p (.slice none 0 0) bn) := fun h => by have := KSt.own_lt MD.out.st _ h; omega
      have B4 : Hid (Below w1.heap.size w1 w4) := MD.out.bel.trans (y3.mono MD.out.bel.size)
      clear y1 y2 y3
      go_wp2_with fail
      refine (ksettle_cs S4.out HF.out SOK.out (by show 0 ≤ _; omega) V4.out N4.out).mono ?_
      rintro e w5 ⟨vE2, rfl, z1, z2⟩
      have R : Hid (NwP f w (.returned (.tuple #[.pointer (some ⟨p.bp, 0, none⟩), .int .i64 0, .int .i64 0])) w5) := by
        have b5 : Below w1.heap.size w1 w5 := B4.out.trans (z2.1.below MD.out.own B4.out.size)
        have s4 := B4.out.size
        refine ⟨B0.out.trans (b5.mono (by omega)), 0, 0, REL.out, Or.inr ⟨rfl, rfl, _, p, vE2, rfl, z1, fun j hj => ?_, fun j hj => ?_⟩⟩
        · by_cases e : j < w4.heap.size
          · have := MD.out.own j (KOwn.grew z2.2 j e hj)
            omega
          · omega
        · rcases MD.out.base j hj with e | e
          · exact Or.inl e
          · exact Or.inr (by omega)
      clear z1 z2
      go_wp2
      go_ret3
      exact R.out
  · have Q : Hid (NwP f w (.returned (.tuple #[.pointer none, .int .i64 er, .int .i64 a])) w1) := ⟨B0.out, er, a, REL.out, Or.inl ⟨e0, rfl⟩⟩
    go_wp2
    exact bodyPost_ret (v := .tuple #[.pointer none, .int .i64 er, .int .i64 a]) (by simp [results, Tryz.results43, go_sem]) rfl Q.out

theorem new_any (f : Frm) (bC bR bH : Nat) (bs : Nat → Nat) (w : World) (ht : Tab w) (hn : f.n ≤ 1000000000) (hk : f.k ≤ 1000000000) (hhl : f.hol.length ≤ 1000000000) (hsl : ∀ i, i < f.k → (f.R i).steps.length ≤ 1000000000)
    (hrc : w.rowIs bC 47 ((f.n + 8) * 5) (cellSt f.C f.n 8)) (hrr : w.rowIs bR 51 ((f.k + 8) * 2) (ruleSt f.R bs f.k 8)) (hrh : w.rowIs bH 3 (f.hol.length + 8) (intSp f.hol)) (hst : ∀ x, x < f.k → w.rowIs (bs x) 3 ((f.R x).steps.length + 8) (intSp (f.R x).steps)) :
    Calls Tryz.prog 43 #[.agg #[.slice (some ⟨bC, 0, none⟩) f.n (f.n + 8), .slice (some ⟨bR, 0, none⟩) f.k (f.k + 8), .int .i64 f.week, .slice (some ⟨bH, 0, none⟩) f.hol.length (f.hol.length + 8)]] w fun e w' => NwP f w e w' :=
  new_gen f _ _ _ _ _ _ w ht hn hk hhl (cat_hand hrc) (rat_hand hrr hst hsl) ((irow_sp hrh).ints _)

end Go.Proofs.YtmofidaojmiepaaGreatDoor
