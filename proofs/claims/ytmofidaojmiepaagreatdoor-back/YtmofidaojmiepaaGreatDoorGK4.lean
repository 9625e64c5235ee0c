/-
  THE CODE: when the clock stops next.
-/
import Derived.Test.YtmofidaojmiepaaGreatDoorGK2
import Derived.Test.YtmofidaojmiepaaGreatDoorGD13
set_option linter.unusedVariables false
set_option linter.unusedSimpArgs false
namespace Go.Proofs.YtmofidaojmiepaaGreatDoor

open Go.RowKit

attribute [local go_sem ↓] Go.wp_at_zero Go.wp_at_succ

/-- At t something comes about: a cell turns, or a level of the first i rules comes; or there is no such instant. -/
def SX (f : Frm) (F : Nat → Int) (T : Int) (S : Nat → St) (i : Nat) (t : Int) : Prop := CX f F T f.n t ∨ ∃ j, j < i ∧ ¬ NoLevAt f S j t

/-- How an instant ahead, or none, is told. -/
def Tell (T c t : Int) (ok : Bool) : Prop := (c = -1 ∧ t = 0 ∧ ok = false) ∨ (c = t ∧ T < t ∧ t ≤ 1000000000 ∧ ok = true)

theorem ns_lev {f : Frm} {S : Nat → St} {i : Nat} (h : nsB (f.R i) (S i) = true) : ((S i).lit = true ∧ (S i).acked = false ∧ (S i).level < (f.R i).steps.length) ∧ nsV (f.R i) (S i) = (S i).since + (f.R i).steps.getD (S i).level.toNat 0 := by
  refine ⟨?_, by unfold nsV; rw [if_pos h]⟩
  unfold nsB at h
  simp at h
  exact ⟨h.1.1, h.1.2, h.2⟩

theorem ns_no_lev {f : Frm} {S : Nat → St} {i : Nat} (h : nsB (f.R i) (S i) = false) : ¬ ((S i).lit = true ∧ (S i).acked = false ∧ (S i).level < (f.R i).steps.length) := by
  intro ⟨h1, h2, h3⟩
  unfold nsB at h
  rw [h1, h2, decide_eq_true h3] at h
  cases h

theorem SX.mono {f : Frm} {F : Nat → Int} {T : Int} {S : Nat → St} {i : Nat} {t : Int} (h : SX f F T S i t) : SX f F T S (i + 1) t := by
  rcases h with h | ⟨j, j1, j2⟩
  · exact Or.inl h
  · exact Or.inr ⟨j, by omega, j2⟩

/-- A rule that waits for nothing. -/
theorem nt_idle {f : Frm} {F : Nat → Int} {T : Int} {S : Nat → St} {i : Nat} {c : Int} (h : RQ f F T S i c ∧ SX f F T S i c) (hB : nsB (f.R i) (S i) = false) : RQ f F T S (i + 1) c ∧ SX f F T S (i + 1) c := ⟨h.1.idle (ns_no_lev hB), h.2.mono⟩

/-- One whose level is no sooner. -/
theorem nt_keep {f : Frm} {F : Nat → Int} {T : Int} {S : Nat → St} {i : Nat} {c : Int} (t0 : 0 ≤ T) (h : RQ f F T S i c ∧ SX f F T S i c) (hB : nsB (f.R i) (S i) = true) (hn : ¬ (T < nsV (f.R i) (S i) ∧ nsV (f.R i) (S i) ≤ 1000000000 ∧ (c < 0 ∨ nsV (f.R i) (S i) < c))) : RQ f F T S (i + 1) c ∧ SX f F T S (i + 1) c := by
  refine ⟨?_, h.2.mono⟩
  have := h.1.level t0
  rw [← (ns_lev hB).2] at this
  unfold soon at this
  rw [if_neg hn] at this
  exact this

/-- One whose level is sooner. -/
theorem nt_less {f : Frm} {F : Nat → Int} {T : Int} {S : Nat → St} {i : Nat} {c : Int} (t0 : 0 ≤ T) (h : RQ f F T S i c ∧ SX f F T S i c) (hB : nsB (f.R i) (S i) = true) (hn : T < nsV (f.R i) (S i) ∧ nsV (f.R i) (S i) ≤ 1000000000 ∧ (c < 0 ∨ nsV (f.R i) (S i) < c)) : RQ f F T S (i + 1) (nsV (f.R i) (S i)) ∧ SX f F T S (i + 1) (nsV (f.R i) (S i)) := by
  obtain ⟨⟨l1, l2, l3⟩, l4⟩ := ns_lev hB
  refine ⟨?_, Or.inr ⟨i, by omega, fun g => g l1 ⟨l3, l2, l4⟩⟩⟩
  have := h.1.level t0
  rw [← l4] at this
  unfold soon at this
  rw [if_pos hn] at this
  exact this

def NtP (f : Frm) (F : Nat → Int) (T : Int) (S : Nat → St) (w : World) (e : Ending) (w' : World) : Prop := ∃ c t ok, e = .returned (.tuple #[.int .i64 t, .bool ok]) ∧ (RQ f F T S f.k c ∧ SX f F T S f.k c) ∧ Tell T c t ok ∧ Below w.heap.size w w'

set_option maxRecDepth 100000 in
set_option maxHeartbeats 2000000 in
theorem knext_any {Q : Nat → Prop} {f : Frm} {p : KPl} {F : Nat → Int} {T : Int} {op : Bool} {S : Nat → St} {vE : Value} {E : List Ev} {w : World} {bv : Nat} (hS : KSt Q f p F T op S vE E w) (hf : f.Ok) (hF : FV f F) (hSt : ∀ i, i < f.k → StOk (S i)) (t0 : 0 ≤ T) (t1 : T ≤ 1000000000) (hv : w.rowIs bv 3 f.n (fun i => .int .i64 (f.vals F T i))) :
    Calls Tryz.prog 49 #[.pointer (some ⟨p.bp, 0, none⟩), .slice (some ⟨bv, 0, none⟩) f.n f.n] w fun e w' => NtP f F T S w e w' := by
  obtain ⟨n1, hn, hk, wk1, wk2⟩ := hf.sizes
  have r0 := hS.row.cell (i := 0) (by omega)
  have r1 := hS.row.cell (i := 1) (by omega)
  have r2 := hS.row.cell (i := 2) (by omega)
  have r3 := hS.row.cell (i := 3) (by omega)
  have r4 := hS.row.cell (i := 4) (by omega)
  simp [kf] at r0 r1 r2 r3 r4
  have zb := hS.row.lt
  have TC := hid (fun W (hW : Below w.heap.size w W) => turn_any hf hF t0 t1 (w := W) (bc := p.bc) (cC := p.cC) (cR := p.cR) (cH := p.cH) (aR := p.aR) (aH := p.aH) (fun i hi => (hS.celIs hi).below hW hS.celLt) (by have := hS.celLt; have := hW.size; omega) (hv.of_block (hW.block _ hv.lt)))
  have HS := hid hS
  have HST := hid hSt
  have HR := hid hf.rules
  clear hS hSt hf hF hv
  go_enter Tryz.func49, Tryz.ntmps49
  go_wp2
  go_region_held3 (fun w' => w'.cell? ⟨p.bp, 0, none⟩ = some (.slice (some ⟨p.bc, 0, none⟩) f.n p.cC) ∧ w'.cell? ⟨p.bp, 1, none⟩ = some (.slice p.aR f.k p.cR) ∧ w'.cell? ⟨p.bp, 2, none⟩ = some (.int .i64 f.week) ∧ w'.cell? ⟨p.bp, 3, none⟩ = some (.slice p.aH f.hol.length p.cH) ∧ w'.cell? ⟨p.bp, 4, none⟩ = some (.int .i64 T))
    ((refine ⟨?_, ?_, ?_, ?_, ?_⟩ <;> first | assumption | (rw [hb2.cell (show p.bp < w.heap.size from zb)]; assumption)))
    ((go_at_call 67; refine (TC.out _ (by exact (Below.refl _ _).drew)).mono ?_; rintro e w2 ⟨cc, tt, ok, rfl, q1, qx, q2, hb2⟩))
  all_goals (
    have B2 : Hid (Below w.heap.size w w2) := ⟨hb2.os, hb2.tape, hb2.output, hb2.size, hb2.block⟩
    have HL : Hid (RQ f F T S 0 cc ∧ SX f F T S 0 cc) := ⟨RQ.start S q1, Or.inl qx⟩
    have HT : Hid (Tell T cc tt ok) := q2
    have H2 := hid (HS.out.drop B2.out)
    clear q1 qx q2 hb2 TC r0 r1 r2 r3 r4
    have y1 := H2.out.row.cell (i := 1) (by omega)
    simp [kf] at y1
    (
      go_wp2
      go_loopw [6, 7, 31] (fun tl tb ti wr => ∃ (i : Nat) (c t : Int) (ok : Bool), i ≤ f.k ∧ ti = .int .i64 i ∧ tl = .int .i64 t ∧ tb = .bool ok ∧ Hid (RQ f F T S i c ∧ SX f F T S i c) ∧ Hid (Tell T c t ok) ∧ Hid (KSt Q f p F T op S vE E wr) ∧ Hid (Below w.heap.size w wr)) (fun _ _ ti _ => f.k - (intOf ti).toNat)
      case atStart => exact ⟨0, cc, tt, ok, by omega, rfl, rfl, rfl, HL, HT, H2, B2⟩
      case round =>
        clear HL HT H2 B2 y1
        obtain ⟨i, c, t, ok, i1, rfl, rfl, rfl, hq, ht, hs, hb⟩ := hrel
        by_cases hit : i < f.k
        · obtain ⟨bR, oR, haO, hbR, hrr⟩ : ∃ b off, p.aR = some ⟨b, off, none⟩ ∧ b < wr.heap.size ∧ ∀ m, m < f.k → RuleIs wr b (off + m * 2) (f.R m) := by
            rcases hs.out.base.now.2.1 with h | h
            · omega
            · exact h
          obtain ⟨u0, ast, caps, u1, u2, u3⟩ := hrr i hit
          have lt' : (i : Int) < (f.k : Int) := by omega
          have WB0 : Hid (Below wr.heap.size wr (wr.alloc (.cells #[.int .i64 (f.R i).guard, .slice ast (f.R i).steps.length caps] 51))) := (Below.refl _ _).alloc (Nat.le_refl _) _
          have NS := hid (fun W (h : Below wr.heap.size wr W) => nextStep_any (HR.out i hit) (HST.out i hit) (w := W) (SlAt.below u2 h (Nat.le_refl _)))
          unfold St.val at NS
          rw [haO]
          clear u2 hrr haO
          go_upto_region 5 with (fail)
          have x0 := boxed (Below.refl (wr.heap.size + 1) (wr.alloc (.cells #[.int .i64 (f.R i).guard, .slice ast (f.R i).steps.length caps] 51))) 0
          have x1 := boxed (Below.refl (wr.heap.size + 1) (wr.alloc (.cells #[.int .i64 (f.R i).guard, .slice ast (f.R i).steps.length caps] 51))) 1
          have zx : wr.heap.size < (wr.alloc (.cells #[.int .i64 (f.R i).guard, .slice ast (f.R i).steps.length caps] 51)).heap.size := by simp
          generalize (wr.alloc (.cells #[.int .i64 (f.R i).guard, .slice ast (f.R i).steps.length caps] 51)) = Wb at *
          simp at x0 x1
          have hs2 := hid (hs.out.drop WB0.out)
          have hb3 : Hid (Below w.heap.size w Wb) := hb.out.trans (WB0.out.mono hb.out.size)
          have NB := hid (fun W (h : Below Wb.heap.size Wb W) => NS.out W (WB0.out.trans (h.mono WB0.out.size)))
          clear hs hb u0 u1 NS WB0
          have y4 := hs2.out.row.cell (i := 4) (by omega)
          have y6 := hs2.out.row.cell (i := 6) (by omega)
          simp [kf] at y4 y6
          have s0 := hs2.out.sta.cell (i := i * 4) (by omega)
          have s1 := hs2.out.sta.cell (i := i * 4 + 1) (by omega)
          have s2 := hs2.out.sta.cell (i := i * 4 + 2) (by omega)
          have s3 := hs2.out.sta.cell (i := i * 4 + 3) (by omega)
          rw [stf0] at s0
          rw [stf1] at s1
          rw [stf2] at s2
          rw [stf3] at s3
          have zS := hs2.out.sta.lt
          have zP := hs2.out.row.lt
          go_region_held3 (fun w' => w'.cell? ⟨wr.heap.size, 0, none⟩ = some (.int .i64 (f.R i).guard) ∧ w'.cell? ⟨wr.heap.size, 1, none⟩ = some (.slice ast (f.R i).steps.length caps) ∧ w'.cell? ⟨p.bp, 6, none⟩ = some (.slice (some ⟨p.bS, 0, none⟩) f.k p.cS) ∧ w'.cell? ⟨p.bS, i * 4, none⟩ = some (.bool (S i).lit) ∧ w'.cell? ⟨p.bS, i * 4 + 1, none⟩ = some (.int .i64 (S i).since) ∧ w'.cell? ⟨p.bS, i * 4 + 2, none⟩ = some (.int .i64 (S i).level) ∧ w'.cell? ⟨p.bS, i * 4 + 3, none⟩ = some (.bool (S i).acked))
            ((refine ⟨?_, ?_, ?_, ?_, ?_, ?_, ?_⟩ <;> first | assumption | (rw [hb5.cell (show p.bp < Wb.heap.size from zP)]; assumption) | (rw [hb5.cell (show p.bS < Wb.heap.size from zS)]; assumption) | (rw [hb5.cell (show wr.heap.size < Wb.heap.size from zx)]; assumption)))
            ((go_at_call 68; refine (NB.out _ (by exact (Below.refl _ _).drew)).mono ?_; rintro e w5 ⟨rfl, hb5⟩))
          all_goals (
            have B5 : Below Wb.heap.size Wb w5 := ⟨hb5.os, hb5.tape, hb5.output, hb5.size, hb5.block⟩
            have hs4 := hid (hs2.out.drop B5)
            have hb6 := hid (hb3.out.trans (B5.mono hb3.out.size))
            clear hb5 B5 x0 x1 y4 y6 s0 s1 s2 s3 hs2 hb3 NB zx zS zP
            have y4 := hs4.out.row.cell (i := 4) (by omega)
            simp [kf] at y4
            cases hB : nsB (f.R i) (S i)
            · have A0 := hid (nt_idle hq.out hB)
              clear hB
              go_wp2
              go_roundw
              case rel => exact ⟨i + 1, c, t, ok, by omega, by go_num, rfl, rfl, A0, ht, hs4, hb6⟩
              case measure => simp [intOf]; omega
            · by_cases h1 : T < nsV (f.R i) (S i)
              · by_cases h2 : nsV (f.R i) (S i) ≤ 1000000000
                · have TL : Hid (Tell T (nsV (f.R i) (S i)) (nsV (f.R i) (S i)) true) := Or.inr ⟨rfl, h1, h2, rfl⟩
                  rcases ht.out with ⟨rfl, rfl, rfl⟩ | ⟨rfl, g1, g2, rfl⟩
                  · have A0 := hid (nt_less t0 hq.out hB ⟨h1, h2, Or.inl (by omega)⟩)
                    clear hB
                    go_wp2
                    go_roundw
                    case rel => exact ⟨i + 1, _, _, true, by omega, by go_num, rfl, rfl, A0, TL, hs4, hb6⟩
                    case measure => simp [intOf]; omega
                  · by_cases h3 : nsV (f.R i) (S i) < c
                    · have A0 := hid (nt_less t0 hq.out hB ⟨h1, h2, Or.inr h3⟩)
                      clear hB
                      go_wp2
                      go_roundw
                      case rel => exact ⟨i + 1, _, _, true, by omega, by go_num, rfl, rfl, A0, TL, hs4, hb6⟩
                      case measure => simp [intOf]; omega
                    · have A0 := hid (nt_keep t0 hq.out hB (fun h => by have := h.2.2; omega))
                      clear hB
                      go_wp2
                      go_roundw
                      case rel => exact ⟨i + 1, c, c, true, by omega, by go_num, rfl, rfl, A0, ht, hs4, hb6⟩
                      case measure => simp [intOf]; omega
                · have A0 := hid (nt_keep t0 hq.out hB (fun h => h2 h.2.1))
                  clear hB
                  go_wp2
                  go_roundw
                  case rel => exact ⟨i + 1, c, t, ok, by omega, by go_num, rfl, rfl, A0, ht, hs4, hb6⟩
                  case measure => simp [intOf]; omega
              · have A0 := hid (nt_keep t0 hq.out hB (fun h => h1 h.1))
                clear hB
                go_wp2
                go_roundw
                case rel => exact ⟨i + 1, c, t, ok, by omega, by go_num, rfl, rfl, A0, ht, hs4, hb6⟩
                case measure => simp [intOf]; omega)
        · obtain rfl : i = f.k := by omega
          have R : Hid (NtP f F T S w (.returned (.tuple #[.int .i64 t, .bool ok])) wr) := ⟨c, t, ok, rfl, hq.out, ht.out, hb.out⟩
          go_wp2
          go_ret2
          exact R.out))

end Go.Proofs.YtmofidaojmiepaaGreatDoor

/-
  PLAIN MATHEMATICS: a cell and what it needs, alone; what comes about at the first instant at which something could.
-/
set_option linter.unusedVariables false
set_option linter.unusedSimpArgs false
namespace Go.Proofs.YtmofidaojmiepaaGreatDoor

open Go.RowKit

def noCel : Cel := ⟨1, 0, 0, 0, 0⟩

def onlyC (C : Nat → Cel) (c : Nat) (S : Nat → Bool) (i : Nat) : Cel := if i = c ∨ S i = true then C i else noCel

/-- The form in which nothing turns but a cell and what it needs, as it is filled. -/
def Frm.only (f : Frm) (F : Nat → Int) (c : Nat) (S : Nat → Bool) : Frm := ⟨onlyC (effC f.C F) c S, f.n, f.R, f.k, f.hol, f.week⟩

theorem way_mono {E E' : Nat → Nat → Prop} (h : ∀ i j, E i j → E' i j) {i : Nat} : ∀ {s j : Nat}, M.Way E s i j → M.Way E' s i j
  | 0, _, g => g
  | s + 1, _, g => by
    obtain ⟨k, g1, g2⟩ := g
    exact ⟨k, way_mono h g1, h _ _ g2⟩

theorem only_in {C : Nat → Cel} {c : Nat} {S : Nat → Bool} {i : Nat} (h : i = c ∨ S i = true) : onlyC C c S i = C i := if_pos h

theorem only_out {C : Nat → Cel} {c : Nat} {S : Nat → Bool} {i : Nat} (h : ¬ (i = c ∨ S i = true)) : onlyC C c S i = noCel := if_neg h

theorem only_eff (f : Frm) (F : Nat → Int) (c : Nat) (S : Nat → Bool) : effC (f.only F c S).C F = (f.only F c S).C := by
  funext i
  show (⟨(onlyC (effC f.C F) c S i).kind, (onlyC (effC f.C F) c S i).a, (onlyC (effC f.C F) c S i).b, (onlyC (effC f.C F) c S i).c, if (onlyC (effC f.C F) c S i).kind = 0 then F i else (onlyC (effC f.C F) c S i).k⟩ : Cel) = onlyC (effC f.C F) c S i
  by_cases h : i = c ∨ S i = true
  · rw [only_in h]
    show (⟨(f.C i).kind, (f.C i).a, (f.C i).b, (f.C i).c, if (f.C i).kind = 0 then F i else (if (f.C i).kind = 0 then F i else (f.C i).k)⟩ : Cel) = ⟨(f.C i).kind, (f.C i).a, (f.C i).b, (f.C i).c, if (f.C i).kind = 0 then F i else (f.C i).k⟩
    by_cases e : (f.C i).kind = 0
    · simp only [e, if_true]
    · simp only [e, if_false]
  · rw [only_out h]
    rfl

theorem noCel_ok (n : Nat) : CellOk noCel n := by
  have h0 : M.needs noCel.kind = 0 := by decide
  refine ⟨by decide, by decide, ⟨fun _ => ⟨by decide, by decide⟩, fun h => ?_, fun h => ?_⟩, fun h => ?_, fun h => ?_, fun h => ?_⟩
  · have : (1 : Int) = 11 := h
    omega
  · have : (1 : Int) = 12 := h
    omega
  all_goals (rw [h0] at h; omega)

theorem only_ed {f : Frm} {F : Nat → Int} {c : Nat} {S : Nat → Bool} (i j : Nat) (h : Ed (f.only F c S).C f.n i j) : Ed (effC f.C F) f.n i j := by
  by_cases hi : i = c ∨ S i = true
  · have e : (f.only F c S).C i = effC f.C F i := only_in hi
    unfold Ed at h ⊢
    rw [e] at h
    exact h
  · have e : (f.only F c S).C i = noCel := only_out hi
    unfold Ed at h
    rw [e] at h
    have h0 : M.needs noCel.kind = 0 := by decide
    rw [h0] at h
    omega

theorem only_ok {f : Frm} (hf : f.Ok) {F : Nat → Int} (hF : FV f F) (c : Nat) (S : Nat → Bool) : (f.only F c S).Ok := by
  refine ⟨hf.sizes, hf.hol, fun i hi => ?_, fun i hi hr => ?_, hf.rules⟩
  · show CellOk (onlyC (effC f.C F) c S i) f.n
    by_cases h : i = c ∨ S i = true
    · rw [only_in h]
      exact effC_ok hf.cells hF i hi
    · rw [only_out h]
      exact noCel_ok _
  · obtain ⟨s, s1, s2⟩ := hr
    exact effC_ring (F := F) hf.ring i hi ⟨s, s1, way_mono only_ed s2⟩

theorem only_fv {f : Frm} {F : Nat → Int} (hF : FV f F) (c : Nat) (S : Nat → Bool) : FV (f.only F c S) F := fun i hi hk => by
  have hk' : (onlyC (effC f.C F) c S i).kind = 0 := hk
  by_cases h : i = c ∨ S i = true
  · rw [only_in h] at hk'
    exact hF i hi hk'
  · rw [only_out h] at hk'
    have : (1 : Int) = 0 := hk'
    omega

/-- Alone the cell is worth the same, at every instant. -/
theorem only_vals {f : Frm} (hf : f.Ok) {F : Nat → Int} (hF : FV f F) {c : Nat} (hc : c < f.n) {S : Nat → Bool} (hS : ∀ j, j < f.n → (S j = true ↔ ∃ s, 1 ≤ s ∧ M.Way (Ed (effC f.C F) f.n) s c j)) {T : Int} (t0 : 0 ≤ T) (t1 : T ≤ 1000000000) : (f.only F c S).vals F T c = f.vals F T c := by
  obtain ⟨hl, hv⟩ := vals_local hf hF t0 t1
  have hE := ed_within (effC_ok hf.cells hF)
  have clo : ∀ i j, i < f.n → (i = c ∨ S i = true) → Ed (effC f.C F) f.n i j → S j = true := fun i j hi h he => by
    refine (hS j (hE _ _ he)).2 ?_
    rcases h with h | h
    · subst h
      exact ⟨1, by omega, i, rfl, he⟩
    · obtain ⟨s, s1, s2⟩ := (hS i hi).1 h
      exact ⟨s + 1, by omega, i, s2, he⟩
  have key : LocalEq (effC (f.only F c S).C F) f.n f.week f.hol T (fun i => if i = c ∨ S i = true then f.vals F T i else 0) := by
    rw [only_eff]
    intro i hi
    unfold LocalAt
    show CRel f.week f.hol T (onlyC (effC f.C F) c S i) (pk _ f.n (onlyC (effC f.C F) c S i).a) (pk _ f.n (onlyC (effC f.C F) c S i).b) (pk _ f.n (onlyC (effC f.C F) c S i).c) _
    by_cases h : i = c ∨ S i = true
    · rw [only_in h, show (fun i => if i = c ∨ S i = true then f.vals F T i else 0) i = f.vals F T i from if_pos h]
      have pq : ∀ {a : Int}, (∀ j : Nat, a = j → Ed (effC f.C F) f.n i j) → pk (f.vals F T) f.n a = pk (fun i => if i = c ∨ S i = true then f.vals F T i else 0) f.n a := fun hh => pk_eq fun j e _ => by
        show _ = if j = c ∨ S j = true then f.vals F T j else 0
        rw [if_pos (Or.inr (clo i j hi h (hh j e)))]
      exact CRel.congr (hl i hi) (fun p => pq fun j e => ⟨hi, Or.inl ⟨p, e⟩⟩) (fun p => pq fun j e => ⟨hi, Or.inr (Or.inl ⟨p, e⟩)⟩) (fun p => pq fun j e => ⟨hi, Or.inr (Or.inr ⟨p, e⟩)⟩)
    · rw [only_out h, show (fun i => if i = c ∨ S i = true then f.vals F T i else 0) i = 0 from if_neg h]
      refine ⟨fun _ => rfl, fun g => ?_, fun g => ?_, fun g => ?_, fun g => ?_, fun g => ?_⟩
      · have : (2 : Int) ≤ 1 := g.1
        omega
      · have : (1 : Int) = 9 := g
        omega
      · have : (1 : Int) = 10 := g
        omega
      · have : (1 : Int) = 11 := g
        omega
      · have : (1 : Int) = 12 := g
        omega
  have := vals_eq (only_ok hf hF c S) (only_fv hF c S) (T := T) key c hc
  rw [← this]
  show (if c = c ∨ S c = true then f.vals F T c else 0) = _
  rw [if_pos (Or.inl rfl)]

/-- Ahead of the first turn the values stay. -/
theorem cq_same {f : Frm} (hf : f.Ok) {F : Nat → Int} (hF : FV f F) {T c u : Int} (t0 : 0 ≤ T) (t1 : T ≤ 1000000000) (h : CQ f F T f.n c) (u1 : T < u) (u2 : u ≤ 1000000000) (hb : Bef c u) : ∀ i, i < f.n → f.vals F u i = f.vals F T i := fun i hi =>
  (vals_eq hf hF (stay (vals_local hf hF t0 t1).1 (fun j hj => h.2 j hj u u1 u2 hb)) i hi).symm

theorem num_inj {a b : Bool} (h : M.num a = M.num b) : a = b := by
  cases a <;> cases b <;> first | rfl | (revert h; decide)

/-- At it a value is another. -/
theorem turn_changes {f : Frm} (hf : f.Ok) {F : Nat → Int} (hF : FV f F) {T t : Int} (t0 : 0 ≤ T) (t1 : T ≤ 1000000000) (t2 : 0 ≤ t) (t3 : t ≤ 1000000000) (hx : ∃ j, j < f.n ∧ ¬ StillAt (effC f.C F) f.n (f.vals F T) T j t) : ¬ ∀ i, i < f.n → f.vals F t i = f.vals F T i := by
  intro h
  obtain ⟨j, hj, hs⟩ := hx
  apply hs
  have a := (vals_local hf hF t0 t1).1 j hj
  have b := (vals_local hf hF t2 t3).1 j hj
  unfold LocalAt at a b
  have e : ∀ x, pk (f.vals F t) f.n x = pk (f.vals F T) f.n x := fun x => pk_eq fun i _ hi => h i hi
  rw [e, e, e, h j hj] at b
  refine ⟨fun k => ?_, fun k => ?_⟩
  · have a1 := a.2.2.2.1 k
    have b1 := b.2.2.2.1 k
    rw [a1] at b1
    have := num_inj b1
    exact (decide_eq_decide.1 this).symm
  · have a1 := a.2.2.2.2.1 k
    have b1 := b.2.2.2.2.1 k
    unfold ageAt
    rw [← b1, a1]

theorem flat_one {g : Nat → List Ev} {k i : Nat} (hi : i < k) (h : g i ≠ []) : 0 < ((List.range k).flatMap g).length := by
  apply List.length_pos_iff.2
  intro e
  rw [List.flatMap_eq_nil_iff] at e
  exact h (e i (List.mem_range.2 hi))

/-- What nextTurn tells is P10's answer. -/
theorem nex_of {f : Frm} (hf : f.Ok) {m : Cs} (hm : m.Ok f) {c t : Int} {ok : Bool} (hq : RQ f m.F m.T m.S f.k c) (hx : SX f m.F m.T m.S f.k c) (ht : Tell m.T c t ok) : NexIs f m t ok := by
  have hc : Cand f m c := hq.cand m.op m.E
  have t0 := hm.t0
  have idle : ∀ u, m.T < u → u ≤ 1000000000 → Bef c u → SameAt f m u := fun u u1 u2 hb => by
    obtain ⟨a1, a2⟩ := (Went.start (P := fun _ => True) hm).idle hf hm hc u1 u2 hb
    exact ⟨a1, a2⟩
  rcases ht with ⟨rfl, rfl, rfl⟩ | ⟨rfl, g1, g2, rfl⟩
  · exact Or.inr ⟨rfl, rfl, fun u u1 u2 => idle u u1 u2 (Or.inl rfl)⟩
  refine Or.inl ⟨rfl, g1, g2, ?_, fun u u1 u2 => idle u u1 (by omega) (Or.inr u2)⟩
  intro ⟨sv, se⟩
  rcases hx with (hx | hx) | ⟨j, hj, hx⟩
  · omega
  · exact turn_changes hf hm.fv t0 hm.t1 (by omega) g2 hx sv
  · have hl : (m.S j).lit = true := by
      cases h : (m.S j).lit
      · exact (hx (fun h' => by rw [h] at h'; cases h')).elim
      · rfl
    have hlev : (m.S j).level < (f.R j).steps.length ∧ (m.S j).acked = false ∧ c = (m.S j).since + (f.R j).steps.getD (m.S j).level.toNat 0 := Classical.byContradiction fun g => hx (fun _ => g)
    have ho : m.op = true := by
      cases h : m.op
      · have := hm.shut h j hj
        rw [this] at hl
        cases hl
      · rfl
    have hgT : grd f.R (f.vals m.F m.T) j ≠ 0 := fun h => by
      have := (hm.lit ho j hj).1 h
      rw [this] at hl
      cases hl
    have hg := grd_eq (fun i hi => ⟨(hf.rules i hi).1, (hf.rules i hi).2.1⟩) sv j hj
    rw [go_next hf hm g1 (fun u u1 u2 => hc.2 u u1 (by omega) (Or.inr u2))] at se
    unfold Cs.settle at se
    rw [if_pos (show (m.at c).op = true from ho)] at se
    have se' : (m.E ++ setE f (f.vals m.F c) c m.S).length = m.E.length := se
    rw [List.length_append] at se'
    have : 0 < (setE f (f.vals m.F c) c m.S).length := flat_one hj (by
      unfold stepEv
      rw [hg, if_neg hgT, if_neg (by rw [hl]; simp), if_pos hlev]
      simp)
    omega

end Go.Proofs.YtmofidaojmiepaaGreatDoor
