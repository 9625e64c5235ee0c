/-
  THE CODE: when the clock stops next.
-/
import Derived.Test.YtaffocbhjcdjoaaGreatDoorK2
set_option linter.unusedVariables false
set_option linter.unusedSimpArgs false
namespace Go.Proofs.YtaffocbhjcdjoaaGreatDoor
open Go.RowKit
attribute [local go_sem ↓] Go.wp_at_zero Go.wp_at_succ

/-- Up to t, but for t itself, nothing turns and no level of the first i rules comes. -/
def LQ (f : Frm) (F : Nat → Int) (T : Int) (S : Nat → St) (to : Int) (i : Nat) (t : Int) : Prop :=
  T < t ∧ t ≤ to ∧ (∀ j, j < f.n → ∀ u, T < u → u < t → StillAt (effC f.C F) f.n (f.vals F T) T j u) ∧ ∀ j, j < i → ∀ u, T < u → u < t → NoLevAt f S j u

theorem LQ.idle {f : Frm} {F : Nat → Int} {T : Int} {S : Nat → St} {to : Int} {i : Nat} {t : Int} (h : LQ f F T S to i t) (hn : ¬ (nsB (f.R i) (S i) = true ∧ T < nsV (f.R i) (S i) ∧ nsV (f.R i) (S i) < t)) : LQ f F T S to (i + 1) t := by
  refine ⟨h.1, h.2.1, h.2.2.1, fun j hj u u1 u2 => ?_⟩
  by_cases e : j = i
  · subst e
    intro hl hc
    have hB : nsB (f.R j) (S j) = true := by unfold nsB; rw [hl, hc.2.1, decide_eq_true hc.1]; rfl
    have hV : nsV (f.R j) (S j) = u := by unfold nsV; rw [if_pos hB]; exact hc.2.2.symm
    exact hn ⟨hB, by omega, by omega⟩
  · exact h.2.2.2 j (by omega) u u1 u2
theorem LQ.less {f : Frm} {F : Nat → Int} {T : Int} {S : Nat → St} {to : Int} {i : Nat} {t : Int} (h : LQ f F T S to i t) (h1 : T < nsV (f.R i) (S i)) (h2 : nsV (f.R i) (S i) < t) : LQ f F T S to (i + 1) (nsV (f.R i) (S i)) := by
  refine ⟨h1, by have := h.2.1; omega, fun j hj u u1 u2 => h.2.2.1 j hj u u1 (by omega), fun j hj u u1 u2 => ?_⟩
  by_cases e : j = i
  · subst e
    intro hl hc
    have hB : nsB (f.R j) (S j) = true := by unfold nsB; rw [hl, hc.2.1, decide_eq_true hc.1]; rfl
    have hV : nsV (f.R j) (S j) = u := by unfold nsV; rw [if_pos hB]; exact hc.2.2.symm
    omega
  · exact h.2.2.2 j (by omega) u u1 (by omega)

def NtP (f : Frm) (F : Nat → Int) (T : Int) (S : Nat → St) (to : Int) (w : World) (e : Ending) (w' : World) : Prop := ∃ t, e = .returned (.int .i64 t) ∧ LQ f F T S to f.k t ∧ Below w.heap.size w w'

set_option maxRecDepth 100000 in
set_option maxHeartbeats 2000000 in
theorem knext_any {Q : Nat → Prop} {f : Frm} {p : KPl} {F : Nat → Int} {T : Int} {op : Bool} {S : Nat → St} {vE : Value} {E : List Ev} {w : World} {bv : Nat} (to : Int) (hS : KSt Q f p F T op S vE E w) (hf : f.Ok) (hF : FV f F) (hSt : ∀ i, i < f.k → StOk (S i)) (t0 : 0 ≤ T) (hto : T < to) (hto2 : to ≤ 1000000000) (hv : w.rowIs bv 3 f.n (fun i => .int .i64 (f.vals F T i))) :
    Calls Tryz.prog 59 #[.pointer (some ⟨p.bp, 0, none⟩), .slice (some ⟨bv, 0, none⟩) f.n f.n, .int .i64 to] w fun e w' => NtP f F T S to w e w' := by
  obtain ⟨n1, hn, hk, wk1, wk2⟩ := hf.sizes
  have r0 := hS.row.cell (i := 0) (by omega)
  have r1 := hS.row.cell (i := 1) (by omega)
  have r2 := hS.row.cell (i := 2) (by omega)
  have r3 := hS.row.cell (i := 3) (by omega)
  have r4 := hS.row.cell (i := 4) (by omega)
  simp [kf] at r0 r1 r2 r3 r4
  have zb := hS.row.lt
  have TC := hid (fun W (hW : Below w.heap.size w W) => turn_any hf hF t0 (by omega) (w := W) (bc := p.bc) (cC := p.cC) (cR := p.cR) (cH := p.cH) (aR := p.aR) (aH := p.aH) (fun i hi => (hS.celIs hi).below hW hS.celLt) (by have := hS.celLt; have := hW.size; omega) (hv.of_block (hW.block _ hv.lt)))
  have HS := hid hS
  have HST := hid hSt
  have HR := hid hf.rules
  clear hS hSt hf hF hv
  go_enter Tryz.func59, Tryz.ntmps59
  go_wp2
  go_region_held3 (fun w' => w'.cell? ⟨p.bp, 0, none⟩ = some (.slice (some ⟨p.bc, 0, none⟩) f.n p.cC) ∧ w'.cell? ⟨p.bp, 1, none⟩ = some (.slice p.aR f.k p.cR) ∧ w'.cell? ⟨p.bp, 2, none⟩ = some (.int .i64 f.week) ∧ w'.cell? ⟨p.bp, 3, none⟩ = some (.slice p.aH f.hol.length p.cH) ∧ w'.cell? ⟨p.bp, 4, none⟩ = some (.int .i64 T))
    ((refine ⟨?_, ?_, ?_, ?_, ?_⟩ <;> first | assumption | (rw [hb2.cell (show p.bp < w.heap.size from zb)]; assumption)))
    ((go_at_call 82; refine (TC.out _ (by exact (Below.refl _ _).drew)).mono ?_; rintro e w2 ⟨cc, tt, ok, rfl, q1, q2, hb2⟩))
  all_goals (
    have B2 : Hid (Below w.heap.size w w2) := ⟨hb2.os, hb2.tape, hb2.output, hb2.size, hb2.block⟩
    have Q1 := hid q1
    have H2 := hid (HS.out.drop B2.out)
    clear q1 hb2 TC r0 r1 r2 r3 r4
    have y1 := H2.out.row.cell (i := 1) (by omega)
    simp [kf] at y1
    have KEY : ∃ l, l = (if ok = true ∧ tt < to then tt else to) ∧ Hid (LQ f F T S to 0 l) := by
      refine ⟨_, rfl, ?_⟩
      rcases q2 with ⟨rfl, rfl, rfl⟩ | ⟨rfl, c1, c2, rfl⟩
      · rw [if_neg (by simp)]
        exact ⟨hto, Int.le_refl _, fun j hj u u1 u2 => Q1.out.2 j hj u u1 (by omega) (Or.inl rfl), fun j hj => by omega⟩
      · by_cases h : cc < to
        · rw [if_pos ⟨rfl, h⟩]
          exact ⟨c1, by omega, fun j hj u u1 u2 => Q1.out.2 j hj u u1 (by omega) (Or.inr u2), fun j hj => by omega⟩
        · rw [if_neg (by simp [h])]
          exact ⟨hto, Int.le_refl _, fun j hj u u1 u2 => Q1.out.2 j hj u u1 (by omega) (Or.inr (by omega)), fun j hj => by omega⟩
    obtain ⟨l, hl, HL⟩ := KEY
    have hcs : (ok = true ∧ tt < to ∧ l = tt) ∨ (ok = true ∧ ¬ tt < to ∧ l = to) ∨ (ok = false ∧ l = to) := by
      rcases q2 with ⟨rfl, rfl, rfl⟩ | ⟨rfl, c1, c2, rfl⟩
      · exact Or.inr (Or.inr ⟨rfl, by rw [hl, if_neg (by simp)]⟩)
      · by_cases h : cc < to
        · exact Or.inl ⟨rfl, h, by rw [hl, if_pos ⟨rfl, h⟩]⟩
        · exact Or.inr (Or.inl ⟨rfl, h, by rw [hl, if_neg (by simp [h])]⟩)
    clear hl q2 Q1
    rcases hcs with ⟨rfl, hlt, e⟩ | ⟨rfl, hlt, e⟩ | ⟨rfl, e⟩
    all_goals (
      rw [e] at HL
      clear e
      go_wp2
      go_loopw [2, 39] (fun tl ti wr => ∃ (i : Nat) (t : Int), i ≤ f.k ∧ ti = .int .i64 i ∧ tl = .int .i64 t ∧ Hid (LQ f F T S to i t) ∧ Hid (KSt Q f p F T op S vE E wr) ∧ Hid (Below w.heap.size w wr)) (fun _ ti _ => f.k - (intOf ti).toNat)
      case atStart => exact ⟨0, _, by omega, rfl, rfl, HL, H2, B2⟩
      case round =>
        clear HL H2 B2 y1
        obtain ⟨i, t, i1, rfl, rfl, hq, hs, hb⟩ := hrel
        have z1 := hq.out.1
        have z2 := hq.out.2.1
        by_cases hit : i < f.k
        · obtain ⟨bR, oR, haO, hbR, hrr⟩ : ∃ b off, p.aR = some ⟨b, off, none⟩ ∧ b < wr.heap.size ∧ ∀ m, m < f.k → RuleIs wr b (off + m * 2) (f.R m) := by
            rcases hs.out.base.now.2.1 with h | h
            · omega
            · exact h
          obtain ⟨u0, ast, caps, u1, u2, u3⟩ := hrr i hit
          have lt' : (i : Int) < (f.k : Int) := by omega
          have WB0 : Hid (Below wr.heap.size wr (wr.alloc (.cells #[.int .i64 (f.R i).guard, .slice ast (f.R i).steps.length caps] 81))) := (Below.refl _ _).alloc (Nat.le_refl _) _
          have NS := hid (fun W (h : Below wr.heap.size wr W) => nextStep_any (HR.out i hit) (HST.out i hit) (w := W) (SlAt.below u2 h (Nat.le_refl _)))
          unfold St.val at NS
          rw [haO]
          clear u2 hrr haO
          go_upto_region 7 with (fail)
          have x0 := boxed (Below.refl (wr.heap.size + 1) (wr.alloc (.cells #[.int .i64 (f.R i).guard, .slice ast (f.R i).steps.length caps] 81))) 0
          have x1 := boxed (Below.refl (wr.heap.size + 1) (wr.alloc (.cells #[.int .i64 (f.R i).guard, .slice ast (f.R i).steps.length caps] 81))) 1
          have zx : wr.heap.size < (wr.alloc (.cells #[.int .i64 (f.R i).guard, .slice ast (f.R i).steps.length caps] 81)).heap.size := by simp
          generalize (wr.alloc (.cells #[.int .i64 (f.R i).guard, .slice ast (f.R i).steps.length caps] 81)) = Wb at *
          simp at x0 x1
          have hs2 := hid (hs.out.drop WB0.out)
          have hb3 : Hid (Below w.heap.size w Wb) := hb.out.trans (WB0.out.mono hb.out.size)
          have NB := hid (fun W (h : Below Wb.heap.size Wb W) => NS.out W (WB0.out.trans (h.mono WB0.out.size)))
          clear hs hb u0 u1 NS WB0
          have y4 := hs2.out.row.cell (i := 4) (by omega)
          have y6 := hs2.out.row.cell (i := 6) (by omega)
          simp [kf] at y4 y6
          have s0 := hs2.out.sta.cell (i := i * 4) (by omega)
          have s1 := hs2.out.sta.cell (i := i * 4 + 1) (by omega)
          have s2 := hs2.out.sta.cell (i := i * 4 + 2) (by omega)
          have s3 := hs2.out.sta.cell (i := i * 4 + 3) (by omega)
          rw [stf0] at s0
          rw [stf1] at s1
          rw [stf2] at s2
          rw [stf3] at s3
          have zS := hs2.out.sta.lt
          have zP := hs2.out.row.lt
          go_region_held3 (fun w' => w'.cell? ⟨wr.heap.size, 0, none⟩ = some (.int .i64 (f.R i).guard) ∧ w'.cell? ⟨wr.heap.size, 1, none⟩ = some (.slice ast (f.R i).steps.length caps) ∧ w'.cell? ⟨p.bp, 6, none⟩ = some (.slice (some ⟨p.bS, 0, none⟩) f.k f.k) ∧ w'.cell? ⟨p.bS, i * 4, none⟩ = some (.bool (S i).lit) ∧ w'.cell? ⟨p.bS, i * 4 + 1, none⟩ = some (.int .i64 (S i).since) ∧ w'.cell? ⟨p.bS, i * 4 + 2, none⟩ = some (.int .i64 (S i).level) ∧ w'.cell? ⟨p.bS, i * 4 + 3, none⟩ = some (.bool (S i).acked))
            ((refine ⟨?_, ?_, ?_, ?_, ?_, ?_, ?_⟩ <;> first | assumption | (rw [hb5.cell (show p.bp < Wb.heap.size from zP)]; assumption) | (rw [hb5.cell (show p.bS < Wb.heap.size from zS)]; assumption) | (rw [hb5.cell (show wr.heap.size < Wb.heap.size from zx)]; assumption)))
            ((go_at_call 83; refine (NB.out _ (by exact (Below.refl _ _).drew)).mono ?_; rintro e w5 ⟨rfl, hb5⟩))
          all_goals (
            have B5 : Below Wb.heap.size Wb w5 := ⟨hb5.os, hb5.tape, hb5.output, hb5.size, hb5.block⟩
            have hs4 := hid (hs2.out.drop B5)
            have hb6 := hid (hb3.out.trans (B5.mono hb3.out.size))
            clear hb5 B5 x0 x1 y4 y6 s0 s1 s2 s3 hs2 hb3 NB zx zS zP
            have y4 := hs4.out.row.cell (i := 4) (by omega)
            simp [kf] at y4
            cases hB : nsB (f.R i) (S i)
            · have A0 := hid (hq.out.idle (fun h => by rw [hB] at h; cases h.1))
              clear hB
              go_wp2
              go_roundw
              case rel => exact ⟨i + 1, t, by omega, by go_num, rfl, A0, hs4, hb6⟩
              case measure => simp [intOf]; omega
            · by_cases h1 : T < nsV (f.R i) (S i)
              · by_cases h2 : nsV (f.R i) (S i) < t
                · have A0 := hid (hq.out.less h1 h2)
                  clear hB
                  go_wp2
                  go_roundw
                  case rel => exact ⟨i + 1, nsV (f.R i) (S i), by omega, by go_num, rfl, A0, hs4, hb6⟩
                  case measure => simp [intOf]; omega
                · have A0 := hid (hq.out.idle (fun h => h2 h.2.2))
                  clear hB
                  go_wp2
                  go_roundw
                  case rel => exact ⟨i + 1, t, by omega, by go_num, rfl, A0, hs4, hb6⟩
                  case measure => simp [intOf]; omega
              · have A0 := hid (hq.out.idle (fun h => h1 h.2.1))
                clear hB
                go_wp2
                go_roundw
                case rel => exact ⟨i + 1, t, by omega, by go_num, rfl, A0, hs4, hb6⟩
                case measure => simp [intOf]; omega)
        · obtain rfl : i = f.k := by omega
          have R : Hid (NtP f F T S to w (.returned (.int .i64 t)) wr) := ⟨t, rfl, hq.out, hb.out⟩
          go_wp2
          go_ret
          exact R.out))

end Go.Proofs.YtaffocbhjcdjoaaGreatDoor
