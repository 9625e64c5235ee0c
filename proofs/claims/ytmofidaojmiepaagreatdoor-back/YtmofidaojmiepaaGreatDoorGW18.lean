/-
  THE WALKS: the code's check: rings.
-/
import Derived.Test.YtmofidaojmiepaaGreatDoorGW16
set_option linter.unusedVariables false
set_option linter.unusedSimpArgs false
namespace Go.Proofs.YtmofidaojmiepaaGreatDoor

open Go.RowKit

/-- What is reached is reached. -/
def RSound (C : Nat → Cel) (n i : Nat) (S : Nat → Bool) : Prop := ∀ j, j < n → S j = true → ∃ s, 1 ≤ s ∧ M.Way (Ed C n) s i j

/-- What lies within r steps is reached. -/
def RFull (C : Nat → Cel) (n i r : Nat) (S : Nat → Bool) : Prop := ∀ t j, 1 ≤ t → t ≤ r → M.Way (Ed C n) t i j → S j = true

/-- What cells below m need, those within r steps. -/
def RPart (C : Nat → Cel) (n i r m : Nat) (S : Nat → Bool) : Prop := ∀ k j, k < m → (k = i ∨ ∃ t, 1 ≤ t ∧ t ≤ r ∧ M.Way (Ed C n) t i k) → Ed C n k j → S j = true

/-- What the first p of a cell's needs are. -/
def RNeed (c : Cel) (p : Nat) (S : Nat → Bool) : Prop := ∀ p' : Nat, p' < p → ∀ j : Nat, needp c p' = j → S j = true

theorem upd_true {S : Nat → Bool} {x j : Nat} (h : S j = true) : upd S x true j = true := by
  by_cases e : j = x
  · subst e; exact upd_same _ _ _
  · rw [upd_other _ _ e]; exact h

theorem RFull.upd {C : Nat → Cel} {n i r : Nat} {S : Nat → Bool} (h : RFull C n i r S) (x : Nat) : RFull C n i r (upd S x true) := fun t j a b c => upd_true (h t j a b c)

theorem RPart.upd {C : Nat → Cel} {n i r m : Nat} {S : Nat → Bool} (h : RPart C n i r m S) (x : Nat) : RPart C n i r m (upd S x true) := fun k j a b c => upd_true (h k j a b c)

theorem RNeed.upd {c : Cel} {p : Nat} {S : Nat → Bool} (h : RNeed c p S) {x : Nat} (hx : needp c p = x) : RNeed c (p + 1) (upd S x true) := fun p' a j b => by
  by_cases e : p' = p
  · subst e
    have : j = x := by rw [hx] at b; omega
    subst this; exact upd_same _ _ _
  · exact upd_true (h p' (by omega) j b)

theorem RPart.next {C : Nat → Cel} {n i r m q : Nat} {S : Nat → Bool} (h : RPart C n i r m S) (hm : m < n) (hq : M.needs (C m).kind = q) (h3 : q ≤ 3) (hn : RNeed (C m) q S) : RPart C n i r (m + 1) S := fun k j a b c => by
  by_cases e : k = m
  · subst e
    obtain ⟨p, p1, p2⟩ := (ed_needp hm hq h3).1 c
    exact hn p p1 j p2
  · exact h k j (by omega) b c

theorem RPart.skip {C : Nat → Cel} {n i r m : Nat} {S : Nat → Bool} (h : RPart C n i r m S) (hf : RFull C n i r S) (hi : m ≠ i) (hs : S m = false) : RPart C n i r (m + 1) S := fun k j a b c => by
  by_cases e : k = m
  · subst e
    rcases b with b | ⟨t, t1, t2, t3⟩
    · exact (hi b).elim
    · have := hf t k t1 t2 t3; rw [hs] at this; cases this
  · exact h k j (by omega) b c

theorem RFull.next {C : Nat → Cel} {n i r : Nat} {S : Nat → Bool} (h : RFull C n i r S) (hp : RPart C n i r n S) : RFull C n i (r + 1) S := fun t j a b c => by
  by_cases e : t = r + 1
  · subst e
    obtain ⟨k, k1, k2⟩ := c
    refine hp k j k2.1 ?_ k2
    cases r with
    | zero => exact Or.inl k1.symm
    | succ r => exact Or.inr ⟨r + 1, by omega, by omega, k1⟩
  · exact h t j a (by omega) c

/-- What Reached answers: a row of its own: what lies one or more steps away. -/
def RcP (C : Nat → Cel) (n i : Nat) (w : World) (e : Ending) (w' : World) : Prop :=
  ∃ (b : Nat) (S : Nat → Bool), e = .returned (.slice (some ⟨b, 0, none⟩) n n) ∧ w.heap.size ≤ b ∧ w'.rowIs b 4 n (fun j => .bool (S j)) ∧ (∀ j, j < n → (S j = true ↔ ∃ s, 1 ≤ s ∧ M.Way (Ed C n) s i j)) ∧ Below w.heap.size w w'

set_option maxRecDepth 100000 in
set_option maxHeartbeats 2000000 in
theorem reached_any (bC oC n cC : Nat) (C : Nat → Cel) (i : Nat) (w : World) (ht : Tab w) (hn : n ≤ 20) (hi : i < n) (hbc : bC < w.heap.size) (hcs : ∀ m, m < n → CelIs w bC (oC + m * 5) (C m)) (hok : CellsOk C n) :
    Calls Tryz.prog 55 #[.slice (some ⟨bC, oC, none⟩) n cC, .int .i64 i] w fun e w' => RcP C n i w e w' := by
  have HT := hid ht
  have HCS := hid hcs
  have HOK := hid hok
  clear hcs hok ht
  have mk4 := run_make_row' (P := Tryz.prog) 103 4 (.bool false) 1 Tryz.underlying103 info4 rfl .i64 .i64 n (by omega) (by omega)
  go_enter Tryz.func55, Tryz.ntmps55
  go_wp2
  clear mk4
  go_loopw [16] (fun t wr => ∃ (r : Nat) (S : Nat → Bool), r ≤ n ∧ t = .int .i64 r ∧ Hid (wr.rowIs w.heap.size 4 n (fun j => .bool (S j))) ∧ Hid (Below w.heap.size w wr) ∧ Hid (RSound C n i S) ∧ Hid (RFull C n i r S)) (fun t _ => n - (intOf t).toNat)
  case atStart => exact ⟨0, fun _ => false, by omega, rfl, World.rowIs_made _ _ _ _, (Below.refl _ _).alloc (Nat.le_refl _) _, fun j _ h => (by cases h), fun t j a b => by omega⟩
  case round =>
    obtain ⟨r, S, r1, rfl, hrow, hbel, hso, hfu⟩ := hrel
    by_cases hlt : r < n
    · go_wp2
      go_loopw [20] (fun t wr => ∃ (m : Nat) (S : Nat → Bool), m ≤ n ∧ t = .int .i64 m ∧ Hid (wr.rowIs w.heap.size 4 n (fun j => .bool (S j))) ∧ Hid (Below w.heap.size w wr) ∧ Hid (RSound C n i S) ∧ Hid (RFull C n i r S) ∧ Hid (RPart C n i r m S)) (fun t _ => n - (intOf t).toNat)
      case atStart => exact ⟨0, S, by omega, rfl, hrow, hbel, hso, hfu, fun k j h => by omega⟩
      case round =>
        obtain ⟨wm, hwm⟩ : ∃ x, x = wr := ⟨_, rfl⟩
        subst hwm
        clear hrow hbel hso hfu
        obtain ⟨m, S, m1, rfl, hrow, hbel, hso, hfu, hpa⟩ := hrel
        by_cases hmt : m < n
        · obtain ⟨g0, g1, g2, g3, g4⟩ := CelIs.below (HCS.out m hmt) hbel.out hbc
          have hokm := HOK.out m hmt
          rcases hC : C m with ⟨kd, ca, cb, cc, ck⟩
          rw [hC] at g0 g1 g2 g3 g4 hokm
          simp only at g0 g1 g2 g3 g4
          have bdn := needs_bd hokm.1 hokm.2.1
          simp only at bdn
          obtain ⟨q, hq⟩ := Int.eq_ofNat_of_zero_le bdn.1
          have hq3 : q ≤ 3 := by omega
          have HQ : Hid (M.needs kd = (q : Int)) := hq
          have HQ0 : Hid (need0 kd = (q : Int)) := by show need0 kd = q; unfold need0; rw [if_pos ⟨hokm.1, by have : kd ≤ 12 := hokm.2.1; omega⟩]; exact hq
          have HNP : Hid (∀ p : Nat, p < q → 0 ≤ needp ⟨0, ca, cb, cc, 0⟩ p ∧ needp ⟨0, ca, cb, cc, 0⟩ p < n) := fun p hp => (cellOk_iff.1 hokm).2.1 p (by show (p : Int) < M.needs kd; rw [hq]; omega)
          have HCm := hid hC
          clear hC hq bdn hokm
          have hsz := hrow.out.lt
          have hba : Hid (∀ o, Below wm.heap.size wm (wm.alloc o)) := fun o => (Below.refl _ _).alloc (Nat.le_refl _) _
          have hbw : Hid (∀ o, Below w.heap.size w (wm.alloc o)) := fun o => hbel.out.alloc hbel.out.size o
          have hr0 := hrow.out.cell (i := m) hmt
          by_cases hmi : m = i
          · have t0 : ((m : Int) != (i : Int)) = false := by simp [hmi]
            have HWM : Hid (∃ s, M.Way (Ed C n) s i m) := ⟨0, by show i = m; omega⟩
            clear hmi
            go_wp2_with fail
            refine (pneeds_any _ _ (Tab.below HT.out (hbw.out _) (Nat.le_refl _))).mono ?_
            rintro e w1 ⟨rfl, rfl⟩
            rw [HQ0.out]
            go_wp2
            go_loopw [9] (fun t wr => ∃ (p : Nat) (S : Nat → Bool), p ≤ q ∧ t = .int .i64 p ∧ Hid (wr.rowIs w.heap.size 4 n (fun j => .bool (S j))) ∧ Hid (Below w.heap.size w wr) ∧ Hid (CelIs wr wm.heap.size 0 ⟨kd, ca, cb, cc, ck⟩) ∧ wm.heap.size < wr.heap.size ∧ Hid (RSound C n i S) ∧ Hid (RFull C n i r S) ∧ Hid (RPart C n i r m S) ∧ Hid (RNeed (C m) p S)) (fun t _ => q - (intOf t).toNat)
            case atStart => exact ⟨0, S, by omega, rfl, hrow.out.alloc _, hbw.out _, ⟨by simp, by simp, by simp, by simp, by simp⟩, by simp, hso, hfu, hpa, fun p' h => by omega⟩
            case round =>
              clear hrow hbel hso hfu hpa hr0 g0 g1 g2 g3 g4 hba hbw
              obtain ⟨p, S, p1, rfl, hrow, hbel, hcel, hsz2, hso, hfu, hpa, hne⟩ := hrel
              by_cases hpt : p < q
              · obtain ⟨g0, g1, g2, g3, g4⟩ := hcel.out
                simp at g0 g1 g2 g3 g4
                obtain ⟨z0, z1⟩ := HNP.out p hpt
                go_wp2_with fail
                refine (pneed_any kd ca cb cc ck p _ (by omega)).mono ?_
                rintro e w1 ⟨rfl, hb1⟩
                rw [needp_eq]
                obtain ⟨x, hx⟩ := Int.eq_ofNat_of_zero_le z0
                rw [hx] at z1 ⊢
                have hxn : x < n := by omega
                have HXE : Hid (needp (C m) p = (x : Int)) := by rw [HCm.out]; exact hx
                have HED : Hid (Ed C n m x) := (ed_needp hmt (by rw [HCm.out]; exact HQ.out) hq3).2 ⟨p, hpt, HXE.out⟩
                have HR1 := hid (hrow.out.of_block (hb1.block _ hrow.out.lt))
                have HB1 : Hid (Below w.heap.size w w1) := hbel.out.trans (hb1.mono hbel.out.size)
                have HC1 := hid (hcel.out.below hb1 hsz2)
                have hsz3 : wm.heap.size < w1.heap.size := by have := hb1.size; omega
                clear hb1 hx z0 g0 g1 g2 g3 g4
                have n0 := HR1.out.cell (i := x) hxn
                have nf := HR1.out.frozen x
                have S1 : Hid (RSound C n i (upd S x true)) := fun j hj h => by
                  by_cases e : j = x
                  · subst e
                    obtain ⟨s, hs⟩ := HWM.out
                    exact ⟨s + 1, by omega, m, hs, HED.out⟩
                  · rw [upd_other _ _ e] at h; exact hso.out j hj h
                have S2 := hid (hfu.out.upd x)
                have S3 := hid (hpa.out.upd x)
                have S4 := hid (hne.out.upd HXE.out)
                have S5 : Hid ((w1.setCell ⟨w.heap.size, x, none⟩ (.bool true)).rowIs w.heap.size 4 n (fun j => .bool (upd S x true j))) := (HR1.out.set x _).congr (fun j _ => by unfold upd; split <;> rfl)
                have S6 : Hid (Below w.heap.size w (w1.setCell ⟨w.heap.size, x, none⟩ (.bool true))) := HB1.out.setCell (Nat.le_refl _) _
                have S7 : Hid (CelIs (w1.setCell ⟨w.heap.size, x, none⟩ (.bool true)) wm.heap.size 0 ⟨kd, ca, cb, cc, ck⟩) := ⟨cell_nb (by omega) HC1.out.1, cell_nb (by omega) HC1.out.2.1, cell_nb (by omega) HC1.out.2.2.1, cell_nb (by omega) HC1.out.2.2.2.1, cell_nb (by omega) HC1.out.2.2.2.2⟩
                have S8 : wm.heap.size < (w1.setCell ⟨w.heap.size, x, none⟩ (.bool true)).heap.size := by simp; omega
                have S9 := hid S8
                clear S8
                go_wp2
                go_roundw
                case rel => exact ⟨p + 1, upd S x true, by omega, by go_num, S5, S6, S7, S9.out, S1, S2, S3, S4⟩
                case measure => simp [intOf]; omega
              · obtain rfl : p = q := by omega
                have R := hid (hpa.out.next hmt (by rw [HCm.out]; exact HQ.out) hq3 hne.out)
                go_wp2
                go_roundw
                case rel => exact ⟨m + 1, S, by omega, by go_num, hrow, hbel, hso, hfu, R⟩
                case measure => simp [intOf]; omega
          · have t0 : ((m : Int) != (i : Int)) = true := by simp; omega
            cases hS : S m
            · rw [hS] at hr0
              have R := hid (hpa.out.skip hfu.out hmi hS)
              clear hS
              go_wp2
              go_roundw
              case rel => exact ⟨m + 1, S, by omega, by go_num, hrow.out.alloc _, hbw.out _, hso, hfu, R⟩
              case measure => simp [intOf]; omega
            · rw [hS] at hr0
              obtain ⟨s0, s1, s2⟩ := hso.out m hmt hS
              have HWM : Hid (∃ s, M.Way (Ed C n) s i m) := ⟨s0, s2⟩
              clear hS s1 s2
              go_wp2_with fail
              refine (pneeds_any _ _ (Tab.below HT.out (hbw.out _) (Nat.le_refl _))).mono ?_
              rintro e w1 ⟨rfl, rfl⟩
              rw [HQ0.out]
              go_wp2
              go_loopw [9] (fun t wr => ∃ (p : Nat) (S : Nat → Bool), p ≤ q ∧ t = .int .i64 p ∧ Hid (wr.rowIs w.heap.size 4 n (fun j => .bool (S j))) ∧ Hid (Below w.heap.size w wr) ∧ Hid (CelIs wr wm.heap.size 0 ⟨kd, ca, cb, cc, ck⟩) ∧ wm.heap.size < wr.heap.size ∧ Hid (RSound C n i S) ∧ Hid (RFull C n i r S) ∧ Hid (RPart C n i r m S) ∧ Hid (RNeed (C m) p S)) (fun t _ => q - (intOf t).toNat)
              case atStart => exact ⟨0, S, by omega, rfl, hrow.out.alloc _, hbw.out _, ⟨by simp, by simp, by simp, by simp, by simp⟩, by simp, hso, hfu, hpa, fun p' h => by omega⟩
              case round =>
                clear hrow hbel hso hfu hpa hr0 g0 g1 g2 g3 g4 hba hbw
                obtain ⟨p, S, p1, rfl, hrow, hbel, hcel, hsz2, hso, hfu, hpa, hne⟩ := hrel
                by_cases hpt : p < q
                · obtain ⟨g0, g1, g2, g3, g4⟩ := hcel.out
                  simp at g0 g1 g2 g3 g4
                  obtain ⟨z0, z1⟩ := HNP.out p hpt
                  go_wp2_with fail
                  refine (pneed_any kd ca cb cc ck p _ (by omega)).mono ?_
                  rintro e w1 ⟨rfl, hb1⟩
                  rw [needp_eq]
                  obtain ⟨x, hx⟩ := Int.eq_ofNat_of_zero_le z0
                  rw [hx] at z1 ⊢
                  have hxn : x < n := by omega
                  have HXE : Hid (needp (C m) p = (x : Int)) := by rw [HCm.out]; exact hx
                  have HED : Hid (Ed C n m x) := (ed_needp hmt (by rw [HCm.out]; exact HQ.out) hq3).2 ⟨p, hpt, HXE.out⟩
                  have HR1 := hid (hrow.out.of_block (hb1.block _ hrow.out.lt))
                  have HB1 : Hid (Below w.heap.size w w1) := hbel.out.trans (hb1.mono hbel.out.size)
                  have HC1 := hid (hcel.out.below hb1 hsz2)
                  have hsz3 : wm.heap.size < w1.heap.size := by have := hb1.size; omega
                  clear hb1 hx z0 g0 g1 g2 g3 g4
                  have n0 := HR1.out.cell (i := x) hxn
                  have nf := HR1.out.frozen x
                  have S1 : Hid (RSound C n i (upd S x true)) := fun j hj h => by
                    by_cases e : j = x
                    · subst e
                      obtain ⟨s, hs⟩ := HWM.out
                      exact ⟨s + 1, by omega, m, hs, HED.out⟩
                    · rw [upd_other _ _ e] at h; exact hso.out j hj h
                  have S2 := hid (hfu.out.upd x)
                  have S3 := hid (hpa.out.upd x)
                  have S4 := hid (hne.out.upd HXE.out)
                  have S5 : Hid ((w1.setCell ⟨w.heap.size, x, none⟩ (.bool true)).rowIs w.heap.size 4 n (fun j => .bool (upd S x true j))) := (HR1.out.set x _).congr (fun j _ => by unfold upd; split <;> rfl)
                  have S6 : Hid (Below w.heap.size w (w1.setCell ⟨w.heap.size, x, none⟩ (.bool true))) := HB1.out.setCell (Nat.le_refl _) _
                  have S7 : Hid (CelIs (w1.setCell ⟨w.heap.size, x, none⟩ (.bool true)) wm.heap.size 0 ⟨kd, ca, cb, cc, ck⟩) := ⟨cell_nb (by omega) HC1.out.1, cell_nb (by omega) HC1.out.2.1, cell_nb (by omega) HC1.out.2.2.1, cell_nb (by omega) HC1.out.2.2.2.1, cell_nb (by omega) HC1.out.2.2.2.2⟩
                  have S8 : wm.heap.size < (w1.setCell ⟨w.heap.size, x, none⟩ (.bool true)).heap.size := by simp; omega
                  have S9 := hid S8
                  clear S8
                  go_wp2
                  go_roundw
                  case rel => exact ⟨p + 1, upd S x true, by omega, by go_num, S5, S6, S7, S9.out, S1, S2, S3, S4⟩
                  case measure => simp [intOf]; omega
                · obtain rfl : p = q := by omega
                  have R := hid (hpa.out.next hmt (by rw [HCm.out]; exact HQ.out) hq3 hne.out)
                  go_wp2
                  go_roundw
                  case rel => exact ⟨m + 1, S, by omega, by go_num, hrow, hbel, hso, hfu, R⟩
                  case measure => simp [intOf]; omega
        · obtain rfl : m = n := by omega
          have R := hid (hfu.out.next hpa.out)
          go_wp2
          go_roundw
          case rel => exact ⟨r + 1, S, by omega, by go_num, hrow, hbel, hso, R⟩
          case measure => simp [intOf]; omega
    · obtain rfl : r = n := by omega
      have R : Hid (RcP C r i w (.returned (.slice (some ⟨w.heap.size, 0, none⟩) r r)) wr) := ⟨w.heap.size, S, rfl, Nat.le_refl _, hrow.out, fun j hj => ⟨hso.out j hj, fun ⟨s, s1, s2⟩ => by
        obtain ⟨t, t1, t2, t3⟩ := M.way_short (ed_within HOK.out) s s (Nat.le_refl _) s1 s2
        exact hfu.out t j t1 t2 t3⟩, hbel.out⟩
      go_wp2
      go_ret
      exact R.out

end Go.Proofs.YtmofidaojmiepaaGreatDoor

/-
  THE WALKS: the code's check, whole.
-/
set_option linter.unusedVariables false
set_option linter.unusedSimpArgs false
namespace Go.Proofs.YtmofidaojmiepaaGreatDoor

open Go.RowKit

set_option maxHeartbeats 800000 in
theorem cellInRing_any (bC oC n cC : Nat) (C : Nat → Cel) (w : World) (ht : Tab w) (hn : n ≤ 20) (hbc : bC < w.heap.size) (hcs : ∀ m, m < n → CelIs w bC (oC + m * 5) (C m)) (hok : CellsOk C n) :
    Calls Tryz.prog 38 #[.slice (some ⟨bC, oC, none⟩) n cC] w fun e w' => PlPost (fun i => M.Ring (Ed C n) i) n w e w' := by
  have HT := hid ht
  have HCS := hid hcs
  have HOK := hid hok
  clear ht hcs hok
  go_enter Tryz.func38, Tryz.ntmps38
  go_wp2
  go_loopw [8] (fun t wr => ∃ m : Nat, m ≤ n ∧ t = .int .i64 m ∧ Hid (∀ j, j < m → ¬ M.Ring (Ed C n) j) ∧ Hid (Below w.heap.size w wr)) (fun t _ => n - (intOf t).toNat)
  case atStart => exact ⟨0, by omega, rfl, fun j hj => by omega, Below.refl _ _⟩
  case round =>
    obtain ⟨m, m1, rfl, hm, hb⟩ := hrel
    by_cases hmt : m < n
    · go_wp2_with fail
      refine (reached_any bC oC n cC C m _ (Tab.below HT.out hb.out (Nat.le_refl _)) hn hmt (by have := hb.out.size; omega) (fun i hi => CelIs.below (HCS.out i hi) hb.out hbc) HOK.out).mono ?_
      rintro e w1 ⟨b, S, rfl, hb0, hrow, hq, hb1⟩
      have HB1 : Hid (Below w.heap.size w w1) := hb.out.trans (hb1.mono hb.out.size)
      have HQ := hid (hq m hmt)
      have x0 := hrow.cell (i := m) hmt
      have zb := hrow.lt
      have lt' : (m : Int) < (n : Int) := by omega
      clear hq hb1 hrow hb0
      generalize S m = q at *
      cases q
      · have R : Hid (∀ j, j < m + 1 → ¬ M.Ring (Ed C n) j) := fun j hj h => by
          by_cases e : j = m
          · subst e; have := HQ.out.2 h; cases this
          · exact hm.out j (by omega) h
        go_wp2
        go_roundw
        case rel => exact ⟨m + 1, by omega, by go_num, R, HB1⟩
        case measure => simp [intOf]; omega
      · go_wp2
        go_ret2
        exact pl_yes hmt hm.out (HQ.out.1 (by first | trivial | rfl)) HB1.out
    · obtain rfl : m = n := by omega
      go_wp2
      go_ret2
      exact pl_no hm.out hb.out

set_option maxHeartbeats 1000000 in
theorem wrongRule_any (aR : Option Addr) (k cR n : Nat) (R : Nat → Rul) (w : World) (hn : n ≤ 20) (hk : k ≤ 6) (hrs : RAt w aR k R) :
    Calls Tryz.prog 39 #[.slice aR k cR, .int .i64 n] w fun e w' => PlPost (fun i => ¬ RuleOk (R i) n) k w e w' := by
  have HRS := hid hrs
  clear hrs
  go_enter Tryz.func39, Tryz.ntmps39
  go_wp2
  go_loopw [12] (fun t wr => ∃ m : Nat, m ≤ k ∧ t = .int .i64 m ∧ Hid (∀ j, j < m → ¬ ¬ RuleOk (R j) n) ∧ Hid (Below w.heap.size w wr)) (fun t _ => k - (intOf t).toNat)
  case atStart => exact ⟨0, by omega, rfl, fun j hj => by omega, Below.refl _ _⟩
  case round =>
    obtain ⟨m, m1, rfl, hm, hb⟩ := hrel
    by_cases hmt : m < k
    · rcases HRS.out with h0 | ⟨bR, oR, rfl, hbr, hrr⟩
      · omega
      obtain ⟨u0, ast, caps, u1, u2, u3⟩ := (hrr m hmt).below hb.out hbr (Nat.le_refl _)
      rcases hRi : R m with ⟨gd, st⟩
      rw [hRi] at u0 u1 u2 u3
      simp only at u0 u1 u2 u3
      have HRi := hid hRi
      have HU2 := hid u2
      clear hRi u2 hrr
      have hba : Hid (∀ o, Below w.heap.size w (wr.alloc o)) := fun o => hb.out.alloc hb.out.size o
      have NO : Hid (¬ RuleOk ⟨gd, st⟩ n → ¬ RuleOk (R m) n) := by rw [HRi.out]; exact id
      have YE : Hid (RuleOk ⟨gd, st⟩ n → ∀ j, j < m + 1 → ¬ ¬ RuleOk (R j) n) := fun h j hj => by
        by_cases e : j = m
        · subst e; rw [HRi.out]; exact fun g => g h
        · exact hm.out j (by omega)
      by_cases g0 : gd < 0
      · have X := hid (NO.out (fun h => by have : 0 ≤ gd := h.1; omega))
        go_wp2
        go_ret2
        exact pl_yes hmt hm.out X.out (hba.out _)
      by_cases g1 : (n : Int) ≤ gd
      · have X := hid (NO.out (fun h => by have : gd < n := h.2.1; omega))
        go_wp2
        go_ret2
        exact pl_yes hmt hm.out X.out (hba.out _)
      by_cases g2 : 4 < st.length
      · have X := hid (NO.out (fun h => by have : st.length ≤ 4 := h.2.2.1; omega))
        go_wp2
        go_ret2
        exact pl_yes hmt hm.out X.out (hba.out _)
      go_wp2_with fail
      refine (inRow_any st ast caps 1 1000000000 _ (by omega) (by omega) (by omega) (by omega) (by exact SlAt.below HU2.out ((Below.refl _ _).alloc (Nat.le_refl _) _) (Nat.le_refl _))).mono ?_
      rintro e w1 ⟨r, hr, hcase, hb1⟩
      have HB1 : Hid (Below w.heap.size w w1) := (hba.out _).trans (hb1.mono (by have := hb.out.size; simp; omega))
      clear hb1
      rcases hcase with ⟨c1, rfl⟩ | ⟨c1, rfl⟩
      · have X := hid (NO.out (fun h => h.2.2.2 r c1 (hr.2.2 c1)))
        clear hr
        go_wp2
        go_ret2
        exact pl_yes hmt hm.out X.out HB1.out
      · have X := hid (YE.out ⟨by show 0 ≤ gd; omega, by show gd < n; omega, by show st.length ≤ 4; omega, fun i hi => hr.2.1 i (by have : i < st.length := hi; omega)⟩)
        clear hr c1
        go_wp2
        go_roundw
        case rel => exact ⟨m + 1, by omega, by go_num, X, HB1⟩
        case measure => simp [intOf]; omega
    · obtain rfl : m = k := by omega
      go_wp2
      go_ret2
      exact pl_no hm.out hb.out

set_option maxHeartbeats 800000 in
theorem sizesFit_any (aC aR aH : Option Addr) (n cC k cR nH cH : Nat) (week : Int) (w : World) (hn : n ≤ 1000000000) (hk : k ≤ 1000000000) :
    Calls Tryz.prog 35 #[.agg #[.slice aC n cC, .slice aR k cR, .int .i64 week, .slice aH nH cH]] w fun e w' => BoolPost (SizesOk n k week) w e w' := by
  have hbx : Hid (∀ o, Below w.heap.size w (w.alloc o)) := fun o => (Below.refl _ _).alloc (Nat.le_refl _) _
  by_cases hs : SizesOk n k week
  · have HS := hid hs
    obtain ⟨s1, s2, s3, s4, s5⟩ := hs
    go_enter Tryz.func35, Tryz.ntmps35
    go_wp2
    go_ret
    exact bp_yes HS.out (hbx.out _)
  · have HS := hid hs
    unfold SizesOk at hs
    have cs : n < 1 ∨ (¬ n < 1 ∧ 20 < n) ∨ (¬ n < 1 ∧ ¬ 20 < n ∧ 6 < k) ∨ (¬ n < 1 ∧ ¬ 20 < n ∧ ¬ 6 < k ∧ week < 1) ∨ (¬ n < 1 ∧ ¬ 20 < n ∧ ¬ 6 < k ∧ ¬ week < 1 ∧ 127 < week) := by omega
    clear hs
    rcases cs with h1 | ⟨h1, h2⟩ | ⟨h1, h2, h3⟩ | ⟨h1, h2, h3, h4⟩ | ⟨h1, h2, h3, h4, h5⟩
    case inr.inr.inr.inr =>
      have d5 : decide (week ≤ 127) = false := by simp; omega
      have D5 := hid d5
      go_enter Tryz.func35, Tryz.ntmps35
      go_wp2
      go_ret
      first | exact bp_no HS.out (hbx.out _) | (have := bp_no HS.out (hbx.out (.cells #[.slice aC n cC, .slice aR k cR, .int .i64 week, .slice aH nH cH] 26)); rw [← D5.out] at this; exact this)
    all_goals
      go_enter Tryz.func35, Tryz.ntmps35
      go_wp2
      go_ret
      exact bp_no HS.out (hbx.out _)

/-- What wrongHoliday answers. -/
def HolPost (hol : List Int) (w : World) (e : Ending) (w' : World) : Prop :=
  Below w.heap.size w w' ∧ ((20 < hol.length ∧ e = .returned (.tuple #[.int .i64 20, .bool true])) ∨ (hol.length ≤ 20 ∧ ∃ r, First (BadAt hol 0 11574) hol.length r ∧ ((r < hol.length ∧ e = .returned (.tuple #[.int .i64 r, .bool true])) ∨ (r = hol.length ∧ e = .returned (.tuple #[.int .i64 0, .bool false])))))

set_option maxHeartbeats 800000 in
theorem wrongHoliday_any (hol : List Int) (a : Option Addr) (cap : Nat) (w : World) (hl : hol.length ≤ 1000000000) (hc : IntsAt w (.slice a hol.length cap) hol) :
    Calls Tryz.prog 36 #[.slice a hol.length cap] w fun e w' => HolPost hol w e w' := by
  have HC := hid hc
  clear hc
  by_cases h : 20 < hol.length
  · go_enter Tryz.func36, Tryz.ntmps36
    go_wp2
    go_ret2
    exact ⟨Below.refl _ _, Or.inl ⟨h, rfl⟩⟩
  · go_enter Tryz.func36, Tryz.ntmps36
    go_wp2_with fail
    refine (inRow_any hol a cap 0 11574 _ (by omega) (by omega) (by omega) (by omega) HC.out).mono ?_
    rintro e w1 ⟨r, hr, hcase, hb1⟩
    rcases hcase with ⟨c1, rfl⟩ | ⟨c1, rfl⟩
    · have X : Hid (HolPost hol w (.returned (.tuple #[.int .i64 r, .bool true])) w1) := ⟨hb1, Or.inr ⟨by omega, r, hr, Or.inl ⟨c1, rfl⟩⟩⟩
      clear hr hb1
      go_wp2
      go_ret2
      exact X.out
    · have X : Hid (HolPost hol w (.returned (.tuple #[.int .i64 0, .bool false])) w1) := ⟨hb1, Or.inr ⟨by omega, r, hr, Or.inr ⟨c1, rfl⟩⟩⟩
      clear hr hb1 c1
      go_wp2
      go_ret2
      exact X.out

set_option maxRecDepth 100000 in
set_option maxHeartbeats 1000000 in
theorem form_any (C : Nat → Cel) (R : Nat → Rul) (hol : List Int) (aC aR aH : Option Addr) (n cC k cR cH : Nat) (week : Int) (w : World) (ht : Tab w) (hn : n ≤ 1000000000) (hk : k ≤ 1000000000) (hhl : hol.length ≤ 1000000000)
    (hcs : CAt w aC n C) (hrs : RAt w aR k R) (hhs : IntsAt w (.slice aH hol.length cH) hol) :
    Calls Tryz.prog 20 #[.agg #[.slice aC n cC, .slice aR k cR, .int .i64 week, .slice aH hol.length cH]] w fun e w' => ChkPost C n R k week hol w e w' := by
  have HT := hid ht
  have HCS := hid hcs
  have HRS := hid hrs
  have HHS := hid hhs
  clear ht hcs hrs hhs
  have hbx : Hid (∀ o, Below w.heap.size w (w.alloc o)) := fun o => (Below.refl _ _).alloc (Nat.le_refl _) _
  go_enter Tryz.func20, Tryz.ntmps20
  go_wp2_with fail
  refine (sizesFit_any aC aR aH n cC k cR hol.length cH week _ hn hk).mono ?_
  rintro e w1 ⟨q, rfl, hq, hb1⟩
  have HB1 : Hid (Below (w.heap.size + 1) (w.alloc (.cells #[.slice aC n cC, .slice aR k cR, .int .i64 week, .slice aH hol.length cH] 26)) w1) := hb1.mono (by simp)
  have HQ := hid hq
  clear hq hb1
  cases q
  · have HR : Hid (ChkRel C n R k week hol 1 0) := Or.inl ⟨fun h => (by have := HQ.out.2 h; cases this), rfl, rfl⟩
    go_wp2
    go_ret2
    exact chk_mk HR.out (boxed_below HB1.out)
  have HS := hid (HQ.out.1 rfl)
  have p3 := boxed HB1.out 3
  simp at p3
  obtain ⟨s1, s2, s3, s4, s5⟩ := HS.out
  go_wp2_with fail
  refine (wrongHoliday_any hol aH cH _ hhl (SlAt.below HHS.out (boxed_below HB1.out) (Nat.le_refl _))).mono ?_
  rintro e w2 ⟨hb2, hcase⟩
  have HB2 : Hid (Below (w.heap.size + 1) (w.alloc (.cells #[.slice aC n cC, .slice aR k cR, .int .i64 week, .slice aH hol.length cH] 26)) w2) := HB1.out.trans (hb2.mono (by have := HB1.out.size; simp at this; omega))
  clear hb2 p3
  rcases hcase with ⟨c1, rfl⟩ | ⟨c1, r, hr, hcase⟩
  · have HR : Hid (ChkRel C n R k week hol 2 20) := Or.inr (Or.inl ⟨HS.out, c1, rfl, rfl⟩)
    go_wp2
    go_ret2
    exact chk_mk HR.out (boxed_below HB2.out)
  have CH : Hid (∀ e a : Int, (∃ r : Nat, First (BadAt hol 0 11574) hol.length r ∧ ((r < hol.length ∧ e = 2 ∧ a = r) ∨ (r = hol.length ∧
    ∃ r2, First (fun i => ¬ CellOk (C i) n) n r2 ∧ ((r2 < n ∧ e = 3 ∧ a = r2) ∨ (r2 = n ∧
      ∃ r3, First (fun i => M.Ring (Ed C n) i) n r3 ∧ ((r3 < n ∧ e = 4 ∧ a = r3) ∨ (r3 = n ∧
        ∃ r4, First (fun i => ¬ RuleOk (R i) n) k r4 ∧ ((r4 < k ∧ e = 5 ∧ a = r4) ∨ (r4 = k ∧ e = 0 ∧ a = 0))))))))) → ChkRel C n R k week hol e a) := fun e a h => Or.inr (Or.inr ⟨HS.out, c1, h⟩)
  have HR := hid hr
  clear hr
  rcases hcase with ⟨c2, rfl⟩ | ⟨c2, rfl⟩
  · have X := hid (CH.out 2 r ⟨r, HR.out, Or.inl ⟨c2, rfl, rfl⟩⟩)
    go_wp2
    go_ret2
    exact chk_mk X.out (boxed_below HB2.out)
  have C2 := hid c2
  clear c2
  obtain ⟨bC, oC, rfl, hbc, hcc⟩ : ∃ b off, aC = some ⟨b, off, none⟩ ∧ b < w.heap.size ∧ ∀ m, m < n → CelIs w b (off + m * 5) (C m) := by
    rcases HCS.out with h | h
    · omega
    · exact h
  have HCC := hid hcc
  clear hcc
  have p0 := boxed HB2.out 0
  simp at p0
  have z2 := HB2.out.size
  simp at z2
  go_wp2_with fail
  refine (wrongCell_any bC oC n cC C _ (Tab.below HT.out (boxed_below HB2.out) (Nat.le_refl _)) s2 (by omega) (fun i hi => CelIs.below (HCC.out i hi) (boxed_below HB2.out) hbc)).mono ?_
  rintro e w3 ⟨r2, hr2, hcase, hb3⟩
  have HB3 : Hid (Below (w.heap.size + 1) (w.alloc (.cells #[.slice (some ⟨bC, oC, none⟩) n cC, .slice aR k cR, .int .i64 week, .slice aH hol.length cH] 26)) w3) := HB2.out.trans (hb3.mono (by omega))
  have HR2 := hid hr2
  clear hr2 hb3 p0 z2
  rcases hcase with ⟨c3, rfl⟩ | ⟨c3, rfl⟩
  · have X := hid (CH.out 3 r2 ⟨r, HR.out, Or.inr ⟨C2.out, r2, HR2.out, Or.inl ⟨c3, rfl, rfl⟩⟩⟩)
    go_wp2
    go_ret2
    exact chk_mk X.out (boxed_below HB3.out)
  have HOK : Hid (CellsOk C n) := fun i hi => Classical.byContradiction fun hc => HR2.out.2.1 i (by omega) hc
  have C3 := hid c3
  clear c3
  have p0 := boxed HB3.out 0
  simp at p0
  have z3 := HB3.out.size
  simp at z3
  go_wp2_with fail
  refine (cellInRing_any bC oC n cC C _ (Tab.below HT.out (boxed_below HB3.out) (Nat.le_refl _)) s2 (by omega) (fun i hi => CelIs.below (HCC.out i hi) (boxed_below HB3.out) hbc) HOK.out).mono ?_
  rintro e w4 ⟨r3, hr3, hcase, hb4⟩
  have HB4 : Hid (Below (w.heap.size + 1) (w.alloc (.cells #[.slice (some ⟨bC, oC, none⟩) n cC, .slice aR k cR, .int .i64 week, .slice aH hol.length cH] 26)) w4) := HB3.out.trans (hb4.mono (by omega))
  have HR3 := hid hr3
  clear hr3 hb4 p0 z3
  rcases hcase with ⟨c4, rfl⟩ | ⟨c4, rfl⟩
  · have X := hid (CH.out 4 r3 ⟨r, HR.out, Or.inr ⟨C2.out, r2, HR2.out, Or.inr ⟨C3.out, r3, HR3.out, Or.inl ⟨c4, rfl, rfl⟩⟩⟩⟩)
    go_wp2
    go_ret2
    exact chk_mk X.out (boxed_below HB4.out)
  have C4 := hid c4
  clear c4
  have p0 := boxed HB4.out 0
  have p1 := boxed HB4.out 1
  simp at p0 p1
  have z4 := HB4.out.size
  simp at z4
  go_wp2_with fail
  refine (wrongRule_any aR k cR n R _ s2 s3 (HRS.out.below (boxed_below HB4.out))).mono ?_
  rintro e w5 ⟨r4, hr4, hcase, hb5⟩
  have HB5 : Hid (Below (w.heap.size + 1) (w.alloc (.cells #[.slice (some ⟨bC, oC, none⟩) n cC, .slice aR k cR, .int .i64 week, .slice aH hol.length cH] 26)) w5) := HB4.out.trans (hb5.mono (by omega))
  have HR4 := hid hr4
  clear hr4 hb5 p0 p1 z4
  rcases hcase with ⟨c5, rfl⟩ | ⟨c5, rfl⟩
  · have X := hid (CH.out 5 r4 ⟨r, HR.out, Or.inr ⟨C2.out, r2, HR2.out, Or.inr ⟨C3.out, r3, HR3.out, Or.inr ⟨C4.out, r4, HR4.out, Or.inl ⟨c5, rfl, rfl⟩⟩⟩⟩⟩)
    go_wp2
    go_ret2
    exact chk_mk X.out (boxed_below HB5.out)
  · have X := hid (CH.out 0 0 ⟨r, HR.out, Or.inr ⟨C2.out, r2, HR2.out, Or.inr ⟨C3.out, r3, HR3.out, Or.inr ⟨C4.out, r4, HR4.out, Or.inr ⟨c5, rfl, rfl⟩⟩⟩⟩⟩)
    clear c5
    go_wp2
    go_ret2
    exact chk_mk X.out (boxed_below HB5.out)

end Go.Proofs.YtmofidaojmiepaaGreatDoor
