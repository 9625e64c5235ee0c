/-
  THE WALKS: the code's check: rings.
-/
import Derived.Test.YtmofidaojmiepaaDoorGW17
set_option linter.unusedVariables false
set_option linter.unusedSimpArgs false
namespace Go.Proofs.YtmofidaojmiepaaDoor

open Go.RowKit

/-- What is reached is reached. -/
def RSound (C : Nat → Cel) (n i : Nat) (S : Nat → Bool) : Prop := ∀ j, j < n → S j = true → ∃ s, 1 ≤ s ∧ M.Way (Ed C n) s i j

/-- What lies within r steps is reached. -/
def RFull (C : Nat → Cel) (n i r : Nat) (S : Nat → Bool) : Prop := ∀ t j, 1 ≤ t → t ≤ r → M.Way (Ed C n) t i j → S j = true

/-- What cells below m need, those within r steps. -/
def RPart (C : Nat → Cel) (n i r m : Nat) (S : Nat → Bool) : Prop := ∀ k j, k < m → (k = i ∨ ∃ t, 1 ≤ t ∧ t ≤ r ∧ M.Way (Ed C n) t i k) → Ed C n k j → S j = true

/-- What the first p of a cell's needs are. -/
def RNeed (c : Cel) (p : Nat) (S : Nat → Bool) : Prop := ∀ p' : Nat, p' < p → ∀ j : Nat, needp c p' = j → S j = true

theorem upd_true {S : Nat → Bool} {x j : Nat} (h : S j = true) : upd S x true j = true := by
  by_cases e : j = x
  · subst e; exact upd_same _ _ _
  · rw [upd_other _ _ e]; exact h

theorem RFull.upd {C : Nat → Cel} {n i r : Nat} {S : Nat → Bool} (h : RFull C n i r S) (x : Nat) : RFull C n i r (upd S x true) := fun t j a b c => upd_true (h t j a b c)

theorem RPart.upd {C : Nat → Cel} {n i r m : Nat} {S : Nat → Bool} (h : RPart C n i r m S) (x : Nat) : RPart C n i r m (upd S x true) := fun k j a b c => upd_true (h k j a b c)

theorem RNeed.upd {c : Cel} {p : Nat} {S : Nat → Bool} (h : RNeed c p S) {x : Nat} (hx : needp c p = x) : RNeed c (p + 1) (upd S x true) := fun p' a j b => by
  by_cases e : p' = p
  · subst e
    have : j = x := by rw [hx] at b; omega
    subst this; exact upd_same _ _ _
  · exact upd_true (h p' (by omega) j b)

theorem RPart.next {C : Nat → Cel} {n i r m q : Nat} {S : Nat → Bool} (h : RPart C n i r m S) (hm : m < n) (hq : M.needs (C m).kind = q) (h3 : q ≤ 3) (hn : RNeed (C m) q S) : RPart C n i r (m + 1) S := fun k j a b c => by
  by_cases e : k = m
  · subst e
    obtain ⟨p, p1, p2⟩ := (ed_needp hm hq h3).1 c
    exact hn p p1 j p2
  · exact h k j (by omega) b c

theorem RPart.skip {C : Nat → Cel} {n i r m : Nat} {S : Nat → Bool} (h : RPart C n i r m S) (hf : RFull C n i r S) (hi : m ≠ i) (hs : S m = false) : RPart C n i r (m + 1) S := fun k j a b c => by
  by_cases e : k = m
  · subst e
    rcases b with b | ⟨t, t1, t2, t3⟩
    · exact (hi b).elim
    · have := hf t k t1 t2 t3; rw [hs] at this; cases this
  · exact h k j (by omega) b c

theorem RFull.next {C : Nat → Cel} {n i r : Nat} {S : Nat → Bool} (h : RFull C n i r S) (hp : RPart C n i r n S) : RFull C n i (r + 1) S := fun t j a b c => by
  by_cases e : t = r + 1
  · subst e
    obtain ⟨k, k1, k2⟩ := c
    refine hp k j k2.1 ?_ k2
    cases r with
    | zero => exact Or.inl k1.symm
    | succ r => exact Or.inr ⟨r + 1, by omega, by omega, k1⟩
  · exact h t j a (by omega) c

/-- What Reached answers: a row of its own: what lies one or more steps away. -/
def RcP (C : Nat → Cel) (n i : Nat) (w : World) (e : Ending) (w' : World) : Prop :=
  ∃ (b : Nat) (S : Nat → Bool), e = .returned (.slice (some ⟨b, 0, none⟩) n n) ∧ w.heap.size ≤ b ∧ w'.rowIs b 4 n (fun j => .bool (S j)) ∧ (∀ j, j < n → (S j = true ↔ ∃ s, 1 ≤ s ∧ M.Way (Ed C n) s i j)) ∧ Below w.heap.size w w'

set_option maxRecDepth 100000 in
set_option maxHeartbeats 2000000 in
theorem reached_any (bC oC n cC : Nat) (C : Nat → Cel) (i : Nat) (w : World) (ht : Tab w) (hn : n ≤ 20) (hi : i < n) (hbc : bC < w.heap.size) (hcs : ∀ m, m < n → CelIs w bC (oC + m * 5) (C m)) (hok : CellsOk C n) :
    Calls Tryd.prog 92 #[.slice (some ⟨bC, oC, none⟩) n cC, .int .i64 i] w fun e w' => RcP C n i w e w' := by
  have HT := hid ht
  have HCS := hid hcs
  have HOK := hid hok
  clear hcs hok ht
  have mk4 := run_make_row' (P := Tryd.prog) 120 4 (.bool false) 1 Tryd.underlying120 info4 rfl .i64 .i64 n (by omega) (by omega)
  go_enter Tryd.func92, Tryd.ntmps92
  go_wp2
  clear mk4
  go_loopw [16] (fun t wr => ∃ (r : Nat) (S : Nat → Bool), r ≤ n ∧ t = .int .i64 r ∧ Hid (wr.rowIs w.heap.size 4 n (fun j => .bool (S j))) ∧ Hid (Below w.heap.size w wr) ∧ Hid (RSound C n i S) ∧ Hid (RFull C n i r S)) (fun t _ => n - (intOf t).toNat)
  case atStart => exact ⟨0, fun _ => false, by omega, rfl, World.rowIs_made _ _ _ _, (Below.refl _ _).alloc (Nat.le_refl _) _, fun j _ h => (by cases h), fun t j a b => by omega⟩
  case round =>
    obtain ⟨r, S, r1, rfl, hrow, hbel, hso, hfu⟩ := hrel
    by_cases hlt : r < n
    · go_wp2
      go_loopw [20] (fun t wr => ∃ (m : Nat) (S : Nat → Bool), m ≤ n ∧ t = .int .i64 m ∧ Hid (wr.rowIs w.heap.size 4 n (fun j => .bool (S j))) ∧ Hid (Below w.heap.size w wr) ∧ Hid (RSound C n i S) ∧ Hid (RFull C n i r S) ∧ Hid (RPart C n i r m S)) (fun t _ => n - (intOf t).toNat)
      case atStart => exact ⟨0, S, by omega, rfl, hrow, hbel, hso, hfu, fun k j h => by omega⟩
      case round =>
        obtain ⟨wm, hwm⟩ : ∃ x, x = wr := ⟨_, rfl⟩
        subst hwm
        clear hrow hbel hso hfu
        obtain ⟨m, S, m1, rfl, hrow, hbel, hso, hfu, hpa⟩ := hrel
        by_cases hmt : m < n
        · obtain ⟨g0, g1, g2, g3, g4⟩ := CelIs.below (HCS.out m hmt) hbel.out hbc
          have hokm := HOK.out m hmt
          rcases hC : C m with ⟨kd, ca, cb, cc, ck⟩
          rw [hC] at g0 g1 g2 g3 g4 hokm
          simp only at g0 g1 g2 g3 g4
          have bdn := needs_bd hokm.1 hokm.2.1
          simp only at bdn
          obtain ⟨q, hq⟩ := Int.eq_ofNat_of_zero_le bdn.1
          have hq3 : q ≤ 3 := by omega
          have HQ : Hid (M.needs kd = (q : Int)) := hq
          have HQ0 : Hid (need0 kd = (q : Int)) := by show need0 kd = q; unfold need0; rw [if_pos ⟨hokm.1, by have : kd ≤ 12 := hokm.2.1; omega⟩]; exact hq
          have HNP : Hid (∀ p : Nat, p < q → 0 ≤ needp ⟨0, ca, cb, cc, 0⟩ p ∧ needp ⟨0, ca, cb, cc, 0⟩ p < n) := fun p hp => (cellOk_iff.1 hokm).2.1 p (by show (p : Int) < M.needs kd; rw [hq]; omega)
          have HCm := hid hC
          clear hC hq bdn hokm
          have hsz := hrow.out.lt
          have hba : Hid (∀ o, Below wm.heap.size wm (wm.alloc o)) := fun o => (Below.refl _ _).alloc (Nat.le_refl _) _
          have hbw : Hid (∀ o, Below w.heap.size w (wm.alloc o)) := fun o => hbel.out.alloc hbel.out.size o
          have hr0 := hrow.out.cell (i := m) hmt
          by_cases hmi : m = i
          · have t0 : ((m : Int) != (i : Int)) = false := by simp [hmi]
            have HWM : Hid (∃ s, M.Way (Ed C n) s i m) := ⟨0, by show i = m; omega⟩
            clear hmi
            go_wp2_with fail
            refine (pneeds_any _ _ (Tab.below HT.out (hbw.out _) (Nat.le_refl _))).mono ?_
            rintro e w1 ⟨rfl, rfl⟩
            rw [HQ0.out]
            go_wp2
            go_loopw [9] (fun t wr => ∃ (p : Nat) (S : Nat → Bool), p ≤ q ∧ t = .int .i64 p ∧ Hid (wr.rowIs w.heap.size 4 n (fun j => .bool (S j))) ∧ Hid (Below w.heap.size w wr) ∧ Hid (CelIs wr wm.heap.size 0 ⟨kd, ca, cb, cc, ck⟩) ∧ wm.heap.size < wr.heap.size ∧ Hid (RSound C n i S) ∧ Hid (RFull C n i r S) ∧ Hid (RPart C n i r m S) ∧ Hid (RNeed (C m) p S)) (fun t _ => q - (intOf t).toNat)
            case atStart => exact ⟨0, S, by omega, rfl, hrow.out.alloc _, hbw.out _, ⟨by simp, by simp, by simp, by simp, by simp⟩, by simp, hso, hfu, hpa, fun p' h => by omega⟩
            case round =>
              clear hrow hbel hso hfu hpa hr0 g0 g1 g2 g3 g4 hba hbw
              obtain ⟨p, S, p1, rfl, hrow, hbel, hcel, hsz2, hso, hfu, hpa, hne⟩ := hrel
              by_cases hpt : p < q
              · obtain ⟨g0, g1, g2, g3, g4⟩ := hcel.out
                simp at g0 g1 g2 g3 g4
                obtain ⟨z0, z1⟩ := HNP.out p hpt
                go_wp2_with fail
                refine (pneed_any kd ca cb cc ck p _ (by omega)).mono ?_
                rintro e w1 ⟨rfl, hb1⟩
                rw [needp_eq]
                obtain ⟨x, hx⟩ := Int.eq_ofNat_of_zero_le z0
                rw [hx] at z1 ⊢
                have hxn : x < n := by omega
                have HXE : Hid (needp (C m) p = (x : Int)) := by rw [HCm.out]; exact hx
                have HED : Hid (Ed C n m x) := (ed_needp hmt (by rw [HCm.out]; exact HQ.out) hq3).2 ⟨p, hpt, HXE.out⟩
                have HR1 := hid (hrow.out.of_block (hb1.block _ hrow.out.lt))
                have HB1 : Hid (Below w.heap.size w w1) := hbel.out.trans (hb1.mono hbel.out.size)
                have HC1 := hid (hcel.out.below hb1 hsz2)
                have hsz3 : wm.heap.size < w1.heap.size := by have := hb1.size; omega
                clear hb1 hx z0 g0 g1 g2 g3 g4
                have n0 := HR1.out.cell (i := x) hxn
                have nf := HR1.out.frozen x
                have S1 : Hid (RSound C n i (upd S x true)) := fun j hj h => by
                  by_cases e : j = x
                  · subst e
                    obtain ⟨s, hs⟩ := HWM.out
                    exact ⟨s + 1, by omega, m, hs, HED.out⟩
                  · rw [upd_other _ _ e] at h; exact hso.out j hj h
                have S2 := hid (hfu.out.upd x)
                have S3 := hid (hpa.out.upd x)
                have S4 := hid (hne.out.upd HXE.out)
                have S5 : Hid ((w1.setCell ⟨w.heap.size, x, none⟩ (.bool true)).rowIs w.heap.size 4 n (fun j => .bool (upd S x true j))) := (HR1.out.set x _).congr (fun j _ => by unfold upd; split <;> rfl)
                have S6 : Hid (Below w.heap.size w (w1.setCell ⟨w.heap.size, x, none⟩ (.bool true))) := HB1.out.setCell (Nat.le_refl _) _
                have S7 : Hid (CelIs (w1.setCell ⟨w.heap.size, x, none⟩ (.bool true)) wm.heap.size 0 ⟨kd, ca, cb, cc, ck⟩) := ⟨cell_nb (by omega) HC1.out.1, cell_nb (by omega) HC1.out.2.1, cell_nb (by omega) HC1.out.2.2.1, cell_nb (by omega) HC1.out.2.2.2.1, cell_nb (by omega) HC1.out.2.2.2.2⟩
                have S8 : wm.heap.size < (w1.setCell ⟨w.heap.size, x, none⟩ (.bool true)).heap.size := by simp; omega
                have S9 := hid S8
                clear S8
                go_wp2
                go_roundw
                case rel => exact ⟨p + 1, upd S x true, by omega, by go_num, S5, S6, S7, S9.out, S1, S2, S3, S4⟩
                case measure => simp [intOf]; omega
              · obtain rfl : p = q := by omega
                have R := hid (hpa.out.next hmt (by rw [HCm.out]; exact HQ.out) hq3 hne.out)
                go_wp2
                go_roundw
                case rel => exact ⟨m + 1, S, by omega, by go_num, hrow, hbel, hso, hfu, R⟩
                case measure => simp [intOf]; omega
          · have t0 : ((m : Int) != (i : Int)) = true := by simp; omega
            cases hS : S m
            · rw [hS] at hr0
              have R := hid (hpa.out.skip hfu.out hmi hS)
              clear hS
              go_wp2
              go_roundw
              case rel => exact ⟨m + 1, S, by omega, by go_num, hrow.out.alloc _, hbw.out _, hso, hfu, R⟩
              case measure => simp [intOf]; omega
            · rw [hS] at hr0
              obtain ⟨s0, s1, s2⟩ := hso.out m hmt hS
              have HWM : Hid (∃ s, M.Way (Ed C n) s i m) := ⟨s0, s2⟩
              clear hS s1 s2
              go_wp2_with fail
              refine (pneeds_any _ _ (Tab.below HT.out (hbw.out _) (Nat.le_refl _))).mono ?_
              rintro e w1 ⟨rfl, rfl⟩
              rw [HQ0.out]
              go_wp2
              go_loopw [9] (fun t wr => ∃ (p : Nat) (S : Nat → Bool), p ≤ q ∧ t = .int .i64 p ∧ Hid (wr.rowIs w.heap.size 4 n (fun j => .bool (S j))) ∧ Hid (Below w.heap.size w wr) ∧ Hid (CelIs wr wm.heap.size 0 ⟨kd, ca, cb, cc, ck⟩) ∧ wm.heap.size < wr.heap.size ∧ Hid (RSound C n i S) ∧ Hid (RFull C n i r S) ∧ Hid (RPart C n i r m S) ∧ Hid (RNeed (C m) p S)) (fun t _ => q - (intOf t).toNat)
              case atStart => exact ⟨0, S, by omega, rfl, hrow.out.alloc _, hbw.out _, ⟨by simp, by simp, by simp, by simp, by simp⟩, by simp, hso, hfu, hpa, fun p' h => by omega⟩
              case round =>
                clear hrow hbel hso hfu hpa hr0 g0 g1 g2 g3 g4 hba hbw
                obtain ⟨p, S, p1, rfl, hrow, hbel, hcel, hsz2, hso, hfu, hpa, hne⟩ := hrel
                by_cases hpt : p < q
                · obtain ⟨g0, g1, g2, g3, g4⟩ := hcel.out
                  simp at g0 g1 g2 g3 g4
                  obtain ⟨z0, z1⟩ := HNP.out p hpt
                  go_wp2_with fail
                  refine (pneed_any kd ca cb cc ck p _ (by omega)).mono ?_
                  rintro e w1 ⟨rfl, hb1⟩
                  rw [needp_eq]
                  obtain ⟨x, hx⟩ := Int.eq_ofNat_of_zero_le z0
                  rw [hx] at z1 ⊢
                  have hxn : x < n := by omega
                  have HXE : Hid (needp (C m) p = (x : Int)) := by rw [HCm.out]; exact hx
                  have HED : Hid (Ed C n m x) := (ed_needp hmt (by rw [HCm.out]; exact HQ.out) hq3).2 ⟨p, hpt, HXE.out⟩
                  have HR1 := hid (hrow.out.of_block (hb1.block _ hrow.out.lt))
                  have HB1 : Hid (Below w.heap.size w w1) := hbel.out.trans (hb1.mono hbel.out.size)
                  have HC1 := hid (hcel.out.below hb1 hsz2)
                  have hsz3 : wm.heap.size < w1.heap.size := by have := hb1.size; omega
                  clear hb1 hx z0 g0 g1 g2 g3 g4
                  have n0 := HR1.out.cell (i := x) hxn
                  have nf := HR1.out.frozen x
                  have S1 : Hid (RSound C n i (upd S x true)) := fun j hj h => by
                    by_cases e : j = x
                    · subst e
                      obtain ⟨s, hs⟩ := HWM.out
                      exact ⟨s + 1, by omega, m, hs, HED.out⟩
                    · rw [upd_other _ _ e] at h; exact hso.out j hj h
                  have S2 := hid (hfu.out.upd x)
                  have S3 := hid (hpa.out.upd x)
                  have S4 := hid (hne.out.upd HXE.out)
                  have S5 : Hid ((w1.setCell ⟨w.heap.size, x, none⟩ (.bool true)).rowIs w.heap.size 4 n (fun j => .bool (upd S x true j))) := (HR1.out.set x _).congr (fun j _ => by unfold upd; split <;> rfl)
                  have S6 : Hid (Below w.heap.size w (w1.setCell ⟨w.heap.size, x, none⟩ (.bool true))) := HB1.out.setCell (Nat.le_refl _) _
                  have S7 : Hid (CelIs (w1.setCell ⟨w.heap.size, x, none⟩ (.bool true)) wm.heap.size 0 ⟨kd, ca, cb, cc, ck⟩) := ⟨cell_nb (by omega) HC1.out.1, cell_nb (by omega) HC1.out.2.1, cell_nb (by omega) HC1.out.2.2.1, cell_nb (by omega) HC1.out.2.2.2.1, cell_nb (by omega) HC1.out.2.2.2.2⟩
                  have S8 : wm.heap.size < (w1.setCell ⟨w.heap.size, x, none⟩ (.bool true)).heap.size := by simp; omega
                  have S9 := hid S8
                  clear S8
                  go_wp2
                  go_roundw
                  case rel => exact ⟨p + 1, upd S x true, by omega, by go_num, S5, S6, S7, S9.out, S1, S2, S3, S4⟩
                  case measure => simp [intOf]; omega
                · obtain rfl : p = q := by omega
                  have R := hid (hpa.out.next hmt (by rw [HCm.out]; exact HQ.out) hq3 hne.out)
                  go_wp2
                  go_roundw
                  case rel => exact ⟨m + 1, S, by omega, by go_num, hrow, hbel, hso, hfu, R⟩
                  case measure => simp [intOf]; omega
        · obtain rfl : m = n := by omega
          have R := hid (hfu.out.next hpa.out)
          go_wp2
          go_roundw
          case rel => exact ⟨r + 1, S, by omega, by go_num, hrow, hbel, hso, R⟩
          case measure => simp [intOf]; omega
    · obtain rfl : r = n := by omega
      have R : Hid (RcP C r i w (.returned (.slice (some ⟨w.heap.size, 0, none⟩) r r)) wr) := ⟨w.heap.size, S, rfl, Nat.le_refl _, hrow.out, fun j hj => ⟨hso.out j hj, fun ⟨s, s1, s2⟩ => by
        obtain ⟨t, t1, t2, t3⟩ := M.way_short (ed_within HOK.out) s s (Nat.le_refl _) s1 s2
        exact hfu.out t j t1 t2 t3⟩, hbel.out⟩
      go_wp2
      go_ret
      exact R.out

end Go.Proofs.YtmofidaojmiepaaDoor
