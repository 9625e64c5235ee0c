/-
  THE WALKS: the document's Check, whole.
-/
import Derived.Test.YtcondcffllaaoaaGreatDoorW14
set_option linter.unusedVariables false
set_option linter.unusedSimpArgs false
namespace Go.Proofs.YtcondcffllaaoaaGreatDoor
open Go.RowKit

abbrev formV (aC aR aH : Option Addr) (nC cC nR cR nH cH : Nat) (week : Int) : Value := .agg #[.slice aC nC cC, .slice aR nR cR, .int .i64 week, .slice aH nH cH]

set_option maxRecDepth 100000 in
set_option maxHeartbeats 1000000 in
theorem check_bad (C : Nat → Cel) (R : Nat → Rul) (hol : List Int) (aC aR aH : Option Addr) (n cC k cR cH : Nat) (week : Int) (w : World) (hs : ¬ SizesOk n k week) (hn : n ≤ 1000000000) (hk : k ≤ 1000000000) :
    Calls Tryz.prog 15 #[.agg #[.slice aC n cC, .slice aR k cR, .int .i64 week, .slice aH hol.length cH]] w fun e w' => ChkPost C n R k week hol w e w' := by
  have hbx : Hid (∀ o, Below w.heap.size w (w.alloc o)) := fun o => (Below.refl _ _).alloc (Nat.le_refl _) _
  have HR : Hid (ChkRel C n R k week hol 1 0) := Or.inl ⟨hs, rfl, rfl⟩
  unfold SizesOk at hs
  have cs : n < 1 ∨ (¬ n < 1 ∧ 20 < n) ∨ (¬ n < 1 ∧ ¬ 20 < n ∧ 6 < k) ∨ (¬ n < 1 ∧ ¬ 20 < n ∧ ¬ 6 < k ∧ week < 1) ∨ (¬ n < 1 ∧ ¬ 20 < n ∧ ¬ 6 < k ∧ ¬ week < 1 ∧ 127 < week) := by omega
  clear hs
  rcases cs with h1 | ⟨h1, h2⟩ | ⟨h1, h2, h3⟩ | ⟨h1, h2, h3, h4⟩ | ⟨h1, h2, h3, h4, h5⟩
  all_goals
    go_enter Tryz.func15, Tryz.ntmps15
    go_wp2
    go_ret2
    exact chk_mk HR.out (hbx.out _)

set_option maxRecDepth 100000 in
set_option maxHeartbeats 2000000 in
theorem check_sized (C : Nat → Cel) (R : Nat → Rul) (hol : List Int) (aR aH : Option Addr) (bC oC n cC k cR cH : Nat) (week : Int) (w : World) (hs : SizesOk n k week) (hhl : hol.length ≤ 1000000000)
    (hbc : bC < w.heap.size) (hcs : ∀ m, m < n → CelIs w bC (oC + m * 5) (C m)) (hrs : RAt w aR k R) (hhs : IntsAt w (.slice aH hol.length cH) hol) :
    Calls Tryz.prog 15 #[.agg #[.slice (some ⟨bC, oC, none⟩) n cC, .slice aR k cR, .int .i64 week, .slice aH hol.length cH]] w fun e w' => ChkPost C n R k week hol w e w' := by
  have hbx : Hid (∀ o, Below w.heap.size w (w.alloc o)) := fun o => (Below.refl _ _).alloc (Nat.le_refl _) _
  have HS := hid hs
  have HCS := hid hcs
  have HRS := hid hrs
  have HHS := hid hhs
  obtain ⟨s1, s2, s3, s4, s5⟩ := hs
  clear hcs hrs hhs
  by_cases hl : 20 < hol.length
  · have HR : Hid (ChkRel C n R k week hol 2 20) := Or.inr (Or.inl ⟨HS.out, hl, rfl, rfl⟩)
    have HB : Hid (Calls Tryz.prog 38 #[.slice aH hol.length cH] (w.alloc (.cells #[.slice (some ⟨bC, oC, none⟩) n cC, .slice aR k cR, .int .i64 week, .slice aH hol.length cH] 26)) fun e w' => e = .returned (.int .i64 20) ∧ w' = (w.alloc (.cells #[.slice (some ⟨bC, oC, none⟩) n cC, .slice aR k cR, .int .i64 week, .slice aH hol.length cH] 26))) := by
      show Calls _ _ _ _ _
      go_enter Tryz.func38, Tryz.ntmps38
      go_wp2
      go_ret
      exact ⟨rfl, rfl⟩
    go_enter Tryz.func15, Tryz.ntmps15
    go_wp2_with fail
    refine HB.out.mono ?_
    rintro e w1 ⟨rfl, rfl⟩
    go_wp2
    go_ret2
    exact chk_mk HR.out (hbx.out _)
  have CH : Hid (∀ e a : Int, (∃ r : Nat, First (BadAt hol 0 11574) hol.length r ∧ ((r < hol.length ∧ e = 2 ∧ a = r) ∨ (r = hol.length ∧
    ∃ r2, First (fun i => ¬ CellOk (C i) n) n r2 ∧ ((r2 < n ∧ e = 3 ∧ a = r2) ∨ (r2 = n ∧
      ∃ r3, First (fun i => M.Ring (Ed C n) i) n r3 ∧ ((r3 < n ∧ e = 4 ∧ a = r3) ∨ (r3 = n ∧
        ∃ r4, First (fun i => ¬ RuleOk (R i) n) k r4 ∧ ((r4 < k ∧ e = 5 ∧ a = r4) ∨ (r4 = k ∧ e = 0 ∧ a = 0))))))))) → ChkRel C n R k week hol e a) := fun e a h => Or.inr (Or.inr ⟨HS.out, by omega, h⟩)
  go_enter Tryz.func15, Tryz.ntmps15
  go_wp2_with fail
  refine (holiday_any hol aH cH _ (by omega) (by exact SlAt.below HHS.out (hbx.out _) (Nat.le_refl _))).mono ?_
  rintro e w1 ⟨r, rfl, hr, hb1⟩
  have HB1 : Hid (Below (w.heap.size + 1) (w.alloc (.cells #[.slice (some ⟨bC, oC, none⟩) n cC, .slice aR k cR, .int .i64 week, .slice aH hol.length cH] 26)) w1) := hb1.mono (by simp)
  have HR := hid hr
  clear hb1 hr
  by_cases hrl : r < hol.length
  · have e1 : Hid (holRet hol r = (r : Int)) := if_pos hrl
    rw [e1.out]
    have HC1 : Hid (ChkRel C n R k week hol 2 r) := CH.out 2 r ⟨r, HR.out, Or.inl ⟨hrl, rfl, rfl⟩⟩
    go_wp2
    go_ret2
    exact chk_mk HC1.out (boxed_below HB1.out)
  have e1 : Hid (holRet hol r = -1) := if_neg hrl
  rw [e1.out]
  have HR1 : Hid (r = hol.length) := by have := HR.out.1; show r = hol.length; omega
  clear e1 hrl
  go_wp2
  go_loopw [6] (fun t wr => ∃ m : Nat, m ≤ n ∧ t = .int .i64 m ∧ Hid (∀ j, j < m → CellOk (C j) n) ∧ Hid (Below (w.heap.size + 1) (w.alloc (.cells #[.slice (some ⟨bC, oC, none⟩) n cC, .slice aR k cR, .int .i64 week, .slice aH hol.length cH] 26)) wr)) (fun t _ => n - (intOf t).toNat)
  case atStart => exact ⟨0, by omega, rfl, fun j hj => by omega, HB1⟩
  case round =>
    obtain ⟨m, m1, rfl, hcells, hb⟩ := hrel
    have f0 := boxed hb.out 0
    simp at f0
    by_cases hmt : m < n
    · obtain ⟨g0, g1, g2, g3, g4⟩ := CelIs.below (HCS.out m hmt) (boxed_below hb.out) hbc
      rcases hC : C m with ⟨kd, ca, cb, cc, ck⟩
      rw [hC] at g0 g1 g2 g3 g4
      simp only at g0 g1 g2 g3 g4
      have HCm := hid hC
      clear hC
      go_wp2_with fail
      refine (cellRight_any kd ca cb cc ck n _ (by omega)).mono ?_
      rintro e w2 ⟨q, rfl, hq, hb2⟩
      have HB2 : Hid (Below (w.heap.size + 1) (w.alloc (.cells #[.slice (some ⟨bC, oC, none⟩) n cC, .slice aR k cR, .int .i64 week, .slice aH hol.length cH] 26)) w2) := hb.out.trans (hb2.mono (by have := hb.out.size; simp at this; omega))
      rw [← HCm.out] at hq
      have HQ := hid hq
      clear hb2 hq
      cases q
      · have HC1 : Hid (ChkRel C n R k week hol 3 m) := CH.out 3 m ⟨r, HR.out, Or.inr ⟨HR1.out, m, ⟨by omega, fun j hj => fun h => h (hcells.out j hj), fun _ h => by have := HQ.out.2 h; cases this⟩, Or.inl ⟨hmt, rfl, rfl⟩⟩⟩
        go_wp2
        go_ret2
        exact chk_mk HC1.out (boxed_below HB2.out)
      · have HX : Hid (∀ j, j < m + 1 → CellOk (C j) n) := fun j hj => by
          by_cases e : j = m
          · subst e; exact HQ.out.1 rfl
          · exact hcells.out j (by omega)
        go_wp2
        go_roundw
        case rel => exact ⟨m + 1, by omega, by go_num, HX, HB2⟩
        case measure => simp [intOf]; omega
    · obtain rfl : m = n := by omega
      have HF2 : Hid (First (fun i => ¬ CellOk (C i) m) m m) := ⟨Nat.le_refl _, fun j hj h => h (hcells.out j hj), fun h => by omega⟩
      go_wp2
      go_loopw [8] (fun t wr => ∃ j : Nat, j ≤ m ∧ t = .int .i64 j ∧ Hid (∀ i, i < j → ¬ M.Ring (Ed C m) i) ∧ Hid (Below (w.heap.size + 1) (w.alloc (.cells #[.slice (some ⟨bC, oC, none⟩) m cC, .slice aR k cR, .int .i64 week, .slice aH hol.length cH] 26)) wr)) (fun t _ => m - (intOf t).toNat)
      case atStart => exact ⟨0, by omega, rfl, fun j hj => by omega, hb⟩
      case round =>
        clear f0
        obtain ⟨j, j1, rfl, hrings, hb⟩ := hrel
        have f0 := boxed hb.out 0
        have f1 := boxed hb.out 1
        simp at f0 f1
        by_cases hjt : j < m
        · go_wp2_with fail
          refine (ring_any bC oC m cC C j _ (by omega) hjt (by have := hb.out.size; simp at this; omega) (fun i hi => CelIs.below (HCS.out i hi) (boxed_below hb.out) hbc) hcells.out).mono ?_
          rintro e w2 ⟨q, rfl, hq, hb2⟩
          have HB2 : Hid (Below (w.heap.size + 1) (w.alloc (.cells #[.slice (some ⟨bC, oC, none⟩) m cC, .slice aR k cR, .int .i64 week, .slice aH hol.length cH] 26)) w2) := hb.out.trans (hb2.mono (by have := hb.out.size; simp at this; omega))
          have HQ := hid hq
          clear hb2 hq
          cases q
          · have HX : Hid (∀ i, i < j + 1 → ¬ M.Ring (Ed C m) i) := fun i hi h => by
              by_cases e : i = j
              · subst e; have := HQ.out.2 h; cases this
              · exact hrings.out i (by omega) h
            go_wp2
            go_roundw
            case rel => exact ⟨j + 1, by omega, by go_num, HX, HB2⟩
            case measure => simp [intOf]; omega
          · have HC1 : Hid (ChkRel C m R k week hol 4 j) := CH.out 4 j ⟨r, HR.out, Or.inr ⟨HR1.out, m, HF2.out, Or.inr ⟨rfl, j, ⟨by omega, hrings.out, fun _ => HQ.out.1 rfl⟩, Or.inl ⟨hjt, rfl, rfl⟩⟩⟩⟩
            go_wp2
            go_ret2
            exact chk_mk HC1.out (boxed_below HB2.out)
        · obtain rfl : j = m := by omega
          have HF3 : Hid (First (fun i => M.Ring (Ed C j) i) j j) := ⟨Nat.le_refl _, hrings.out, fun h => by omega⟩
          go_wp2
          go_loopw [10] (fun t wr => ∃ i : Nat, i ≤ k ∧ t = .int .i64 i ∧ Hid (∀ x, x < i → RuleOk (R x) j) ∧ Hid (Below (w.heap.size + 1) (w.alloc (.cells #[.slice (some ⟨bC, oC, none⟩) j cC, .slice aR k cR, .int .i64 week, .slice aH hol.length cH] 26)) wr)) (fun t _ => k - (intOf t).toNat)
          case atStart => exact ⟨0, by omega, rfl, fun j hj => by omega, hb⟩
          case round =>
            clear f0 f1
            obtain ⟨i, i1, rfl, hrules, hb⟩ := hrel
            have f1 := boxed hb.out 1
            simp at f1
            by_cases hit : i < k
            · rcases HRS.out with h0 | ⟨bR, oR, rfl, hbr, hrr⟩
              · omega
              obtain ⟨u0, ast, caps, u1, u2, u3⟩ := (hrr i hit).below (boxed_below hb.out) hbr (Nat.le_refl _)
              rcases hRi : R i with ⟨gd, st⟩
              rw [hRi] at u0 u1 u2 u3
              simp only at u0 u1 u2 u3
              have HRi := hid hRi
              have HU2 := hid u2
              clear hRi u2 hrr
              go_wp2_with fail
              refine (ruleRight_any gd st ast caps j _ (by omega) u3 HU2.out).mono ?_
              rintro e w2 ⟨q, rfl, hq, hb2⟩
              have HB2 : Hid (Below (w.heap.size + 1) (w.alloc (.cells #[.slice (some ⟨bC, oC, none⟩) j cC, .slice (some ⟨bR, oR, none⟩) k cR, .int .i64 week, .slice aH hol.length cH] 26)) w2) := hb.out.trans (hb2.mono (by have := hb.out.size; simp at this; omega))
              rw [← HRi.out] at hq
              have HQ := hid hq
              clear hb2 hq
              cases q
              · have HC1 : Hid (ChkRel C j R k week hol 5 i) := CH.out 5 i ⟨r, HR.out, Or.inr ⟨HR1.out, j, HF2.out, Or.inr ⟨rfl, j, HF3.out, Or.inr ⟨rfl, i, ⟨by omega, fun x hx h => h (hrules.out x hx), fun _ h => by have := HQ.out.2 h; cases this⟩, Or.inl ⟨hit, rfl, rfl⟩⟩⟩⟩⟩
                go_wp2
                go_ret2
                exact chk_mk HC1.out (boxed_below HB2.out)
              · have HX : Hid (∀ x, x < i + 1 → RuleOk (R x) j) := fun x hx => by
                  by_cases e : x = i
                  · subst e; exact HQ.out.1 rfl
                  · exact hrules.out x (by omega)
                go_wp2
                go_roundw
                case rel => exact ⟨i + 1, by omega, by go_num, HX, HB2⟩
                case measure => simp [intOf]; omega
            · obtain rfl : i = k := by omega
              have HC1 : Hid (ChkRel C j R i week hol 0 0) := CH.out 0 0 ⟨r, HR.out, Or.inr ⟨HR1.out, j, HF2.out, Or.inr ⟨rfl, j, HF3.out, Or.inr ⟨rfl, i, ⟨by omega, fun x hx h => h (hrules.out x hx), fun h => by omega⟩, Or.inr ⟨rfl, rfl, rfl⟩⟩⟩⟩⟩
              go_wp2
              go_ret2
              exact chk_mk HC1.out (boxed_below hb.out)

end Go.Proofs.YtcondcffllaaoaaGreatDoor
