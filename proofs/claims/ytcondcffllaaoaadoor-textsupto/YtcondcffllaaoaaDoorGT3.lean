/-
  THE LAW: the owner writes over a form that came out.
-/
import Derived.Test.YtcondcffllaaoaaDoorGT1
set_option linter.unusedVariables false
set_option linter.unusedSimpArgs false
namespace Go.Proofs.YtcondcffllaaoaaDoor
open Go.RowKit
attribute [local go_sem ↓] Go.wp_at_zero Go.wp_at_succ

/-- The blocks of a form's lists. -/
def Mine (vC vR vH : Value) (sv : Nat → Value) (k : Nat) (b : Nat) : Prop := vC.ownBlock = some b ∨ vR.ownBlock = some b ∨ vH.ownBlock = some b ∨ ∃ i, i < k ∧ (sv i).ownBlock = some b
/-- The blocks of its lists of numbers, up to a rule. -/
def MineI (vH : Value) (sv : Nat → Value) (j : Nat) (b : Nat) : Prop := vH.ownBlock = some b ∨ ∃ i, i < j ∧ (sv i).ownBlock = some b

/-- So far: the lists of numbers up to rule j are written over. -/
structure Sp (w : World) (vH : Value) (sv : Nat → Value) (j : Nat) (wr : World) : Prop where
  chg : Chg (MineI vH sv j) w wr
  hol : FilV vH (-7) wr
  steps : ∀ i : Nat, i < j → FilV (sv i) (-8 - (i : Int)) wr

theorem Sp.more {B : Nat} {w wr w' : World} {f : Frm} {vC vR vH : Value} {sv : Nat → Value} {j : Nat} (h : Sp w vH sv j wr) (ho : OF B w f vC vR vH sv) (hj : j < f.k) (hf : FilV (sv j) (-8 - (j : Int)) w') (hc : Chg (fun b => (sv j).ownBlock = some b) wr w') : Sp w vH sv (j + 1) w' := by
  have lt : ∀ {v : Value} {b m : Nat} {xs : List Value}, w.ownsRow B 3 1 v m xs → v.ownBlock = some b → b < wr.heap.size := fun h1 h2 => by
    have := own_ltT h1 h2
    have := h.chg.size
    omega
  refine ⟨(h.chg.mono (Y := MineI vH sv (j + 1)) (fun b _ hb => ?_)).trans hc (fun b _ hb => Or.inr ⟨j, by omega, hb⟩), h.hol.keep (fun g hg => hc.block g (lt ho.hol hg) (fun e => (ho.apart j hj g e).1 hg)), fun i hi => ?_⟩
  · rcases hb with hb | ⟨i, hi, hb⟩
    · exact Or.inl hb
    · exact Or.inr ⟨i, by omega, hb⟩
  · by_cases e : i = j
    · subst e; exact hf
    · exact (h.steps i (by omega)).keep (fun g hg => hc.block g (lt (ho.steps i (by omega)) hg) (fun e2 => (ho.apart j hj g e2).2 i (by omega) hg))
theorem mineI_not {B : Nat} {w : World} {f : Frm} {vC vR vH : Value} {sv : Nat → Value} {j b : Nat} (ho : OF B w f vC vR vH sv) (hj : j ≤ f.k) (h : MineI vH sv j b) : ∃ cur, w.heap[b]? = some (.cells cur 3) := by
  rcases h with h | ⟨i, hi, h⟩
  · exact own_type ho.hol h
  · exact own_type (ho.steps i (by omega)) h
theorem mineI_lt {B : Nat} {w : World} {f : Frm} {vC vR vH : Value} {sv : Nat → Value} {j b : Nat} (ho : OF B w f vC vR vH sv) (hj : j ≤ f.k) (h : MineI vH sv j b) : b < w.heap.size := by
  rcases h with h | ⟨i, hi, h⟩
  · exact own_ltT ho.hol h
  · exact own_ltT (ho.steps i (by omega)) h

/-- A block of another kind stands. -/
theorem Sp.stands {B : Nat} {w w0 wr : World} {f : Frm} {vC vR vH : Value} {sv : Nat → Value} {j b : Nat} {t : TypeId} {cur : Array Value} (h : Sp w vH sv j wr) (ho : OF B w f vC vR vH sv) (hj : j ≤ f.k) (hb : w.heap[b]? = some (.cells cur t)) (ht : t ≠ 3) : wr.heap[b]? = w.heap[b]? := by
  have hlt : b < w.heap.size := by
    rcases Nat.lt_or_ge b w.heap.size with g | g
    · exact g
    · rw [Array.getElem?_eq_none g] at hb; cases hb
  refine h.chg.block b hlt (fun e => ?_)
  obtain ⟨c2, h2⟩ := mineI_not ho hj e
  rw [hb] at h2
  injection h2 with h2
  injection h2 with _ h3 _
  exact ht h3

set_option maxRecDepth 100000 in
set_option maxHeartbeats 4000000 in
theorem spoil_any {B : Nat} {w : World} {f : Frm} {aC aR aH : Option Addr} {cC cR cH : Nat} {sv : Nat → Value} (h : OF B w f (.slice aC f.n cC) (.slice aR f.k cR) (.slice aH f.hol.length cH) sv) (hk : f.k ≤ 1000000000) :
    Calls Tryd.prog 14 #[.agg #[.slice aC f.n cC, .slice aR f.k cR, .int .i64 f.week, .slice aH f.hol.length cH]] w fun e w' => e = .returned (.bool true) ∧ Chg (Mine (.slice aC f.n cC) (.slice aR f.k cR) (.slice aH f.hol.length cH) sv f.k) w w' := by
  have B0 : Below w.heap.size w (w.alloc (.cells #[.slice aC f.n cC, .slice aR f.k cR, .int .i64 f.week, .slice aH f.hol.length cH] 26)) := (Below.refl _ _).alloc (Nat.le_refl _) _
  have HO := hid (h.below B0)
  have OW := hid h
  have BX : Hid ((w.alloc (.cells #[.slice aC f.n cC, .slice aR f.k cR, .int .i64 f.week, .slice aH f.hol.length cH] 26)).rowIs w.heap.size 26 4 (f4 (.slice aC f.n cC) (.slice aR f.k cR) (.int .i64 f.week) (.slice aH f.hol.length cH))) := World.rowIs_alloc w #[.slice aC f.n cC, .slice aR f.k cR, .int .i64 f.week, .slice aH f.hol.length cH] 26 _ (fun i hi => by
    have : i = 0 ∨ i = 1 ∨ i = 2 ∨ i = 3 := by simp at hi; omega
    rcases this with rfl | rfl | rfl | rfl <;> rfl)
  have C0 : Hid (∀ (X : Nat → Prop) W, Chg X (w.alloc (.cells #[.slice aC f.n cC, .slice aR f.k cR, .int .i64 f.week, .slice aH f.hol.length cH] 26)) W → Chg X w W) := fun X W hc => (Chg.of (X := X) B0).trans hc (fun _ _ x => x)
  have FI := hid (fill_any (own_rowV HO.out.hol) (-7))
  have x3 : (w.alloc (.cells #[.slice aC f.n cC, .slice aR f.k cR, .int .i64 f.week, .slice aH f.hol.length cH] 26)).cell? ⟨w.heap.size, 3, none⟩ = some (.slice aH f.hol.length cH) := BX.out.cell (i := 3) (by omega)
  have NB : Hid (∀ j, j ≤ f.k → ¬ MineI (.slice aH f.hol.length cH) sv j w.heap.size) := fun j hj e => by have := mineI_lt OW.out hj e; omega
  clear h B0
  go_enter Tryd.func14, Tryd.ntmps14
  go_wp2_with fail
  refine FI.out.mono ?_
  clear FI x3
  generalize w.alloc (.cells #[.slice aC f.n cC, .slice aR f.k cR, .int .i64 f.week, .slice aH f.hol.length cH] 26) = wA at *
  rintro e w1 ⟨rfl, hf, hc⟩
  have S0 : Hid (Sp wA (.slice aH f.hol.length cH) sv 0 w1) := ⟨hc.mono (fun b _ e => Or.inl e), hf, fun i hi => by omega⟩
  have RB : Hid (∀ j W, j ≤ f.k → Sp wA (.slice aH f.hol.length cH) sv j W → W.rowIs w.heap.size 26 4 (f4 (.slice aC f.n cC) (.slice aR f.k cR) (.int .i64 f.week) (.slice aH f.hol.length cH))) := fun j W hj hs => BX.out.of_block (hs.chg.block _ BX.out.lt (NB.out j hj))
  have RR : Hid (∀ j W i, j ≤ f.k → Sp wA (.slice aH f.hol.length cH) sv j W → i < f.k → ∃ g, aR = some ⟨g, 0, none⟩ ∧ g < W.heap.size ∧ W.cell? ⟨g, i * 2 + 1, none⟩ = some (sv i)) := fun j W i hj hs hi => by
    obtain ⟨k', hk'⟩ : ∃ k', f.k = k' + 1 := ⟨f.k - 1, by omega⟩
    have o1 := HO.out.rules
    rw [hk'] at o1
    obtain ⟨g, cap, e1⟩ := own_succ o1
    injection e1 with e1 _ e3
    subst e1
    refine ⟨g, rfl, ?_, ?_⟩
    · have : g < wA.heap.size := own_ltT o1 rfl
      have := hs.chg.size
      omega
    · obtain ⟨cur, hcur⟩ := own_type o1 rfl
      rw [World.cell?_of_block (w := wA) (a := ⟨g, i * 2 + 1, none⟩) (hs.stands (w0 := wA) HO.out hj hcur (by decide)), own_cellG o1 (by omega)]
      unfold rules2
      rw [List.getElem?_map, List.getElem?_range (by omega)]
      show some (rulV f.R sv (i * 2 + 1)) = _
      unfold rulV
      rw [if_neg (by omega), show (i * 2 + 1) / 2 = i by omega]
  clear hf hc
  go_wp2_with fail
  go_loopw [3] (fun t wr => ∃ j : Nat, j ≤ f.k ∧ t = .int .i64 j ∧ Hid (Sp wA (.slice aH f.hol.length cH) sv j wr)) (fun t _ => f.k - (intOf t).toNat)
  case atStart => exact ⟨0, by omega, by go_num, S0⟩
  case round =>
    clear S0
    obtain ⟨j, j1, rfl, hS⟩ := hrel
    have b1 : wr.cell? ⟨w.heap.size, 1, none⟩ = some (.slice aR f.k cR) := (RB.out j wr j1 hS.out).cell (i := 1) (by omega)
    have zb := (RB.out j wr j1 hS.out).lt
    by_cases hjt : j < f.k
    · obtain ⟨g, ea, zg, u1⟩ := RR.out j wr j j1 hS.out hjt
      subst ea
      have FI := hid (fill_any (w := wr) ((own_rowV (HO.out.steps j hjt)).keep (fun b hb => hS.out.chg.block b (own_ltT (HO.out.steps j hjt) hb) (fun e => by
        rcases e with e | ⟨i, hi, e⟩
        · exact (HO.out.apart j hjt b hb).1 e
        · exact (HO.out.apart j hjt b hb).2 i hi e))) (-8 - (j : Int)))
      go_wp2_with fail
      refine FI.out.mono ?_
      rintro e w2 ⟨rfl, hf, hc⟩
      have S1 := hid (hS.out.more HO.out hjt hf hc)
      clear hf hc FI hS u1 b1
      go_wp2
      go_roundw
      case rel => exact ⟨j + 1, by omega, by go_num, S1⟩
      case measure => simp [intOf]; omega
    · obtain rfl : j = f.k := by omega
      have b3 : wr.cell? ⟨w.heap.size, 3, none⟩ = some (.slice aH f.hol.length cH) := (RB.out _ wr j1 hS.out).cell (i := 3) (by omega)
      have FH := hid (filled_any hS.out.hol)
      generalize wr = wo at *
      clear hjt j1
      go_wp2_with fail
      refine FH.out.mono ?_
      rintro e w2 ⟨rfl, hw2⟩
      obtain rfl : wo = w2 := hw2.symm
      clear hw2 FH b3
      go_wp2_with fail
      go_loopw [4, 5] (fun tk t wr => ∃ i : Nat, i ≤ f.k ∧ tk = .bool true ∧ t = .int .i64 i ∧ wo = wr) (fun _ t _ => f.k - (intOf t).toNat)
      case atStart => exact ⟨0, by omega, rfl, by go_num, rfl⟩
      case round =>
        obtain ⟨i, i1, rfl, rfl, rfl⟩ := hrel
        by_cases hit : i < f.k
        · obtain ⟨g, ea, zg, u1⟩ := RR.out f.k wo i (Nat.le_refl _) hS.out hit
          subst ea
          have FH := hid (filled_any (hS.out.steps i hit))
          go_wp2_with fail
          refine FH.out.mono ?_
          rintro e w2 ⟨rfl, hw2⟩
          obtain rfl : wo = w2 := hw2.symm
          clear hw2 FH u1
          go_wp2
          go_roundw
          case rel => exact ⟨i + 1, by omega, rfl, by go_num, trivial⟩
          case measure => simp [intOf]; omega
        · obtain rfl : i = f.k := by omega
          have CW : Hid (Chg (Mine (.slice aC f.n cC) (.slice aR f.k cR) (.slice aH f.hol.length cH) sv f.k) wA wo) := hS.out.chg.mono (fun b _ e => by
            rcases e with e | ⟨i, hi, e⟩
            · exact Or.inr (Or.inr (Or.inl e))
            · exact Or.inr (Or.inr (Or.inr ⟨i, hi, e⟩)))
          have b0 : wo.cell? ⟨w.heap.size, 0, none⟩ = some (.slice aC f.n cC) := (RB.out f.k wo (Nat.le_refl _) hS.out).cell (i := 0) (by omega)
          have ROW : Hid (∀ (g cap m size : Nat) (t : TypeId) (xs : List Value), wA.ownsRow B t size (.slice (some ⟨g, 0, none⟩) m cap) m xs → t ≠ 3 → ∃ F, wo.rowIs g t (cap * size) F ∧ cap ≤ maxLen) := fun g cap m size t xs ho ht => by
            obtain ⟨F, r, _, h2⟩ := own_rowT ho
            obtain ⟨cur, hcur⟩ := own_type ho rfl
            exact ⟨F, r.of_block (hS.out.stands (w0 := wA) HO.out (Nat.le_refl _) hcur ht), h2⟩
          have RBX := hid (RB.out f.k wo (Nat.le_refl _) hS.out)
          clear hS RR RB NB hit
          rcases HO.out.rules.2 with ⟨er, hk0⟩ | ⟨gR, capR, curR, er, hgR, hcurR, _⟩
          · injection er with e1 e2 e3
            subst e1 e3
            rw [e2] at b1
            have EK := hid e2
            clear e2
            go_wp2_with fail
            go_loopw [8] (fun t wr => t = .int .i64 0 ∧ wo = wr) (fun _ _ => 0)
            case atStart => exact ⟨by go_num, rfl⟩
            case round =>
              obtain ⟨rfl, rfl⟩ := hrel
              clear b1
              rcases HO.out.cells.2 with ⟨ec, hn0⟩ | ⟨gC, capC, cur, ec, hgB, hcur, _⟩
              · injection ec with e1 e2 e3
                subst e1 e3
                rw [e2] at b0
                clear e2
                go_wp2_with fail
                go_loopw [10] (fun t wr => t = .int .i64 0 ∧ wo = wr) (fun _ _ => 0)
                case atStart => exact ⟨by go_num, rfl⟩
                case round =>
                  obtain ⟨rfl, rfl⟩ := hrel
                  go_wp2
                  go_ret
                  exact ⟨rfl, C0.out _ _ CW.out⟩
              · injection ec with e1 e2 e3
                subst e1 e3
                obtain ⟨FC, rC, mC⟩ := ROW.out gC cC f.n 5 _ _ HO.out.cells (by decide)
                unfold maxLen at mC
                have RC := hid rC
                clear rC
                go_wp2_with fail
                go_loopw [10] (fun t wr => ∃ (i : Nat) (F : Nat → Value), i ≤ cC ∧ t = .int .i64 i ∧ Hid (wr.rowIs gC 46 (cC * 5) F) ∧ Hid (Chg (Mine (.slice (some ⟨gC, 0, none⟩) f.n cC) (.slice none f.k 0) (.slice aH f.hol.length cH) sv f.k) wA wr)) (fun t _ => cC - (intOf t).toNat)
                case atStart => exact ⟨0, FC, by omega, by go_num, RC, CW⟩
                case round =>
                  clear RC CW
                  obtain ⟨i, F, i1, rfl, hr, hc⟩ := hrel
                  by_cases hit : i < cC
                  · obtain ⟨o0, p0⟩ : ∃ u, wr.cell? ⟨gC, i * 5, none⟩ = some u := ⟨_, hr.out.cell (i := i * 5) (by omega)⟩
                    obtain ⟨o1, p1⟩ : ∃ u, wr.cell? ⟨gC, i * 5 + 1, none⟩ = some u := ⟨_, hr.out.cell (i := i * 5 + 1) (by omega)⟩
                    obtain ⟨o2, p2⟩ : ∃ u, wr.cell? ⟨gC, i * 5 + 2, none⟩ = some u := ⟨_, hr.out.cell (i := i * 5 + 2) (by omega)⟩
                    obtain ⟨o3, p3⟩ : ∃ u, wr.cell? ⟨gC, i * 5 + 3, none⟩ = some u := ⟨_, hr.out.cell (i := i * 5 + 3) (by omega)⟩
                    obtain ⟨o4, p4⟩ : ∃ u, wr.cell? ⟨gC, i * 5 + 4, none⟩ = some u := ⟨_, hr.out.cell (i := i * 5 + 4) (by omega)⟩
                    have fz : ∀ j, wr.frozen? ⟨gC, j, none⟩ = false := fun j => hr.out.frozen j
                    have zg := hr.out.lt
                    have KR : Hid (∃ F, (((((wr.setCell ⟨gC, i * 5, none⟩ (.int .i64 (-7))).setCell ⟨gC, i * 5 + 1, none⟩ (.int .i64 0)).setCell ⟨gC, i * 5 + 2, none⟩ (.int .i64 0)).setCell ⟨gC, i * 5 + 3, none⟩ (.int .i64 0)).setCell ⟨gC, i * 5 + 4, none⟩ (.int .i64 0)).rowIs gC 46 (cC * 5) F) := ⟨_, ((((hr.out.set _ _).set _ _).set _ _).set _ _).set _ _⟩
                    have MC : Mine (.slice (some ⟨gC, 0, none⟩) f.n cC) (.slice none f.k 0) (.slice aH f.hol.length cH) sv f.k gC := Or.inl rfl
                    have KC : Hid (Chg (Mine (.slice (some ⟨gC, 0, none⟩) f.n cC) (.slice none f.k 0) (.slice aH f.hol.length cH) sv f.k) wA (((((wr.setCell ⟨gC, i * 5, none⟩ (.int .i64 (-7))).setCell ⟨gC, i * 5 + 1, none⟩ (.int .i64 0)).setCell ⟨gC, i * 5 + 2, none⟩ (.int .i64 0)).setCell ⟨gC, i * 5 + 3, none⟩ (.int .i64 0)).setCell ⟨gC, i * 5 + 4, none⟩ (.int .i64 0))) := ((((hc.out.setCell ⟨gC, i * 5, none⟩ (.int .i64 (-7)) MC).setCell ⟨gC, i * 5 + 1, none⟩ (.int .i64 0) MC).setCell ⟨gC, i * 5 + 2, none⟩ (.int .i64 0) MC).setCell ⟨gC, i * 5 + 3, none⟩ (.int .i64 0) MC).setCell ⟨gC, i * 5 + 4, none⟩ (.int .i64 0) MC
                    clear hr hc MC
                    go_upto_region 20 with (fail)
                    clear p0 p1 p2 p3 p4 fz
                    generalize (((((wr.setCell ⟨gC, i * 5, none⟩ (.int .i64 (-7))).setCell ⟨gC, i * 5 + 1, none⟩ (.int .i64 0)).setCell ⟨gC, i * 5 + 2, none⟩ (.int .i64 0)).setCell ⟨gC, i * 5 + 3, none⟩ (.int .i64 0)).setCell ⟨gC, i * 5 + 4, none⟩ (.int .i64 0)) = W5 at *
                    go_wp2
                    go_roundw
                    case rel => exact ⟨i + 1, _, by omega, by go_num, KR.out.choose_spec, KC⟩
                    case measure => simp [intOf]; omega
                  · obtain rfl : i = cC := by omega
                    have R := hid (C0.out _ _ hc.out)
                    clear hr hc
                    go_wp2
                    go_ret
                    exact ⟨rfl, R.out⟩
          · injection er with e1 e2 e3
            subst e1 e3
            obtain ⟨FR, rR, mR⟩ := ROW.out gR cR f.k 2 _ _ HO.out.rules (by decide)
            unfold maxLen at mR
            have RC := hid rR
            clear rR
            go_wp2_with fail
            go_loopw [8] (fun t wr => ∃ (i : Nat) (F : Nat → Value), i ≤ cR ∧ t = .int .i64 i ∧ Hid (wr.rowIs gR 44 (cR * 2) F) ∧ Hid (Chg (fun b => b = gR) wo wr)) (fun t _ => cR - (intOf t).toNat)
            case atStart => exact ⟨0, FR, by omega, by go_num, RC, Chg.refl _ _⟩
            case round =>
              clear RC
              obtain ⟨i, F, i1, rfl, hr, hc⟩ := hrel
              by_cases hit : i < cR
              · obtain ⟨o0, p0⟩ : ∃ u, wr.cell? ⟨gR, i * 2, none⟩ = some u := ⟨_, hr.out.cell (i := i * 2) (by omega)⟩
                obtain ⟨o1, p1⟩ : ∃ u, wr.cell? ⟨gR, i * 2 + 1, none⟩ = some u := ⟨_, hr.out.cell (i := i * 2 + 1) (by omega)⟩
                have fz : ∀ j, wr.frozen? ⟨gR, j, none⟩ = false := fun j => hr.out.frozen j
                have zg := hr.out.lt
                have KR : Hid (∃ F, ((wr.setCell ⟨gR, i * 2, none⟩ (.int .i64 (-7))).setCell ⟨gR, i * 2 + 1, none⟩ (.slice none 0 0)).rowIs gR 44 (cR * 2) F) := ⟨_, (hr.out.set _ _).set _ _⟩
                have KC : Hid (Chg (fun b => b = gR) wo ((wr.setCell ⟨gR, i * 2, none⟩ (.int .i64 (-7))).setCell ⟨gR, i * 2 + 1, none⟩ (.slice none 0 0))) := (hc.out.setCell _ _ rfl).setCell _ _ rfl
                clear hr hc
                go_wp2
                go_roundw
                case rel => exact ⟨i + 1, _, by omega, by go_num, KR.out.choose_spec, KC⟩
                case measure => simp [intOf]; omega
              · obtain rfl : i = cR := by omega
                have gRlt : gR < w.heap.size := own_ltT OW.out.rules rfl
                have CW2 : Hid (Chg (Mine (.slice aC f.n cC) (.slice (some ⟨gR, 0, none⟩) f.k i) (.slice aH f.hol.length cH) sv f.k) wA wr) := CW.out.trans hc.out (fun b _ e => by subst e; exact Or.inr (Or.inl rfl))
                have b0' : wr.cell? ⟨w.heap.size, 0, none⟩ = some (.slice aC f.n cC) := by
                  rw [World.cell?_of_block (w := wo) (a := ⟨w.heap.size, 0, none⟩) (hc.out.block _ RBX.out.lt (by show ¬ (w.heap.size = gR); omega))]
                  exact b0
                have zbr : w.heap.size < wr.heap.size := by have := RBX.out.lt; have := hc.out.size; omega
                have ROW2 : Hid (∀ gC, (Value.slice aC f.n cC).ownBlock = some gC → wr.heap[gC]? = wo.heap[gC]?) := fun gC hgC => hc.out.block _ (by have := own_ltT OW.out.cells hgC; have := RBX.out.lt; omega) (fun e => own_apart OW.out.cells OW.out.rules (by decide) hgC (by rw [e]; rfl))
                clear hr hc b0 CW
                have CW := CW2
                have b0 := b0'
                clear CW2 b0' b1
                generalize wr = wq at *
                rcases HO.out.cells.2 with ⟨ec, hn0⟩ | ⟨gC, capC, cur, ec, hgB, hcur, _⟩
                · injection ec with e1 e2 e3
                  subst e1 e3
                  rw [e2] at b0
                  clear e2
                  go_wp2_with fail
                  go_loopw [10] (fun t wr => t = .int .i64 0 ∧ wq = wr) (fun _ _ => 0)
                  case atStart => exact ⟨by go_num, rfl⟩
                  case round =>
                    obtain ⟨rfl, rfl⟩ := hrel
                    go_wp2
                    go_ret
                    exact ⟨rfl, C0.out _ _ CW.out⟩
                · injection ec with e1 e2 e3
                  subst e1 e3
                  obtain ⟨FC, rC, mC⟩ := (show ∃ F, wq.rowIs gC 46 (cC * 5) F ∧ cC ≤ maxLen by obtain ⟨F, r, hm⟩ := ROW.out gC cC f.n 5 _ _ HO.out.cells (by decide); exact ⟨F, r.of_block (ROW2.out gC rfl), hm⟩)
                  unfold maxLen at mC
                  have RC := hid rC
                  clear rC
                  go_wp2_with fail
                  go_loopw [10] (fun t wr => ∃ (q : Nat) (F : Nat → Value), q ≤ cC ∧ t = .int .i64 q ∧ Hid (wr.rowIs gC 46 (cC * 5) F) ∧ Hid (Chg (Mine (.slice (some ⟨gC, 0, none⟩) f.n cC) (.slice (some ⟨gR, 0, none⟩) f.k i) (.slice aH f.hol.length cH) sv f.k) wA wr)) (fun t _ => cC - (intOf t).toNat)
                  case atStart => exact ⟨0, FC, by omega, by go_num, RC, CW⟩
                  case round =>
                    clear RC CW
                    obtain ⟨q, F, q1, rfl, hr, hc⟩ := hrel
                    by_cases hqt : q < cC
                    · obtain ⟨o0, p0⟩ : ∃ u, wr.cell? ⟨gC, q * 5, none⟩ = some u := ⟨_, hr.out.cell (i := q * 5) (by omega)⟩
                      obtain ⟨o1, p1⟩ : ∃ u, wr.cell? ⟨gC, q * 5 + 1, none⟩ = some u := ⟨_, hr.out.cell (i := q * 5 + 1) (by omega)⟩
                      obtain ⟨o2, p2⟩ : ∃ u, wr.cell? ⟨gC, q * 5 + 2, none⟩ = some u := ⟨_, hr.out.cell (i := q * 5 + 2) (by omega)⟩
                      obtain ⟨o3, p3⟩ : ∃ u, wr.cell? ⟨gC, q * 5 + 3, none⟩ = some u := ⟨_, hr.out.cell (i := q * 5 + 3) (by omega)⟩
                      obtain ⟨o4, p4⟩ : ∃ u, wr.cell? ⟨gC, q * 5 + 4, none⟩ = some u := ⟨_, hr.out.cell (i := q * 5 + 4) (by omega)⟩
                      have fz : ∀ j, wr.frozen? ⟨gC, j, none⟩ = false := fun j => hr.out.frozen j
                      have zg := hr.out.lt
                      have KR : Hid (∃ F, (((((wr.setCell ⟨gC, q * 5, none⟩ (.int .i64 (-7))).setCell ⟨gC, q * 5 + 1, none⟩ (.int .i64 0)).setCell ⟨gC, q * 5 + 2, none⟩ (.int .i64 0)).setCell ⟨gC, q * 5 + 3, none⟩ (.int .i64 0)).setCell ⟨gC, q * 5 + 4, none⟩ (.int .i64 0)).rowIs gC 46 (cC * 5) F) := ⟨_, ((((hr.out.set _ _).set _ _).set _ _).set _ _).set _ _⟩
                      have MC : Mine (.slice (some ⟨gC, 0, none⟩) f.n cC) (.slice (some ⟨gR, 0, none⟩) f.k i) (.slice aH f.hol.length cH) sv f.k gC := Or.inl rfl
                      have KC : Hid (Chg (Mine (.slice (some ⟨gC, 0, none⟩) f.n cC) (.slice (some ⟨gR, 0, none⟩) f.k i) (.slice aH f.hol.length cH) sv f.k) wA (((((wr.setCell ⟨gC, q * 5, none⟩ (.int .i64 (-7))).setCell ⟨gC, q * 5 + 1, none⟩ (.int .i64 0)).setCell ⟨gC, q * 5 + 2, none⟩ (.int .i64 0)).setCell ⟨gC, q * 5 + 3, none⟩ (.int .i64 0)).setCell ⟨gC, q * 5 + 4, none⟩ (.int .i64 0))) := ((((hc.out.setCell ⟨gC, q * 5, none⟩ (.int .i64 (-7)) MC).setCell ⟨gC, q * 5 + 1, none⟩ (.int .i64 0) MC).setCell ⟨gC, q * 5 + 2, none⟩ (.int .i64 0) MC).setCell ⟨gC, q * 5 + 3, none⟩ (.int .i64 0) MC).setCell ⟨gC, q * 5 + 4, none⟩ (.int .i64 0) MC
                      clear hr hc MC
                      go_upto_region 20 with (fail)
                      clear p0 p1 p2 p3 p4 fz
                      generalize (((((wr.setCell ⟨gC, q * 5, none⟩ (.int .i64 (-7))).setCell ⟨gC, q * 5 + 1, none⟩ (.int .i64 0)).setCell ⟨gC, q * 5 + 2, none⟩ (.int .i64 0)).setCell ⟨gC, q * 5 + 3, none⟩ (.int .i64 0)).setCell ⟨gC, q * 5 + 4, none⟩ (.int .i64 0)) = W5 at *
                      go_wp2
                      go_roundw
                      case rel => exact ⟨q + 1, _, by omega, by go_num, KR.out.choose_spec, KC⟩
                      case measure => simp [intOf]; omega
                    · obtain rfl : q = cC := by omega
                      have R := hid (C0.out _ _ hc.out)
                      clear hr hc
                      go_wp2
                      go_ret
                      exact ⟨rfl, R.out⟩

end Go.Proofs.YtcondcffllaaoaaDoor
