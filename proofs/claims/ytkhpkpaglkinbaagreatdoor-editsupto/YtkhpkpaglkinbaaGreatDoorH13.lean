/-
  MEMORY: the document's Begin, walked.
-/
import Derived.Test.YtkhpkpaglkinbaaGreatDoorH12
set_option linter.unusedVariables false
set_option linter.unusedSimpArgs false
namespace Go.Proofs.YtkhpkpaglkinbaaGreatDoor
open Go.RowKit
attribute [local go_sem ↓] Go.wp_at_zero Go.wp_at_succ

theorem FilL.row {w : World} {base : Nat} {F : Nat → Int} {n : Nat} {v : Value} (h : FilL w base F n v) (hn : 1 ≤ n) : ∃ bF cF, v = .slice (some ⟨bF, 0, none⟩) n cF ∧ base ≤ bF ∧ ∃ f N, w.rowIs bF 3 N f ∧ n ≤ N ∧ ∀ j, j < n → f j = .int .i64 (F j) := by
  obtain ⟨xs, ⟨h1, h2⟩, hx⟩ := h
  rcases h2 with ⟨_, h0⟩ | ⟨g, cap, cur, e, hb, hh, h5, h6, h7, h8⟩
  · omega
  · refine ⟨g, cap, e, hb, fun j => cur.getD j undef, cur.size, ⟨cur, hh, rfl, fun i hi => by simp [Array.getD, hi]⟩, by omega, fun j hj => ?_⟩
    have e1 : cur[j]? = xs[j]? := by rw [← h8, List.getElem?_take, if_pos (by omega)]; simp
    rw [hx j hj] at e1
    have hj' : j < cur.size := by omega
    simp [Array.getD, hj']
    simpa [Array.getElem?_eq_getElem hj'] using e1

theorem sta_made {W : World} (k : Nat) : (W.alloc (.cells (madeCells #[.bool false, .int .i64 0, .int .i64 0, .bool false] (k * 4)) 92)).rowIs W.heap.size 92 (k * 4) (stf (fun _ => ⟨false, 0, 0, false⟩)) := by
  have h := row_made (w := W) (z := .agg #[.bool false, .int .i64 0, .int .i64 0, .bool false]) (n := k) (sz := 4) (e := 92) rfl (stf (fun _ => ⟨false, 0, 0, false⟩)) (fun j _ => by
    have hs : ((Value.agg #[.bool false, .int .i64 0, .int .i64 0, .bool false]).cells).size = 4 := rfl
    rw [hs]
    have hc : j % 4 = 0 ∨ j % 4 = 1 ∨ j % 4 = 2 ∨ j % 4 = 3 := by omega
    unfold stf
    rcases hc with e | e | e | e <;> simp only [e] <;> rfl)
  exact h

/-- What Begin answers: a world by the document. -/
def BegPost (C : Nat → Cel) (n : Nat) (R : Nat → Rul) (k : Nat) (hol : List Int) (week : Int) (w : World) (e : Ending) (w' : World) : Prop :=
  ∃ w0 bw bc aO cO bh bF cF bS S vE nE, e = .returned (.pointer (some ⟨bw, 0, none⟩)) ∧ w.heap.size < bw ∧ WBase w0 C n R k hol bw bc aO bh ∧ WSt w0 w' n k hol.length week bw bc aO cO bh (fun j => (C j).k) 0 true bF cF bS S vE nE ∧ (∀ i, i < k → StOk (S i)) ∧ nE ≤ 6 ∧ Below w.heap.size w w' ∧ w.heap.size < bc ∧ Floor w.heap.size w0 aO k R bh hol

set_option maxRecDepth 100000 in
set_option maxHeartbeats 2000000 in
theorem begin_any (C : Nat → Cel) (R : Nat → Rul) (hol : List Int) (aC aR aH : Option Addr) (n cC k cR cH : Nat) (week : Int) (w : World) (hf : FormOk C n R k week hol) (hsl : ∀ i, i < k → (R i).steps.length ≤ 1000000000)
    (hcs : CAt w aC n C) (hrs : RAt w aR k R) (hhs : IntsAt w (.slice aH hol.length cH) hol) :
    Calls Tryz.prog 14 #[.agg #[.slice aC n cC, .slice aR k cR, .int .i64 week, .slice aH hol.length cH]] w fun e w' => BegPost C n R k hol week w e w' := by
  have HF := hid hf
  obtain ⟨n1, hn, hk, wk1, wk2⟩ := hf.sizes
  have hhl : hol.length ≤ 20 := hf.hol.1
  clear hf
  have HCS := hid hcs
  have HRS := hid hrs
  have HHS := hid hhs
  have HSL := hid hsl
  clear hcs hrs hhs hsl
  obtain ⟨i3, hi, hz⟩ := Option.map_eq_some_iff.1 info3
  simp only [Prod.mk.injEq] at hz
  obtain ⟨hz0, hz1, hz2⟩ := hz
  have HI := hid hi
  have HZ0 := hid hz0
  have HZ1 := hid hz1
  have HZ2 := hid hz2
  clear hi hz0 hz1 hz2
  have hbx : Hid (∀ o, Below w.heap.size w (w.alloc o)) := fun o => (Below.refl _ _).alloc (Nat.le_refl _) _
  go_enter Tryz.func14, Tryz.ntmps14
  go_wp2_with fail
  refine (own_any C R hol aC aR aH n cC k cR cH week _ hn hk hhl HSL.out (HCS.out.below (hbx.out _)) (HRS.out.below (hbx.out _)) (SlAt.below HHS.out (hbx.out _) (Nat.le_refl _))).mono ?_
  rintro e w1 ⟨bc, aO, cO, bh, rfl, hbc, hcr, hfl0, hb1⟩
  obtain ⟨hra, hha⟩ := hfl0 _ (Up.refl _ _)
  have HFL : Hid (Floor w.heap.size w1 aO k R bh hol) := fun W hW => hfl0 W ⟨hW.1, fun j h1 h2 => hW.2 j (by have : w.heap.size + 1 ≤ j := (by simpa using h1); omega) h2⟩
  have HBC0 : w.heap.size < bc := by have : w.heap.size + 1 ≤ bc := (by simpa using hbc); omega
  clear hfl0
  have HB1 : Hid (Below (w.heap.size + 1) (w.alloc (.cells #[.slice aC n cC, .slice aR k cR, .int .i64 week, .slice aH hol.length cH] 26)) w1) := hb1.mono (by simp)
  have HCR := hid hcr
  have HRA := hid hra
  have HHA := hid hha
  have hz1 : w.heap.size < w1.heap.size := by have := hb1.size; simp at this; omega
  clear hb1 hcr hra hha
  have HW := hid (wf_row (w1 := w1) (bc := bc) (n := n) (aO := aO) (k := k) (cO := cO) (week := week) (bh := bh) (nh := hol.length) (o := .cells #[.slice (some ⟨bc, 0, none⟩) n n, .slice aO k cO, .int .i64 week, .slice (some ⟨bh, 0, none⟩) hol.length hol.length] 26) rfl)
  have HBA : Hid (Below (w1.heap.size + 1) (w1.alloc (.cells #[.slice (some ⟨bc, 0, none⟩) n n, .slice aO k cO, .int .i64 week, .slice (some ⟨bh, 0, none⟩) hol.length hol.length] 26)) ((w1.alloc (.cells #[.slice (some ⟨bc, 0, none⟩) n n, .slice aO k cO, .int .i64 week, .slice (some ⟨bh, 0, none⟩) hol.length hol.length] 26)).alloc (.cells #[.slice (some ⟨bc, 0, none⟩) n n, .slice aO k cO, .int .i64 week, .slice (some ⟨bh, 0, none⟩) hol.length hol.length, .slice none 0 0, .int .i64 0, .bool true, .slice none 0 0, .slice none 0 0] 64))) := (Below.refl _ _).alloc (by simp) _
  go_wp2
  go_loopw [5] (fun t wr => ∃ (m : Nat) (v : Value), m ≤ n ∧ t = .int .i64 m ∧ w1.heap.size + 1 < wr.heap.size ∧ Hid (Below (w1.heap.size + 1) (w1.alloc (.cells #[.slice (some ⟨bc, 0, none⟩) n n, .slice aO k cO, .int .i64 week, .slice (some ⟨bh, 0, none⟩) hol.length hol.length] 26)) wr) ∧ Hid (wr.rowIs (w1.heap.size + 1) 64 9 (wf bc n aO k cO week bh hol.length v 0 true (.slice none 0 0) (.slice none 0 0))) ∧ Hid (FilL wr (w1.heap.size + 1 + 1) (fun j => (C j).k) m v)) (fun t _ => n - (intOf t).toNat)
  case atStart => exact ⟨0, .slice none 0 0, by omega, rfl, by simp, HBA, HW, ⟨[], ⟨rfl, Or.inl ⟨rfl, rfl⟩⟩, fun j hj => by omega⟩⟩
  case round =>
    obtain ⟨m, v, m1, rfl, hsz, hb, hr, hfl⟩ := hrel
    have hb0 : Hid (Below (w.heap.size + 1) (w.alloc (.cells #[.slice aC n cC, .slice aR k cR, .int .i64 week, .slice aH hol.length cH] 26)) wr) := HB1.out.trans (((Below.refl _ _).alloc (by omega) _).trans (hb.out.mono (by omega)))
    have hbw := hid (boxed_below hb0.out)
    have f0 := boxed hb0.out 0
    have f1 := boxed hb0.out 1
    simp at f0 f1
    by_cases hmt : m < n
    · rcases HCS.out with h0 | ⟨bC, oC, rfl, hbC, hcc⟩
      · omega
      have hck := ((hcc m hmt).below hbw.out hbC).2.2.2.2
      have lt' : (m : Int) < (n : Int) := by omega
      obtain ⟨xs, hown, hxs⟩ := hfl.out
      have K5 := hid hown
      have HXS := hid hxs
      have HXL := hid hown.1
      have d4 := hr.out.cell (i := 4) (by omega)
      have d9 := hr.out.frozen 4
      simp [wf] at d4
      have d4a : ∀ o, (wr.alloc o).cell? ⟨w1.heap.size + 1, 4, none⟩ = some v := fun o => by rw [World.cell?_alloc_lt (h := by show w1.heap.size + 1 < _; omega)]; exact d4
      have hne2 : Hid (v.ownBlock ≠ some (w1.heap.size + 1)) := fun e => by have := own_base K5.out e; omega
      have hbl : bC < wr.heap.size := by have := hbw.out.size; omega
      have hbl2 : w.heap.size < wr.heap.size := by omega
      clear hcc hown hxs hfl
      go_wp2
      go_region_law ((refine step_append_lies _ (by rfl) (.tmp 22) (.tmp 29) 24 (by rfl) (w1.heap.size + 1 + 1) 3 i3 _ 1 8 Tryz.underlying24 HI.out HZ0.out HZ1.out HZ2.out (by rfl) (by omega) v m xs (by simp [Act.eval, Act.put]) (by exact own_alloc_drew K5.out _) ⟨wr.heap.size, 0, none⟩ 1 1 [.int .i64 (C m).k] (by simp [Act.eval, Act.put]) (by rfl) (by exact news1 _ _ _) (by simp [Value.oneCell']) (by omega) (by unfold maxLen; omega) (by omega) (by simp; omega) (wr.heap.size + 1) (by simp) ?_; intro g cap w3 hown2 hgrow hat hlt; have hbk : w3.heap[w1.heap.size + 1]? = wr.heap[w1.heap.size + 1]? := ev_far wr _ hgrow (by omega) hne2.out; have e8 : w3.cell? ⟨w1.heap.size + 1, 4, none⟩ = some v := (by rw [World.cell?_of_block (w := wr) hbk]; exact d4); have e9 : w3.frozen? ⟨w1.heap.size + 1, 4, none⟩ = false := (by rw [World.frozen?_of_block (w := wr) hbk]; exact d9)))
      all_goals
        have GB : Below (w1.heap.size + 1) wr w3 := grow_below hgrow (by omega) (fun g hg' => by have := own_base K5.out hg'; omega)
        have far : ∀ b t l f, t ≠ 3 → wr.rowIs b t l f → w3.rowIs b t l f := fun b t l f ht hr => hr.of_block (ev_far wr _ hgrow hr.lt (own_ne_row K5.out hr ht))
        have N1 : Hid (Below (w1.heap.size + 1) (w1.alloc (.cells #[.slice (some ⟨bc, 0, none⟩) n n, .slice aO k cO, .int .i64 week, .slice (some ⟨bh, 0, none⟩) hol.length hol.length] 26)) (w3.setCell ⟨w1.heap.size + 1, 4, none⟩ (.slice (some ⟨g, 0, none⟩) (m + 1) cap))) := (hb.out.trans GB).setCell (by show _ ≤ w1.heap.size + 1; omega) _
        have N3 : Hid ((w3.setCell ⟨w1.heap.size + 1, 4, none⟩ (.slice (some ⟨g, 0, none⟩) (m + 1) cap)).rowIs (w1.heap.size + 1) 64 9 (wf bc n aO k cO week bh hol.length (.slice (some ⟨g, 0, none⟩) (m + 1) cap) 0 true (.slice none 0 0) (.slice none 0 0))) := ((far _ _ _ _ (by decide) hr.out).set 4 _).congr (fun j _ => wf_set4 j)
        have N5 : Hid (FilL (w3.setCell ⟨w1.heap.size + 1, 4, none⟩ (.slice (some ⟨g, 0, none⟩) (m + 1) cap)) (w1.heap.size + 1 + 1) (fun j => (C j).k) (m + 1) (.slice (some ⟨g, 0, none⟩) (m + 1) cap)) := filL_next HXS.out HXL.out (by omega) hown2 _
        have N7 : Hid (w1.heap.size + 1 < (w3.setCell ⟨w1.heap.size + 1, 4, none⟩ (.slice (some ⟨g, 0, none⟩) (m + 1) cap)).heap.size) := by have := GB.size; show _ < _; simp; omega
        clear GB far hbk e8 e9 hown2 hgrow hat hlt
        go_wp2
        go_roundw
        case rel => exact ⟨m + 1, .slice (some ⟨g, 0, none⟩) (m + 1) cap, by omega, by go_num, N7.out, N1, N3, N5⟩
        case measure => simp [intOf]; omega
    · obtain rfl : m = n := by omega
      have mk := run_make_is (P := Tryz.prog) 61 92 _ 4 32 underlyingE info92 k (by omega) (by omega)
      have d7 := hr.out.cell (i := 7) (by omega)
      have d9 : ∀ j, wr.frozen? ⟨w1.heap.size + 1, j, none⟩ = false := fun j => hr.out.frozen j
      simp [wf] at d7
      obtain ⟨bF, cF, rfl, hbF, hfil⟩ := hfl.out.row n1
      have HFIL := hid hfil
      clear hfil
      go_wp2_with fail
      have WB : WBase (w1.alloc (.cells #[.slice (some ⟨bc, 0, none⟩) m m, .slice aO k cO, .int .i64 week, .slice (some ⟨bh, 0, none⟩) hol.length hol.length] 26)) C m R k hol (w1.heap.size + 1) bc aO bh := ⟨by simp, by have := HCR.out.lt; omega, HCR.out.alloc _, HRA.out.below ((Below.refl _ _).alloc (Nat.le_refl _) _), SlAt.below HHA.out ((Below.refl _ _).alloc (Nat.le_refl _) _) (Nat.le_refl _)⟩
      have WS : WSt (w1.alloc (.cells #[.slice (some ⟨bc, 0, none⟩) m m, .slice aO k cO, .int .i64 week, .slice (some ⟨bh, 0, none⟩) hol.length hol.length] 26)) ((wr.setCell ⟨w1.heap.size + 1, 7, none⟩ (.slice (some ⟨wr.heap.size, 0, none⟩) k k)).alloc (.cells (madeCells #[.bool false, .int .i64 0, .int .i64 0, .bool false] (k * 4)) 92)) m k hol.length week (w1.heap.size + 1) bc aO cO bh (fun j => (C j).k) 0 true bF cF wr.heap.size (fun _ => ⟨false, 0, 0, false⟩) (.slice none 0 0) 0 := by
        refine ⟨(hb.out.setCell (Nat.le_refl _) _).alloc (by simp; omega) _, ((hr.out.set 7 _).congr (fun j _ => wf_set7 j)).alloc _, by omega, ?_, by omega, (by have := sta_made (W := wr.setCell ⟨w1.heap.size + 1, 7, none⟩ (.slice (some ⟨wr.heap.size, 0, none⟩) k k)) k; simpa using this), [], rfl, Or.inl ⟨rfl, rfl⟩⟩
        obtain ⟨f, N, f1, f2, f3⟩ := HFIL.out
        exact ⟨f, N, (f1.setOther (by show bF ≠ w1.heap.size + 1; omega) _).alloc _, f2, f3⟩
      have HFA : Hid (Floor w.heap.size (w1.alloc (.cells #[.slice (some ⟨bc, 0, none⟩) m m, .slice aO k cO, .int .i64 week, .slice (some ⟨bh, 0, none⟩) hol.length hol.length] 26)) aO k R bh hol) := fun W hW => HFL.out W ((Up.alloc _ _ _).trans hW)
      have HWB := hid WB
      have HWS := hid WS
      have HBW2 : Hid (Below w.heap.size w ((wr.setCell ⟨w1.heap.size + 1, 7, none⟩ (.slice (some ⟨wr.heap.size, 0, none⟩) k k)).alloc (.cells (madeCells #[.bool false, .int .i64 0, .int .i64 0, .bool false] (k * 4)) 92))) := (hbw.out.setCell (by show _ ≤ w1.heap.size + 1; omega) _).alloc (by simp; omega) _
      clear WB WS
      generalize ((wr.setCell ⟨w1.heap.size + 1, 7, none⟩ (.slice (some ⟨wr.heap.size, 0, none⟩) k k)).alloc (.cells (madeCells #[.bool false, .int .i64 0, .int .i64 0, .bool false] (k * 4)) 92)) = SW at *
      generalize (w1.alloc (.cells #[.slice (some ⟨bc, 0, none⟩) m m, .slice aO k cO, .int .i64 week, .slice (some ⟨bh, 0, none⟩) hol.length hol.length] 26)) = GA at *
      refine (settle_any HWB.out HWS.out (fun _ _ => ⟨Int.le_refl _, by show (0 : Int) ≤ _; omega, Int.le_refl _, by show (0 : Int) ≤ _; omega⟩) HF.out.rules hn n1 hk (by omega) wk1 wk2 HF.out.hol (Ce := C) (fun j _ => by rw [ite_self]) HF.out.cells HF.out.ring (by omega) (by omega)).mono ?_
      rintro e w3 ⟨S', vE', nE', rfl, x1, x2, x3, x4⟩
      have R : Hid (BegPost C m R k hol week w (.returned (.pointer (some ⟨w1.heap.size + 1, 0, none⟩))) w3) := ⟨GA, w1.heap.size + 1, bc, aO, cO, bh, bF, cF, wr.heap.size, S', vE', nE', rfl, by omega, HWB.out, x1, x2, by omega, HBW2.out.trans (x4.1.mono (by omega)), HBC0, HFA.out⟩
      clear x1 x2 x3 x4
      go_wp2
      go_ret
      exact R.out

end Go.Proofs.YtkhpkpaglkinbaaGreatDoor
