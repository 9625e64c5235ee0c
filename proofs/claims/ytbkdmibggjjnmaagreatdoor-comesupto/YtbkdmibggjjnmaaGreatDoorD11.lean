/-
  MEMORY: the document's world, exactly: Begin.
-/
import Derived.Test.YtbkdmibggjjnmaaGreatDoorD10
set_option linter.unusedVariables false
set_option linter.unusedSimpArgs false
namespace Go.Proofs.YtbkdmibggjjnmaaGreatDoor
open Go.RowKit
attribute [local go_sem ↓] Go.wp_at_zero Go.wp_at_succ

/-- P3: the case of a form. -/
def beginM (f : Frm) : Cs := Cs.settle f ⟨fun j => (f.C j).k, 0, true, fun _ => noSt, []⟩

theorem begin_fv {f : Frm} (hf : f.Ok) : FV f (fun j => (f.C j).k) := fun i hi hk => (hf.cells i hi).2.2.1.1 (Or.inl hk)

theorem beginM_ok {f : Frm} (hf : f.Ok) : (beginM f).Ok f := settle_ok hf (Int.le_refl _) (by show (0 : Int) ≤ _; omega) (begin_fv hf) (fun _ _ => ⟨Int.le_refl _, by show (0 : Int) ≤ _; omega, Int.le_refl _, by show (0 : Int) ≤ _; omega⟩) (fun e => by cases e)

theorem beginM_few {f : Frm} (hf : f.Ok) : Few 1 (beginM f) := by
  obtain ⟨_, _, k6, _, _⟩ := hf.sizes
  have h := settle_len f ⟨fun j => (f.C j).k, 0, true, fun _ => noSt, []⟩
  unfold Few beginM
  rw [settle_T]
  have e : (Cs.mk (fun j => (f.C j).k) 0 true (fun _ => noSt) []).E.length = 0 := rfl
  have e2 : (Cs.mk (fun j => (f.C j).k) 0 true (fun _ => noSt) []).T = 0 := rfl
  omega

/-- What Begin answers: a world of its own. -/
def BegP (f : Frm) (w : World) (e : Ending) (w' : World) : Prop := ∃ Q p vE, e = .returned (.pointer (some ⟨p.bw, 0, none⟩)) ∧ DAt Q f p (beginM f) vE w' ∧ Below w.heap.size w w' ∧ ∀ j, Q j ∨ Own p vE j → w.heap.size ≤ j

set_option maxRecDepth 100000 in
set_option maxHeartbeats 2000000 in
theorem dbegin_any (C : Nat → Cel) (R : Nat → Rul) (hol : List Int) (aC aR aH : Option Addr) (n cC k cR cH : Nat) (week : Int) (w : World) (hf : FormOk C n R k week hol) (hsl : ∀ i, i < k → (R i).steps.length ≤ 1000000000)
    (hcs : CAt w aC n C) (hrs : RAt w aR k R) (hhs : IntsAt w (.slice aH hol.length cH) hol) :
    Calls Tryz.prog 21 #[.agg #[.slice aC n cC, .slice aR k cR, .int .i64 week, .slice aH hol.length cH]] w fun e w' => BegP ⟨C, n, R, k, hol, week⟩ w e w' := by
  have HF := hid hf
  obtain ⟨n1, hn, hk, wk1, wk2⟩ := hf.sizes
  have hhl : hol.length ≤ 20 := hf.hol.1
  clear hf
  have HCS := hid hcs
  have HRS := hid hrs
  have HHS := hid hhs
  have HSL := hid hsl
  clear hcs hrs hhs hsl
  obtain ⟨i3, hi, hz⟩ := Option.map_eq_some_iff.1 info3
  simp only [Prod.mk.injEq] at hz
  obtain ⟨hz0, hz1, hz2⟩ := hz
  have HI := hid hi
  have HZ0 := hid hz0
  have HZ1 := hid hz1
  have HZ2 := hid hz2
  clear hi hz0 hz1 hz2
  have hbx : Hid (∀ o, Below w.heap.size w (w.alloc o)) := fun o => (Below.refl _ _).alloc (Nat.le_refl _) _
  go_enter Tryz.func21, Tryz.ntmps21
  go_wp2_with fail
  refine (own_any C R hol aC aR aH n cC k cR cH week _ hn hk hhl HSL.out (HCS.out.below (hbx.out _)) (HRS.out.below (hbx.out _)) (SlAt.below HHS.out (hbx.out _) (Nat.le_refl _))).mono ?_
  rintro e w1 ⟨bc, aO, cO, bh, rfl, hbc, hcr, hfl0, hb1⟩
  obtain ⟨hra, hha⟩ := hfl0 _ (Up.refl _ _)
  have HFL : Hid (Floor w.heap.size w1 aO k R bh hol) := fun W hW => hfl0 W ⟨hW.1, fun j h1 h2 => hW.2 j (by have : w.heap.size + 1 ≤ j := (by simpa using h1); omega) h2⟩
  have HBC0 : w.heap.size < bc := by have : w.heap.size + 1 ≤ bc := (by simpa using hbc); omega
  clear hfl0
  have HB1 : Hid (Below (w.heap.size + 1) (w.alloc (.cells #[.slice aC n cC, .slice aR k cR, .int .i64 week, .slice aH hol.length cH] 26)) w1) := hb1.mono (by simp)
  have HCR := hid hcr
  have HRA := hid hra
  have HHA := hid hha
  have hz1 : w.heap.size < w1.heap.size := by have := hb1.size; simp at this; omega
  clear hb1 hcr hra hha
  have HW := hid (wf_row (w1 := w1) (bc := bc) (n := n) (aO := aO) (k := k) (cO := cO) (week := week) (bh := bh) (nh := hol.length) (o := .cells #[.slice (some ⟨bc, 0, none⟩) n n, .slice aO k cO, .int .i64 week, .slice (some ⟨bh, 0, none⟩) hol.length hol.length] 26) rfl)
  have HBA : Hid (Below (w1.heap.size + 1) (w1.alloc (.cells #[.slice (some ⟨bc, 0, none⟩) n n, .slice aO k cO, .int .i64 week, .slice (some ⟨bh, 0, none⟩) hol.length hol.length] 26)) ((w1.alloc (.cells #[.slice (some ⟨bc, 0, none⟩) n n, .slice aO k cO, .int .i64 week, .slice (some ⟨bh, 0, none⟩) hol.length hol.length] 26)).alloc (.cells #[.slice (some ⟨bc, 0, none⟩) n n, .slice aO k cO, .int .i64 week, .slice (some ⟨bh, 0, none⟩) hol.length hol.length, .slice none 0 0, .int .i64 0, .bool true, .slice none 0 0, .slice none 0 0] 65))) := (Below.refl _ _).alloc (by simp) _
  go_wp2
  go_loopw [5] (fun t wr => ∃ (m : Nat) (v : Value), m ≤ n ∧ t = .int .i64 m ∧ w1.heap.size + 1 < wr.heap.size ∧ Hid (Below (w1.heap.size + 1) (w1.alloc (.cells #[.slice (some ⟨bc, 0, none⟩) n n, .slice aO k cO, .int .i64 week, .slice (some ⟨bh, 0, none⟩) hol.length hol.length] 26)) wr) ∧ Hid (wr.rowIs (w1.heap.size + 1) 65 9 (wf bc n aO k cO week bh hol.length v 0 true (.slice none 0 0) (.slice none 0 0))) ∧ Hid (FilL wr (w1.heap.size + 1 + 1) (fun j => (C j).k) m v)) (fun t _ => n - (intOf t).toNat)
  case atStart => exact ⟨0, .slice none 0 0, by omega, rfl, by simp, HBA, HW, ⟨[], ⟨rfl, Or.inl ⟨rfl, rfl⟩⟩, fun j hj => by omega⟩⟩
  case round =>
    obtain ⟨m, v, m1, rfl, hsz, hb, hr, hfl⟩ := hrel
    have hb0 : Hid (Below (w.heap.size + 1) (w.alloc (.cells #[.slice aC n cC, .slice aR k cR, .int .i64 week, .slice aH hol.length cH] 26)) wr) := HB1.out.trans (((Below.refl _ _).alloc (by omega) _).trans (hb.out.mono (by omega)))
    have hbw := hid (boxed_below hb0.out)
    have f0 := boxed hb0.out 0
    have f1 := boxed hb0.out 1
    simp at f0 f1
    by_cases hmt : m < n
    · rcases HCS.out with h0 | ⟨bC, oC, rfl, hbC, hcc⟩
      · omega
      have hck := ((hcc m hmt).below hbw.out hbC).2.2.2.2
      have lt' : (m : Int) < (n : Int) := by omega
      obtain ⟨xs, hown, hxs⟩ := hfl.out
      have K5 := hid hown
      have HXS := hid hxs
      have HXL := hid hown.1
      have d4 := hr.out.cell (i := 4) (by omega)
      have d9 := hr.out.frozen 4
      simp [wf] at d4
      have d4a : ∀ o, (wr.alloc o).cell? ⟨w1.heap.size + 1, 4, none⟩ = some v := fun o => by rw [World.cell?_alloc_lt (h := by show w1.heap.size + 1 < _; omega)]; exact d4
      have hne2 : Hid (v.ownBlock ≠ some (w1.heap.size + 1)) := fun e => by have := own_base K5.out e; omega
      have hbl : bC < wr.heap.size := by have := hbw.out.size; omega
      have hbl2 : w.heap.size < wr.heap.size := by omega
      clear hcc hown hxs hfl
      go_wp2
      go_region_law ((refine step_append_lies _ (by rfl) (.tmp 22) (.tmp 29) 24 (by rfl) (w1.heap.size + 1 + 1) 3 i3 _ 1 8 Tryz.underlying24 HI.out HZ0.out HZ1.out HZ2.out (by rfl) (by omega) v m xs (by simp [Act.eval, Act.put]) (by exact own_alloc_drew K5.out _) ⟨wr.heap.size, 0, none⟩ 1 1 [.int .i64 (C m).k] (by simp [Act.eval, Act.put]) (by rfl) (by exact news1 _ _ _) (by simp [Value.oneCell']) (by omega) (by unfold maxLen; omega) (by omega) (by simp; omega) (wr.heap.size + 1) (by simp) ?_; intro g cap w3 hown2 hgrow hat hlt; have hbk : w3.heap[w1.heap.size + 1]? = wr.heap[w1.heap.size + 1]? := ev_far wr _ hgrow (by omega) hne2.out; have e8 : w3.cell? ⟨w1.heap.size + 1, 4, none⟩ = some v := (by rw [World.cell?_of_block (w := wr) hbk]; exact d4); have e9 : w3.frozen? ⟨w1.heap.size + 1, 4, none⟩ = false := (by rw [World.frozen?_of_block (w := wr) hbk]; exact d9)))
      all_goals
        have GB : Below (w1.heap.size + 1) wr w3 := grow_below hgrow (by omega) (fun g hg' => by have := own_base K5.out hg'; omega)
        have far : ∀ b t l f, t ≠ 3 → wr.rowIs b t l f → w3.rowIs b t l f := fun b t l f ht hr => hr.of_block (ev_far wr _ hgrow hr.lt (own_ne_row K5.out hr ht))
        have N1 : Hid (Below (w1.heap.size + 1) (w1.alloc (.cells #[.slice (some ⟨bc, 0, none⟩) n n, .slice aO k cO, .int .i64 week, .slice (some ⟨bh, 0, none⟩) hol.length hol.length] 26)) (w3.setCell ⟨w1.heap.size + 1, 4, none⟩ (.slice (some ⟨g, 0, none⟩) (m + 1) cap))) := (hb.out.trans GB).setCell (by show _ ≤ w1.heap.size + 1; omega) _
        have N3 : Hid ((w3.setCell ⟨w1.heap.size + 1, 4, none⟩ (.slice (some ⟨g, 0, none⟩) (m + 1) cap)).rowIs (w1.heap.size + 1) 65 9 (wf bc n aO k cO week bh hol.length (.slice (some ⟨g, 0, none⟩) (m + 1) cap) 0 true (.slice none 0 0) (.slice none 0 0))) := ((far _ _ _ _ (by decide) hr.out).set 4 _).congr (fun j _ => wf_set4 j)
        have N5 : Hid (FilL (w3.setCell ⟨w1.heap.size + 1, 4, none⟩ (.slice (some ⟨g, 0, none⟩) (m + 1) cap)) (w1.heap.size + 1 + 1) (fun j => (C j).k) (m + 1) (.slice (some ⟨g, 0, none⟩) (m + 1) cap)) := filL_next HXS.out HXL.out (by omega) hown2 _
        have N7 : Hid (w1.heap.size + 1 < (w3.setCell ⟨w1.heap.size + 1, 4, none⟩ (.slice (some ⟨g, 0, none⟩) (m + 1) cap)).heap.size) := by have := GB.size; show _ < _; simp; omega
        clear GB far hbk e8 e9 hown2 hgrow hat hlt
        go_wp2
        go_roundw
        case rel => exact ⟨m + 1, .slice (some ⟨g, 0, none⟩) (m + 1) cap, by omega, by go_num, N7.out, N1, N3, N5⟩
        case measure => simp [intOf]; omega
    · obtain rfl : m = n := by omega
      have mk := run_make_is (P := Tryz.prog) 62 94 _ 4 32 underlyingE info92 k (by omega) (by omega)
      have d7 := hr.out.cell (i := 7) (by omega)
      have d9 : ∀ j, wr.frozen? ⟨w1.heap.size + 1, j, none⟩ = false := fun j => hr.out.frozen j
      simp [wf] at d7
      obtain ⟨bF, cF, rfl, hbF, hfil⟩ := hfl.out.row n1
      have HFIL := hid hfil
      clear hfil
      go_wp2_with fail
      have HB3 : Hid (Below w1.heap.size w1 ((wr.setCell ⟨w1.heap.size + 1, 7, none⟩ (.slice (some ⟨wr.heap.size, 0, none⟩) k k)).alloc (.cells (madeCells #[.bool false, .int .i64 0, .int .i64 0, .bool false] (k * 4)) 94))) := ((((Below.refl _ _).alloc (Nat.le_refl _) _).trans (hb.out.mono (by omega))).setCell (by show _ ≤ w1.heap.size + 1; omega) _).alloc (by simp; omega) _
      have WS : DAt (fun j => w.heap.size ≤ j ∧ j < w1.heap.size) ⟨C, m, R, k, hol, week⟩ ⟨w1.heap.size + 1, bc, aO, cO, bh, bF, cF, wr.heap.size⟩ ⟨fun j => (C j).k, 0, true, fun _ => noSt, []⟩ (.slice none 0 0) ((wr.setCell ⟨w1.heap.size + 1, 7, none⟩ (.slice (some ⟨wr.heap.size, 0, none⟩) k k)).alloc (.cells (madeCells #[.bool false, .int .i64 0, .int .i64 0, .bool false] (k * 4)) 94)) := by
        obtain ⟨g, N, f1, f2, f3⟩ := HFIL.out
        have z1 := HCR.out.lt
        have z2 := HB3.out.size
        refine ⟨fun W hW => ?_, fun j hj => by omega, fun j hj => ⟨by show j ≠ w1.heap.size + 1; omega, by show j ≠ bF; omega, by show j ≠ wr.heap.size; omega, by show (none : Option Nat) ≠ _; simp⟩, ((hr.out.set 7 _).congr (fun j _ => wf_set7 j)).alloc _, ⟨g, N, (f1.setOther (by show bF ≠ w1.heap.size + 1; omega) _).alloc _, f2, f3⟩, (by have := sta_made (W := wr.setCell ⟨w1.heap.size + 1, 7, none⟩ (.slice (some ⟨wr.heap.size, 0, none⟩) k k)) k; simp only [World.size_setCell] at this; exact this), rfl, Or.inl ⟨rfl, rfl⟩⟩
        have hup : Up w.heap.size w1 W := ⟨Nat.le_trans z2 hW.1, fun j j1 j2 => (hW.2 j ⟨j1, j2⟩ (by omega)).trans (HB3.out.block j j2)⟩
        exact ⟨HCR.out.of_block (hup.2 bc (by omega) z1), HFL.out W hup⟩
      have HWS := hid WS
      have HBW2 : Hid (Below w.heap.size w ((wr.setCell ⟨w1.heap.size + 1, 7, none⟩ (.slice (some ⟨wr.heap.size, 0, none⟩) k k)).alloc (.cells (madeCells #[.bool false, .int .i64 0, .int .i64 0, .bool false] (k * 4)) 94))) := (hbw.out.setCell (by show _ ≤ w1.heap.size + 1; omega) _).alloc (by simp; omega) _
      clear WS
      generalize ((wr.setCell ⟨w1.heap.size + 1, 7, none⟩ (.slice (some ⟨wr.heap.size, 0, none⟩) k k)).alloc (.cells (madeCells #[.bool false, .int .i64 0, .int .i64 0, .bool false] (k * 4)) 94)) = SW at *
      refine (dsettle_cs HWS.out HF.out (Int.le_refl _) (by show (0 : Int) ≤ _; omega) (begin_fv HF.out) (fun _ _ => ⟨Int.le_refl _, by show (0 : Int) ≤ _; omega, Int.le_refl _, by show (0 : Int) ≤ _; omega⟩) (by show 0 ≤ _; omega)).mono ?_
      rintro e w3 ⟨vE', rfl, x1, x2⟩
      have HO : Hid (∀ j, Own ⟨w1.heap.size + 1, bc, aO, cO, bh, bF, cF, wr.heap.size⟩ (.slice none 0 0) j → w.heap.size ≤ j) := fun j h => by
        rcases h with h | h | h | h
        · have h' : j = w1.heap.size + 1 := h; omega
        · have h' : j = bF := h; omega
        · have h' : j = wr.heap.size := h; omega
        · cases h
      have R : Hid (BegP ⟨C, m, R, k, hol, week⟩ w (.returned (.pointer (some ⟨w1.heap.size + 1, 0, none⟩))) w3) := by
        refine ⟨_, _, vE', rfl, x1, HBW2.out.trans (x2.1.below HO.out HBW2.out.size), fun j hj => ?_⟩
        rcases hj with hj | hj | hj | hj | hj
        · exact hj.1
        · exact HO.out j (Or.inl hj)
        · exact HO.out j (Or.inr (Or.inl hj))
        · exact HO.out j (Or.inr (Or.inr (Or.inl hj)))
        · rcases x2.2 j hj with h | h
          · cases h
          · have := HBW2.out.size; omega
      clear x1 x2
      go_wp2
      go_ret
      exact R.out

end Go.Proofs.YtbkdmibggjjnmaaGreatDoor
