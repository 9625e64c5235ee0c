/-
  THE WALKS: docketkeep's defaults, local.
-/
import Derived.Test.YtmofidaojmiepaaDoorGE29
import Derived.Test.YtmofidaojmiepaaDoorGE18
import Derived.Test.YtmofidaojmiepaaDoorGE20
set_option linter.unusedVariables false
set_option linter.unusedSimpArgs false
namespace Go.Proofs.YtmofidaojmiepaaDoor
open Go.RowKit
attribute [local go_sem ↓] Go.wp_at_zero Go.wp_at_succ

theorem C1.store {Z : Nat → Prop} {b : Nat} {f : Frm} {Q : Nat → Prop} {p : KPl} {m : Cs} {w w' : World} (h : C1 Z b f Q p m w) {g : Nat} (hg : Z g) (hq : ¬ Q g) (hg0 : g ≠ 0) (hs : w.heap.size ≤ w'.heap.size) (hb : ∀ j, j < w.heap.size → j ≠ g → w'.heap[j]? = w.heap[j]?) : C1 Z b f Q p m w' := by
  obtain ⟨v, h⟩ := h
  have h1 : CN Z b 1 (fun _ => ⟨Q, p, f⟩) (fun _ => m) w := ⟨fun _ => v, h⟩
  obtain ⟨V, h2⟩ := h1.store hg (fun i hi => hq) hg0 hs hb
  exact ⟨V 0, h2.congr (fun i hi => by
    have e : i = 0 := by omega
    subst e
    rfl)⟩

theorem own_set {w : World} {B g n c : Nat} {F : Nat → Int} (h : w.ownsRow B 3 1 (.slice (some ⟨g, 0, none⟩) n c) n (intsV F n)) {k : Nat} (hk : k < n) (v : Int) : (w.setCell ⟨g, k, none⟩ (.int .i64 v)).ownsRow B 3 1 (.slice (some ⟨g, 0, none⟩) n c) n (intsV (upd F k v) n) := by
  obtain ⟨h1, h2⟩ := h
  refine ⟨by simp [intsV], Or.inr ?_⟩
  rcases h2 with ⟨e, _⟩ | ⟨g', cap, cur, e, a1, a2, a3, a4, a5, a6⟩
  · cases e
  · simp at e
    obtain ⟨rfl, rfl⟩ := e
    refine ⟨g, c, cur.setIfInBounds k (.int .i64 v), rfl, a1, ?_, a3, a4, by simpa using a5, ?_⟩
    · simp [World.setCell, Array.getElem?_modify, a2]
    · apply List.ext_getElem?
      intro j
      have e1 : cur.toList.take (n * 1) = intsV F n := a6
      by_cases hj : j < n
      · rw [List.getElem?_take, if_pos (by omega), intsV_at _ hj]
        have e2 : cur[j]? = some (.int .i64 (F j)) := by
          have : (cur.toList.take (n * 1))[j]? = (intsV F n)[j]? := by rw [e1]
          rw [List.getElem?_take, if_pos (by omega), intsV_at _ hj] at this
          simpa using this
        have hjs : j < cur.size := by
          rcases Nat.lt_or_ge j cur.size with h | h
          · exact h
          · rw [Array.getElem?_eq_none h] at e2; cases e2
        rw [Array.getElem?_toList, Array.getElem?_setIfInBounds]
        by_cases ejk : k = j
        · subst ejk
          rw [if_pos rfl, if_pos hjs, upd_same]
        · rw [if_neg ejk, upd_other _ _ (fun h => ejk h.symm)]
          exact e2
      · rw [List.getElem?_eq_none (by simp [List.length_take]; omega), List.getElem?_eq_none (by simp [intsV]; omega)]
theorem own_frozen {w : World} {B g n c : Nat} {xs : List Value} (h : w.ownsRow B 3 1 (.slice (some ⟨g, 0, none⟩) n c) n xs) (k : Nat) : w.frozen? ⟨g, k, none⟩ = false := by
  rcases h.2 with ⟨e, _⟩ | ⟨g', cap, cur, e, a1, a2, _⟩
  · cases e
  · simp at e
    obtain ⟨rfl, rfl⟩ := e
    simp [World.frozen?, a2]

def DfP (f : Frm) (w : World) (e : Ending) (w' : World) : Prop := ∃ v, e = .returned v ∧ w'.ownsRow w.heap.size 3 1 v f.n (intsV (fun j => (f.C j).k) f.n) ∧ Below w.heap.size w w'

set_option maxRecDepth 100000 in
set_option maxHeartbeats 2000000 in
theorem kdefaults_any {f : Frm} {fv : Value} {w : World} (hn : f.n ≤ 20) (h : FAt w f fv) : Calls Tryd.prog 14 #[fv] w fun e w' => DfP f w e w' := by
  obtain ⟨aC, cC, aR, cR, aH, cH, rfl, h1, _, _⟩ := h
  obtain ⟨i3, y3, y4⟩ := Option.map_eq_some_iff.1 info3
  simp only [Prod.mk.injEq] at y4
  have I3 := hid y3
  have Z3 := hid y4
  clear y3 y4
  have HC := hid h1
  clear h1
  have B0 := hid (Below.refl (w.heap.size + 1) (w.alloc (.cells #[.slice aC f.n cC, .slice aR f.k cR, .int .i64 f.week, .slice aH f.hol.length cH] 26)))
  go_enter Tryd.func14, Tryd.ntmps14
  go_wp2
  go_loopw [3, 4] (fun to ti wr => ∃ (i : Nat) (v : Value), i ≤ f.n ∧ ti = .int .i64 i ∧ v = to ∧ Hid (wr.ownsRow (w.heap.size + 1) 3 1 v i (intsV (fun j => (f.C j).k) i)) ∧ Hid (Below (w.heap.size + 1) (w.alloc (.cells #[.slice aC f.n cC, .slice aR f.k cR, .int .i64 f.week, .slice aH f.hol.length cH] 26)) wr)) (fun _ ti _ => f.n - (intOf ti).toNat)
  case atStart => exact ⟨0, .slice none 0 0, by omega, rfl, rfl, ⟨rfl, Or.inl ⟨rfl, rfl⟩⟩, B0⟩
  case round =>
    clear B0
    obtain ⟨i, v, i1, rfl, rfl, hown, hb⟩ := hrel
    have hbw := hid (boxed_below hb.out)
    have f0 := boxed hb.out 0
    simp at f0
    have zw := hb.out.size
    simp at zw
    by_cases hit : i < f.n
    · have lt' : (i : Int) < (f.n : Int) := by omega
      obtain ⟨bC, oC, hac, zC, hC⟩ : ∃ b off, aC = some ⟨b, off, none⟩ ∧ b < wr.heap.size ∧ ∀ m, m < f.n → CelIs wr b (off + m * 5) (f.C m) := by
        rcases HC.out.below hbw.out with h | h
        · omega
        · exact h
      have g4 := (hC i hit).2.2.2.2
      subst hac
      clear hC
      have MR := hid (intsV_more (fun j => (f.C j).k) i)
      go_wp2_with (at_builtin; refine wpList_append_lies _ rfl (.tmp 12) (.tmp 19) 24 rfl (w.heap.size + 1) 3 i3 _ 1 8 Tryd.underlying24 I3.out Z3.out.1 Z3.out.2.1 Z3.out.2.2 rfl (by omega) v i (intsV (fun j => (f.C j).k) i) (by rfl) (own_alloc0 hown.out _) ⟨wr.heap.size, 0, none⟩ 1 1 [.int .i64 (f.C i).k] (by rfl) (by rfl) (news1k _ _ _) (by simp [Value.oneCell']) (by omega) (by unfold maxLen; omega) (by omega) (by simp; omega) (wr.heap.size + 1) (by simp) ?_; intro g cap w6 hown2 hgrow hat hlt; refine stopH ?_)
      have N1 : Hid (w6.ownsRow (w.heap.size + 1) 3 1 (.slice (some ⟨g, 0, none⟩) (i + 1) cap) (i + 1) (intsV (fun j => (f.C j).k) (i + 1))) := by
        rw [MR.out]
        exact hown2
      have N2 := hid (hb.out.trans (grow_below0 hgrow (by omega) (fun g hg' => own_base hown.out hg')))
      clear hown2 hgrow hat hlt hown hb hbw MR
      refine hid ?_
      go_wp2
      go_roundw
      case rel => exact ⟨i + 1, _, by omega, by go_num, rfl, N1, N2⟩
      case measure => simp [intOf]; omega
    · obtain rfl : i = f.n := by omega
      have R : Hid (DfP f w (.returned v) wr) := by
        refine ⟨v, rfl, ?_, hbw.out⟩
        exact own_monoL hown.out (by omega)
      go_wp2
      go_ret
      exact R.out

set_option maxRecDepth 100000 in
set_option maxHeartbeats 4000000 in
theorem klocal_any {Z : Nat → Prop} {b : Nat} {f : Frm} {Q : Nat → Prop} {p : KPl} {m : Cs} {w : World} (h : C1 Z b f Q p m w) (hb : b ≤ 10000000000) (hs : f.Shaped) {fv : Value} (hfv : FAt w f fv) {Bf : Nat} {vF : Value} (hF : w.ownsRow Bf 3 1 vF f.n (intsV m.F f.n)) :
    Calls Tryd.prog 15 #[.pointer (some ⟨p.bp, 0, none⟩), fv, vF] w fun e w' => TPost w e w' := by
  have HM := hid h.mok
  have HS := hid hs
  obtain ⟨n1, n20, k6, _, _⟩ := hs.ok.sizes
  have HV := hid (vals_local hs.ok h.mok.fv h.mok.t0 h.mok.t1)
  have FV := hid hfv
  have HF := hid hF
  obtain ⟨aF, cF, rfl⟩ := own_len hF
  obtain ⟨aC', cC', aR', cR', aH', cH', rfl, _, _, _⟩ := hfv
  have BX := hid (Below.refl (w.heap.size + 1) (w.alloc (.cells #[.slice aC' f.n cC', .slice aR' f.k cR', .int .i64 f.week, .slice aH' f.hol.length cH'] 26)))
  have BW := hid (boxed_below BX.out)
  have g0 : (w.alloc (.cells #[.slice aC' f.n cC', .slice aR' f.k cR', .int .i64 f.week, .slice aH' f.hol.length cH'] 26)).cell? ⟨w.heap.size, 0, none⟩ = some (Value.slice aC' f.n cC') := boxed BX.out 0
  have g1 : (w.alloc (.cells #[.slice aC' f.n cC', .slice aR' f.k cR', .int .i64 f.week, .slice aH' f.hol.length cH'] 26)).cell? ⟨w.heap.size, 1, none⟩ = some (Value.slice aR' f.k cR') := boxed BX.out 1
  have g2 : (w.alloc (.cells #[.slice aC' f.n cC', .slice aR' f.k cR', .int .i64 f.week, .slice aH' f.hol.length cH'] 26)).cell? ⟨w.heap.size, 2, none⟩ = some (.int .i64 f.week) := boxed BX.out 2
  have g3 : (w.alloc (.cells #[.slice aC' f.n cC', .slice aR' f.k cR', .int .i64 f.week, .slice aH' f.hol.length cH'] 26)).cell? ⟨w.heap.size, 3, none⟩ = some (Value.slice aH' f.hol.length cH') := boxed BX.out 3
  have zg : w.heap.size < (w.alloc (.cells #[.slice aC' f.n cC', .slice aR' f.k cR', .int .i64 f.week, .slice aH' f.hol.length cH'] 26)).heap.size := by simp
  have LK : Hid (Calls Tryd.prog 23 #[.pointer (some ⟨p.bp, 0, none⟩), .agg #[.slice aC' f.n cC', .slice aR' f.k cR', .int .i64 f.week, .slice aH' f.hol.length cH']] (w.alloc (.cells #[.slice aC' f.n cC', .slice aR' f.k cR', .int .i64 f.week, .slice aH' f.hol.length cH'] 26)) fun e w' => LoP f m (w.alloc (.cells #[.slice aC' f.n cC', .slice aR' f.k cR', .int .i64 f.week, .slice aH' f.hol.length cH'] 26)) e w') := c1look (h.keep BW.out) hb (FV.out.below BW.out)
  have t0 := HM.out.t0
  have t1 := HM.out.t1
  have zs := BW.out.size
  clear h hs hF BX
  go_enter Tryd.func15, Tryd.ntmps15
  go_upto_region 1 with (fail)
  generalize w.alloc (.cells #[.slice aC' f.n cC', .slice aR' f.k cR', .int .i64 f.week, .slice aH' f.hol.length cH'] 26) = wB at *
  go_wp2_with fail
  refine LK.out.mono ?_
  rintro e ax ⟨vx, rfl, l, bb⟩
  obtain ⟨xV, xS, xL, rfl, r1, r2, r3⟩ := l.ex
  obtain ⟨xa1, xc1, rfl⟩ := own_len r1
  obtain ⟨xa2, xc2, rfl⟩ := own_len r2
  obtain ⟨xa3, xc3, rfl⟩ := own_len r3
  have BB : Hid (Below ax.heap.size ax (ax.alloc (.cells #[.int .i64 m.T, .slice xa1 f.n xc1, .slice xa2 f.k xc2, .slice xa3 m.E.length xc3, .bool true] 46))) := boxed_below (Below.refl (ax.heap.size + 1) (ax.alloc (.cells #[.int .i64 m.T, .slice xa1 f.n xc1, .slice xa2 f.k xc2, .slice xa3 m.E.length xc3, .bool true] 46)))
  have NW : Hid (Below wB.heap.size wB (ax.alloc (.cells #[.int .i64 m.T, .slice xa1 f.n xc1, .slice xa2 f.k xc2, .slice xa3 m.E.length xc3, .bool true] 46))) := bb.trans (BB.out.mono bb.size)
  have RV := hid (own_of_block r1 (w' := ax.alloc (.cells #[.int .i64 m.T, .slice xa1 f.n xc1, .slice xa2 f.k xc2, .slice xa3 m.E.length xc3, .bool true] 46)) (fun g _ hlt => BB.out.block g hlt))
  have B1 : Hid (Below w.heap.size w (ax.alloc (.cells #[.int .i64 m.T, .slice xa1 f.n xc1, .slice xa2 f.k xc2, .slice xa3 m.E.length xc3, .bool true] 46))) := BW.out.trans (NW.out.mono zs)
  have cx0 : (ax.alloc (.cells #[.int .i64 m.T, .slice xa1 f.n xc1, .slice xa2 f.k xc2, .slice xa3 m.E.length xc3, .bool true] 46)).cell? ⟨ax.heap.size, 0, none⟩ = some (.int .i64 m.T) := boxed (Below.refl (ax.heap.size + 1) (ax.alloc (.cells #[.int .i64 m.T, .slice xa1 f.n xc1, .slice xa2 f.k xc2, .slice xa3 m.E.length xc3, .bool true] 46))) 0
  have cx1 : (ax.alloc (.cells #[.int .i64 m.T, .slice xa1 f.n xc1, .slice xa2 f.k xc2, .slice xa3 m.E.length xc3, .bool true] 46)).cell? ⟨ax.heap.size, 1, none⟩ = some (.slice xa1 f.n xc1) := boxed (Below.refl (ax.heap.size + 1) (ax.alloc (.cells #[.int .i64 m.T, .slice xa1 f.n xc1, .slice xa2 f.k xc2, .slice xa3 m.E.length xc3, .bool true] 46))) 1
  have cx2 : (ax.alloc (.cells #[.int .i64 m.T, .slice xa1 f.n xc1, .slice xa2 f.k xc2, .slice xa3 m.E.length xc3, .bool true] 46)).cell? ⟨ax.heap.size, 2, none⟩ = some (.slice xa2 f.k xc2) := boxed (Below.refl (ax.heap.size + 1) (ax.alloc (.cells #[.int .i64 m.T, .slice xa1 f.n xc1, .slice xa2 f.k xc2, .slice xa3 m.E.length xc3, .bool true] 46))) 2
  have cx3 : (ax.alloc (.cells #[.int .i64 m.T, .slice xa1 f.n xc1, .slice xa2 f.k xc2, .slice xa3 m.E.length xc3, .bool true] 46)).cell? ⟨ax.heap.size, 3, none⟩ = some (.slice xa3 m.E.length xc3) := boxed (Below.refl (ax.heap.size + 1) (ax.alloc (.cells #[.int .i64 m.T, .slice xa1 f.n xc1, .slice xa2 f.k xc2, .slice xa3 m.E.length xc3, .bool true] 46))) 3
  have cx4 : (ax.alloc (.cells #[.int .i64 m.T, .slice xa1 f.n xc1, .slice xa2 f.k xc2, .slice xa3 m.E.length xc3, .bool true] 46)).cell? ⟨ax.heap.size, 4, none⟩ = some (.bool true) := boxed (Below.refl (ax.heap.size + 1) (ax.alloc (.cells #[.int .i64 m.T, .slice xa1 f.n xc1, .slice xa2 f.k xc2, .slice xa3 m.E.length xc3, .bool true] 46))) 4
  have g0 := (NW.out.cell (p := ⟨w.heap.size, 0, none⟩) zg).trans g0
  have g1 := (NW.out.cell (p := ⟨w.heap.size, 1, none⟩) zg).trans g1
  have g2 := (NW.out.cell (p := ⟨w.heap.size, 2, none⟩) zg).trans g2
  have g3 := (NW.out.cell (p := ⟨w.heap.size, 3, none⟩) zg).trans g3
  have zg2 : w.heap.size < (ax.alloc (.cells #[.int .i64 m.T, .slice xa1 f.n xc1, .slice xa2 f.k xc2, .slice xa3 m.E.length xc3, .bool true] 46)).heap.size := by have := NW.out.size; omega
  have zx : ax.heap.size < (ax.alloc (.cells #[.int .i64 m.T, .slice xa1 f.n xc1, .slice xa2 f.k xc2, .slice xa3 m.E.length xc3, .bool true] 46)).heap.size := by simp
  clear r1 r2 r3 l bb BB NW LK
  go_upto_region 4 with (fail)
  generalize ax.alloc (.cells #[.int .i64 m.T, .slice xa1 f.n xc1, .slice xa2 f.k xc2, .slice xa3 m.E.length xc3, .bool true] 46) = u at *
  generalize ax.heap.size = gx at *
  go_wp2_with fail
  go_loopw [8] (fun t wr => ∃ i : Nat, i ≤ f.n ∧ t = .int .i64 i ∧ Hid (Below u.heap.size u wr)) (fun t _ => f.n - (intOf t).toNat)
  case atStart => exact ⟨0, by omega, rfl, Below.refl _ _⟩
  case round =>
    obtain ⟨i, i1, rfl, hbu⟩ := hrel
    have y0 := (hbu.out.cell (p := ⟨w.heap.size, 0, none⟩) zg2).trans g0
    by_cases hit : i < f.n
    · have lt' : (i : Int) < (f.n : Int) := by omega
      have y1 := (hbu.out.cell (p := ⟨w.heap.size, 1, none⟩) zg2).trans g1
      have y2 := (hbu.out.cell (p := ⟨w.heap.size, 2, none⟩) zg2).trans g2
      have y3 := (hbu.out.cell (p := ⟨w.heap.size, 3, none⟩) zg2).trans g3
      have d0 := (hbu.out.cell (p := ⟨gx, 0, none⟩) zx).trans cx0
      have d1 := (hbu.out.cell (p := ⟨gx, 1, none⟩) zx).trans cx1
      have BT := hid (B1.out.trans (hbu.out.mono B1.out.size))
      have FT := hid (kfits_any HS.out (FV.out.below BT.out) (own_of_block RV.out (w' := wr) (fun g _ hlt => hbu.out.block g hlt)) (own_of_block HF.out (w' := wr) (fun g _ hlt => BT.out.block g hlt)) t0 t1 hit (HV.out.1 i hit) HV.out.2)
      go_wp2_with fail
      refine FT.out.mono ?_
      rintro e w2 ⟨rfl, hb2⟩
      have N := hid (hbu.out.trans (hb2.mono hbu.out.size))
      clear hb2 FT hbu BT
      go_wp2
      go_roundw
      case rel => exact ⟨i + 1, by omega, by go_num, N⟩
      case measure => simp [intOf]; omega
    · have R : Hid (TPost w (.returned (.bool true)) wr) := ⟨rfl, B1.out.trans (hbu.out.mono B1.out.size)⟩
      go_wp2
      go_ret
      exact R.out


end Go.Proofs.YtmofidaojmiepaaDoor

/-
  THE WALKS: docketkeep.Local.
-/
set_option linter.unusedVariables false
set_option linter.unusedSimpArgs false
namespace Go.Proofs.YtmofidaojmiepaaDoor
open Go.RowKit
attribute [local go_sem ↓] Go.wp_at_zero Go.wp_at_succ

/-- What a raw step of Local does. -/
noncomputable def locM (f : Frm) (m : Cs) (s : StK) : Cs :=
  if pickI s.kd 2 = 0 then (if setsK f s.a < 0 then m else setM f m (setsK f s.a) (setsV f s.b)) else advM f m (ontoI m.T s.a)
theorem locM_op (f : Frm) (m : Cs) (s : StK) : (locM f m s).op = m.op := by
  unfold locM
  repeat' split
  · rfl
  · exact setM_op _ _ _ _
  · exact advM_op _ _ _
theorem setM_F {f : Frm} {m : Cs} {c v : Int} (h : setNo f m c v = 0) : (setM f m c v).F = upd m.F c.toNat v := by
  unfold setM
  rw [if_pos h, settle_F]
  rfl

set_option maxRecDepth 100000 in
set_option maxHeartbeats 4000000 in
theorem klocalL_any (C : Nat → Cel) (R : Nat → Rul) (hol : List Int) (aC aR aH : Option Addr) (n cC k cR cH : Nat) (week : Int) (w : World) (ht : Tab w) (hn : n ≤ 1000000000) (hk : k ≤ 1000000000) (hhl : hol.length ≤ 1000000000) (h64 : Raw64 C n R k week hol)
    (hcs : CAt w aC n C) (hrs : RAt w aR k R) (hhs : IntsAt w (.slice aH hol.length cH) hol) {aS : Option Addr} {mS cS : Nat} {S : Nat → StK} (hsc : ScK w aS mS S) (hm : mS ≤ 1048576) :
    Calls Tryd.prog 3 #[.agg #[.slice aC n cC, .slice aR k cR, .int .i64 week, .slice aH hol.length cH], .slice aS mS cS] w fun e w' => TPost w e w' := by
  have BX := hid (Below.refl (w.heap.size + 1) (w.alloc (.cells #[.slice aC n cC, .slice aR k cR, .int .i64 week, .slice aH hol.length cH] 26)))
  have BW := hid (boxed_below BX.out)
  have SH := hid (kshaped_any C R hol aC aR aH n cC k cR cH week _ hn hk hhl h64 (hcs.below BW.out) (hrs.below BW.out) (SlAt.below hhs BW.out (Nat.le_refl _)))
  have FS := hid (shF_ok C n R k week hol)
  have HT := hid ht
  have HSC := hid hsc
  clear hcs hrs hhs h64 ht hsc
  generalize shF C n R k week hol = f at *
  go_enter Tryd.func3, Tryd.ntmps3
  go_wp2_with fail
  refine SH.out.mono ?_
  rintro e w1 ⟨fv, rfl, fa, hb1⟩
  have FA := hid fa
  obtain ⟨aC', cC', aR', cR', aH', cH', rfl, fa1, fa2, fa3⟩ := fa
  clear fa1 fa2 fa3
  have B1 : Hid (Below w.heap.size w w1) := BW.out.trans (hb1.mono (by simp))
  clear hb1 BX BW SH
  have BX := hid (Below.refl (w1.heap.size + 1) (w1.alloc (.cells #[.slice aC' f.n cC', .slice aR' f.k cR', .int .i64 f.week, .slice aH' f.hol.length cH'] 26)))
  have BB := hid (boxed_below BX.out)
  have f0 : (w1.alloc (.cells #[.slice aC' f.n cC', .slice aR' f.k cR', .int .i64 f.week, .slice aH' f.hol.length cH'] 26)).cell? ⟨w1.heap.size, 0, none⟩ = some (Value.slice aC' f.n cC') := boxed BX.out 0
  have f1 : (w1.alloc (.cells #[.slice aC' f.n cC', .slice aR' f.k cR', .int .i64 f.week, .slice aH' f.hol.length cH'] 26)).cell? ⟨w1.heap.size, 1, none⟩ = some (Value.slice aR' f.k cR') := boxed BX.out 1
  have f2 : (w1.alloc (.cells #[.slice aC' f.n cC', .slice aR' f.k cR', .int .i64 f.week, .slice aH' f.hol.length cH'] 26)).cell? ⟨w1.heap.size, 2, none⟩ = some (.int .i64 f.week) := boxed BX.out 2
  have f3 : (w1.alloc (.cells #[.slice aC' f.n cC', .slice aR' f.k cR', .int .i64 f.week, .slice aH' f.hol.length cH'] 26)).cell? ⟨w1.heap.size, 3, none⟩ = some (Value.slice aH' f.hol.length cH') := boxed BX.out 3
  have zg : w1.heap.size < (w1.alloc (.cells #[.slice aC' f.n cC', .slice aR' f.k cR', .int .i64 f.week, .slice aH' f.hol.length cH'] 26)).heap.size := by simp
  have B0 : Hid (Below w.heap.size w (w1.alloc (.cells #[.slice aC' f.n cC', .slice aR' f.k cR', .int .i64 f.week, .slice aH' f.hol.length cH'] 26))) := B1.out.trans (BB.out.mono B1.out.size)
  have FA0 := hid (FA.out.below BB.out)
  have SC0 := hid (HSC.out.below B0.out)
  have T0 := hid (HT.out.below B0.out (Nat.le_refl _))
  clear BX BB FA B1 HT HSC
  go_upto_region 2 with (fail)
  generalize w1.alloc (.cells #[.slice aC' f.n cC', .slice aR' f.k cR', .int .i64 f.week, .slice aH' f.hol.length cH'] 26) = w0 at *
  generalize w1.heap.size = g at *
  obtain ⟨n1, n20, k6, _, _⟩ := FS.out.ok.sizes
  have OPN := hid (c1opened T0.out FS.out.ok FA0.out)
  go_wp2_with fail
  refine OPN.out.mono ?_
  rintro e w2 ⟨Q, p, rfl, c2, s2⟩
  have C2 := hid c2
  have S2 := hid s2
  have B2 := hid (s2.below (Below.refl _ _) (fun j hj => hj))
  have f0' := (s2.cell 0 zg).trans f0
  have f1' := (s2.cell 1 zg).trans f1
  have f2' := (s2.cell 2 zg).trans f2
  have f3' := (s2.cell 3 zg).trans f3
  have DF := hid (kdefaults_any n20 (FA0.out.below B2.out))
  have QLT := hid C2.out.qlt
  clear c2 s2 OPN
  go_wp2_with fail
  refine DF.out.mono ?_
  rintro e w3 ⟨vF, rfl, hown, hb3⟩
  obtain ⟨gF, cF, rfl, zF, _⟩ := own_cell hown (by omega)
  have hgF : w2.heap.size ≤ gF := own_from hown rfl
  have C3 := hid (C2.out.drop hb3)
  have ZF : Hid (zup (fun j => j < w0.heap.size) w2 w3 gF) := Or.inr ⟨hgF, zF⟩
  have HZ : Hid (∀ j, j < w0.heap.size → zup (fun j => j < w0.heap.size) w2 w3 j) := fun j hj => Or.inl hj
  have S3 : Hid (StZ (fun j => j < w0.heap.size) w0 w3) := S2.out.trans (StZ.of hb3 (fun j hj => by have := S2.out.size; omega))
  have OW : Hid (w3.ownsRow 0 3 1 (.slice (some ⟨gF, 0, none⟩) f.n cF) f.n (intsV (beginM f).F f.n)) := own_monoL hown (Nat.zero_le _)
  have w20 := S2.out.size
  have t00 := T0.out.1
  have OB : Hid ((beginM f).op = true ∧ (beginM f).T = 0) := ⟨beginM_op f, beginM_T f⟩
  clear hown hb3 DF C2 S2 B2 f0' f1' f2' f3'
  generalize zup (fun j => j < w0.heap.size) w2 w3 = Z at *
  generalize beginM f = mb at *
  have g0 := (S3.out.cell 0 zg).trans f0
  have g1 := (S3.out.cell 1 zg).trans f1
  have g2 := (S3.out.cell 2 zg).trans f2
  have g3 := (S3.out.cell 3 zg).trans f3
  have LC := hid (klocal_any C3.out (by omega) FS.out (FA0.out.below (S3.out.below (Below.refl _ _) (fun j hj => hj))) OW.out)
  go_wp2_with fail
  refine LC.out.mono ?_
  rintro e w4 ⟨rfl, hb4⟩
  have C4 := hid (C3.out.keep hb4)
  have S4 := hid (S3.out.trans (StZ.of hb4 (fun j hj => by have := S3.out.size; omega)))
  have OW := hid (own_of_block OW.out (w' := w4) (fun g _ hlt => hb4.block g hlt))
  have eT := OB.out.2
  clear hb4 LC C3 S3 g0 g1 g2 g3
  go_wp2_with fail
  go_loopw [8, 9, 10] (fun tn to ti wr => ∃ (i : Nat) (m : Cs) (now : Int), i ≤ mS ∧ tn = .int .i64 now ∧ to = .bool true ∧ ti = .int .i64 i ∧ Hid (m.op = true ∧ m.T = now) ∧ Hid (C1 Z (1 + i) f Q p m wr) ∧ Hid (wr.ownsRow 0 3 1 (.slice (some ⟨gF, 0, none⟩) f.n cF) f.n (intsV m.F f.n)) ∧ Hid (StZ (fun j => j < w0.heap.size) w0 wr)) (fun _ _ ti _ => mS - (intOf ti).toNat)
  case atStart => exact ⟨0, mb, 0, by omega, rfl, rfl, rfl, OB, C4, OW, S4⟩
  case round =>
    clear C4 OW S4
    obtain ⟨i, m, now, i1, rfl, rfl, rfl, ho, hc, hw, hs⟩ := hrel
    have BL := hid (hs.out.below (Below.refl _ _) (fun j hj => hj))
    by_cases hit : i < mS
    · have lt' : (i : Int) < (mS : Int) := by omega
      have x0 := (hs.out.cell 0 zg).trans f0
      have x1 := (hs.out.cell 1 zg).trans f1
      have x2 := (hs.out.cell 2 zg).trans f2
      have x3 := (hs.out.cell 3 zg).trans f3
      obtain ⟨sc1, sc2⟩ := SC0.out.below BL.out
      obtain ⟨bX, oX, hax, zX, hX⟩ : ∃ b off, aS = some ⟨b, off, none⟩ ∧ b < wr.heap.size ∧ ∀ i, i < mS → wr.cell? ⟨b, off + i * 3, none⟩ = some (.int .i64 (S i).kd) ∧ wr.cell? ⟨b, off + i * 3 + 1, none⟩ = some (.int .i64 (S i).a) ∧ wr.cell? ⟨b, off + i * 3 + 2, none⟩ = some (.int .i64 (S i).b) := by
        rcases sc1 with h | h
        · omega
        · exact h
      obtain ⟨y0, y1, y2⟩ := hX i hit
      obtain ⟨s0, s1, s2⟩ := sc2 i hit
      have HM := hid hc.out.mok
      have zgr : g < wr.heap.size := by have := BL.out.size; omega
      subst hax
      clear hX sc1 sc2
      obtain ⟨sk, hsk⟩ : ∃ s, S i = s := ⟨_, rfl⟩
      rw [hsk] at y0 y1 y2 s0 s1 s2
      have PK := hid (fun W => kpick_any sk.kd 2 W s0 (by omega) (by omega))
      have pb := pickI_bd sk.kd (n := 2) (by omega)
      have SE := hid (fun W (hW : Below wr.heap.size wr W) => ksets_any n20 (FA0.out.below (BL.out.trans (hW.mono BL.out.size))) sk.kd sk.a sk.b s1 s2)
      have LOC := hid (fun (m2 : Cs) (b2 : Nat) (W : World) (h1 : C1 Z b2 f Q p m2 W) (h2 : b2 ≤ 10000000000) (h3 : StZ (fun j => j < w0.heap.size) w0 W) (h4 : W.ownsRow 0 3 1 (.slice (some ⟨gF, 0, none⟩) f.n cF) f.n (intsV m2.F f.n)) => klocal_any h1 h2 FS.out (FA0.out.below (h3.below (Below.refl _ _) (fun j hj => hj))) h4)
      have OPM := ho.out.1
      have OTM := ho.out.2
      have HOP := hid OPM
      have HOT := hid OTM
      have nt0 : 0 ≤ now := by have := HM.out.t0; omega
      have nt1 : now ≤ 1000000000 := by have := HM.out.t1; omega
      clear OPM OTM hsk ho
      generalize hkd : sk.kd = kd at *
      generalize hka : sk.a = sa at *
      generalize hkb : sk.b = sb at *
      clear hkd hka hkb
      have BX := hid (Below.refl (wr.heap.size + 1) (wr.alloc (.cells #[.int .i64 kd, .int .i64 sa, .int .i64 sb] 34)))
      have BW := hid (boxed_below BX.out)
      have b0 : (wr.alloc (.cells #[.int .i64 kd, .int .i64 sa, .int .i64 sb] 34)).cell? ⟨wr.heap.size, 0, none⟩ = some (.int .i64 kd) := boxed BX.out 0
      have b1 : (wr.alloc (.cells #[.int .i64 kd, .int .i64 sa, .int .i64 sb] 34)).cell? ⟨wr.heap.size, 1, none⟩ = some (.int .i64 sa) := boxed BX.out 1
      have b2 : (wr.alloc (.cells #[.int .i64 kd, .int .i64 sa, .int .i64 sb] 34)).cell? ⟨wr.heap.size, 2, none⟩ = some (.int .i64 sb) := boxed BX.out 2
      have x0 := (BW.out.cell (p := ⟨g, 0, none⟩) zgr).trans x0
      have x1 := (BW.out.cell (p := ⟨g, 1, none⟩) zgr).trans x1
      have x2 := (BW.out.cell (p := ⟨g, 2, none⟩) zgr).trans x2
      have x3 := (BW.out.cell (p := ⟨g, 3, none⟩) zgr).trans x3
      have C5 := hid (hc.out.keep BW.out)
      have O5 := hid (own_of_block hw.out (w' := wr.alloc (.cells #[.int .i64 kd, .int .i64 sa, .int .i64 sb] 34)) (fun g _ hlt => BW.out.block g hlt))
      have S5 : Hid (StZ (fun j => j < w0.heap.size) w0 (wr.alloc (.cells #[.int .i64 kd, .int .i64 sa, .int .i64 sb] 34))) := hs.out.trans (StZ.of BW.out (fun j hj => by have := hs.out.size; omega))
      have zs5 : g < (wr.alloc (.cells #[.int .i64 kd, .int .i64 sa, .int .i64 sb] 34)).heap.size := by have := BW.out.size; omega
      clear hc hw BX hs
      go_upto_region 12 with (fail)
      generalize wr.alloc (.cells #[.int .i64 kd, .int .i64 sa, .int .i64 sb] 34) = w5 at *
      generalize wr.heap.size = gs at *
      go_wp2_with fail
      refine (PK.out _).mono ?_
      rintro e w' ⟨rfl, hw'⟩
      rw [hw']
      clear hw' w' PK
      have pcs : pickI kd 2 = 0 ∨ pickI kd 2 = 1 := by omega
      clear pb
      rcases pcs with e | e
      · rw [e]
        clear e
        have S0 := hid (setsK_ok f sa sb)
        have HNO := hid (fun h => sets_no (f := f) HOP.out sa sb h)
        unfold SetsP at SE
        generalize setsK f sa = ks at *
        generalize setsV f sb = vs at *
        have SE' := hid (SE.out w5 BW.out)
        go_wp2_with fail
        refine SE'.out.mono ?_
        rintro e w6 ⟨rfl, hb6⟩
        have C6 := hid (C5.out.keep hb6)
        have O6 := hid (own_of_block O5.out (w' := w6) (fun g _ hlt => hb6.block g hlt))
        have S6 : Hid (StZ (fun j => j < w0.heap.size) w0 w6) := S5.out.trans (StZ.of hb6 (fun j hj => by have := S5.out.size; omega))
        clear hb6 SE' SE C5 O5 S5 x0 x1 x2 x3 b0 b1 b2
        rcases S0.out with ⟨e1, e2⟩ | ⟨kk, e1, e2, e3, e4⟩
        · subst e1 e2
          have MO : Hid (m.op = true) := HOP.out
          have MT : Hid (m.T = now) := HOT.out
          have NW : Hid (Calls Tryd.prog 21 #[.pointer (some ⟨p.bp, 0, none⟩)] w6 fun e w' => e = .returned (.int .i64 now) ∧ w' = w6) := (c1now C6.out).mono (fun e w' g => ⟨by rw [g.1, MT.out], g.2⟩)
          have LL := hid (LOC.out m (1 + i) w6 C6.out (by omega) S6.out O6.out)
          have z0 := (S6.out.cell 0 zg).trans f0
          have z1 := (S6.out.cell 1 zg).trans f1
          have z2 := (S6.out.cell 2 zg).trans f2
          have z3 := (S6.out.cell 3 zg).trans f3
          go_wp2_with fail
          refine NW.out.mono ?_
          rintro e w' ⟨rfl, hw'⟩
          rw [hw']
          clear hw' w' NW
          go_wp2_with fail
          refine LL.out.mono ?_
          rintro e w9 ⟨rfl, hb9⟩
          have N1 : Hid (C1 Z (1 + (i + 1)) f Q p m w9) := (C6.out.keep hb9).up (by omega)
          have N2 := hid (own_of_block O6.out (w' := w9) (fun g _ hlt => hb9.block g hlt))
          have N3 := hid (S6.out.trans (StZ.of hb9 (fun j hj => by have := S6.out.size; omega)))
          clear hb9 LL LOC
          go_wp2
          go_roundw
          case rel => exact ⟨i + 1, m, now, by omega, by go_num, rfl, by go_num, ⟨MO.out, MT.out⟩, N1, N2, N3⟩
          case measure => simp [intOf]; omega
        · have hno : setNo f m ks vs = 0 := HNO.out (by omega)
          have MO : Hid ((setM f m ks vs).op = true) := by show _ = _; rw [setM_op]; exact HOP.out
          have MT : Hid ((setM f m ks vs).T = now) := by show _ = _; rw [setM_T]; exact HOT.out
          have MF : Hid ((setM f m ks vs).F = upd m.F kk vs) := by show _ = _; rw [setM_F hno, e1]; rfl
          have SS := hid ((c1set C6.out (by omega) ks vs).mono (fun _ _ g => C1P.as g (r' := .int .i64 0) (m' := setM f m ks vs) (congrArg (Value.int .i64) hno) rfl))
          have kp : 0 ≤ ks := by omega
          have kl : (kk : Int) < (f.n : Int) := by omega
          subst e1
          clear hno S0 HNO e3 e4
          generalize setM f m kk vs = m2 at *
          go_wp2_with fail
          refine SS.out.mono ?_
          rintro e w7 ⟨rfl, c7, s7⟩
          have C7 := hid c7
          have O7 := hid (own_of_block O6.out (w' := w7) (fun g hg _ => s7.block g (by cases hg; exact ZF.out)))
          have S7 := hid (S6.out.trans (s7.less HZ.out))
          obtain ⟨_, _, e7, zF7, xF7⟩ := own_cell O7.out (by omega)
          simp at e7
          obtain ⟨rfl, rfl⟩ := e7
          have q1 := xF7 kk (by omega)
          rw [intsV_at _ e2] at q1
          have q2 := own_frozen O7.out kk
          have C8 : Hid (C1 Z (1 + i + 1) f Q p m2 (w7.setCell ⟨gF, kk, none⟩ (.int .i64 vs))) := C7.out.store ZF.out (fun h => by have := QLT.out _ h; omega) (by omega) (by simp [World.setCell]) (fun j _ hj => Go.Deep.blk_setCell_other _ _ _ _ hj)
          have O8 : Hid ((w7.setCell ⟨gF, kk, none⟩ (.int .i64 vs)).ownsRow 0 3 1 (.slice (some ⟨gF, 0, none⟩) f.n cF) f.n (intsV m2.F f.n)) := by
            rw [MF.out]
            exact own_set O7.out e2 vs
          have S8 : Hid (StZ (fun j => j < w0.heap.size) w0 (w7.setCell ⟨gF, kk, none⟩ (.int .i64 vs))) := S7.out.trans ⟨rfl, rfl, rfl, by simp [World.setCell], fun j hj => Go.Deep.blk_setCell_other _ _ _ _ (by show j ≠ gF; omega)⟩
          clear c7 s7 SS C6 O6 S6 C7 O7 S7 xF7
          go_upto_region 22 with (fail)
          generalize w7.setCell ⟨gF, kk, none⟩ (.int .i64 vs) = w8 at *
          have NW : Hid (Calls Tryd.prog 21 #[.pointer (some ⟨p.bp, 0, none⟩)] w8 fun e w' => e = .returned (.int .i64 now) ∧ w' = w8) := (c1now C8.out).mono (fun e w' g => ⟨by rw [g.1, MT.out], g.2⟩)
          have LL := hid (LOC.out m2 (1 + i + 1) w8 C8.out (by omega) S8.out O8.out)
          have z0 := (S8.out.cell 0 zg).trans f0
          have z1 := (S8.out.cell 1 zg).trans f1
          have z2 := (S8.out.cell 2 zg).trans f2
          have z3 := (S8.out.cell 3 zg).trans f3
          go_wp2_with fail
          refine NW.out.mono ?_
          rintro e w' ⟨rfl, hw'⟩
          rw [hw']
          clear hw' w' NW
          go_wp2_with fail
          refine LL.out.mono ?_
          rintro e w9 ⟨rfl, hb9⟩
          have N1 : Hid (C1 Z (1 + (i + 1)) f Q p m2 w9) := (C8.out.keep hb9).up (by omega)
          have N2 := hid (own_of_block O8.out (w' := w9) (fun g _ hlt => hb9.block g hlt))
          have N3 := hid (S8.out.trans (StZ.of hb9 (fun j hj => by have := S8.out.size; omega)))
          clear hb9 LL LOC
          go_wp2
          go_roundw
          case rel => exact ⟨i + 1, m2, now, by omega, by go_num, rfl, by go_num, ⟨MO.out, MT.out⟩, N1, N2, N3⟩
          case measure => simp [intOf]; omega
      · rw [e]
        clear e SE
        have ot := ontoI_bd sa nt0 nt1
        have ON := hid (fun W => konto_any now sa W nt0 nt1 s1)
        generalize ontoI now sa = to at *
        have MO : Hid ((advM f m to).op = true) := by show _ = _; rw [advM_op]; exact HOP.out
        have MT : Hid ((advM f m to).T = to) := by show _ = _; exact advM_T f m (by have := HOT.out; omega) ot.2
        have MF : Hid ((advM f m to).F = m.F) := advM_F _ _ _
        have AN : Hid (advAns m.T to = 0) := by show _ = _; unfold advAns; rw [if_neg (by have := HOT.out; omega)]
        have AA := hid ((c1adv C5.out (by omega) to).mono (fun _ _ g => C1P.as g (r' := .int .i64 0) (m' := advM f m to) (congrArg (Value.int .i64) AN.out) rfl))
        generalize advM f m to = m2 at *
        go_wp2_with fail
        refine (ON.out _).mono ?_
        rintro e w' ⟨rfl, hw'⟩
        rw [hw']
        clear hw' w' ON
        go_wp2_with fail
        refine AA.out.mono ?_
        rintro e w7 ⟨rfl, c7, s7⟩
        have C7 := hid c7
        have O7 : Hid (w7.ownsRow 0 3 1 (.slice (some ⟨gF, 0, none⟩) f.n cF) f.n (intsV m2.F f.n)) := by
          rw [MF.out]
          exact own_of_block O5.out (w' := w7) (fun g hg _ => s7.block g (by cases hg; exact ZF.out))
        have S7 := hid (S5.out.trans (s7.less HZ.out))
        clear c7 s7 AA C5 O5 S5 x0 x1 x2 x3 b0 b1 b2
        have NW : Hid (Calls Tryd.prog 21 #[.pointer (some ⟨p.bp, 0, none⟩)] w7 fun e w' => e = .returned (.int .i64 to) ∧ w' = w7) := (c1now C7.out).mono (fun e w' g => ⟨by rw [g.1, MT.out], g.2⟩)
        have LL := hid (LOC.out m2 (1 + i) w7 C7.out (by omega) S7.out O7.out)
        have z0 := (S7.out.cell 0 zg).trans f0
        have z1 := (S7.out.cell 1 zg).trans f1
        have z2 := (S7.out.cell 2 zg).trans f2
        have z3 := (S7.out.cell 3 zg).trans f3
        go_wp2_with fail
        refine NW.out.mono ?_
        rintro e w' ⟨rfl, hw'⟩
        rw [hw']
        clear hw' w' NW
        go_wp2_with fail
        refine LL.out.mono ?_
        rintro e w9 ⟨rfl, hb9⟩
        have N1 : Hid (C1 Z (1 + (i + 1)) f Q p m2 w9) := (C7.out.keep hb9).up (by omega)
        have N2 := hid (own_of_block O7.out (w' := w9) (fun g _ hlt => hb9.block g hlt))
        have N3 := hid (S7.out.trans (StZ.of hb9 (fun j hj => by have := S7.out.size; omega)))
        clear hb9 LL LOC
        go_wp2
        go_roundw
        case rel => exact ⟨i + 1, m2, to, by omega, by go_num, rfl, by go_num, ⟨MO.out, MT.out⟩, N1, N2, N3⟩
        case measure => simp [intOf]; omega
    · have R : Hid (TPost w (.returned (.bool true)) wr) := ⟨rfl, B0.out.trans (BL.out.mono B0.out.size)⟩
      go_wp2
      go_ret
      exact R.out

end Go.Proofs.YtmofidaojmiepaaDoor
