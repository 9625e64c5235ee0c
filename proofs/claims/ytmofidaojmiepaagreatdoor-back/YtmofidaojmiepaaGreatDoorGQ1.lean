/-
  THE WALKS: docketkeep's steps and holidays, of lists of any length.
-/
import Derived.Test.YtmofidaojmiepaaGreatDoorGE1
import Derived.Test.YtmofidaojmiepaaGreatDoorGE5
import Derived.Deep.RegionLaw
import Derived.Deep.DeepCutAuto
import Derived.Deep.CutBlock
set_option linter.unusedVariables false
set_option linter.unusedSimpArgs false
namespace Go.Proofs.YtmofidaojmiepaaGreatDoor
open Go.RowKit
attribute [local go_sem ↓] Go.wp_at_zero Go.wp_at_succ

set_option maxRecDepth 100000 in
set_option maxHeartbeats 2000000 in
theorem kstepsR_any (l : List Int) (a : Option Addr) (cap : Nat) (w : World) (hl : l.length ≤ 9223372036854775807) (hc : IntsAt w (.slice a l.length cap) l) (h64 : ∀ i, i < l.length → I64k (l.getD i 0)) :
    Calls Tryz.prog 16 #[.slice a l.length cap] w fun e w' => LsP (shSt 1000000000 4 0 l) w e w' := by
  obtain ⟨i3, y3, y4⟩ := Option.map_eq_some_iff.1 info3
  simp only [Prod.mk.injEq] at y4
  have I3 := hid y3
  have Z3 := hid y4
  clear y3 y4
  have HC := hid hc
  have H64 := hid h64
  clear hc h64
  go_enter Tryz.func16, Tryz.ntmps16
  go_wp2
  go_loopw [3, 4, 5] (fun tq ta ti wr => ∃ (i : Nat) (at' : Int) (out : List Int) (v : Value), i ≤ 4 ∧ ti = .int .i64 i ∧ ta = .int .i64 at' ∧ v = tq ∧ 0 ≤ at' ∧ at' ≤ 1000000000 ∧ out.length ≤ i ∧ Hid (out ++ shSt 1000000000 (4 - i) at' (l.drop i) = shSt 1000000000 4 0 l) ∧ Hid (wr.ownsRow w.heap.size 3 1 v out.length (out.map (fun x => Value.int .i64 x))) ∧ Hid (Below w.heap.size w wr)) (fun _ _ ti _ => 4 - (intOf ti).toNat)
  case atStart => exact ⟨0, 0, [], .slice none 0 0, by omega, rfl, rfl, rfl, by omega, by omega, by simp, rfl, ⟨rfl, Or.inl ⟨rfl, rfl⟩⟩, Below.refl _ _⟩
  case round =>
    obtain ⟨i, at', out, v, i1, rfl, rfl, rfl, a0, a1, ol, hst, hown, hb⟩ := hrel
    have FIN : Hid (∀ W, shSt 1000000000 (4 - i) at' (l.drop i) = [] → W = wr → LsP (shSt 1000000000 4 0 l) w (.returned v) W) := fun W h hW => by
      subst hW
      have := hst.out
      rw [h, List.append_nil] at this
      exact ⟨v, rfl, by rw [← this]; exact hown.out, hb.out⟩
    by_cases c1 : i < l.length
    · by_cases c2 : i < 4
      · obtain ⟨b, off, rfl, zb, hcell⟩ : ∃ b off, a = some ⟨b, off, none⟩ ∧ b < wr.heap.size ∧ ∀ j, j < l.length → wr.cell? ⟨b, off + j, none⟩ = some (.int .i64 (l.getD j 0)) := by
          rcases IntsAt.cases (SlAt.below HC.out hb.out (Nat.le_refl _)) with h | h
          · omega
          · exact h
        have x := hcell i c1
        have lt' : (i : Int) < (l.length : Int) := by omega
        have PK := hid (fun W => kpick_any (l.getD i 0) 1000000000 W (H64.out i c1) (by omega) (by omega))
        have bd := pickI_bd (l.getD i 0) (n := 1000000000) (by omega)
        have ST := hid (shSt_step (hi := 1000000000) (at' := at') c1 c2)
        clear hcell
        generalize l.getD i 0 = lx at *
        generalize pickI lx 1000000000 = px at *
        by_cases c3 : 1000000000 < at' + 1 + px
        · have R := hid (FIN.out wr (by rw [ST.out, if_pos c3]) rfl)
          go_wp2_with (go_at_call 17; refine (PK.out _).mono ?_; rintro e w' ⟨rfl, hw⟩; rw [hw]; clear hw w')
          go_ret
          exact R.out
        · have N1 : Hid ((out ++ [at' + 1 + px]) ++ shSt 1000000000 (4 - (i + 1)) (at' + 1 + px) (l.drop (i + 1)) = shSt 1000000000 4 0 l) := by
            show _ = _
            have := hst.out
            rw [ST.out, if_neg c3] at this
            rw [← this]
            simp
          go_wp2_with first | (go_at_call 17; refine (PK.out _).mono ?_; rintro e w' ⟨rfl, hw⟩; rw [hw]; clear hw w') | (at_builtin; refine wpList_append_lies _ rfl (.tmp 26) (.tmp 28) 24 rfl w.heap.size 3 i3 _ 1 8 Tryz.underlying24 I3.out Z3.out.1 Z3.out.2.1 Z3.out.2.2 rfl (by omega) v out.length (out.map (fun x => Value.int .i64 x)) (by rfl) (own_alloc0 hown.out _) ⟨wr.heap.size, 0, none⟩ 1 1 [.int .i64 (at' + 1 + px)] (by rfl) (by rfl) (news1k _ _ _) (by simp [Value.oneCell']) (by omega) (by unfold maxLen; omega) (by omega) (by have := hb.out.size; simp; omega) (wr.heap.size + 1) (by simp) ?_; intro g cap4 w4 hown2 hgrow hat hlt; refine stopH ?_)
          have hsz := hb.out.size
          have N2 : Hid (w4.ownsRow w.heap.size 3 1 (.slice (some ⟨g, 0, none⟩) (out.length + 1) cap4) (out ++ [at' + 1 + px]).length ((out ++ [at' + 1 + px]).map (fun x => Value.int .i64 x))) := by
            rw [List.length_append, List.map_append]
            exact hown2
          have N3 : Hid (Below w.heap.size w w4) := hb.out.trans (grow_below0 hgrow (by omega) (fun g hg' => own_base hown.out hg'))
          clear hown2 hgrow hat hlt hown hb hst FIN ST
          refine hid ?_
          go_wp2
          go_roundw
          case rel => exact ⟨i + 1, at' + 1 + px, out ++ [at' + 1 + px], _, by omega, by go_num, by go_num, rfl, by omega, by omega, by simp; omega, N1, N2, N3⟩
          case measure => simp [intOf]; omega
      · have R := hid (FIN.out wr (shSt_end (Or.inr (by omega))) rfl)
        go_wp2
        go_ret
        exact R.out
    · have R := hid (FIN.out wr (shSt_end (Or.inl (by omega))) rfl)
      go_wp2
      go_ret
      exact R.out

set_option maxRecDepth 100000 in
set_option maxHeartbeats 2000000 in
theorem kholidaysR_any (l : List Int) (a : Option Addr) (cap : Nat) (w : World) (hl : l.length ≤ 9223372036854775807) (hc : IntsAt w (.slice a l.length cap) l) (h64 : ∀ i, i < l.length → I64k (l.getD i 0)) :
    Calls Tryz.prog 18 #[.slice a l.length cap] w fun e w' => LsP (shSt 11574 20 (-1) l) w e w' := by
  obtain ⟨i3, y3, y4⟩ := Option.map_eq_some_iff.1 info3
  simp only [Prod.mk.injEq] at y4
  have I3 := hid y3
  have Z3 := hid y4
  clear y3 y4
  have HC := hid hc
  have H64 := hid h64
  clear hc h64
  go_enter Tryz.func18, Tryz.ntmps18
  go_wp2
  go_loopw [3, 4, 5] (fun tq ta ti wr => ∃ (i : Nat) (at' : Int) (out : List Int) (v : Value), i ≤ 20 ∧ ti = .int .i64 i ∧ ta = .int .i64 at' ∧ v = tq ∧ -1 ≤ at' ∧ at' ≤ 11574 ∧ out.length ≤ i ∧ Hid (out ++ shSt 11574 (20 - i) at' (l.drop i) = shSt 11574 20 (-1) l) ∧ Hid (wr.ownsRow w.heap.size 3 1 v out.length (out.map (fun x => Value.int .i64 x))) ∧ Hid (Below w.heap.size w wr)) (fun _ _ ti _ => 20 - (intOf ti).toNat)
  case atStart => exact ⟨0, -1, [], .slice none 0 0, by omega, rfl, rfl, rfl, by omega, by omega, by simp, rfl, ⟨rfl, Or.inl ⟨rfl, rfl⟩⟩, Below.refl _ _⟩
  case round =>
    obtain ⟨i, at', out, v, i1, rfl, rfl, rfl, a0, a1, ol, hst, hown, hb⟩ := hrel
    have FIN : Hid (∀ W, shSt 11574 (20 - i) at' (l.drop i) = [] → W = wr → LsP (shSt 11574 20 (-1) l) w (.returned v) W) := fun W h hW => by
      subst hW
      have := hst.out
      rw [h, List.append_nil] at this
      exact ⟨v, rfl, by rw [← this]; exact hown.out, hb.out⟩
    by_cases c1 : i < l.length
    · by_cases c2 : i < 20
      · obtain ⟨b, off, rfl, zb, hcell⟩ : ∃ b off, a = some ⟨b, off, none⟩ ∧ b < wr.heap.size ∧ ∀ j, j < l.length → wr.cell? ⟨b, off + j, none⟩ = some (.int .i64 (l.getD j 0)) := by
          rcases IntsAt.cases (SlAt.below HC.out hb.out (Nat.le_refl _)) with h | h
          · omega
          · exact h
        have x := hcell i c1
        have lt' : (i : Int) < (l.length : Int) := by omega
        have PK := hid (fun W => kpick_any (l.getD i 0) 11574 W (H64.out i c1) (by omega) (by omega))
        have bd := pickI_bd (l.getD i 0) (n := 11574) (by omega)
        have ST := hid (shSt_step (hi := 11574) (at' := at') c1 c2)
        clear hcell
        generalize l.getD i 0 = lx at *
        generalize pickI lx 11574 = px at *
        by_cases c3 : 11574 < at' + 1 + px
        · have R := hid (FIN.out wr (by rw [ST.out, if_pos c3]) rfl)
          go_wp2_with (go_at_call 17; refine (PK.out _).mono ?_; rintro e w' ⟨rfl, hw⟩; rw [hw]; clear hw w')
          go_ret
          exact R.out
        · have N1 : Hid ((out ++ [at' + 1 + px]) ++ shSt 11574 (20 - (i + 1)) (at' + 1 + px) (l.drop (i + 1)) = shSt 11574 20 (-1) l) := by
            show _ = _
            have := hst.out
            rw [ST.out, if_neg c3] at this
            rw [← this]
            simp
          go_wp2_with first | (go_at_call 17; refine (PK.out _).mono ?_; rintro e w' ⟨rfl, hw⟩; rw [hw]; clear hw w') | (at_builtin; refine wpList_append_lies _ rfl (.tmp 26) (.tmp 28) 24 rfl w.heap.size 3 i3 _ 1 8 Tryz.underlying24 I3.out Z3.out.1 Z3.out.2.1 Z3.out.2.2 rfl (by omega) v out.length (out.map (fun x => Value.int .i64 x)) (by rfl) (own_alloc0 hown.out _) ⟨wr.heap.size, 0, none⟩ 1 1 [.int .i64 (at' + 1 + px)] (by rfl) (by rfl) (news1k _ _ _) (by simp [Value.oneCell']) (by omega) (by unfold maxLen; omega) (by omega) (by have := hb.out.size; simp; omega) (wr.heap.size + 1) (by simp) ?_; intro g cap4 w4 hown2 hgrow hat hlt; refine stopH ?_)
          have hsz := hb.out.size
          have N2 : Hid (w4.ownsRow w.heap.size 3 1 (.slice (some ⟨g, 0, none⟩) (out.length + 1) cap4) (out ++ [at' + 1 + px]).length ((out ++ [at' + 1 + px]).map (fun x => Value.int .i64 x))) := by
            rw [List.length_append, List.map_append]
            exact hown2
          have N3 : Hid (Below w.heap.size w w4) := hb.out.trans (grow_below0 hgrow (by omega) (fun g hg' => own_base hown.out hg'))
          clear hown2 hgrow hat hlt hown hb hst FIN ST
          refine hid ?_
          go_wp2
          go_roundw
          case rel => exact ⟨i + 1, at' + 1 + px, out ++ [at' + 1 + px], _, by omega, by go_num, by go_num, rfl, by omega, by omega, by simp; omega, N1, N2, N3⟩
          case measure => simp [intOf]; omega
      · have R := hid (FIN.out wr (shSt_end (Or.inr (by omega))) rfl)
        go_wp2
        go_ret
        exact R.out
    · have R := hid (FIN.out wr (shSt_end (Or.inl (by omega))) rfl)
      go_wp2
      go_ret
      exact R.out

end Go.Proofs.YtmofidaojmiepaaGreatDoor

/-
  MEMORY: docketkeep's shaped, of a raw form of any size.
-/
set_option linter.unusedVariables false
set_option linter.unusedSimpArgs false
namespace Go.Proofs.YtmofidaojmiepaaGreatDoor
open Go.RowKit
attribute [local go_sem ↓] Go.wp_at_zero Go.wp_at_succ

/-- A rule of a raw form lies at an address. -/
def RuleRaw (w : World) (b o : Nat) (r : Rul) : Prop :=
  w.cell? ⟨b, o, none⟩ = some (.int .i64 r.guard) ∧ ∃ a cap, w.cell? ⟨b, o + 1, none⟩ = some (.slice a r.steps.length cap) ∧ IntsAt w (.slice a r.steps.length cap) r.steps ∧ r.steps.length ≤ 9223372036854775807

theorem RuleRaw.below {B : Nat} {w w' : World} {b o : Nat} {r : Rul} (h : RuleRaw w b o r) (hb : Below B w w') (hB : b < B) (hB2 : w.heap.size ≤ B) : RuleRaw w' b o r := by
  obtain ⟨h1, a, cap, h2, h3, h4⟩ := h
  exact ⟨by rw [hb.cell (p := ⟨b, o, none⟩) hB]; exact h1, a, cap, by rw [hb.cell (p := ⟨b, o + 1, none⟩) hB]; exact h2, SlAt.below h3 hb hB2, h4⟩

def RRaw (w : World) (a : Option Addr) (k : Nat) (R : Nat → Rul) : Prop := k = 0 ∨ ∃ b off, a = some ⟨b, off, none⟩ ∧ b < w.heap.size ∧ ∀ m, m < k → RuleRaw w b (off + m * 2) (R m)

theorem RRaw.below {w w' : World} {a : Option Addr} {k : Nat} {R : Nat → Rul} (h : RRaw w a k R) (hb : Below w.heap.size w w') : RRaw w' a k R := by
  rcases h with h | ⟨b, off, e, h1, h2⟩
  · exact Or.inl h
  · exact Or.inr ⟨b, off, e, by have := hb.size; omega, fun m hm => (h2 m hm).below hb h1 (Nat.le_refl _)⟩

set_option maxRecDepth 100000 in
set_option maxHeartbeats 4000000 in
theorem kshapedR_any (C : Nat → Cel) (R : Nat → Rul) (hol : List Int) (aC aR aH : Option Addr) (n cC k cR cH : Nat) (week : Int) (w : World) (hn : n ≤ 9223372036854775807) (hk : k ≤ 9223372036854775807) (hhl : hol.length ≤ 9223372036854775807) (h64 : Raw64 C n R k week hol)
    (hcs : CAt w aC n C) (hrs : RRaw w aR k R) (hhs : IntsAt w (.slice aH hol.length cH) hol) :
    Calls Tryz.prog 4 #[.agg #[.slice aC n cC, .slice aR k cR, .int .i64 week, .slice aH hol.length cH]] w fun e w' => ShP (shF C n R k week hol) w e w' := by
  obtain ⟨i76, y1, y2⟩ := Option.map_eq_some_iff.1 info76
  obtain ⟨i80, y5, y6⟩ := Option.map_eq_some_iff.1 info80
  simp only [Prod.mk.injEq] at y2 y6
  have I76 := hid y1
  have Z76 := hid y2
  have I80 := hid y5
  have Z80 := hid y6
  clear y1 y2 y5 y6
  have HCS := hid hcs
  have HRS := hid hrs
  have HHS := hid hhs
  have H64 := hid h64
  have FN := shF_n C n R k week hol
  have FNE : Hid ((shF C n R k week hol).n = if n = 0 then 1 else min n 20) := rfl
  have FKE : Hid ((shF C n R k week hol).k = min k 6) := rfl
  have FCE : Hid (n ≠ 0 → ∀ i, (shF C n R k week hol).C i = shCel (C i) i) := fun h i => by rw [shF_cell, if_neg h]
  have FC0 : Hid (n = 0 → ∀ i, (shF C n R k week hol).C i = ⟨1, 0, 0, 0, 1⟩) := fun h i => by rw [shF_cell, if_pos h]
  have FRE : Hid (∀ i, (shF C n R k week hol).R i = ⟨pickI (R i).guard ((shF C n R k week hol).n : Nat), shSt 1000000000 4 0 (R i).steps⟩) := fun i => rfl
  have FWE : Hid ((shF C n R k week hol).week = 1 + pickI week 127) := rfl
  have FHE : Hid ((shF C n R k week hol).hol = shSt 11574 20 (-1) hol) := rfl
  clear hcs hrs hhs h64
  generalize shF C n R k week hol = f at *
  have B0 := hid (Below.refl (w.heap.size + 1 + 1) ((w.alloc (fbox aC aR aH n cC k cR hol.length cH week)).alloc zbox))
  have G0 : Hid ((((w.alloc (fbox aC aR aH n cC k cR hol.length cH week)).alloc zbox).alloc zbox).rowIs (w.heap.size + 1 + 1) 26 4 (gCopy (.slice none 0 0) (.slice none 0 0) 0 (.slice none 0 0))) := by
    have := World.rowIs_alloc ((w.alloc (fbox aC aR aH n cC k cR hol.length cH week)).alloc zbox) #[.slice none 0 0, .slice none 0 0, .int .i64 0, .slice none 0 0] 26 (gCopy (.slice none 0 0) (.slice none 0 0) 0 (.slice none 0 0)) (fun i hi => by
      have hi' : i = 0 ∨ i = 1 ∨ i = 2 ∨ i = 3 := by simp at hi; omega
      rcases hi' with rfl | rfl | rfl | rfl <;> rfl)
    simp only [World.size_alloc] at this
    exact this
  have B1 : Hid (Below (w.heap.size + 1 + 1) ((w.alloc (fbox aC aR aH n cC k cR hol.length cH week)).alloc zbox) (((w.alloc (fbox aC aR aH n cC k cR hol.length cH week)).alloc zbox).alloc zbox)) := B0.out.alloc (by simp) _
  unfold fbox zbox at *
  go_enter Tryz.func4, Tryz.ntmps4
  go_upto_block 0 with (fail)
  go_cut [] (fun wx => ∃ (m : Nat) (v : Value), Hid (m = min n 20) ∧ w.heap.size + 1 + 1 < wx.heap.size ∧ Hid (Below (w.heap.size + 1 + 1) ((w.alloc (.cells #[.slice aC n cC, .slice aR k cR, .int .i64 week, .slice aH hol.length cH] 26)).alloc (.cells #[.slice none 0 0, .slice none 0 0, .int .i64 0, .slice none 0 0] 26)) wx) ∧ Hid (wx.rowIs (w.heap.size + 1 + 1) 26 4 (gCopy v (.slice none 0 0) 0 (.slice none 0 0))) ∧ Hid (wx.ownsRow (w.heap.size + 1 + 1 + 1) 47 5 v m (cells5 (fun j => shCel (C j) j) m)))
  case first =>
    go_wp2
    go_loopw [4] (fun t wr => ∃ (i : Nat) (v : Value), i ≤ n ∧ i ≤ 20 ∧ t = .int .i64 i ∧ w.heap.size + 1 + 1 < wr.heap.size ∧ Hid (Below (w.heap.size + 1 + 1) ((w.alloc (.cells #[.slice aC n cC, .slice aR k cR, .int .i64 week, .slice aH hol.length cH] 26)).alloc (.cells #[.slice none 0 0, .slice none 0 0, .int .i64 0, .slice none 0 0] 26)) wr) ∧ Hid (wr.rowIs (w.heap.size + 1 + 1) 26 4 (gCopy v (.slice none 0 0) 0 (.slice none 0 0))) ∧ Hid (wr.ownsRow (w.heap.size + 1 + 1 + 1) 47 5 v i (cells5 (fun j => shCel (C j) j) i))) (fun t _ => 20 - (intOf t).toNat)
    case atStart => exact ⟨0, .slice none 0 0, by omega, by omega, rfl, G0.out.lt, B1, G0, ⟨rfl, Or.inl ⟨rfl, rfl⟩⟩⟩
    case round =>
      clear G0 B0 B1
      obtain ⟨i, v, i1, i2, rfl, hsz, hb, hg, hown⟩ := hrel
      have hbw := hid (two_boxes_below hb.out)
      have f0 := (two_boxes hb.out 0).1
      have f1 := (two_boxes hb.out 1).1
      have f2 := (two_boxes hb.out 2).1
      have f3 := (two_boxes hb.out 3).1
      simp at f0 f1 f2 f3
      by_cases hit : i < n ∧ i < 20
      · obtain ⟨c1, c2⟩ := hit
        obtain ⟨bC, oC, rfl, zC, hC⟩ : ∃ b off, aC = some ⟨b, off, none⟩ ∧ b < wr.heap.size ∧ ∀ m, m < n → CelIs wr b (off + m * 5) (C m) := by
          rcases HCS.out.below hbw.out with h | h
          · omega
          · exact h
        obtain ⟨g0, g1, g2, g3, g4⟩ := hC i c1
        obtain ⟨u0, u1, u2, u3, u4⟩ := H64.out.cel i c1
        have KC := hid (fun W => kcell_any (C i).kind (C i).a (C i).b (C i).c (C i).k i W c2 u0 u1 u2 u3 u4)
        have lt' : (i : Int) < (n : Int) := by omega
        clear hC u0 u1 u2 u3 u4
        go_wp2_with fail
        refine (KC.out _).mono ?_
        rintro e w5 ⟨rfl, hb5⟩
        have s5 := hb5.size
        have K1 := hid (hb.out.trans (hb5.mono (by omega)))
        have K2 := hid (hg.out.of_block (hb5.block _ hsz))
        have K3 := hid (own_of_block hown.out (w' := w5) (fun g _ hlt => hb5.block g hlt))
        have MR : Hid (cells5 (fun j => shCel (C j) j) (i + 1) = cells5 (fun j => shCel (C j) j) i ++ [.int .i64 (shCel (C i) i).kind, .int .i64 (shCel (C i) i).a, .int .i64 (shCel (C i) i).b, .int .i64 (shCel (C i) i).c, .int .i64 (shCel (C i) i).k]) := cells5_more _ i
        have ECI : (⟨(C i).kind, (C i).a, (C i).b, (C i).c, (C i).k⟩ : Cel) = C i := rfl
        rw [ECI]
        clear ECI hb5 hb hg hown hbw KC g0 g1 g2 g3 g4 f0 f1 f2 f3
        generalize shCel (C i) i = sc at *
        have d0 := K2.out.cell (i := 0) (by omega)
        have d9 := K2.out.frozen 0
        simp [gCopy] at d0
        have z5 : w.heap.size + 1 + 1 < w5.heap.size := by omega
        have d0a : ∀ o, (w5.alloc o).cell? ⟨w.heap.size + 1 + 1, 0, none⟩ = some v := fun o => by rw [World.cell?_alloc_lt (h := z5)]; exact d0
        go_wp2_with (at_builtin; refine wpList_append_lies _ rfl (.tmp 27) (.tmp 29) 22 rfl (w.heap.size + 1 + 1 + 1) 47 i76 _ 5 40 Tryz.underlying22 I76.out Z76.out.1 Z76.out.2.1 Z76.out.2.2 rfl (by omega) v i (cells5 (fun j => shCel (C j) j) i) (by rfl) (own_alloc0 (own_alloc0 K3.out _) _) ⟨w5.heap.size + 1, 0, none⟩ 1 1 [.int .i64 sc.kind, .int .i64 sc.a, .int .i64 sc.b, .int .i64 sc.c, .int .i64 sc.k] (by rfl) (by rfl) (news5k _ _ _ _ _ _ _ (by simp)) (by simp [Value.oneCell']) (by omega) (by unfold maxLen; omega) (by omega) (by simp; omega) (w5.heap.size + 1 + 1) (by simp) ?_; intro g cap w6 hown2 hgrow hat hlt; refine stopH ?_)
        have NE : v.ownBlock ≠ some (w.heap.size + 1 + 1) := fun e => by have := own_base K3.out e; omega
        have far : ∀ b, b < w5.heap.size → v.ownBlock ≠ some b → w6.heap[b]? = w5.heap[b]? := fun b hb hne => (hgrow.block b (by simp; omega) (fun e => hne e.symm)).trans ((Below.heap_alloc _ _ b (by simp; omega)).trans (Below.heap_alloc w5 _ b hb))
        have hbk := far _ z5 NE
        have e8 : w6.cell? ⟨w.heap.size + 1 + 1, 0, none⟩ = some v := by rw [World.cell?_of_block (w := w5) hbk]; exact d0
        have e9 : w6.frozen? ⟨w.heap.size + 1 + 1, 0, none⟩ = false := by rw [World.frozen?_of_block (w := w5) hbk]; exact d9
        have s6 := hgrow.size
        simp at s6
        have B6 : Below (w.heap.size + 1 + 1) w5 w6 := ⟨hgrow.os, hgrow.tape, hgrow.output, by omega, fun b hb => far b (by omega) (fun e => by have := own_base K3.out e; omega)⟩
        have N1 := hid ((K1.out.trans B6).setCell (p := ⟨w.heap.size + 1 + 1, 0, none⟩) (Nat.le_refl _) (.slice (some ⟨g, 0, none⟩) (i + 1) cap))
        have N2 : Hid ((w6.setCell ⟨w.heap.size + 1 + 1, 0, none⟩ (.slice (some ⟨g, 0, none⟩) (i + 1) cap)).rowIs (w.heap.size + 1 + 1) 26 4 (gCopy (.slice (some ⟨g, 0, none⟩) (i + 1) cap) (.slice none 0 0) 0 (.slice none 0 0))) := ((K2.out.of_block hbk).set 0 _).congr (fun j hj => by
          have : j = 0 ∨ j = 1 ∨ j = 2 ∨ j = 3 := by omega
          rcases this with rfl | rfl | rfl | rfl <;> rfl)
        have N3 : Hid ((w6.setCell ⟨w.heap.size + 1 + 1, 0, none⟩ (.slice (some ⟨g, 0, none⟩) (i + 1) cap)).ownsRow (w.heap.size + 1 + 1 + 1) 47 5 (.slice (some ⟨g, 0, none⟩) (i + 1) cap) (i + 1) (cells5 (fun j => shCel (C j) j) (i + 1))) := by
          rw [MR.out]
          exact ownsRow_setCell_below hown2 (show w.heap.size + 1 + 1 < w.heap.size + 1 + 1 + 1 by omega) _
        have N4 : Hid (w.heap.size + 1 + 1 < (w6.setCell ⟨w.heap.size + 1 + 1, 0, none⟩ (.slice (some ⟨g, 0, none⟩) (i + 1) cap)).heap.size) := by show _ < _; simp; omega
        clear far hbk B6 hown2 hgrow hat hlt K1 K2 K3 d0 d0a d9 MR
        refine hid ?_
        go_wp2
        go_roundw
        case rel => exact ⟨i + 1, .slice (some ⟨g, 0, none⟩) (i + 1) cap, by omega, by omega, by go_num, N4.out, N1, N2, N3⟩
        case measure => simp [intOf]; omega
      · have ii : i = min n 20 := by omega
        clear hit
        have cs : (¬ ((i : Int) < (n : Int))) ∨ (((i : Int) < (n : Int)) ∧ ¬ ((i : Int) < 20)) := by omega
        have II := hid ii
        clear ii
        rcases cs with g1 | ⟨g1, g2⟩
        all_goals (go_wp2_with fail; go_meet; exact ⟨i, v, II, hsz, hb, hg, hown⟩)
  case rest =>
    clear G0 B0 B1
    obtain ⟨m, v, hm, hsz, hb, hg, hown⟩ := hcut
    have d0 := hg.out.cell (i := 0) (by omega)
    simp [gCopy] at d0
    obtain ⟨a0, c0, rfl⟩ := own_len hown.out
    go_upto_if 35 with (fail)
    go_cut [] (fun wx => ∃ (av : Option Addr) (cv : Nat), w.heap.size + 1 + 1 < wx.heap.size ∧ Hid (Below (w.heap.size + 1 + 1) ((w.alloc (.cells #[.slice aC n cC, .slice aR k cR, .int .i64 week, .slice aH hol.length cH] 26)).alloc (.cells #[.slice none 0 0, .slice none 0 0, .int .i64 0, .slice none 0 0] 26)) wx) ∧ Hid (wx.rowIs (w.heap.size + 1 + 1) 26 4 (gCopy (.slice av f.n cv) (.slice none 0 0) 0 (.slice none 0 0))) ∧ Hid (wx.ownsRow (w.heap.size + 1 + 1 + 1) 47 5 (.slice av f.n cv) f.n (cells5 f.C f.n)))
    case first =>
      by_cases n0 : n = 0
      · have e0 : m = 0 := by have := hm.out; omega
        have fn1 : f.n = 1 := by rw [FNE.out, if_pos n0]
        have MR : Hid (cells5 f.C f.n = [.int .i64 1, .int .i64 0, .int .i64 0, .int .i64 0, .int .i64 1]) := by
          show _ = _
          rw [fn1]
          have := cells5_more f.C 0
          rw [Nat.zero_add, FC0.out n0 0] at this
          rw [this]
          rfl
        have F1N : Hid (f.n = 1) := fn1
        subst e0
        have NE : Hid ((Value.slice a0 0 c0).ownBlock ≠ some (w.heap.size + 1 + 1)) := fun e => by have := own_base hown.out e; omega
        have d9 := hg.out.frozen 0
        clear hm fn1 n0
        go_wp2_with (at_builtin; refine wpList_append_lies _ rfl (.tmp 37) (.tmp 39) 22 rfl (w.heap.size + 1 + 1 + 1) 47 i76 _ 5 40 Tryz.underlying22 I76.out Z76.out.1 Z76.out.2.1 Z76.out.2.2 rfl (by omega) (.slice a0 0 c0) 0 (cells5 (fun j => shCel (C j) j) 0) (by rfl) (own_alloc0 hown.out _) ⟨wc.heap.size, 0, none⟩ 1 1 [.int .i64 1, .int .i64 0, .int .i64 0, .int .i64 0, .int .i64 1] (by rfl) (by rfl) (news5k _ _ _ _ _ _ _ (by simp)) (by simp [Value.oneCell']) (by omega) (by unfold maxLen; omega) (by omega) (by simp; omega) (wc.heap.size + 1) (by simp) ?_; intro g cap w6 hown2 hgrow hat hlt; refine stopH ?_)
        have hbk : w6.heap[w.heap.size + 1 + 1]? = wc.heap[w.heap.size + 1 + 1]? := ev_far0 wc _ hgrow hsz NE.out
        have e8 : w6.cell? ⟨w.heap.size + 1 + 1, 0, none⟩ = some (.slice a0 0 c0) := by rw [World.cell?_of_block (w := wc) hbk]; exact d0
        have e9 : w6.frozen? ⟨w.heap.size + 1 + 1, 0, none⟩ = false := by rw [World.frozen?_of_block (w := wc) hbk]; exact d9
        have B6 : Below (w.heap.size + 1 + 1) wc w6 := grow_below0 hgrow (by omega) (fun g hg' => by have := own_base hown.out hg'; omega)
        have s6 := B6.size
        have lo : w.heap.size + 1 + 1 < w.heap.size + 1 + 1 + 1 := by omega
        have T1 := hid ((hb.out.trans B6).setCell (p := ⟨w.heap.size + 1 + 1, 0, none⟩) (Nat.le_refl _) (.slice (some ⟨g, 0, none⟩) (0 + 1) cap))
        have T2 : Hid ((w6.setCell ⟨w.heap.size + 1 + 1, 0, none⟩ (.slice (some ⟨g, 0, none⟩) (0 + 1) cap)).rowIs (w.heap.size + 1 + 1) 26 4 (gCopy (.slice (some ⟨g, 0, none⟩) (0 + 1) cap) (.slice none 0 0) 0 (.slice none 0 0))) := ((hg.out.of_block hbk).set 0 _).congr (fun x hx => by
          have : x = 0 ∨ x = 1 ∨ x = 2 ∨ x = 3 := by omega
          rcases this with rfl | rfl | rfl | rfl <;> rfl)
        have T3 : Hid ((w6.setCell ⟨w.heap.size + 1 + 1, 0, none⟩ (.slice (some ⟨g, 0, none⟩) (0 + 1) cap)).ownsRow (w.heap.size + 1 + 1 + 1) 47 5 (.slice (some ⟨g, 0, none⟩) (0 + 1) cap) f.n (cells5 f.C f.n)) := by
          rw [MR.out, F1N.out]
          exact ownsRow_setCell_below hown2 lo _
        have T4 : Hid (w.heap.size + 1 + 1 < (w6.setCell ⟨w.heap.size + 1 + 1, 0, none⟩ (.slice (some ⟨g, 0, none⟩) (0 + 1) cap)).heap.size) := by show _ < _; simp; omega
        clear hbk B6 hown2 hgrow hat hlt hown hg hb s6 lo MR NE d9
        refine hid ?_
        generalize hv9 : (Value.slice (some ⟨g, 0, none⟩) (0 + 1) cap) = v9 at *
        clear hv9
        obtain ⟨av, cv, rfl⟩ := own_len T3.out
        go_wp2_with fail
        go_meet
        exact ⟨av, cv, T4.out, T1, T2, T3⟩
      · have e1 : m = f.n := by rw [FNE.out, if_neg n0]; exact hm.out
        have T3 : Hid (wc.ownsRow (w.heap.size + 1 + 1 + 1) 47 5 (.slice a0 f.n c0) f.n (cells5 f.C f.n)) := by
          rw [← e1, show f.C = fun j => shCel (C j) j from funext (FCE.out n0)]
          exact hown.out
        have ne0 : ((f.n : Int) == 0) = false := beq_eq_false_iff_ne.2 (by have := FN.1; omega)
        subst e1
        clear hm hown
        go_wp2_with fail
        go_meet
        exact ⟨a0, c0, hsz, hb, hg, T3⟩
    case rest =>
      clear hb hg hown hm d0 hsz
      obtain ⟨av, cv, hsz, T1, T2, T3⟩ := hcut
      have T4 := hid hsz
      go_wp2
      go_loopw [6] (fun t wr => ∃ (j : Nat) (v2 : Value) (sv : Nat → Value), j ≤ k ∧ j ≤ 6 ∧ t = .int .i64 j ∧ w.heap.size + 1 + 1 < wr.heap.size ∧ Hid (Below (w.heap.size + 1 + 1) ((w.alloc (.cells #[.slice aC n cC, .slice aR k cR, .int .i64 week, .slice aH hol.length cH] 26)).alloc (.cells #[.slice none 0 0, .slice none 0 0, .int .i64 0, .slice none 0 0] 26)) wr) ∧ Hid (wr.rowIs (w.heap.size + 1 + 1) 26 4 (gCopy (.slice av f.n cv) (.slice none 0 0) 0 v2)) ∧ Hid (wr.ownsRow (w.heap.size + 1 + 1 + 1) 47 5 (.slice av f.n cv) f.n (cells5 f.C f.n)) ∧ Hid (wr.ownsRow (w.heap.size + 1 + 1 + 1) 51 2 v2 j (rules2 f.R sv j)) ∧ Hid (∀ x, x < j → wr.ownsRow (w.heap.size + 1 + 1 + 1) 3 1 (sv x) (f.R x).steps.length ((f.R x).steps.map (fun y => Value.int .i64 y)))) (fun t _ => 6 - (intOf t).toNat)
      case atStart => exact ⟨0, .slice none 0 0, fun _ => .slice none 0 0, by omega, by omega, rfl, T4.out, T1, T2, T3, ⟨rfl, Or.inl ⟨rfl, rfl⟩⟩, fun x hx => by omega⟩
      case round =>
        clear T1 T2 T3 T4 hsz
        obtain ⟨j, v2, sv, j1, j2, rfl, hsz, hb, hg, hown, hru, hst⟩ := hrel
        have hbw := hid (two_boxes_below hb.out)
        have f1 := (two_boxes hb.out 1).1
        have f2 := (two_boxes hb.out 2).1
        have f3 := (two_boxes hb.out 3).1
        simp at f1 f2 f3
        by_cases hit : j < k ∧ j < 6
        · obtain ⟨c1, c2⟩ := hit
          obtain ⟨bR, oR, haR, zR, zR0, hRR⟩ : ∃ b off, aR = some ⟨b, off, none⟩ ∧ b < wr.heap.size ∧ b < w.heap.size ∧ ∀ m, m < k → RuleRaw wr b (off + m * 2) (R m) := by
            rcases HRS.out with h | ⟨b, o, e1, e2, e3⟩
            · omega
            · exact ⟨b, o, e1, by have := hbw.out.size; omega, e2, fun m hm => (e3 m hm).below hbw.out e2 (Nat.le_refl _)⟩
          subst haR
          obtain ⟨u0, ast, caps, u1, u2, u3⟩ := hRR j c1
          have KS := hid (fun W (hW : Below wr.heap.size wr W) => kstepsR_any (R j).steps ast caps W u3 (SlAt.below u2 hW (Nat.le_refl _)) (H64.out.stp j c1))
          have lt' : (j : Int) < (k : Int) := by omega
          clear hRR u2
          go_upto_block 3 with (fail)
          go_cut [] (fun wx => ∃ (v2 : Value) (sv : Nat → Value), w.heap.size + 1 + 1 < wx.heap.size ∧ Hid (Below (w.heap.size + 1 + 1) ((w.alloc (.cells #[.slice aC n cC, .slice (some ⟨bR, oR, none⟩) k cR, .int .i64 week, .slice aH hol.length cH] 26)).alloc (.cells #[.slice none 0 0, .slice none 0 0, .int .i64 0, .slice none 0 0] 26)) wx) ∧ Hid (wx.rowIs (w.heap.size + 1 + 1) 26 4 (gCopy (.slice av f.n cv) (.slice none 0 0) 0 v2)) ∧ Hid (wx.ownsRow (w.heap.size + 1 + 1 + 1) 47 5 (.slice av f.n cv) f.n (cells5 f.C f.n)) ∧ Hid (wx.ownsRow (w.heap.size + 1 + 1 + 1) 51 2 v2 (j + 1) (rules2 f.R sv (j + 1))) ∧ Hid (∀ x, x < j + 1 → wx.ownsRow (w.heap.size + 1 + 1 + 1) 3 1 (sv x) (f.R x).steps.length ((f.R x).steps.map (fun y => Value.int .i64 y))))
          case rest =>
            obtain ⟨v3, sv3, r1, r2, r3, r4, r5, r6⟩ := hcut
            go_wp2
            go_roundw
            case rel => exact ⟨j + 1, v3, sv3, by omega, by omega, by go_num, r1, r2, r3, r4, r5, r6⟩
            case measure => simp [intOf]; omega
          case first =>
            go_wp2_with fail
            refine (KS.out _ (Below.refl _ _)).mono ?_
            rintro e w5 ⟨vs, rfl, hvs, hb5⟩
            have s5 := hb5.size
            have RJ := FRE.out j
            have VS : Hid (w5.ownsRow (w.heap.size + 1 + 1 + 1) 3 1 vs (f.R j).steps.length ((f.R j).steps.map (fun y => Value.int .i64 y))) := by
              rw [RJ]
              exact own_mono hvs (by omega)
            have GJ : Hid ((f.R j).guard = pickI (R j).guard (f.n : Nat)) := by show _ = _; rw [RJ]
            have K1 : Hid (Below (w.heap.size + 1 + 1) ((w.alloc (.cells #[.slice aC n cC, .slice (some ⟨bR, oR, none⟩) k cR, .int .i64 week, .slice aH hol.length cH] 26)).alloc (.cells #[.slice none 0 0, .slice none 0 0, .int .i64 0, .slice none 0 0] 26)) w5) := hb.out.trans (hb5.mono (by omega))
            have K2 := hid (hg.out.of_block (hb5.block _ hsz))
            have K3 := hid (own_of_block hown.out (w' := w5) (fun g _ hlt => hb5.block g hlt))
            have K4 := hid (own_of_block hru.out (w' := w5) (fun g _ hlt => hb5.block g hlt))
            have K5 : Hid (∀ x, x < j → w5.ownsRow (w.heap.size + 1 + 1 + 1) 3 1 (sv x) (f.R x).steps.length ((f.R x).steps.map (fun y => Value.int .i64 y))) := fun x hx => own_of_block (hst.out x hx) (fun g _ hlt => hb5.block g hlt)
            have q0 : w5.cell? ⟨bR, oR + j * 2, none⟩ = some (.int .i64 (R j).guard) := by rw [hb5.cell (p := ⟨bR, oR + j * 2, none⟩) zR]; exact u0
            have zR5 : bR < w5.heap.size := by omega
            have z5 : w.heap.size + 1 + 1 < w5.heap.size := by omega
            have PK := hid (fun W => kpick_any (R j).guard (f.n : Nat) W (H64.out.grd j c1) (by have := FN.1; omega) (by have := FN.2; omega))
            rw [← GJ.out] at PK
            obtain ⟨avs, cvs, rfl⟩ := own_len VS.out
            clear hb5 hb hg hown hru hst hbw KS u0 u1 f1 f2 f3 RJ hvs
            have f1 := (two_boxes K1.out 1).1
            simp at f1
            have d0 := K2.out.cell (i := 0) (by omega)
            have d1 := K2.out.cell (i := 1) (by omega)
            have d9 := K2.out.frozen 1
            simp [gCopy] at d0 d1
            have d1a : ∀ o, (w5.alloc o).cell? ⟨w.heap.size + 1 + 1, 1, none⟩ = some v2 := fun o => by rw [World.cell?_alloc_lt (h := z5)]; exact d1
            have NE : Hid (v2.ownBlock ≠ some (w.heap.size + 1 + 1)) := fun e => by have := own_base K4.out e; omega
            generalize (R j).guard = rg at *
            generalize hgj : (f.R j).guard = gj at *
            have FIN : Hid (∀ (g cap : Nat) (w6 : World) (o : Obj), w6.ownsRow (w.heap.size + 1 + 1 + 1) 51 2 (.slice (some ⟨g, 0, none⟩) (j + 1) cap) (j + 1) (rules2 f.R sv j ++ [.int .i64 gj, .slice avs (f.R j).steps.length cvs]) → ((w5.alloc o).drew).grownBy w6 v2.ownBlock → ∃ (v2 : Value) (sv : Nat → Value), w.heap.size + 1 + 1 < (w6.setCell ⟨w.heap.size + 1 + 1, 1, none⟩ (.slice (some ⟨g, 0, none⟩) (j + 1) cap)).heap.size ∧ Hid (Below (w.heap.size + 1 + 1) ((w.alloc (.cells #[.slice aC n cC, .slice (some ⟨bR, oR, none⟩) k cR, .int .i64 week, .slice aH hol.length cH] 26)).alloc (.cells #[.slice none 0 0, .slice none 0 0, .int .i64 0, .slice none 0 0] 26)) (w6.setCell ⟨w.heap.size + 1 + 1, 1, none⟩ (.slice (some ⟨g, 0, none⟩) (j + 1) cap))) ∧ Hid ((w6.setCell ⟨w.heap.size + 1 + 1, 1, none⟩ (.slice (some ⟨g, 0, none⟩) (j + 1) cap)).rowIs (w.heap.size + 1 + 1) 26 4 (gCopy (.slice av f.n cv) (.slice none 0 0) 0 v2)) ∧ Hid ((w6.setCell ⟨w.heap.size + 1 + 1, 1, none⟩ (.slice (some ⟨g, 0, none⟩) (j + 1) cap)).ownsRow (w.heap.size + 1 + 1 + 1) 47 5 (.slice av f.n cv) f.n (cells5 f.C f.n)) ∧ Hid ((w6.setCell ⟨w.heap.size + 1 + 1, 1, none⟩ (.slice (some ⟨g, 0, none⟩) (j + 1) cap)).ownsRow (w.heap.size + 1 + 1 + 1) 51 2 v2 (j + 1) (rules2 f.R sv (j + 1))) ∧ Hid (∀ x, x < j + 1 → (w6.setCell ⟨w.heap.size + 1 + 1, 1, none⟩ (.slice (some ⟨g, 0, none⟩) (j + 1) cap)).ownsRow (w.heap.size + 1 + 1 + 1) 3 1 (sv x) (f.R x).steps.length ((f.R x).steps.map (fun y => Value.int .i64 y)))) := fun g cap w6 o hown2 hgrow => by
              have hbk : w6.heap[w.heap.size + 1 + 1]? = w5.heap[w.heap.size + 1 + 1]? := ev_far w5 _ hgrow z5 NE.out
              have GB : Below (w.heap.size + 1 + 1) w5 w6 := grow_below hgrow (by omega) (fun g hg' => by have := own_base K4.out hg'; omega)
              have s6 := GB.size
              have lo : w.heap.size + 1 + 1 < w.heap.size + 1 + 1 + 1 := by omega
              have N1 := hid ((K1.out.trans GB).setCell (p := ⟨w.heap.size + 1 + 1, 1, none⟩) (Nat.le_refl _) (.slice (some ⟨g, 0, none⟩) (j + 1) cap))
              have N2 : Hid ((w6.setCell ⟨w.heap.size + 1 + 1, 1, none⟩ (.slice (some ⟨g, 0, none⟩) (j + 1) cap)).rowIs (w.heap.size + 1 + 1) 26 4 (gCopy (.slice av f.n cv) (.slice none 0 0) 0 (.slice (some ⟨g, 0, none⟩) (j + 1) cap))) := ((K2.out.of_block hbk).set 1 _).congr (fun x _ => gCopy_set x)
              have N3 : Hid ((w6.setCell ⟨w.heap.size + 1 + 1, 1, none⟩ (.slice (some ⟨g, 0, none⟩) (j + 1) cap)).ownsRow (w.heap.size + 1 + 1 + 1) 47 5 (.slice av f.n cv) f.n (cells5 f.C f.n)) := ownsRow_setCell_below (own_far K3.out K4.out (by decide) hgrow) lo _
              have N4 : Hid ((w6.setCell ⟨w.heap.size + 1 + 1, 1, none⟩ (.slice (some ⟨g, 0, none⟩) (j + 1) cap)).ownsRow (w.heap.size + 1 + 1 + 1) 51 2 (.slice (some ⟨g, 0, none⟩) (j + 1) cap) (j + 1) (rules2 f.R (upd sv j (.slice avs (f.R j).steps.length cvs)) (j + 1))) := by
                rw [rules2_more, hgj]
                exact ownsRow_setCell_below hown2 lo _
              have N5 : Hid (∀ x, x < j + 1 → (w6.setCell ⟨w.heap.size + 1 + 1, 1, none⟩ (.slice (some ⟨g, 0, none⟩) (j + 1) cap)).ownsRow (w.heap.size + 1 + 1 + 1) 3 1 (upd sv j (.slice avs (f.R j).steps.length cvs) x) (f.R x).steps.length ((f.R x).steps.map (fun y => Value.int .i64 y))) := fun x hx => by
                by_cases e : x = j
                · subst e
                  rw [upd_same]
                  exact ownsRow_setCell_below (own_far VS.out K4.out (by decide) hgrow) lo _
                · rw [upd_other _ _ e]
                  exact ownsRow_setCell_below (own_far (K5.out x (by omega)) K4.out (by decide) hgrow) lo _
              have N6 : Hid (w.heap.size + 1 + 1 < (w6.setCell ⟨w.heap.size + 1 + 1, 1, none⟩ (.slice (some ⟨g, 0, none⟩) (j + 1) cap)).heap.size) := by show _ < _; simp; omega
              exact ⟨.slice (some ⟨g, 0, none⟩) (j + 1) cap, upd sv j (.slice avs (f.R j).steps.length cvs), N6.out, N1, N2, N3, N4, N5⟩
            go_upto_region 13 with (fail)
            go_region_law (first | (refine step_append_lies _ rfl (.tmp 61) (.tmp 74) 23 rfl (w.heap.size + 1 + 1 + 1) 51 i80 _ 2 32 Tryz.underlying23 I80.out Z80.out.1 Z80.out.2.1 Z80.out.2.2 rfl (by omega) v2 j (rules2 f.R sv j) (by simp [Act.eval, Act.put]) (by exact own_alloc_drew K4.out _) ⟨w5.heap.size, 0, none⟩ 1 1 [.int .i64 gj, .slice avs (f.R j).steps.length cvs] (by simp [Act.eval, Act.put]) (by rfl) (by exact news2 _ _ _ _) (by simp [Value.oneCell']) (by omega) (by unfold maxLen; omega) (by omega) (by simp; omega) (w5.heap.size + 1) (by simp) ?_; intro g cap w6 hown2 hgrow hat hlt; have hbk : w6.heap[w.heap.size + 1 + 1]? = w5.heap[w.heap.size + 1 + 1]? := ev_far w5 _ hgrow z5 NE.out; have e8 : w6.cell? ⟨w.heap.size + 1 + 1, 1, none⟩ = some v2 := (by rw [World.cell?_of_block (w := w5) hbk]; exact d1); have e9 : w6.frozen? ⟨w.heap.size + 1 + 1, 1, none⟩ = false := (by rw [World.frozen?_of_block (w := w5) hbk]; exact d9); have k0 : w6.cell? ⟨w.heap.size + 1 + 1, 0, none⟩ = some (.slice av f.n cv) := (by rw [World.cell?_of_block (w := w5) hbk]; exact d0); have k1 : w6.cell? ⟨w.heap.size, 1, none⟩ = some (.slice (some ⟨bR, oR, none⟩) k cR) := (by rw [World.cell?_of_block (w := w5) (show w6.heap[w.heap.size]? = w5.heap[w.heap.size]? from ev_far w5 _ hgrow (by omega) (fun e => by have := own_base K4.out e; omega))]; exact f1); have k2 : w6.cell? ⟨bR, oR + j * 2, none⟩ = some (.int .i64 rg) := (by rw [World.cell?_of_block (w := w5) (show w6.heap[bR]? = w5.heap[bR]? from ev_far w5 _ hgrow (by omega) (fun e => by have := own_base K4.out e; omega))]; exact q0)) | (go_simp; go_at_call 17; refine (PK.out _).mono ?_; rintro e w' ⟨rfl, hw⟩; rw [hw]; clear hw w') | fail)
            all_goals (go_wp2_with fail; go_meet; exact FIN.out _ _ _ _ hown2 hgrow)
        · have jj : j = min k 6 := by omega
          clear hit
          have EK : Hid (j = f.k) := by show _ = _; rw [FKE.out]; exact jj
          have cs2 : (¬ ((j : Int) < (k : Int))) ∨ (((j : Int) < (k : Int)) ∧ ¬ ((j : Int) < 6)) := by omega
          clear jj
          have PKW := hid (fun W => kpick_any week 127 W H64.out.wk (by omega) (by omega))
          have pb := pickI_bd week (n := 127) (by omega)
          have HH := hid (fun W (hW : Below w.heap.size w W) => kholidaysR_any hol aH cH W hhl (SlAt.below HHS.out hW (Nat.le_refl _)) H64.out.hol)
          have d2 := hg.out.cell (i := 2) (by omega)
          have dz : ∀ x, wr.frozen? ⟨w.heap.size + 1 + 1, x, none⟩ = false := fun x => hg.out.frozen x
          simp [gCopy] at d2
          have lo : w.heap.size + 1 + 1 < w.heap.size + 1 + 1 + 1 := by omega
          have WEQ : Hid (f.week = 1 + pickI week 127) := FWE.out
          generalize pickI week 127 = pw at *
          have N1 := hid (hb.out.setCell (p := ⟨w.heap.size + 1 + 1, 2, none⟩) (Nat.le_refl _) (.int .i64 (1 + pw)))
          have N2 : Hid ((wr.setCell ⟨w.heap.size + 1 + 1, 2, none⟩ (.int .i64 (1 + pw))).rowIs (w.heap.size + 1 + 1) 26 4 (gCopy (.slice av f.n cv) (.slice none 0 0) (1 + pw) v2)) := (hg.out.set 2 _).congr (fun x hx => by
            have : x = 0 ∨ x = 1 ∨ x = 2 ∨ x = 3 := by omega
            rcases this with rfl | rfl | rfl | rfl <;> rfl)
          have N3 : Hid ((wr.setCell ⟨w.heap.size + 1 + 1, 2, none⟩ (.int .i64 (1 + pw))).ownsRow (w.heap.size + 1 + 1 + 1) 47 5 (.slice av f.n cv) f.n (cells5 f.C f.n)) := ownsRow_setCell_below hown.out lo _
          have N4 : Hid ((wr.setCell ⟨w.heap.size + 1 + 1, 2, none⟩ (.int .i64 (1 + pw))).ownsRow (w.heap.size + 1 + 1 + 1) 51 2 v2 j (rules2 f.R sv j)) := ownsRow_setCell_below hru.out lo _
          have N5 : Hid (∀ x, x < j → (wr.setCell ⟨w.heap.size + 1 + 1, 2, none⟩ (.int .i64 (1 + pw))).ownsRow (w.heap.size + 1 + 1 + 1) 3 1 (sv x) (f.R x).steps.length ((f.R x).steps.map (fun y => Value.int .i64 y))) := fun x hx => ownsRow_setCell_below (hst.out x hx) lo _
          have N6 : Hid (w.heap.size + 1 + 1 < (wr.setCell ⟨w.heap.size + 1 + 1, 2, none⟩ (.int .i64 (1 + pw))).heap.size) := by show _ < _; simp; omega
          rcases cs2 with q1 | ⟨q1, q2⟩
          all_goals (
            go_wp2_with fail
            refine (PKW.out _).mono ?_
            rintro e w' ⟨rfl, hw⟩
            rw [hw]
            clear hw w'
            go_wp2_with fail
            refine (HH.out _ (two_boxes_below N1.out)).mono ?_
            rintro e w5 ⟨vh, rfl, hvh, hb5⟩
            have s5 := hb5.size
            simp at s5
            have z5 : w.heap.size + 1 + 1 < w5.heap.size := by omega
            have VH : Hid (w5.ownsRow (w.heap.size + 1 + 1 + 1) 3 1 vh f.hol.length (f.hol.map (fun y => Value.int .i64 y))) := by
              rw [FHE.out]
              exact own_mono hvh (by have := N6.out; omega)
            have K1 := hid (N1.out.trans (hb5.mono (by have := N6.out; omega)))
            have K2 := hid (N2.out.of_block (hb5.block _ N6.out))
            have K3 := hid (own_of_block N3.out (w' := w5) (fun g _ hlt => hb5.block g hlt))
            have K4 := hid (own_of_block N4.out (w' := w5) (fun g _ hlt => hb5.block g hlt))
            have K5 : Hid (∀ x, x < j → w5.ownsRow (w.heap.size + 1 + 1 + 1) 3 1 (sv x) (f.R x).steps.length ((f.R x).steps.map (fun y => Value.int .i64 y))) := fun x hx => own_of_block (N5.out x hx) (fun g _ hlt => hb5.block g hlt)
            obtain ⟨ah, ch, rfl⟩ := own_len VH.out
            obtain ⟨a2, c2, rfl⟩ := own_len K4.out
            clear hb5 hvh N1 N2 N3 N4 N5 N6 hb hg hown hru hst d2 dz f1 f2 f3
            obtain ⟨_, F2⟩ := two_rows K1.out (gCopy (.slice aC n cC) (.slice aH hol.length cH) week (.slice aR k cR)) (gf 0) (fun i hi => by
              have hi' : i = 0 ∨ i = 1 ∨ i = 2 ∨ i = 3 := by simp at hi; omega
              rcases hi' with rfl | rfl | rfl | rfl <;> rfl) (fun i hi => by
              have hi' : i = 0 ∨ i = 1 ∨ i = 2 ∨ i = 3 := by simp at hi; omega
              rcases hi' with rfl | rfl | rfl | rfl <;> rfl)
            have F2' : w5.rowIs (w.heap.size + 1) 26 4 (gf 0) := F2
            have d0 := K2.out.cell (i := 0) (by omega)
            have d1 := K2.out.cell (i := 1) (by omega)
            have d2 := K2.out.cell (i := 2) (by omega)
            have d3 := K2.out.cell (i := 3) (by omega)
            have dz : ∀ x, w5.frozen? ⟨w.heap.size + 1 + 1, x, none⟩ = false := fun x => K2.out.frozen x
            simp [gCopy] at d0 d1 d2 d3
            have r0 := F2'.cell (i := 0) (by omega)
            have r1 := F2'.cell (i := 1) (by omega)
            have r2 := F2'.cell (i := 2) (by omega)
            have r3 := F2'.cell (i := 3) (by omega)
            have rz : ∀ x, w5.frozen? ⟨w.heap.size + 1, x, none⟩ = false := fun x => F2'.frozen x
            simp [gf] at r0 r1 r2 r3
            have hx : ∃ FW, FW = (((((w5.setCell ⟨w.heap.size + 1 + 1, 3, none⟩ (.slice ah f.hol.length ch)).setCell ⟨w.heap.size + 1, 0, none⟩ (.slice av f.n cv)).setCell ⟨w.heap.size + 1, 1, none⟩ (.slice a2 j c2)).setCell ⟨w.heap.size + 1, 2, none⟩ (.int .i64 (1 + pw))).setCell ⟨w.heap.size + 1, 3, none⟩ (.slice ah f.hol.length ch)) := ⟨_, rfl⟩
            obtain ⟨FW, hFW⟩ := hx
            have P0 : Hid (FW.rowIs (w.heap.size + 1) 26 4 (fun x => if x = 3 then .slice ah f.hol.length ch else if x = 2 then .int .i64 (1 + pw) else if x = 1 then .slice a2 j c2 else if x = 0 then .slice av f.n cv else gf 0 x)) := by
              rw [hFW]
              exact ((((F2'.setOther (by show w.heap.size + 1 ≠ w.heap.size + 1 + 1; omega) _).set _ _).set _ _).set _ _).set _ _
            have l1 : w.heap.size + 1 < w.heap.size + 1 + 1 + 1 := by omega
            have MV : ∀ e sz v nn xs, w5.ownsRow (w.heap.size + 1 + 1 + 1) e sz v nn xs → FW.ownsRow (w.heap.size + 1 + 1 + 1) e sz v nn xs := fun e sz v nn xs h => by
              rw [hFW]
              exact ownsRow_setCell_below (ownsRow_setCell_below (ownsRow_setCell_below (ownsRow_setCell_below (ownsRow_setCell_below h lo _) l1 _) l1 _) l1 _) l1 _
            have P2 : Below w.heap.size w FW := by
              rw [hFW]
              exact (((((two_boxes_below K1.out).setCell (by show _ ≤ w.heap.size + 1 + 1; omega) _).setCell (by show _ ≤ w.heap.size + 1; omega) _).setCell (by show _ ≤ w.heap.size + 1; omega) _).setCell (by show _ ≤ w.heap.size + 1; omega) _).setCell (by show _ ≤ w.heap.size + 1; omega) _
            have Q : Hid (ShP f w (.returned (.agg #[.slice av f.n cv, .slice a2 j c2, .int .i64 (1 + pw), .slice ah f.hol.length ch])) FW) := by
              refine ⟨_, rfl, ?_, P2⟩
              rw [← WEQ.out, EK.out]
              exact fat_of (MV _ _ _ _ _ K3.out) (by rw [← EK.out]; exact MV _ _ _ _ _ K4.out) (fun x hx => MV _ _ _ _ _ (K5.out x (by rw [EK.out]; exact hx))) (fun x hx => by rw [FRE.out x]; have := shSt_len 1000000000 4 0 (R x).steps; show (shSt 1000000000 4 0 (R x).steps).length ≤ _; omega) (MV _ _ _ _ _ VH.out)
            have HFW := hid hFW
            clear hFW P2 MV K1 K3 K4 K5 VH F2
            go_wp2
            rw [← HFW.out]
            have x0 := P0.out.cell (i := 0) (by omega)
            have x1 := P0.out.cell (i := 1) (by omega)
            have x2 := P0.out.cell (i := 2) (by omega)
            have x3 := P0.out.cell (i := 3) (by omega)
            simp at x0 x1 x2 x3
            exact bodyPost_ret (v := .agg #[.slice av f.n cv, .slice a2 j c2, .int .i64 (1 + pw), .slice ah f.hol.length ch]) (by simp [results, Tryz.results4, go_sem, x0, x1, x2, x3]) rfl Q.out)

end Go.Proofs.YtmofidaojmiepaaGreatDoor
