/-
  THE LAW: a script, played.
-/
import Derived.Test.YtkhpkpaglkinbaaGreatDoorH26
import Derived.Test.YtkhpkpaglkinbaaGreatDoorV2
set_option linter.unusedVariables false
set_option linter.unusedSimpArgs false
namespace Go.Proofs.YtkhpkpaglkinbaaGreatDoor
open Go.RowKit
attribute [local go_sem ↓] Go.wp_at_zero Go.wp_at_succ

/-- What stands behind i steps. -/
def Sta (C : Nat → Cel) (n : Nat) (R : Nat → Rul) (k : Nat) (week : Int) (hol : List Int) (L B bp bk cC : Nat) (aR : Option Addr) (cR : Nat) (aH : Option Addr) (cH bw bc : Nat) (aO : Option Addr) (cO bh bF cF bS bP bl cP i : Nat) (w : World) : Prop :=
  ∃ F Ck w0 S vE nE, nE ≤ 6 + 6 * i ∧ PSt C n R k week hol F w L B bp bk Ck cC aR cR aH cH w0 bw bc aO cO bh bF cF bS S vE nE bP bl cP

section
variable {C : Nat → Cel} {n : Nat} {R : Nat → Rul} {k : Nat} {week : Int} {hol : List Int} {L B bp bk cC : Nat} {aR : Option Addr} {cR : Nat} {aH : Option Addr} {cH bw bc : Nat} {aO : Option Addr} {cO bh bF cF bS bP bl cP i : Nat} {w : World}

theorem Sta.drop (h : Sta C n R k week hol L B bp bk cC aR cR aH cH bw bc aO cO bh bF cF bS bP bl cP i w) {w1 : World} (hb : Below w.heap.size w w1) : Sta C n R k week hol L B bp bk cC aR cR aH cH bw bc aO cO bh bF cF bS bP bl cP i w1 := by
  obtain ⟨F, Ck, w0, S, vE, nE, h1, h2⟩ := h
  exact ⟨F, Ck, w0, S, vE, nE, h1, h2.drop hb⟩

theorem Sta.next (h : Sta C n R k week hol L B bp bk cC aR cR aH cH bw bc aO cO bh bF cF bS bP bl cP i w) : Sta C n R k week hol L B bp bk cC aR cR aH cH bw bc aO cO bh bF cF bS bP bl cP (i + 1) w := by
  obtain ⟨F, Ck, w0, S, vE, nE, h1, h2⟩ := h
  exact ⟨F, Ck, w0, S, vE, nE, by omega, h2⟩

theorem Sta.lt (h : Sta C n R k week hol L B bp bk cC aR cR aH cH bw bc aO cO bh bF cF bS bP bl cP i w) : L ≤ w.heap.size := by
  obtain ⟨F, Ck, w0, S, vE, nE, h1, h2⟩ := h
  have a1 := h2.kst.p1
  have a2 := h2.kst.row.lt
  omega

theorem Sta.look (h : Sta C n R k week hol L B bp bk cC aR cR aH cH bw bc aO cO bh bF cF bS bP bl cP i w) (hf : FormOk C n R k week hol) :
    Calls Tryz.prog 6 #[.pointer (some ⟨bP, 0, none⟩), .agg #[.bool true, .bool false, .bool false]] w fun e w' => TPost w e w' := by
  obtain ⟨F, Ck, w0, S, vE, nE, h1, h2⟩ := h
  obtain ⟨n1, hn, hk, wk1, wk2⟩ := hf.sizes
  refine looks_any h2.pl (fun W hW => ?_)
  have h3 := h2.drop hW
  have b1 := h3.bbc
  have b2 := h3.base.hbc
  have b3 := h3.wst.row.lt
  exact pvals_any h3.kst (by omega) h3.tab h3.base h3.wst hn n1 wk1 wk2 hf.hol h3.eff (eff_ok h3.eff hf.cells h3.fv) (eff_ring h3.eff hf.ring) (Int.le_refl _) (by omega)

/-- What a step leaves. -/
def StaPost (C : Nat → Cel) (n : Nat) (R : Nat → Rul) (k : Nat) (week : Int) (hol : List Int) (L B bp bk cC : Nat) (aR : Option Addr) (cR : Nat) (aH : Option Addr) (cH bw bc : Nat) (aO : Option Addr) (cO bh bF cF bS bP bl cP i : Nat) (w : World) (e : Ending) (w' : World) : Prop :=
  e = .returned (.bool true) ∧ Below L w w' ∧ Sta C n R k week hol L B bp bk cC aR cR aH cH bw bc aO cO bh bF cF bS bP bl cP (i + 1) w'

theorem Sta.step (h : Sta C n R k week hol L B bp bk cC aR cR aH cH bw bc aO cO bh bF cF bS bP bl cP i w) (hf : FormOk C n R k week hol) (hi : i ≤ 1048576) (kd cs a b : Int) (hkd : kd ≤ 1) (hcs : I64 cs) :
    Calls Tryz.prog 7 #[.pointer (some ⟨bP, 0, none⟩), .agg #[.int .i64 kd, .int .i64 cs, .int .i64 a, .int .i64 b]] w fun e w' => StaPost C n R k week hol L B bp bk cC aR cR aH cH bw bc aO cO bh bF cF bS bP bl cP i w e w' := by
  obtain ⟨F, Ck, w0, S, vE, nE, h1, h2⟩ := h
  obtain ⟨n1, hn, hk, wk1, wk2⟩ := hf.sizes
  by_cases e1 : kd = 1
  · subst e1
    refine (step_set h2 hf hn n1 hk (by omega) wk1 wk2 cs a b hcs.1 hcs.2).mono ?_
    rintro e w' ⟨rfl, hb, F', Ck', w0', S', vE', nE', g1, g2⟩
    exact ⟨rfl, hb, F', Ck', w0', S', vE', nE', by omega, g2⟩
  · refine (step_none h2 kd cs a b (by omega) hcs.1 hcs.2).mono ?_
    rintro e w' ⟨rfl, hb, F', Ck', w0', S', vE', nE', g1, g2⟩
    exact ⟨rfl, hb, F', Ck', w0', S', vE', nE', by omega, g2⟩
end

set_option maxRecDepth 100000 in
set_option maxHeartbeats 2000000 in
theorem plays_any (C : Nat → Cel) (R : Nat → Rul) (hol : List Int) (aC aR aH aS : Option Addr) (n cC k cR cH m cS : Nat) (S : Nat → Stp) (week : Int) (w : World) (ht : Tab w) (hn : n ≤ 1000000000) (hk : k ≤ 1000000000) (hhl : hol.length ≤ 1000000000) (hsl : ∀ i, i < k → (R i).steps.length ≤ 1000000000) (hm : m ≤ 1048576)
    (hcs : CAt w aC n C) (hrs : RAt w aR k R) (hhs : IntsAt w (.slice aH hol.length cH) hol) (hsc : ScAt w aS m S) :
    Calls Tryz.prog 4 #[.agg #[.slice aC n cC, .slice aR k cR, .int .i64 week, .slice aH hol.length cH], .slice aS m cS, .int .i64 1, .agg #[.bool true, .bool false, .bool false]] w fun e w' => TPost w e w' := by
  have hb2 : Below w.heap.size w ((w.alloc (.cells #[.slice aC n cC, .slice aR k cR, .int .i64 week, .slice aH hol.length cH] 26)).alloc (.cells #[.bool true, .bool false, .bool false] 30)) := ((Below.refl _ _).alloc (Nat.le_refl _) _).alloc (by simp) _
  have BEG := hid (lawbegin_any C R hol aC aR aH n cC k cR cH week _ (ht.below hb2 (Nat.le_refl _)) hn hk hhl hsl (hcs.below hb2) (hrs.below hb2) (SlAt.below hhs hb2 (Nat.le_refl _)))
  have HSC := hid hsc
  clear hcs hrs hhs hsc hsl ht hb2
  go_enter Tryz.func4, Tryz.ntmps4
  go_wp2_with fail
  refine BEG.out.mono ?_
  rintro e1 w1 ⟨hb1, hcase⟩
  have B1 : Hid (Below (w.heap.size + 1 + 1) ((w.alloc (.cells #[.slice aC n cC, .slice aR k cR, .int .i64 week, .slice aH hol.length cH] 26)).alloc (.cells #[.bool true, .bool false, .bool false] 30)) w1) := by have h := hb1; rw [World.size_alloc, World.size_alloc] at h; exact h
  clear BEG hb1
  rcases hcase with rfl | ⟨hfo, F, L, B, bp, bk, Ck, cK, aK, cRK, aHK, cHK, w0, bw, bc, aO, cO, bh, bF, cF, bS, St, vE, nE, bP, bl, cP, rfl, hL, hE, hpst⟩
  · have Q : Hid (TPost w (.returned (.bool true)) w1) := ⟨rfl, two_boxes_below B1.out⟩
    go_wp2
    go_ret
    exact Q.out
  · have HFO := hid hfo
    have ST : Hid (Sta C n R k week hol L B bp bk cK aK cRK aHK cHK bw bc aO cO bh bF cF bS bP bl cP 0 w1) := ⟨F, Ck, w0, St, vE, nE, by omega, hpst⟩
    have hL' : w.heap.size + 1 + 1 ≤ L := by have h := hL; rw [World.size_alloc, World.size_alloc] at h; exact h
    clear hfo hpst hL hE
    go_wp2
    go_loopw [10, 11] (fun s t wr => ∃ i : Nat, i ≤ m ∧ s = .bool true ∧ t = .int .i64 i ∧ Hid (Below (w.heap.size + 1 + 1) ((w.alloc (.cells #[.slice aC n cC, .slice aR k cR, .int .i64 week, .slice aH hol.length cH] 26)).alloc (.cells #[.bool true, .bool false, .bool false] 30)) wr) ∧ Hid (Sta C n R k week hol L B bp bk cK aK cRK aHK cHK bw bc aO cO bh bF cF bS bP bl cP i wr)) (fun _ t _ => m - (intOf t).toNat)
    case atStart => exact ⟨0, by omega, rfl, rfl, B1, ST⟩
    case round =>
      obtain ⟨i, i1, rfl, rfl, hb, hst⟩ := hrel
      clear B1 ST
      have hbw := hid (two_boxes_below hb.out)
      have f0 := (two_boxes hb.out 0).2
      have f1 := (two_boxes hb.out 1).2
      have f2 := (two_boxes hb.out 2).2
      simp at f0 f1 f2
      have hsz : w.heap.size + 1 + 1 ≤ wr.heap.size := by have := hb.out.size; simpa using this
      have hLs := hst.out.lt
      have hs1 : w.heap.size + 1 < wr.heap.size := by omega
      by_cases him : i < m
      · rcases HSC.out.1 with h0 | ⟨bX, oX, rfl, hbX, hX⟩
        · omega
        obtain ⟨x0, x1, x2, x3⟩ := hX i him
        have u0 : wr.cell? ⟨bX, oX + i * 4, none⟩ = some (.int .i64 (S i).kd) := by rw [hbw.out.cell (p := ⟨bX, oX + i * 4, none⟩) hbX]; exact x0
        have u1 : wr.cell? ⟨bX, oX + i * 4 + 1, none⟩ = some (.int .i64 (S i).cs) := by rw [hbw.out.cell (p := ⟨bX, oX + i * 4 + 1, none⟩) hbX]; exact x1
        have u2 : wr.cell? ⟨bX, oX + i * 4 + 2, none⟩ = some (.int .i64 (S i).a) := by rw [hbw.out.cell (p := ⟨bX, oX + i * 4 + 2, none⟩) hbX]; exact x2
        have u3 : wr.cell? ⟨bX, oX + i * 4 + 3, none⟩ = some (.int .i64 (S i).b) := by rw [hbw.out.cell (p := ⟨bX, oX + i * 4 + 3, none⟩) hbX]; exact x3
        have I64s := hid (HSC.out.2 i him)
        have lt' : (i : Int) < (m : Int) := by omega
        have NB : Hid (∀ o, Below wr.heap.size wr (wr.alloc o)) := fun o => (Below.refl _ _).alloc (Nat.le_refl _) _
        clear x0 x1 x2 x3 hX
        generalize hs0 : (S i).kd = kd at *
        generalize hs1 : (S i).cs = cs at *
        generalize hs2 : (S i).a = sa at *
        generalize hs3 : (S i).b = sb at *
        clear hs0 hs1 hs2 hs3
        by_cases k8 : kd = 8
        · subst k8
          go_wp2_with (go_at_call 6; refine ((hst.out.drop (NB.out _)).look HFO.out).mono ?_; rintro e5 w5 ⟨rfl, hb5⟩; refine stopH ?_)
          have hb5' := (NB.out _).trans (hb5.mono (by simp))
          have N1 : Hid (Below (w.heap.size + 1 + 1) ((w.alloc (.cells #[.slice aC n cC, .slice aR k cR, .int .i64 week, .slice aH hol.length cH] 26)).alloc (.cells #[.bool true, .bool false, .bool false] 30)) w5) := hb.out.trans (hb5'.mono hsz)
          have N2 := hid (hst.out.drop hb5').next
          clear hb5 hb5' f0 f1 f2 u0 u1 u2 u3 hst hb hbw NB
          refine hid ?_
          go_wp2
          go_roundw
          case rel => exact ⟨i + 1, by omega, rfl, by go_num, N1, N2⟩
          case measure => simp [intOf]; omega
        · by_cases k1 : kd ≤ 1
          · go_wp2_with (go_at_call 7; refine ((hst.out.drop (NB.out _)).step HFO.out (by omega) kd cs sa sb k1 I64s.out.2.1).mono ?_; rintro e5 w5 ⟨rfl, hb5, st5⟩; refine stopH ?_)
            have hb5' := ((NB.out _).mono hLs).trans hb5
            have N1 : Hid (Below (w.heap.size + 1 + 1) ((w.alloc (.cells #[.slice aC n cC, .slice aR k cR, .int .i64 week, .slice aH hol.length cH] 26)).alloc (.cells #[.bool true, .bool false, .bool false] 30)) w5) := hb.out.trans (hb5'.mono hL')
            have N2 := hid st5
            clear hb5 hb5' st5 f0 f1 f2 u0 u1 u2 u3 hst hb hbw NB
            refine hid ?_
            go_wp2
            go_roundw
            case rel => exact ⟨i + 1, by omega, rfl, by go_num, N1, N2⟩
            case measure => simp [intOf]; omega
          · have N1 : Hid (Below (w.heap.size + 1 + 1) ((w.alloc (.cells #[.slice aC n cC, .slice aR k cR, .int .i64 week, .slice aH hol.length cH] 26)).alloc (.cells #[.bool true, .bool false, .bool false] 30)) (wr.alloc (.cells #[.int .i64 kd, .int .i64 cs, .int .i64 sa, .int .i64 sb] 36))) := hb.out.trans ((NB.out _).mono hsz)
            have N2 := hid (hst.out.drop (NB.out (.cells #[.int .i64 kd, .int .i64 cs, .int .i64 sa, .int .i64 sb] 36))).next
            clear hst hb hbw NB
            go_wp2
            go_roundw
            case rel => exact ⟨i + 1, by omega, rfl, by go_num, N1, N2⟩
            case measure => simp [intOf]; omega
      · obtain rfl : i = m := by omega
        go_wp2_with (go_at_call 6; refine (hst.out.look HFO.out).mono ?_; rintro e5 w5 ⟨rfl, hb5⟩; refine stopH ?_)
        have Q : Hid (TPost w (.returned (.bool true)) w5) := ⟨rfl, hbw.out.trans (hb5.mono (by omega))⟩
        clear hb5
        refine hid ?_
        go_wp2
        go_ret
        exact Q.out

set_option maxRecDepth 100000 in
set_option maxHeartbeats 1000000 in
theorem edits_any (C : Nat → Cel) (R : Nat → Rul) (hol : List Int) (aC aR aH aS : Option Addr) (n cC k cR cH m cS : Nat) (S : Nat → Stp) (week : Int) (w : World) (ht : Tab w) (hn : n ≤ 1000000000) (hk : k ≤ 1000000000) (hhl : hol.length ≤ 1000000000) (hsl : ∀ i, i < k → (R i).steps.length ≤ 1000000000) (hm : m ≤ 1048576)
    (hcs : CAt w aC n C) (hrs : RAt w aR k R) (hhs : IntsAt w (.slice aH hol.length cH) hol) (hsc : ScAt w aS m S) :
    Calls Tryz.prog 3 #[.agg #[.slice aC n cC, .slice aR k cR, .int .i64 week, .slice aH hol.length cH], .slice aS m cS] w fun e w' => TPost w e w' := by
  have hb : Below w.heap.size w (w.alloc (.cells #[.slice aC n cC, .slice aR k cR, .int .i64 week, .slice aH hol.length cH] 26)) := (Below.refl _ _).alloc (Nat.le_refl _) _
  have hsc' : ScAt (w.alloc (.cells #[.slice aC n cC, .slice aR k cR, .int .i64 week, .slice aH hol.length cH] 26)) aS m S := by
    refine ⟨?_, hsc.2⟩
    rcases hsc.1 with h0 | ⟨b, off, rfl, hbx, hx⟩
    · exact Or.inl h0
    · refine Or.inr ⟨b, off, rfl, by simp; omega, fun i hi => ?_⟩
      obtain ⟨x0, x1, x2, x3⟩ := hx i hi
      exact ⟨by rw [hb.cell (p := ⟨b, off + i * 4, none⟩) hbx]; exact x0, by rw [hb.cell (p := ⟨b, off + i * 4 + 1, none⟩) hbx]; exact x1, by rw [hb.cell (p := ⟨b, off + i * 4 + 2, none⟩) hbx]; exact x2, by rw [hb.cell (p := ⟨b, off + i * 4 + 3, none⟩) hbx]; exact x3⟩
  have PL := hid (plays_any C R hol aC aR aH aS n cC k cR cH m cS S week _ (ht.below hb (Nat.le_refl _)) hn hk hhl hsl hm (hcs.below hb) (hrs.below hb) (SlAt.below hhs hb (Nat.le_refl _)) hsc')
  have HB := hid hb
  clear hcs hrs hhs hsc hsc' hsl ht hb
  go_enter Tryz.func3, Tryz.ntmps3
  go_wp2_with fail
  refine PL.out.mono ?_
  rintro e1 w1 ⟨rfl, hb1⟩
  have Q : Hid (TPost w (.returned (.bool true)) w1) := ⟨rfl, HB.out.trans (hb1.mono (by simp))⟩
  clear hb1
  go_wp2
  go_ret
  exact Q.out

end Go.Proofs.YtkhpkpaglkinbaaGreatDoor
