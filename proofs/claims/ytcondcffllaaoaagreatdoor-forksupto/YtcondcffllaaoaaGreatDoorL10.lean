/-
  THE LAW: a script, played.
-/
import Derived.Test.YtcondcffllaaoaaGreatDoorL9
import Derived.Test.YtcondcffllaaoaaGreatDoorV1
import Derived.Test.YtcondcffllaaoaaGreatDoorL12
import Derived.Test.YtcondcffllaaoaaGreatDoorL7
set_option linter.unusedVariables false
set_option linter.unusedSimpArgs false
namespace Go.Proofs.YtcondcffllaaoaaGreatDoor
open Go.RowKit
attribute [local go_sem ↓] Go.wp_at_zero Go.wp_at_succ

/-- What a step leaves, a case more perhaps. -/
def StpQ (f : Frm) (b' np : Nat) (nl : Nat) (xs : List Value) (tag : Nat → Nat) (bP : Nat) (vL : Value) (w : World) (e : Ending) (w' : World) : Prop :=
  e = .returned (.bool true) ∧ ∃ np' P' tag' bl' cP', np ≤ np' ∧ np' ≤ np + 1 ∧ PSt f b' np' P' nl xs tag' bP bl' cP' vL w' ∧ (∀ i, i < np' → (P' i).ck = (P' i).cd) ∧ Kept tag tag' w w'

theorem StpP.more {f : Frm} {b' np : Nat} {nl : Nat} {xs : List Value} {tag : Nat → Nat} {bP bl cP : Nat} {vL : Value} {w : World} {e : Ending} {w' : World} (h : StpP f b' np nl xs tag bP bl cP vL w e w') : StpQ f b' np nl xs tag bP vL w e w' := by
  obtain ⟨h1, P', tag', h2, h3, h4⟩ := h
  exact ⟨h1, np, P', tag', bl, cP, Nat.le_refl _, by omega, h2, h3, h4⟩

theorem PSt.up {f : Frm} {b b2 np : Nat} {P : Nat → Pr} {nl : Nat} {xs : List Value} {tag : Nat → Nat} {bP bl cP : Nat} {vL : Value} {w : World} (h : PSt f b np P nl xs tag bP bl cP vL w) (hb : b ≤ b2) : PSt f b2 np P nl xs tag bP bl cP vL w :=
  ⟨h.kst, h.kown, h.kq, fun x hx => ⟨(h.kok x hx).1, few_up (h.kok x hx).2 hb⟩, h.dst, h.down, h.dq, fun x hx => ⟨(h.dok x hx).1, few_up (h.dok x hx).2 hb⟩, h.row, h.tP, h.prs, h.tl, h.lst, h.tL, h.els⟩

/-- The step that forks. -/
def Forky : Prop := ∀ (f : Frm) (b np : Nat) (P : Nat → Pr) (nl : Nat) (xs : List Value) (tag : Nat → Nat) (bP bl cP : Nat) (vL : Value) (w : World), PSt f b np P nl xs tag bP bl cP vL w → (∀ i, i < np → (P i).ck = (P i).cd) → f.Ok → 1 ≤ np → np ≤ 1000000000000 → b ≤ 10000000000 → ∀ (cs a v : Int), -9223372036854775808 ≤ cs → cs < 9223372036854775808 →
    Calls Tryz.prog 14 #[.pointer (some ⟨bP, 0, none⟩), .agg #[.int .i64 6, .int .i64 cs, .int .i64 a, .int .i64 v]] w fun e w' => StpQ f b np nl xs tag bP vL w e w'

/-- What stands behind i steps; what lies below B0 is nobody's. -/
def Sta (f : Frm) (bP B0 i : Nat) (w : World) : Prop :=
  ∃ np P nl xs tag bl cP vL, 1 ≤ np ∧ np ≤ 1 + i ∧ nl ≤ 5242885 * i ∧ PSt f (1 + i) np P nl xs tag bP bl cP vL w ∧ (∀ x, x < np → (P x).ck = (P x).cd) ∧ ∀ j, j < B0 → tag j = 0

section
variable {f : Frm} {bP B0 i : Nat} {w : World}

theorem Sta.drop (h : Sta f bP B0 i w) {w1 : World} (hb : Below w.heap.size w w1) : Sta f bP B0 i w1 := by
  obtain ⟨np, P, nl, xs, tag, bl, cP, vL, h1, h2, h3, h4, h5⟩ := h
  exact ⟨np, P, nl, xs, tag, bl, cP, vL, h1, h2, h3, h4.drop hb, h5⟩

theorem Sta.next (h : Sta f bP B0 i w) : Sta f bP B0 (i + 1) w := by
  obtain ⟨np, P, nl, xs, tag, bl, cP, vL, h1, h2, h3, h4, h5⟩ := h
  exact ⟨np, P, nl, xs, tag, bl, cP, vL, h1, by omega, by omega, h4.up (by omega), h5⟩

/-- What a step leaves. -/
def StaP (f : Frm) (bP B0 i : Nat) (w : World) (e : Ending) (w' : World) : Prop := e = .returned (.bool true) ∧ Below B0 w w' ∧ Sta f bP B0 (i + 1) w'

theorem Kept.below {B0 : Nat} {t t' : Nat → Nat} {a b : World} (h : Kept t t' a b) (ht : ∀ j, j < B0 → t j = 0) (hB : B0 ≤ a.heap.size) : Below B0 a b ∧ ∀ j, j < B0 → t' j = 0 :=
  ⟨⟨h.os, h.tape, h.output, h.size, fun j hj => h.block j (by omega) (ht j hj)⟩, fun j hj => by rw [h.tags j (by omega)]; exact ht j hj⟩

theorem Sta.look (av ar aa : Bool) (h : Sta f bP B0 i w) (hf : f.Ok) (hi : i ≤ 1048576) (hB : B0 ≤ w.heap.size) :
    Calls Tryz.prog 13 #[.pointer (some ⟨bP, 0, none⟩), .agg #[.bool av, .bool ar, .bool aa]] w fun e w' => StaP f bP B0 i w e w' := by
  obtain ⟨np, P, nl, xs, tag, bl, cP, vL, h1, h2, h3, h4, h5, h6⟩ := h
  refine (looks_any av ar aa h4 hf (by omega) h5 (by omega)).mono ?_
  rintro e w' ⟨rfl, nl', xs', tag', vL', g1, g2, g3⟩
  obtain ⟨b1, b2⟩ := g3.below h6 hB
  exact ⟨rfl, b1, np, P, nl', xs', tag', bl, cP, vL', h1, by omega, by omega, g2.up (by omega), h5, b2⟩

theorem Sta.step (h : Sta f bP B0 i w) (hf : f.Ok) (hi : i ≤ 1048576) (hB : B0 ≤ w.heap.size) (kd cs a b : Int) (hkd : kd ≤ 5 ∨ kd = 7 ∨ (kd = 6 ∧ Forky)) (hcs : I64 cs) (ha : I64 a) :
    Calls Tryz.prog 14 #[.pointer (some ⟨bP, 0, none⟩), .agg #[.int .i64 kd, .int .i64 cs, .int .i64 a, .int .i64 b]] w fun e w' => StaP f bP B0 i w e w' := by
  obtain ⟨np, P, nl, xs, tag, bl, cP, vL, h1, h2, h3, h4, h5, h6⟩ := h
  have fin : ∀ b', b' ≤ 1 + (i + 1) → ∀ e w', StpQ f b' np nl xs tag bP vL w e w' → StaP f bP B0 i w e w' := by
    rintro b' hb' e w' ⟨rfl, np', P', tag', bl', cP', g0, g1, g2, g3, g4⟩
    obtain ⟨b1, b2⟩ := g4.below h6 hB
    exact ⟨rfl, b1, np', P', nl, xs, tag', bl', cP', vL, by omega, by omega, by omega, g2.up hb', g3, b2⟩
  rcases hkd with hkd | rfl | ⟨rfl, hk⟩
  · exact (steps_five h4 h5 hf h1 (by omega) (by omega) kd cs a b hkd hcs.1 hcs.2 ha.1 ha.2).mono (fun e w' g => fin _ (by omega) e w' g.more)
  · exact (step_when h4 h5 hf h1 (by omega) (by omega) cs a b hcs.1 hcs.2).mono (fun e w' g => fin _ (by omega) e w' g.more)
  · exact (hk f _ np P nl xs tag bP bl cP vL w h4 h5 hf h1 (by omega) (by omega) cs a b hcs.1 hcs.2).mono (fun e w' g => fin _ (by omega) e w' g)
end

set_option maxRecDepth 100000 in
set_option maxHeartbeats 2000000 in
theorem plays_any (av ar aa : Bool) (lst : Int) (hlst : lst ≤ 5 ∨ (lst = 6 ∧ Forky)) (C : Nat → Cel) (R : Nat → Rul) (hol : List Int) (aC aR aH aS : Option Addr) (n cC k cR cH m cS : Nat) (S : Nat → Stp) (week : Int) (w : World) (ht : Tab w) (hn : n ≤ 1000000000) (hk : k ≤ 1000000000) (hhl : hol.length ≤ 1000000000) (hsl : ∀ i, i < k → (R i).steps.length ≤ 1000000000) (hm : m ≤ 1048576)
    (hcs : CAt w aC n C) (hrs : RAt w aR k R) (hhs : IntsAt w (.slice aH hol.length cH) hol) (hsc : ScAt w aS m S) :
    Calls Tryz.prog 11 #[.agg #[.slice aC n cC, .slice aR k cR, .int .i64 week, .slice aH hol.length cH], .slice aS m cS, .int .i64 lst, .agg #[.bool av, .bool ar, .bool aa]] w fun e w' => TPost w e w' := by
  have hb2 : Below w.heap.size w ((w.alloc (.cells #[.slice aC n cC, .slice aR k cR, .int .i64 week, .slice aH hol.length cH] 26)).alloc (.cells #[.bool av, .bool ar, .bool aa] 29)) := ((Below.refl _ _).alloc (Nat.le_refl _) _).alloc (by simp) _
  have BEG := hid (lawbegin_any C R hol aC aR aH n cC k cR cH week _ (ht.below hb2 (Nat.le_refl _)) hn hk hhl hsl (hcs.below hb2) (hrs.below hb2) (SlAt.below hhs hb2 (Nat.le_refl _)))
  have HSC := hid hsc
  clear hcs hrs hhs hsc hsl ht hb2
  go_enter Tryz.func11, Tryz.ntmps11
  go_wp2_with fail
  refine BEG.out.mono ?_
  rintro e1 w1 ⟨hb1, hcase⟩
  have B1 : Hid (Below (w.heap.size + 1 + 1) ((w.alloc (.cells #[.slice aC n cC, .slice aR k cR, .int .i64 week, .slice aH hol.length cH] 26)).alloc (.cells #[.bool av, .bool ar, .bool aa] 29)) w1) := by have h := hb1; rw [World.size_alloc, World.size_alloc] at h; exact h
  clear BEG hb1
  rcases hcase with rfl | ⟨hfo, P, tag, bP, bl, cP, vL, rfl, hpst, hsame, htag⟩
  · have Q : Hid (TPost w (.returned (.bool true)) w1) := ⟨rfl, two_boxes_below B1.out⟩
    go_wp2
    go_ret
    exact Q.out
  · have HFO := hid hfo
    have ST : Hid (Sta ⟨C, n, R, k, hol, week⟩ bP (w.heap.size + 1 + 1) 0 w1) := ⟨1, P, 0, [], tag, bl, cP, vL, by omega, by omega, by omega, hpst, fun x hx => by obtain rfl : x = 0 := (by omega); exact hsame, fun j hj => htag j (by rw [World.size_alloc, World.size_alloc]; exact hj)⟩
    clear hfo hpst hsame htag
    go_wp2
    go_loopw [10, 11] (fun s t wr => ∃ i : Nat, i ≤ m ∧ s = .bool true ∧ t = .int .i64 i ∧ Hid (Below (w.heap.size + 1 + 1) ((w.alloc (.cells #[.slice aC n cC, .slice aR k cR, .int .i64 week, .slice aH hol.length cH] 26)).alloc (.cells #[.bool av, .bool ar, .bool aa] 29)) wr) ∧ Hid (Sta ⟨C, n, R, k, hol, week⟩ bP (w.heap.size + 1 + 1) i wr)) (fun _ t _ => m - (intOf t).toNat)
    case atStart => exact ⟨0, by omega, rfl, rfl, B1, ST⟩
    case round =>
      obtain ⟨i, i1, rfl, rfl, hb, hst⟩ := hrel
      clear B1 ST
      have hbw := hid (two_boxes_below hb.out)
      have f0 := (two_boxes hb.out 0).2
      have f1 := (two_boxes hb.out 1).2
      have f2 := (two_boxes hb.out 2).2
      simp at f0 f1 f2
      have hsz : w.heap.size + 1 + 1 ≤ wr.heap.size := by have := hb.out.size; simpa using this
      have hs1 : w.heap.size + 1 < wr.heap.size := by omega
      by_cases him : i < m
      · rcases HSC.out.1 with h0 | ⟨bX, oX, rfl, hbX, hX⟩
        · omega
        obtain ⟨x0, x1, x2, x3⟩ := hX i him
        have u0 : wr.cell? ⟨bX, oX + i * 4, none⟩ = some (.int .i64 (S i).kd) := by rw [hbw.out.cell (p := ⟨bX, oX + i * 4, none⟩) hbX]; exact x0
        have u1 : wr.cell? ⟨bX, oX + i * 4 + 1, none⟩ = some (.int .i64 (S i).cs) := by rw [hbw.out.cell (p := ⟨bX, oX + i * 4 + 1, none⟩) hbX]; exact x1
        have u2 : wr.cell? ⟨bX, oX + i * 4 + 2, none⟩ = some (.int .i64 (S i).a) := by rw [hbw.out.cell (p := ⟨bX, oX + i * 4 + 2, none⟩) hbX]; exact x2
        have u3 : wr.cell? ⟨bX, oX + i * 4 + 3, none⟩ = some (.int .i64 (S i).b) := by rw [hbw.out.cell (p := ⟨bX, oX + i * 4 + 3, none⟩) hbX]; exact x3
        have I64s := hid (HSC.out.2 i him)
        have lt' : (i : Int) < (m : Int) := by omega
        have NB : Hid (∀ o, Below wr.heap.size wr (wr.alloc o)) := fun o => (Below.refl _ _).alloc (Nat.le_refl _) _
        clear x0 x1 x2 x3 hX
        generalize hs0 : (S i).kd = kd at *
        generalize hs1 : (S i).cs = cs at *
        generalize hs2 : (S i).a = sa at *
        generalize hs3 : (S i).b = sb at *
        clear hs0 hs1 hs2 hs3
        by_cases k8 : kd = 8
        · subst k8
          go_wp2_with (go_at_call 13; refine ((hst.out.drop (NB.out _)).look av ar aa HFO.out (by omega) (by simp; omega)).mono ?_; rintro e5 w5 ⟨rfl, hb5, st5⟩; refine stopH ?_)
          have hb5' := ((NB.out _).mono hsz).trans hb5
          have N1 : Hid (Below (w.heap.size + 1 + 1) ((w.alloc (.cells #[.slice aC n cC, .slice aR k cR, .int .i64 week, .slice aH hol.length cH] 26)).alloc (.cells #[.bool av, .bool ar, .bool aa] 29)) w5) := hb.out.trans hb5'
          have N2 := hid st5
          clear hb5 hb5' st5 f0 f1 f2 u0 u1 u2 u3 hst hb hbw NB
          refine hid ?_
          go_wp2
          go_roundw
          case rel => exact ⟨i + 1, by omega, rfl, by go_num, N1, N2⟩
          case measure => simp [intOf]; omega
        · by_cases k1 : kd ≤ lst
          · go_wp2_with (go_at_call 14; refine ((hst.out.drop (NB.out _)).step HFO.out (by omega) (by simp; omega) kd cs sa sb (by rcases hlst with h | ⟨h, hk⟩; (exact Or.inl (by omega)); (by_cases h5 : kd ≤ 5; exact Or.inl h5; exact Or.inr (Or.inr ⟨by omega, hk⟩))) I64s.out.2.1 I64s.out.2.2.1).mono ?_; rintro e5 w5 ⟨rfl, hb5, st5⟩; refine stopH ?_)
            have hb5' := ((NB.out _).mono hsz).trans hb5
            have N1 : Hid (Below (w.heap.size + 1 + 1) ((w.alloc (.cells #[.slice aC n cC, .slice aR k cR, .int .i64 week, .slice aH hol.length cH] 26)).alloc (.cells #[.bool av, .bool ar, .bool aa] 29)) w5) := hb.out.trans hb5'
            have N2 := hid st5
            clear hb5 hb5' st5 f0 f1 f2 u0 u1 u2 u3 hst hb hbw NB
            refine hid ?_
            go_wp2
            go_roundw
            case rel => exact ⟨i + 1, by omega, rfl, by go_num, N1, N2⟩
            case measure => simp [intOf]; omega
          · cases aa
            · have N1 : Hid (Below (w.heap.size + 1 + 1) ((w.alloc (.cells #[.slice aC n cC, .slice aR k cR, .int .i64 week, .slice aH hol.length cH] 26)).alloc (.cells #[.bool av, .bool ar, .bool false] 29)) (wr.alloc (.cells #[.int .i64 kd, .int .i64 cs, .int .i64 sa, .int .i64 sb] 37))) := hb.out.trans ((NB.out _).mono hsz)
              have N2 := hid (hst.out.drop (NB.out (.cells #[.int .i64 kd, .int .i64 cs, .int .i64 sa, .int .i64 sb] 37))).next
              clear hst hb hbw NB
              go_wp2
              go_roundw
              case rel => exact ⟨i + 1, by omega, rfl, by go_num, N1, N2⟩
              case measure => simp [intOf]; omega
            · by_cases k7 : kd = 7
              · subst k7
                go_wp2_with (go_at_call 14; refine ((hst.out.drop (NB.out _)).step HFO.out (by omega) (by simp; omega) 7 cs sa sb (Or.inr (Or.inl rfl)) I64s.out.2.1 I64s.out.2.2.1).mono ?_; rintro e5 w5 ⟨rfl, hb5, st5⟩; refine stopH ?_)
                have hb5' := ((NB.out _).mono hsz).trans hb5
                have N1 : Hid (Below (w.heap.size + 1 + 1) ((w.alloc (.cells #[.slice aC n cC, .slice aR k cR, .int .i64 week, .slice aH hol.length cH] 26)).alloc (.cells #[.bool av, .bool ar, .bool true] 29)) w5) := hb.out.trans hb5'
                have N2 := hid st5
                clear hb5 hb5' st5 f0 f1 f2 u0 u1 u2 u3 hst hb hbw NB
                refine hid ?_
                go_wp2
                go_roundw
                case rel => exact ⟨i + 1, by omega, rfl, by go_num, N1, N2⟩
                case measure => simp [intOf]; omega
              · have e7 : (kd == 7) = false := beq_eq_false_iff_ne.2 k7
                have N1 : Hid (Below (w.heap.size + 1 + 1) ((w.alloc (.cells #[.slice aC n cC, .slice aR k cR, .int .i64 week, .slice aH hol.length cH] 26)).alloc (.cells #[.bool av, .bool ar, .bool true] 29)) (wr.alloc (.cells #[.int .i64 kd, .int .i64 cs, .int .i64 sa, .int .i64 sb] 37))) := hb.out.trans ((NB.out _).mono hsz)
                have N2 := hid (hst.out.drop (NB.out (.cells #[.int .i64 kd, .int .i64 cs, .int .i64 sa, .int .i64 sb] 37))).next
                clear hst hb hbw NB
                go_wp2
                go_roundw
                case rel => exact ⟨i + 1, by omega, rfl, by go_num, N1, N2⟩
                case measure => simp [intOf]; omega
      · obtain rfl : i = m := by omega
        go_wp2_with (go_at_call 13; refine (hst.out.look av ar aa HFO.out (by omega) hsz).mono ?_; rintro e5 w5 ⟨rfl, hb5, _⟩; refine stopH ?_)
        have Q : Hid (TPost w (.returned (.bool true)) w5) := ⟨rfl, two_boxes_below (hb.out.trans hb5)⟩
        clear hb5
        refine hid ?_
        go_wp2
        go_ret
        exact Q.out

set_option maxRecDepth 100000 in
set_option maxHeartbeats 1000000 in
theorem edits_any (C : Nat → Cel) (R : Nat → Rul) (hol : List Int) (aC aR aH aS : Option Addr) (n cC k cR cH m cS : Nat) (S : Nat → Stp) (week : Int) (w : World) (ht : Tab w) (hn : n ≤ 1000000000) (hk : k ≤ 1000000000) (hhl : hol.length ≤ 1000000000) (hsl : ∀ i, i < k → (R i).steps.length ≤ 1000000000) (hm : m ≤ 1048576)
    (hcs : CAt w aC n C) (hrs : RAt w aR k R) (hhs : IntsAt w (.slice aH hol.length cH) hol) (hsc : ScAt w aS m S) :
    Calls Tryz.prog 4 #[.agg #[.slice aC n cC, .slice aR k cR, .int .i64 week, .slice aH hol.length cH], .slice aS m cS] w fun e w' => TPost w e w' := by
  have hb : Below w.heap.size w (w.alloc (.cells #[.slice aC n cC, .slice aR k cR, .int .i64 week, .slice aH hol.length cH] 26)) := (Below.refl _ _).alloc (Nat.le_refl _) _
  have hsc' : ScAt (w.alloc (.cells #[.slice aC n cC, .slice aR k cR, .int .i64 week, .slice aH hol.length cH] 26)) aS m S := by
    refine ⟨?_, hsc.2⟩
    rcases hsc.1 with h0 | ⟨b, off, rfl, hbx, hx⟩
    · exact Or.inl h0
    · refine Or.inr ⟨b, off, rfl, by simp; omega, fun i hi => ?_⟩
      obtain ⟨x0, x1, x2, x3⟩ := hx i hi
      exact ⟨by rw [hb.cell (p := ⟨b, off + i * 4, none⟩) hbx]; exact x0, by rw [hb.cell (p := ⟨b, off + i * 4 + 1, none⟩) hbx]; exact x1, by rw [hb.cell (p := ⟨b, off + i * 4 + 2, none⟩) hbx]; exact x2, by rw [hb.cell (p := ⟨b, off + i * 4 + 3, none⟩) hbx]; exact x3⟩
  have PL := hid (plays_any true false false 1 (Or.inl (by omega)) C R hol aC aR aH aS n cC k cR cH m cS S week _ (ht.below hb (Nat.le_refl _)) hn hk hhl hsl hm (hcs.below hb) (hrs.below hb) (SlAt.below hhs hb (Nat.le_refl _)) hsc')
  have HB := hid hb
  clear hcs hrs hhs hsc hsc' hsl ht hb
  go_enter Tryz.func4, Tryz.ntmps4
  go_wp2_with fail
  refine PL.out.mono ?_
  rintro e1 w1 ⟨rfl, hb1⟩
  have Q : Hid (TPost w (.returned (.bool true)) w1) := ⟨rfl, HB.out.trans (hb1.mono (by simp))⟩
  clear hb1
  go_wp2
  go_ret
  exact Q.out

set_option maxRecDepth 100000 in
set_option maxHeartbeats 1000000 in
theorem moves_any (C : Nat → Cel) (R : Nat → Rul) (hol : List Int) (aC aR aH aS : Option Addr) (n cC k cR cH m cS : Nat) (S : Nat → Stp) (week : Int) (w : World) (ht : Tab w) (hn : n ≤ 1000000000) (hk : k ≤ 1000000000) (hhl : hol.length ≤ 1000000000) (hsl : ∀ i, i < k → (R i).steps.length ≤ 1000000000) (hm : m ≤ 1048576)
    (hcs : CAt w aC n C) (hrs : RAt w aR k R) (hhs : IntsAt w (.slice aH hol.length cH) hol) (hsc : ScAt w aS m S) :
    Calls Tryz.prog 5 #[.agg #[.slice aC n cC, .slice aR k cR, .int .i64 week, .slice aH hol.length cH], .slice aS m cS] w fun e w' => TPost w e w' := by
  have hb : Below w.heap.size w (w.alloc (.cells #[.slice aC n cC, .slice aR k cR, .int .i64 week, .slice aH hol.length cH] 26)) := (Below.refl _ _).alloc (Nat.le_refl _) _
  have hsc' : ScAt (w.alloc (.cells #[.slice aC n cC, .slice aR k cR, .int .i64 week, .slice aH hol.length cH] 26)) aS m S := by
    refine ⟨?_, hsc.2⟩
    rcases hsc.1 with h0 | ⟨b, off, rfl, hbx, hx⟩
    · exact Or.inl h0
    · refine Or.inr ⟨b, off, rfl, by simp; omega, fun i hi => ?_⟩
      obtain ⟨x0, x1, x2, x3⟩ := hx i hi
      exact ⟨by rw [hb.cell (p := ⟨b, off + i * 4, none⟩) hbx]; exact x0, by rw [hb.cell (p := ⟨b, off + i * 4 + 1, none⟩) hbx]; exact x1, by rw [hb.cell (p := ⟨b, off + i * 4 + 2, none⟩) hbx]; exact x2, by rw [hb.cell (p := ⟨b, off + i * 4 + 3, none⟩) hbx]; exact x3⟩
  have PL := hid (plays_any true false false 3 (Or.inl (by omega)) C R hol aC aR aH aS n cC k cR cH m cS S week _ (ht.below hb (Nat.le_refl _)) hn hk hhl hsl hm (hcs.below hb) (hrs.below hb) (SlAt.below hhs hb (Nat.le_refl _)) hsc')
  have HB := hid hb
  clear hcs hrs hhs hsc hsc' hsl ht hb
  go_enter Tryz.func5, Tryz.ntmps5
  go_wp2_with fail
  refine PL.out.mono ?_
  rintro e1 w1 ⟨rfl, hb1⟩
  have Q : Hid (TPost w (.returned (.bool true)) w1) := ⟨rfl, HB.out.trans (hb1.mono (by simp))⟩
  clear hb1
  go_wp2
  go_ret
  exact Q.out

set_option maxRecDepth 100000 in
set_option maxHeartbeats 1000000 in
theorem fires_any (C : Nat → Cel) (R : Nat → Rul) (hol : List Int) (aC aR aH aS : Option Addr) (n cC k cR cH m cS : Nat) (S : Nat → Stp) (week : Int) (w : World) (ht : Tab w) (hn : n ≤ 1000000000) (hk : k ≤ 1000000000) (hhl : hol.length ≤ 1000000000) (hsl : ∀ i, i < k → (R i).steps.length ≤ 1000000000) (hm : m ≤ 1048576)
    (hcs : CAt w aC n C) (hrs : RAt w aR k R) (hhs : IntsAt w (.slice aH hol.length cH) hol) (hsc : ScAt w aS m S) :
    Calls Tryz.prog 6 #[.agg #[.slice aC n cC, .slice aR k cR, .int .i64 week, .slice aH hol.length cH], .slice aS m cS] w fun e w' => TPost w e w' := by
  have hb : Below w.heap.size w (w.alloc (.cells #[.slice aC n cC, .slice aR k cR, .int .i64 week, .slice aH hol.length cH] 26)) := (Below.refl _ _).alloc (Nat.le_refl _) _
  have hsc' : ScAt (w.alloc (.cells #[.slice aC n cC, .slice aR k cR, .int .i64 week, .slice aH hol.length cH] 26)) aS m S := by
    refine ⟨?_, hsc.2⟩
    rcases hsc.1 with h0 | ⟨b, off, rfl, hbx, hx⟩
    · exact Or.inl h0
    · refine Or.inr ⟨b, off, rfl, by simp; omega, fun i hi => ?_⟩
      obtain ⟨x0, x1, x2, x3⟩ := hx i hi
      exact ⟨by rw [hb.cell (p := ⟨b, off + i * 4, none⟩) hbx]; exact x0, by rw [hb.cell (p := ⟨b, off + i * 4 + 1, none⟩) hbx]; exact x1, by rw [hb.cell (p := ⟨b, off + i * 4 + 2, none⟩) hbx]; exact x2, by rw [hb.cell (p := ⟨b, off + i * 4 + 3, none⟩) hbx]; exact x3⟩
  have PL := hid (plays_any false true false 3 (Or.inl (by omega)) C R hol aC aR aH aS n cC k cR cH m cS S week _ (ht.below hb (Nat.le_refl _)) hn hk hhl hsl hm (hcs.below hb) (hrs.below hb) (SlAt.below hhs hb (Nat.le_refl _)) hsc')
  have HB := hid hb
  clear hcs hrs hhs hsc hsc' hsl ht hb
  go_enter Tryz.func6, Tryz.ntmps6
  go_wp2_with fail
  refine PL.out.mono ?_
  rintro e1 w1 ⟨rfl, hb1⟩
  have Q : Hid (TPost w (.returned (.bool true)) w1) := ⟨rfl, HB.out.trans (hb1.mono (by simp))⟩
  clear hb1
  go_wp2
  go_ret
  exact Q.out

set_option maxRecDepth 100000 in
set_option maxHeartbeats 1000000 in
theorem acks_any (C : Nat → Cel) (R : Nat → Rul) (hol : List Int) (aC aR aH aS : Option Addr) (n cC k cR cH m cS : Nat) (S : Nat → Stp) (week : Int) (w : World) (ht : Tab w) (hn : n ≤ 1000000000) (hk : k ≤ 1000000000) (hhl : hol.length ≤ 1000000000) (hsl : ∀ i, i < k → (R i).steps.length ≤ 1000000000) (hm : m ≤ 1048576)
    (hcs : CAt w aC n C) (hrs : RAt w aR k R) (hhs : IntsAt w (.slice aH hol.length cH) hol) (hsc : ScAt w aS m S) :
    Calls Tryz.prog 7 #[.agg #[.slice aC n cC, .slice aR k cR, .int .i64 week, .slice aH hol.length cH], .slice aS m cS] w fun e w' => TPost w e w' := by
  have hb : Below w.heap.size w (w.alloc (.cells #[.slice aC n cC, .slice aR k cR, .int .i64 week, .slice aH hol.length cH] 26)) := (Below.refl _ _).alloc (Nat.le_refl _) _
  have hsc' : ScAt (w.alloc (.cells #[.slice aC n cC, .slice aR k cR, .int .i64 week, .slice aH hol.length cH] 26)) aS m S := by
    refine ⟨?_, hsc.2⟩
    rcases hsc.1 with h0 | ⟨b, off, rfl, hbx, hx⟩
    · exact Or.inl h0
    · refine Or.inr ⟨b, off, rfl, by simp; omega, fun i hi => ?_⟩
      obtain ⟨x0, x1, x2, x3⟩ := hx i hi
      exact ⟨by rw [hb.cell (p := ⟨b, off + i * 4, none⟩) hbx]; exact x0, by rw [hb.cell (p := ⟨b, off + i * 4 + 1, none⟩) hbx]; exact x1, by rw [hb.cell (p := ⟨b, off + i * 4 + 2, none⟩) hbx]; exact x2, by rw [hb.cell (p := ⟨b, off + i * 4 + 3, none⟩) hbx]; exact x3⟩
  have PL := hid (plays_any false true false 5 (Or.inl (by omega)) C R hol aC aR aH aS n cC k cR cH m cS S week _ (ht.below hb (Nat.le_refl _)) hn hk hhl hsl hm (hcs.below hb) (hrs.below hb) (SlAt.below hhs hb (Nat.le_refl _)) hsc')
  have HB := hid hb
  clear hcs hrs hhs hsc hsc' hsl ht hb
  go_enter Tryz.func7, Tryz.ntmps7
  go_wp2_with fail
  refine PL.out.mono ?_
  rintro e1 w1 ⟨rfl, hb1⟩
  have Q : Hid (TPost w (.returned (.bool true)) w1) := ⟨rfl, HB.out.trans (hb1.mono (by simp))⟩
  clear hb1
  go_wp2
  go_ret
  exact Q.out

set_option maxRecDepth 100000 in
set_option maxHeartbeats 1000000 in
theorem comes_any (C : Nat → Cel) (R : Nat → Rul) (hol : List Int) (aC aR aH aS : Option Addr) (n cC k cR cH m cS : Nat) (S : Nat → Stp) (week : Int) (w : World) (ht : Tab w) (hn : n ≤ 1000000000) (hk : k ≤ 1000000000) (hhl : hol.length ≤ 1000000000) (hsl : ∀ i, i < k → (R i).steps.length ≤ 1000000000) (hm : m ≤ 1048576)
    (hcs : CAt w aC n C) (hrs : RAt w aR k R) (hhs : IntsAt w (.slice aH hol.length cH) hol) (hsc : ScAt w aS m S) :
    Calls Tryz.prog 8 #[.agg #[.slice aC n cC, .slice aR k cR, .int .i64 week, .slice aH hol.length cH], .slice aS m cS] w fun e w' => TPost w e w' := by
  have hb : Below w.heap.size w (w.alloc (.cells #[.slice aC n cC, .slice aR k cR, .int .i64 week, .slice aH hol.length cH] 26)) := (Below.refl _ _).alloc (Nat.le_refl _) _
  have hsc' : ScAt (w.alloc (.cells #[.slice aC n cC, .slice aR k cR, .int .i64 week, .slice aH hol.length cH] 26)) aS m S := by
    refine ⟨?_, hsc.2⟩
    rcases hsc.1 with h0 | ⟨b, off, rfl, hbx, hx⟩
    · exact Or.inl h0
    · refine Or.inr ⟨b, off, rfl, by simp; omega, fun i hi => ?_⟩
      obtain ⟨x0, x1, x2, x3⟩ := hx i hi
      exact ⟨by rw [hb.cell (p := ⟨b, off + i * 4, none⟩) hbx]; exact x0, by rw [hb.cell (p := ⟨b, off + i * 4 + 1, none⟩) hbx]; exact x1, by rw [hb.cell (p := ⟨b, off + i * 4 + 2, none⟩) hbx]; exact x2, by rw [hb.cell (p := ⟨b, off + i * 4 + 3, none⟩) hbx]; exact x3⟩
  have PL := hid (plays_any false false true 5 (Or.inl (by omega)) C R hol aC aR aH aS n cC k cR cH m cS S week _ (ht.below hb (Nat.le_refl _)) hn hk hhl hsl hm (hcs.below hb) (hrs.below hb) (SlAt.below hhs hb (Nat.le_refl _)) hsc')
  have HB := hid hb
  clear hcs hrs hhs hsc hsc' hsl ht hb
  go_enter Tryz.func8, Tryz.ntmps8
  go_wp2_with fail
  refine PL.out.mono ?_
  rintro e1 w1 ⟨rfl, hb1⟩
  have Q : Hid (TPost w (.returned (.bool true)) w1) := ⟨rfl, HB.out.trans (hb1.mono (by simp))⟩
  clear hb1
  go_wp2
  go_ret
  exact Q.out

set_option maxRecDepth 100000 in
set_option maxHeartbeats 1000000 in
theorem forks_any (hforky : Forky) (C : Nat → Cel) (R : Nat → Rul) (hol : List Int) (aC aR aH aS : Option Addr) (n cC k cR cH m cS : Nat) (S : Nat → Stp) (week : Int) (w : World) (ht : Tab w) (hn : n ≤ 1000000000) (hk : k ≤ 1000000000) (hhl : hol.length ≤ 1000000000) (hsl : ∀ i, i < k → (R i).steps.length ≤ 1000000000) (hm : m ≤ 1048576)
    (hcs : CAt w aC n C) (hrs : RAt w aR k R) (hhs : IntsAt w (.slice aH hol.length cH) hol) (hsc : ScAt w aS m S) :
    Calls Tryz.prog 9 #[.agg #[.slice aC n cC, .slice aR k cR, .int .i64 week, .slice aH hol.length cH], .slice aS m cS] w fun e w' => TPost w e w' := by
  have hb : Below w.heap.size w (w.alloc (.cells #[.slice aC n cC, .slice aR k cR, .int .i64 week, .slice aH hol.length cH] 26)) := (Below.refl _ _).alloc (Nat.le_refl _) _
  have hsc' : ScAt (w.alloc (.cells #[.slice aC n cC, .slice aR k cR, .int .i64 week, .slice aH hol.length cH] 26)) aS m S := by
    refine ⟨?_, hsc.2⟩
    rcases hsc.1 with h0 | ⟨b, off, rfl, hbx, hx⟩
    · exact Or.inl h0
    · refine Or.inr ⟨b, off, rfl, by simp; omega, fun i hi => ?_⟩
      obtain ⟨x0, x1, x2, x3⟩ := hx i hi
      exact ⟨by rw [hb.cell (p := ⟨b, off + i * 4, none⟩) hbx]; exact x0, by rw [hb.cell (p := ⟨b, off + i * 4 + 1, none⟩) hbx]; exact x1, by rw [hb.cell (p := ⟨b, off + i * 4 + 2, none⟩) hbx]; exact x2, by rw [hb.cell (p := ⟨b, off + i * 4 + 3, none⟩) hbx]; exact x3⟩
  have PL := hid (plays_any true true false 6 (Or.inr ⟨rfl, hforky⟩) C R hol aC aR aH aS n cC k cR cH m cS S week _ (ht.below hb (Nat.le_refl _)) hn hk hhl hsl hm (hcs.below hb) (hrs.below hb) (SlAt.below hhs hb (Nat.le_refl _)) hsc')
  have HB := hid hb
  clear hcs hrs hhs hsc hsc' hsl ht hb
  go_enter Tryz.func9, Tryz.ntmps9
  go_wp2_with fail
  refine PL.out.mono ?_
  rintro e1 w1 ⟨rfl, hb1⟩
  have Q : Hid (TPost w (.returned (.bool true)) w1) := ⟨rfl, HB.out.trans (hb1.mono (by simp))⟩
  clear hb1
  go_wp2
  go_ret
  exact Q.out

set_option maxRecDepth 100000 in
set_option maxHeartbeats 1000000 in
theorem all_any (hforky : Forky) (C : Nat → Cel) (R : Nat → Rul) (hol : List Int) (aC aR aH aS : Option Addr) (n cC k cR cH m cS : Nat) (S : Nat → Stp) (week : Int) (w : World) (ht : Tab w) (hn : n ≤ 1000000000) (hk : k ≤ 1000000000) (hhl : hol.length ≤ 1000000000) (hsl : ∀ i, i < k → (R i).steps.length ≤ 1000000000) (hm : m ≤ 1048576)
    (hcs : CAt w aC n C) (hrs : RAt w aR k R) (hhs : IntsAt w (.slice aH hol.length cH) hol) (hsc : ScAt w aS m S) :
    Calls Tryz.prog 10 #[.agg #[.slice aC n cC, .slice aR k cR, .int .i64 week, .slice aH hol.length cH], .slice aS m cS] w fun e w' => TPost w e w' := by
  have hb : Below w.heap.size w (w.alloc (.cells #[.slice aC n cC, .slice aR k cR, .int .i64 week, .slice aH hol.length cH] 26)) := (Below.refl _ _).alloc (Nat.le_refl _) _
  have hsc' : ScAt (w.alloc (.cells #[.slice aC n cC, .slice aR k cR, .int .i64 week, .slice aH hol.length cH] 26)) aS m S := by
    refine ⟨?_, hsc.2⟩
    rcases hsc.1 with h0 | ⟨b, off, rfl, hbx, hx⟩
    · exact Or.inl h0
    · refine Or.inr ⟨b, off, rfl, by simp; omega, fun i hi => ?_⟩
      obtain ⟨x0, x1, x2, x3⟩ := hx i hi
      exact ⟨by rw [hb.cell (p := ⟨b, off + i * 4, none⟩) hbx]; exact x0, by rw [hb.cell (p := ⟨b, off + i * 4 + 1, none⟩) hbx]; exact x1, by rw [hb.cell (p := ⟨b, off + i * 4 + 2, none⟩) hbx]; exact x2, by rw [hb.cell (p := ⟨b, off + i * 4 + 3, none⟩) hbx]; exact x3⟩
  have PL := hid (plays_any true true true 6 (Or.inr ⟨rfl, hforky⟩) C R hol aC aR aH aS n cC k cR cH m cS S week _ (ht.below hb (Nat.le_refl _)) hn hk hhl hsl hm (hcs.below hb) (hrs.below hb) (SlAt.below hhs hb (Nat.le_refl _)) hsc')
  have HB := hid hb
  clear hcs hrs hhs hsc hsc' hsl ht hb
  go_enter Tryz.func10, Tryz.ntmps10
  go_wp2_with fail
  refine PL.out.mono ?_
  rintro e1 w1 ⟨rfl, hb1⟩
  have Q : Hid (TPost w (.returned (.bool true)) w1) := ⟨rfl, HB.out.trans (hb1.mono (by simp))⟩
  clear hb1
  go_wp2
  go_ret
  exact Q.out

set_option maxRecDepth 100000 in
set_option maxHeartbeats 1000000 in
theorem news_any (C : Nat → Cel) (R : Nat → Rul) (hol : List Int) (aC aR aH : Option Addr) (n cC k cR cH : Nat) (week : Int) (w : World) (ht : Tab w) (hn : n ≤ 1000000000) (hk : k ≤ 1000000000) (hhl : hol.length ≤ 1000000000) (hsl : ∀ i, i < k → (R i).steps.length ≤ 1000000000)
    (hcs : CAt w aC n C) (hrs : RAt w aR k R) (hhs : IntsAt w (.slice aH hol.length cH) hol) :
    Calls Tryz.prog 3 #[.agg #[.slice aC n cC, .slice aR k cR, .int .i64 week, .slice aH hol.length cH]] w fun e w' => TPost w e w' := by
  have hb : Below w.heap.size w (w.alloc (.cells #[.slice aC n cC, .slice aR k cR, .int .i64 week, .slice aH hol.length cH] 26)) := (Below.refl _ _).alloc (Nat.le_refl _) _
  have PL := hid (plays_any true true false 0 (Or.inl (by omega)) C R hol aC aR aH none n cC k cR cH 0 0 (fun _ => ⟨0, 0, 0, 0⟩) week _ (ht.below hb (Nat.le_refl _)) hn hk hhl hsl (by omega) (hcs.below hb) (hrs.below hb) (SlAt.below hhs hb (Nat.le_refl _)) ⟨Or.inl rfl, fun i hi => by omega⟩)
  have HB := hid hb
  clear hcs hrs hhs hsl ht hb
  go_enter Tryz.func3, Tryz.ntmps3
  go_wp2_with fail
  refine PL.out.mono ?_
  rintro e1 w1 ⟨rfl, hb1⟩
  have Q : Hid (TPost w (.returned (.bool true)) w1) := ⟨rfl, HB.out.trans (hb1.mono (by simp))⟩
  clear hb1
  go_wp2
  go_ret
  exact Q.out

end Go.Proofs.YtcondcffllaaoaaGreatDoor
