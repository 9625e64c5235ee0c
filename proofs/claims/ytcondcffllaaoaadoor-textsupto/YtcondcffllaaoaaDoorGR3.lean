/-
  THE WALKS: the document's Print.
-/
import Derived.Test.YtcondcffllaaoaaDoorGR1
set_option linter.unusedVariables false
set_option linter.unusedSimpArgs false
namespace Go.Proofs.YtcondcffllaaoaaDoor
open Go.RowKit
open Go.Lib (itoa decDigits nDigits)
attribute [local go_sem ↓] Go.wp_at_zero Go.wp_at_succ

theorem check_any (C : Nat → Cel) (R : Nat → Rul) (hol : List Int) (aC aR aH : Option Addr) (n cC k cR cH : Nat) (week : Int) (w : World) (hn : n ≤ 1000000000) (hk : k ≤ 1000000000) (hhl : hol.length ≤ 1000000000)
    (hcs : CAt w aC n C) (hrs : RAt w aR k R) (hhs : IntsAt w (.slice aH hol.length cH) hol) :
    Calls Tryd.prog 19 #[.agg #[.slice aC n cC, .slice aR k cR, .int .i64 week, .slice aH hol.length cH]] w fun e w' => ChkPost C n R k week hol w e w' := by
  by_cases hs : SizesOk n k week
  · rcases hcs with h0 | ⟨b, off, rfl, hb, hc⟩
    · have := hs.1; omega
    · exact check_sized C R hol aR aH b off n cC k cR cH week w hs hhl hb hc hrs hhs
  · exact check_bad C R hol aC aR aH n cC k cR cH week w hs hn hk

/-- A number and others behind it, in a list that owns its room. -/
theorem own_cons_ints {w : World} {B g cap : Nat} {x : Int} {l : List Int} (h : w.ownsRow B 3 1 (.slice (some ⟨g, 0, none⟩) (1 + l.length) cap) (1 + l.length) ([.int .i64 x] ++ ints l)) : IntsAt w (.slice (some ⟨g, 0, none⟩) (x :: l).length cap) (x :: l) := by
  have e : 1 + l.length = (x :: l).length := by simp; omega
  rw [e] at h
  obtain ⟨a, c, e1, h1⟩ := own_ints (l := x :: l) h
  injection e1 with e1 _ e3
  rw [e1, e3]
  exact h1

theorem own_to_ints {w : World} {B m cap : Nat} {a : Option Addr} {xs : List Value} {l : List Int} (h : w.ownsRow B 3 1 (.slice a m cap) m xs) (hm : m = l.length) (hx : xs = ints l) : IntsAt w (.slice a l.length cap) l := by
  subst hm hx
  obtain ⟨a', c, e1, h1⟩ := own_ints (l := l) h
  injection e1 with e1 _ e3
  rw [e1, e3]
  exact h1

theorem nmL_split (c : Cel) (q : Nat) (h0 : 0 ≤ c.kind) (h12 : c.kind ≤ 12) (hq : M.needs c.kind = q) : nmL c = (List.range q).map (fun i => needp ⟨0, c.a, c.b, c.c, 0⟩ i) ++ (if hasKB c.kind = true then [c.k] else []) := by
  unfold nmL ndL
  have : (need0 c.kind).toNat = q := by unfold need0; rw [if_pos (by omega)]; omega
  rw [this]
  rfl

set_option maxRecDepth 100000 in
set_option maxHeartbeats 4000000 in
theorem rprint_any (f : Frm) (aC : Option Addr) (cC : Nat) (aR : Option Addr) (cR : Nat) (aH : Option Addr) (cH : Nat) (w : World) (hn : f.n ≤ 1000000000) (hk : f.k ≤ 1000000000) (hh : f.hol.length ≤ 1000000000) (h1 : CAt w aC f.n f.C) (h2 : RAt w aR f.k f.R) (h3 : IntsAt w (.slice aH f.hol.length cH) f.hol) :
    Calls Tryd.prog 9 #[.agg #[.slice aC f.n cC, .slice aR f.k cR, .int .i64 f.week, .slice aH f.hol.length cH]] w fun e w' => PrP f w e w' := by
  obtain ⟨i3, y3, y4⟩ := Option.map_eq_some_iff.1 info3
  simp only [Prod.mk.injEq] at y4
  have I3 := hid y3
  have Z3 := hid y4
  clear y3 y4
  have B0 : Below w.heap.size w (w.alloc (.cells #[.slice aC f.n cC, .slice aR f.k cR, .int .i64 f.week, .slice aH f.hol.length cH] 26)) := (Below.refl _ _).alloc (Nat.le_refl _) _
  have H1 := hid (h1.below B0)
  have H2 := hid (h2.below B0)
  have H3 := hid (SlAt.below h3 B0 (Nat.le_refl _))
  have CK := hid (check_any f.C f.R f.hol aC aR aH f.n cC f.k cR cH f.week _ hn hk hh H1.out H2.out H3.out)
  have BX : Hid (∀ W, Below (w.heap.size + 1) (w.alloc (.cells #[.slice aC f.n cC, .slice aR f.k cR, .int .i64 f.week, .slice aH f.hol.length cH] 26)) W → W.cell? ⟨w.heap.size, 0, none⟩ = some (.slice aC f.n cC) ∧ W.cell? ⟨w.heap.size, 1, none⟩ = some (.slice aR f.k cR) ∧ W.cell? ⟨w.heap.size, 2, none⟩ = some (.int .i64 f.week) ∧ W.cell? ⟨w.heap.size, 3, none⟩ = some (.slice aH f.hol.length cH) ∧ Below w.heap.size w W) := fun W hW =>
    ⟨by have := boxed hW 0; simpa using this, by have := boxed hW 1; simpa using this, by have := boxed hW 2; simpa using this, by have := boxed hW 3; simpa using this, B0.trans (hW.mono (by omega))⟩
  have HZ : Hid ((w.alloc (.cells #[.slice aC f.n cC, .slice aR f.k cR, .int .i64 f.week, .slice aH f.hol.length cH] 26)).heap.size = w.heap.size + 1) := by show _ = _; simp
  clear h1 h2 h3 B0
  go_enter Tryd.func9, Tryd.ntmps9
  go_wp2_with fail
  refine CK.out.mono ?_
  clear CK
  generalize w.alloc (.cells #[.slice aC f.n cC, .slice aR f.k cR, .int .i64 f.week, .slice aH f.hol.length cH] 26) = wA at *
  rintro e w1 ⟨a, n, rfl, rel, b1⟩
  have B1 : Hid (Below (w.heap.size + 1) wA w1) := b1.mono (by rw [HZ.out]; exact Nat.le_refl _)
  clear b1
  by_cases ha : a = 0
  · subst ha
    have RL : Hid (f.Rel 0 n) := rel
    have OK : Hid f.Ok := rel.ok.2
    have DK := hid OK.out.doc
    have n20 := OK.out.w64.n
    have k6 := OK.out.w64.k
    have nh := OK.out.w64.nh
    have HW := hid OK.out.w64
    clear rel
    have c2 := (BX.out _ B1.out).2.2.1
    have c3 := (BX.out _ B1.out).2.2.2.1
    have zf : w.heap.size < w1.heap.size := by have := B1.out.size; have := HZ.out; omega
    have SRC : Hid (∀ o, SrcAt (w1.alloc o) aH f.hol.length (ints f.hol)) := fun o => srcAt_ints (SlAt.below H3.out ((B1.out.mono (by rw [HZ.out]; exact Nat.le_refl _)).trans ((Below.refl _ _).alloc (by have := B1.out.size; omega) o)) (Nat.le_refl _))
    go_wp2_with (at_builtin; refine wpList_append_srcs _ rfl (.tmp 26) (.tmp 28) 24 rfl w1.heap.size 3 i3 _ 1 8 Tryd.underlying24 I3.out Z3.out.1 Z3.out.2.1 Z3.out.2.2 rfl (by omega) (.slice (some ⟨w1.heap.size, 0, none⟩) 1 1) 1 [.int .i64 f.week] (by rfl) (own_one _ _) (by omega) aH f.hol.length cH (ints f.hol) (by rfl) (ints_len _) (SRC.out _) (ints_one _) (by unfold maxLen; omega) (by omega) (by simp) ?_; intro g cap w3 hown hgrow; refine stopH ?_)
    have b3 : Below w1.heap.size w1 w3 := grow_below0 hgrow (Nat.le_refl _) (fun g hg => by simp [Value.ownBlock] at hg; omega)
    have B3 : Hid (Below (w.heap.size + 1) wA w3) := B1.out.trans (b3.mono (by omega))
    have LW := hid (rline_any 119 (f.week :: f.hol) (some ⟨g, 0, none⟩) (1 + f.hol.length) cap w3 (by simp; omega) (getD_of_mem DK.out.w.2) (by simp; omega) (own_cons_ints hown))
    clear hown hgrow b3 SRC c2 c3 B1
    refine hid ?_
    go_wp2_with fail
    refine LW.out.mono ?_
    rintro e w4 ⟨rfl, b4⟩
    have B4 : Hid (Below (w.heap.size + 1) wA w4) := B3.out.trans (b4.mono (by have := B3.out.size; have := HZ.out; omega))
    have S0 : Hid (bs (lineT 119 (f.week :: f.hol)) = bs (cT f 0)) := by show _ = _; rw [cT_zero]
    clear b4 LW B3 zf
    go_wp2_with fail
    go_loopw [7, 8] (fun ts ti wr => ∃ (t : ByteArray) (i : Nat), ts = .string t ∧ ti = .int .i64 i ∧ i ≤ f.n ∧ Hid (t = bs (cT f i)) ∧ Hid (Below (w.heap.size + 1) wA wr)) (fun _ ti _ => f.n - (intOf ti).toNat)
    case atStart => exact ⟨_, 0, rfl, by go_num, by omega, S0, B4⟩
    case round =>
      clear S0 B4
      obtain ⟨t, i, rfl, rfl, hi, hs, hb⟩ := hrel
      have BA : Hid (Below wA.heap.size wA wr) := hb.out.mono (by rw [HZ.out]; exact Nat.le_refl _)
      have c0 := (BX.out _ hb.out).1
      have zf : w.heap.size < wr.heap.size := by have := hb.out.size; have := HZ.out; omega
      by_cases hil : i < f.n
      · obtain ⟨b, o, ha, hbl, hc⟩ : ∃ b o, aC = some ⟨b, o, none⟩ ∧ b < wr.heap.size ∧ CelIs wr b (o + i * 5) (f.C i) := by
          rcases H1.out.below BA.out with h0 | ⟨b, o, e, hbl, hc⟩
          · omega
          · exact ⟨b, o, e, hbl, hc i hil⟩
        subst ha
        have KI := hid (OK.out.cells i hil)
        have CL := hid (DK.out.cs (celL (f.C i)) (List.mem_map.2 ⟨i, List.mem_range.2 hil, rfl⟩))
        have SM := hid (cT_more f i)
        have s4 : t.size ≤ 10000 := by
          rw [hs.out, bs_size]
          have := cT_len HW.out hi
          omega
        obtain ⟨ci, hci⟩ : ∃ c, f.C i = c := ⟨_, rfl⟩
        rw [hci] at hc KI CL SM
        clear hci
        obtain ⟨u0, u1, u2, u3, u4⟩ := hc
        obtain ⟨q, hq⟩ := Int.eq_ofNat_of_zero_le (needs_bd KI.out.1 KI.out.2.1).1
        have q3 : q ≤ 3 := by have := (needs_bd KI.out.1 KI.out.2.1).2; omega
        have HQ := hid hq
        clear hq
        have NL := hid (nmL_split ci q KI.out.1 KI.out.2.1 HQ.out)
        have NUM : Hid (∀ x ∈ ci.kind :: nmL ci, N10 x) := fun x hx => by
          rcases List.mem_cons.1 hx with rfl | hx
          · have := KI.out.1; have := KI.out.2.1; unfold N10; omega
          · obtain ⟨kd, tt, e1, _, _, _, e2⟩ := CL.out
            exact e2 x (by rw [← (List.cons.inj e1).2]; exact hx)
        have LEN := hid (nmL_len ci)
        obtain ⟨W, hW⟩ : ∃ W, (wr.alloc (.cells #[.int .i64 ci.kind, .int .i64 ci.a, .int .i64 ci.b, .int .i64 ci.c, .int .i64 ci.k] 46)).alloc (.cells #[.int .i64 ci.kind] 3) = W := ⟨_, rfl⟩
        have BW : Hid (Below wr.heap.size wr W) := by rw [← hW]; exact ((Below.refl _ _).alloc (Nat.le_refl _) _).alloc (by simp) _
        have OW0 : W.ownsRow (wr.heap.size + 1) 3 1 (.slice (some ⟨wr.heap.size + 1, 0, none⟩) 1 1) 1 [.int .i64 ci.kind] := by
          have := own_one (wr.alloc (.cells #[.int .i64 ci.kind, .int .i64 ci.a, .int .i64 ci.b, .int .i64 ci.c, .int .i64 ci.k] 46)) (.int .i64 ci.kind)
          rw [← hW]
          simpa using this
        have OW := hid OW0
        clear OW0
        have ZW : Hid (W.heap.size = wr.heap.size + 1 + 1) := by rw [← hW]; show _ = _; simp
        have RB : Hid (W.cell? ⟨wr.heap.size, 0, none⟩ = some (.int .i64 ci.kind) ∧ W.cell? ⟨wr.heap.size, 1, none⟩ = some (.int .i64 ci.a) ∧ W.cell? ⟨wr.heap.size, 2, none⟩ = some (.int .i64 ci.b) ∧ W.cell? ⟨wr.heap.size, 3, none⟩ = some (.int .i64 ci.c) ∧ W.cell? ⟨wr.heap.size, 4, none⟩ = some (.int .i64 ci.k)) := by
          rw [← hW]
          refine ⟨?_, ?_, ?_, ?_, ?_⟩ <;> (rw [World.cell?_alloc_lt (h := by simp)]; simp)
        go_upto_region 12 with (fail)
        clear hW u0 u1 u2 u3 u4 c0
        obtain ⟨r0, r1, r2, r3, r4⟩ := RB.out
        have NM := hid (named_any ci.kind ci.a ci.b ci.c ci.k q W HQ.out q3)
        have zw : wr.heap.size < W.heap.size := by have := ZW.out; omega
        go_wp2_with fail
        refine NM.out.mono ?_
        rintro e w5 ⟨bl, rfl, hbl5, row5, b5⟩
        have ln0 : ((List.range q).map (fun i => needp ⟨0, ci.a, ci.b, ci.c, 0⟩ i)).length = q := by simp
        have SRC : Hid (SrcAt w5 (some ⟨bl, 0, none⟩) q (ints ((List.range q).map (fun i => needp ⟨0, ci.a, ci.b, ci.c, 0⟩ i)))) := by
          refine Or.inr ⟨⟨bl, 0, none⟩, rfl, row5.lt, fun j u hu => ?_⟩
          unfold ints at hu
          rw [List.map_map, List.getElem?_map] at hu
          rcases Nat.lt_or_ge j q with hj | hj
          · rw [List.getElem?_range hj] at hu
            obtain rfl := Option.some.inj hu
            have e2 : (⟨bl, 0, none⟩ : Addr).add j = ⟨bl, j, none⟩ := by unfold Addr.add; simp; intro h; omega
            rw [e2]
            exact row5.cell (i := j) (by omega)
          · rw [List.getElem?_eq_none (by simpa using hj)] at hu
            cases hu
        have OW5 := hid (own_of_block OW.out (w' := w5) (fun g hg hl => b5.block g hl))
        have k0 : w5.cell? ⟨wr.heap.size, 0, none⟩ = some (.int .i64 ci.kind) := by rw [b5.cell (p := ⟨wr.heap.size, 0, none⟩) zw]; exact r0
        have k4 : w5.cell? ⟨wr.heap.size, 4, none⟩ = some (.int .i64 ci.k) := by rw [b5.cell (p := ⟨wr.heap.size, 4, none⟩) zw]; exact r4
        have z5 := b5.size
        have B5 : Hid (Below wr.heap.size wr w5) := BW.out.trans (b5.mono (by omega))
        have z55 : wr.heap.size + 1 ≤ w5.heap.size := by have := ZW.out; omega
        clear r0 r1 r2 r3 r4 RB NM row5 b5 OW
        go_wp2_with (at_builtin; refine wpList_append_srcs _ rfl (.tmp 49) (.tmp 50) 24 rfl (wr.heap.size + 1) 3 i3 _ 1 8 Tryd.underlying24 I3.out Z3.out.1 Z3.out.2.1 Z3.out.2.2 rfl (by omega) (.slice (some ⟨wr.heap.size + 1, 0, none⟩) 1 1) 1 [.int .i64 ci.kind] (by rfl) OW5.out (by omega) (some ⟨bl, 0, none⟩) q 3 (ints ((List.range q).map (fun i => needp ⟨0, ci.a, ci.b, ci.c, 0⟩ i))) (by rfl) (by unfold ints; simp) SRC.out (ints_one _) (by unfold maxLen; omega) (by omega) (by omega) ?_; intro g6 cap6 w6 hown hgrow; refine stopH ?_)
        have far : ∀ j, j < wr.heap.size + 1 → w6.heap[j]? = w5.heap[j]? := fun j hj => hgrow.block j (by omega) (fun e => by simp [Value.ownBlock] at e; omega)
        have k0' : w6.cell? ⟨wr.heap.size, 0, none⟩ = some (.int .i64 ci.kind) := by rw [World.cell?_of_block (w := w5) (far _ (by show wr.heap.size < _; omega))]; exact k0
        have k4' : w6.cell? ⟨wr.heap.size, 4, none⟩ = some (.int .i64 ci.k) := by rw [World.cell?_of_block (w := w5) (far _ (by show wr.heap.size < _; omega))]; exact k4
        have B6 : Hid (Below wr.heap.size wr w6) := B5.out.trans ⟨hgrow.os, hgrow.tape, hgrow.output, hgrow.size, fun j hj => far j (by omega)⟩
        have z6 : wr.heap.size + 1 ≤ w6.heap.size := by have := hgrow.size; omega
        have OW6 := hid hown
        have HK := hid (rhask_any ci.kind w6)
        clear far hown hgrow k0 k4 OW5 B5 SRC z5 z55 hbl5 zw BW ZW
        refine hid ?_
        go_wp2_with fail
        refine HK.out.mono ?_
        rintro e w6' ⟨rfl, hw6⟩
        obtain rfl : w6 = w6' := hw6.symm
        clear hw6 HK
        have S1 : Hid (∀ x, x = bs (lineT 99 (ci.kind :: nmL ci)) → t ++ x = bs (cT f (i + 1))) := fun x hx => by
          rw [hs.out, hx, bs_append, SM.out]
          rfl
        have s5 : (bs (lineT 99 (ci.kind :: nmL ci))).size ≤ 1000 := by
          rw [bs_size]
          have := line_len (c := 99) (l := ci.kind :: nmL ci) (fun x hx => n10_i64 (NUM.out x hx))
          have := LEN.out
          rw [List.length_cons] at *
          omega
        have BB : Hid (∀ W, Below w6.heap.size w6 W → Below (w.heap.size + 1) wA W) := fun W hW => hb.out.trans ((B6.out.trans (hW.mono (by omega))).mono (by omega))
        by_cases hk : hasKB ci.kind = true
        · rw [hk]
          have EN : Hid (nmL ci = (List.range q).map (fun i => needp ⟨0, ci.a, ci.b, ci.c, 0⟩ i) ++ [ci.k]) := by show _ = _; rw [NL.out, if_pos hk]
          clear hk
          go_wp2_with (at_builtin; refine wpList_append_lies _ rfl (.tmp 56) (.tmp 59) 24 rfl (wr.heap.size + 1) 3 i3 _ 1 8 Tryd.underlying24 I3.out Z3.out.1 Z3.out.2.1 Z3.out.2.2 rfl (by omega) _ (1 + q) _ (by rfl) (own_alloc0 OW6.out _) ⟨w6.heap.size, 0, none⟩ 1 1 [.int .i64 ci.k] (by rfl) (by rfl) (news1k _ _ _) (by simp [Value.oneCell']) (by omega) (by unfold maxLen; omega) (by omega) (by simp; omega) (w6.heap.size + 1) (by simp) ?_; intro g7 cap7 w7 hown7 hgrow7 hat7 hlt7; refine stopH ?_)
          have IA : IntsAt w7 (.slice (some ⟨g7, 0, none⟩) (ci.kind :: nmL ci).length cap7) (ci.kind :: nmL ci) := own_to_ints hown7 (by rw [EN.out]; simp; omega) (by rw [EN.out]; unfold ints; simp)
          have LN := hid (rline_any 99 (ci.kind :: nmL ci) (some ⟨g7, 0, none⟩) (1 + q + 1) cap7 w7 (by rw [EN.out]; simp; omega) (getD_of_mem NUM.out) (by have := LEN.out; rw [List.length_cons]; omega) IA)
          have B7 : Hid (Below wr.heap.size wr w7) := by
            refine B6.out.trans (grow_below0 (B := wr.heap.size) hgrow7 (by omega) (fun g' hg' => ?_))
            have := own_base OW6.out hg'
            omega
          clear hown7 hgrow7 hat7 hlt7 IA OW6 EN NL k0' k4'
          refine hid ?_
          go_wp2_with fail
          refine LN.out.mono ?_
          rintro e w8 ⟨rfl, b8⟩
          have B8 : Hid (Below (w.heap.size + 1) wA w8) := hb.out.trans ((B7.out.trans (b8.mono B7.out.size)).mono (by omega))
          have S2 := hid (S1.out _ rfl)
          clear b8 LN B7 hs hb BA SM B6 S1 BB
          go_wp2
          go_roundw
          case rel => exact ⟨_, i + 1, rfl, by go_num, by omega, S2, B8⟩
          case measure => simp [intOf]; omega
        · have hk' : hasKB ci.kind = false := by simpa using hk
          rw [hk']
          have EN : Hid (nmL ci = (List.range q).map (fun i => needp ⟨0, ci.a, ci.b, ci.c, 0⟩ i)) := by show _ = _; rw [NL.out, if_neg hk, List.append_nil]
          have IA : IntsAt w6 (.slice (some ⟨g6, 0, none⟩) (ci.kind :: nmL ci).length cap6) (ci.kind :: nmL ci) := own_to_ints OW6.out (by rw [EN.out]; simp; omega) (by rw [EN.out]; unfold ints; simp)
          have LN := hid (rline_any 99 (ci.kind :: nmL ci) (some ⟨g6, 0, none⟩) (1 + q) cap6 w6 (by rw [EN.out]; simp; omega) (getD_of_mem NUM.out) (by have := LEN.out; rw [List.length_cons]; omega) IA)
          clear hk hk' IA OW6 EN NL k0' k4'
          go_wp2_with fail
          refine LN.out.mono ?_
          rintro e w8 ⟨rfl, b8⟩
          have B8 := hid (BB.out _ b8)
          have S2 := hid (S1.out _ rfl)
          clear b8 LN hs hb BA SM B6 S1 BB
          go_wp2
          go_roundw
          case rel => exact ⟨_, i + 1, rfl, by go_num, by omega, S2, B8⟩
          case measure => simp [intOf]; omega
      · obtain rfl : i = f.n := by omega
        have S0 : Hid (t = bs (rT f 0)) := by show _ = _; rw [rT_zero]; exact hs.out
        clear BA hs
        generalize wr = wo at *
        go_wp2_with fail
        clear c0
        go_loopw [7, 13] (fun ts ti wr => ∃ (t : ByteArray) (i : Nat), ts = .string t ∧ ti = .int .i64 i ∧ i ≤ f.k ∧ Hid (t = bs (rT f i)) ∧ Hid (Below (w.heap.size + 1) wA wr)) (fun _ ti _ => f.k - (intOf ti).toNat)
        case atStart => exact ⟨_, 0, rfl, by go_num, by omega, S0, hb⟩
        case round =>
          clear S0 hb zf hil hi
          obtain ⟨t, i, rfl, rfl, hi, hs, hb⟩ := hrel
          have BA : Hid (Below wA.heap.size wA wr) := hb.out.mono (by rw [HZ.out]; exact Nat.le_refl _)
          have c1 := (BX.out _ hb.out).2.1
          have zf : w.heap.size < wr.heap.size := by have := hb.out.size; have := HZ.out; omega
          by_cases hil : i < f.k
          · obtain ⟨b, o, ha, hbl, hc⟩ : ∃ b o, aR = some ⟨b, o, none⟩ ∧ b < wr.heap.size ∧ RuleIs wr b (o + i * 2) (f.R i) := by
              rcases H2.out.below BA.out with h0 | ⟨b, o, e, hbl, hc⟩
              · omega
              · exact ⟨b, o, e, hbl, hc i hil⟩
            subst ha
            have CL := hid (DK.out.rs (rulL (f.R i)) (List.mem_map.2 ⟨i, List.mem_range.2 hil, rfl⟩))
            have SM := hid (rT_more f i)
            have NS := HW.out.ns i hil
            have s4 : t.size ≤ 10000 := by
              rw [hs.out, bs_size]
              have := rT_len HW.out hi
              omega
            obtain ⟨ci, hci⟩ : ∃ c, f.R i = c := ⟨_, rfl⟩
            rw [hci] at hc CL SM NS
            clear hci
            obtain ⟨u0, av, cv, u1, hv, _⟩ := hc
            have SRC : Hid (∀ o, SrcAt (wr.alloc o) av ci.steps.length (ints ci.steps)) := fun o => srcAt_ints (SlAt.below hv ((Below.refl _ _).alloc (Nat.le_refl _) o) (Nat.le_refl _))
            clear hv
            have s5 : (bs (lineT 114 (ci.guard :: ci.steps))).size ≤ 1000 := by
              rw [bs_size]
              have := line_len (c := 114) (l := ci.guard :: ci.steps) (fun x hx => n10_i64 (CL.out.2 x hx))
              rw [List.length_cons] at *
              omega
            go_wp2_with (at_builtin; refine wpList_append_srcs _ rfl (.tmp 79) (.tmp 85) 24 rfl wr.heap.size 3 i3 _ 1 8 Tryd.underlying24 I3.out Z3.out.1 Z3.out.2.1 Z3.out.2.2 rfl (by omega) (.slice (some ⟨wr.heap.size, 0, none⟩) 1 1) 1 [.int .i64 ci.guard] (by rfl) (own_one _ _) (by omega) av ci.steps.length cv (ints ci.steps) (by rfl) (ints_len _) (SRC.out _) (ints_one _) (by unfold maxLen; omega) (by omega) (by simp) ?_; intro g9 cap9 w3 hown hgrow; refine stopH ?_)
            have b3 : Below wr.heap.size wr w3 := grow_below0 hgrow (Nat.le_refl _) (fun g hg => by simp [Value.ownBlock] at hg; omega)
            have LW := hid (rline_any 114 (ci.guard :: ci.steps) (some ⟨g9, 0, none⟩) (1 + ci.steps.length) cap9 w3 (by simp; omega) (getD_of_mem CL.out.2) (by simp; omega) (own_cons_ints hown))
            have B3 := hid b3
            clear hown hgrow b3 SRC c1 u0 u1
            refine hid ?_
            go_wp2_with fail
            refine LW.out.mono ?_
            rintro e w8 ⟨rfl, b8⟩
            have B8 : Hid (Below (w.heap.size + 1) wA w8) := hb.out.trans ((B3.out.trans (b8.mono B3.out.size)).mono (by omega))
            have S2 : Hid (t ++ bs (lineT 114 (ci.guard :: ci.steps)) = bs (rT f (i + 1))) := by
              show _ = _
              rw [hs.out, bs_append, SM.out]
              rfl
            clear b8 LW hs hb BA SM B3
            go_wp2
            go_roundw
            case rel => exact ⟨_, i + 1, rfl, by go_num, by omega, S2, B8⟩
            case measure => simp [intOf]; omega
          · obtain rfl : i = f.k := by omega
            have R : Hid (PrP f w (.returned (.tuple #[.string t, .int .i64 0])) wr) := ⟨0, n, f.doc.text, by rw [hs.out, rT_doc], RL.out, fun _ => rfl, fun h => absurd rfl h, (BX.out _ hb.out).2.2.2.2⟩
            clear BA hs hb
            go_wp2
            go_ret2
            exact R.out
  · have ne : (a != 0) = true := bne_iff_ne.2 ha
    have R : Hid (PrP f w (.returned (.tuple #[.string { data := #[] }, .int .i64 a])) w1) := ⟨a, n, [], rfl, rel, fun h => absurd h ha, fun _ => rfl, (BX.out _ B1.out).2.2.2.2⟩
    clear rel BX B1
    go_wp2
    go_ret2
    exact R.out

end Go.Proofs.YtcondcffllaaoaaDoor
