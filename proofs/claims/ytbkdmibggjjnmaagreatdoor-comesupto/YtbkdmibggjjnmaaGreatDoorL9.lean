/-
  THE LAW: how a script begins.
-/
import Derived.Test.YtbkdmibggjjnmaaGreatDoorL7
set_option linter.unusedVariables false
set_option linter.unusedSimpArgs false
namespace Go.Proofs.YtbkdmibggjjnmaaGreatDoor
open Go.RowKit
attribute [local go_sem ↓] Go.wp_at_zero Go.wp_at_succ

theorem info56 : (Tryz.prog.info? 57).map (fun i => (i.zero, i.size, i.bytes)) = some (some (.agg #[.pointer none, .pointer none]), 2, 16) := by kernel_rfl

theorem check_any (C : Nat → Cel) (R : Nat → Rul) (hol : List Int) (aC aR aH : Option Addr) (n cC k cR cH : Nat) (week : Int) (w : World) (hn : n ≤ 1000000000) (hk : k ≤ 1000000000) (hhl : hol.length ≤ 1000000000)
    (hcs : CAt w aC n C) (hrs : RAt w aR k R) (hhs : IntsAt w (.slice aH hol.length cH) hol) :
    Calls Tryz.prog 15 #[.agg #[.slice aC n cC, .slice aR k cR, .int .i64 week, .slice aH hol.length cH]] w fun e w' => ChkPost C n R k week hol w e w' := by
  by_cases hs : SizesOk n k week
  · rcases hcs with h0 | ⟨b, off, rfl, hb, hc⟩
    · have := hs.1; omega
    · exact check_sized C R hol aR aH b off n cC k cR cH week w hs hhl hb hc hrs hhs
  · exact check_bad C R hol aC aR aH n cC k cR cH week w hs hn hk

/-- Whose is a block, where a script begins. -/
def btag (pk : KPl) (vk : Value) (pd : Pl) (vd : Value) (bP bl : Nat) (j : Nat) : Nat := @ite Nat (KOwn pk vk j) (KOwn.dec pk vk j) 2 (@ite Nat (Own pd vd j) (Own.dec pd vd j) 3 (if j = bP ∨ j = bl then 1 else 0))
theorem btag_k {pk : KPl} {vk : Value} {pd : Pl} {vd : Value} {bP bl j : Nat} (h : KOwn pk vk j) : btag pk vk pd vd bP bl j = 2 := by unfold btag; rw [if_pos h]
theorem btag_d {pk : KPl} {vk : Value} {pd : Pl} {vd : Value} {bP bl j : Nat} (h : ¬ KOwn pk vk j) (g : Own pd vd j) : btag pk vk pd vd bP bl j = 3 := by unfold btag; rw [if_neg h, if_pos g]
theorem btag_s {pk : KPl} {vk : Value} {pd : Pl} {vd : Value} {bP bl j : Nat} (h : ¬ KOwn pk vk j) (g : ¬ Own pd vd j) (e : j = bP ∨ j = bl) : btag pk vk pd vd bP bl j = 1 := by unfold btag; rw [if_neg h, if_neg g, if_pos e]
theorem btag_no {pk : KPl} {vk : Value} {pd : Pl} {vd : Value} {bP bl j : Nat} (h : ¬ KOwn pk vk j) (g : ¬ Own pd vd j) (e1 : j ≠ bP) (e2 : j ≠ bl) : btag pk vk pd vd bP bl j = 0 := by
  unfold btag
  rw [if_neg h, if_neg g, if_neg (fun e => by rcases e with e | e; exact e1 e; exact e2 e)]

/-- How a script begins: there is no case, as the document says; or there is one on both sides. -/
def BgP (f : Frm) (w : World) (e : Ending) (w' : World) : Prop :=
  Below w.heap.size w w' ∧ (e = .returned (.tuple #[.pointer none, .bool true]) ∨
    (f.Ok ∧ ∃ P tag bP bl cP vL, e = .returned (.tuple #[.pointer (some ⟨bP, 0, none⟩), .bool true]) ∧ PSt f 1 1 P 0 [] tag bP bl cP vL w' ∧ (P 0).ck = (P 0).cd ∧ ∀ j, j < w.heap.size → tag j = 0))

set_option maxRecDepth 100000 in
set_option maxHeartbeats 2000000 in
theorem lawbegin_any (C : Nat → Cel) (R : Nat → Rul) (hol : List Int) (aC aR aH : Option Addr) (n cC k cR cH : Nat) (week : Int) (w : World) (ht : Tab w) (hn : n ≤ 1000000000) (hk : k ≤ 1000000000) (hhl : hol.length ≤ 1000000000) (hsl : ∀ i, i < k → (R i).steps.length ≤ 1000000000)
    (hcs : CAt w aC n C) (hrs : RAt w aR k R) (hhs : IntsAt w (.slice aH hol.length cH) hol) :
    Calls Tryz.prog 12 #[.agg #[.slice aC n cC, .slice aR k cR, .int .i64 week, .slice aH hol.length cH]] w fun e w' => BgP ⟨C, n, R, k, hol, week⟩ w e w' := by
  have HT := hid ht
  have HCS := hid hcs
  have HRS := hid hrs
  have HHS := hid hhs
  have HSL := hid hsl
  clear ht hcs hrs hhs hsl
  have hw0 : 0 < w.heap.size := HT.out.1
  have HB : Hid (∀ o, Below w.heap.size w (w.alloc o)) := fun o => (Below.refl _ _).alloc (Nat.le_refl _) _
  obtain ⟨i56, y1, y2⟩ := Option.map_eq_some_iff.1 info56
  simp only [Prod.mk.injEq] at y2
  have I56 := hid y1
  have Z56 := hid y2
  clear y1 y2
  go_enter Tryz.func12, Tryz.ntmps12
  go_wp2_with fail
  refine (check_any C R hol aC aR aH n cC k cR cH week _ hn hk hhl (HCS.out.below (HB.out _)) (HRS.out.below (HB.out _)) (SlAt.below HHS.out (HB.out _) (Nat.le_refl _))).mono ?_
  rintro e1 w1 ⟨er, a, rfl, hrel, hb1⟩
  have REL := hid hrel
  have B1 : Hid (Below (w.heap.size + 1) (w.alloc (.cells #[.slice aC n cC, .slice aR k cR, .int .i64 week, .slice aH hol.length cH] 26)) w1) := by have h := hb1; rw [World.size_alloc] at h; exact h
  have C1 := hid (boxed_below B1.out)
  have s1 : w.heap.size + 1 ≤ w1.heap.size := by have := B1.out.size; simpa using this
  clear hb1 hrel
  have f0 := boxed B1.out 0
  have f1 := boxed B1.out 1
  have f2 := boxed B1.out 2
  have f3 := boxed B1.out 3
  simp at f0 f1 f2 f3
  go_wp2_with fail
  refine (handed_any C R hol aC aR aH n cC k cR cH week w1 hn hk hhl (HCS.out.below C1.out) (HRS.out.below C1.out) (SlAt.below HHS.out C1.out (Nat.le_refl _))).mono ?_
  rintro e2 w2 ⟨bc, br, bh, bs, rfl, p1, p2, p3, p4, p5, p6, p7, hb2⟩
  have P4 := hid p4
  have P5 := hid p5
  have P6 := hid p6
  have P7 := hid p7
  have l7 := p7.lt
  have B2 : Hid (Below (w.heap.size + 1) (w.alloc (.cells #[.slice aC n cC, .slice aR k cR, .int .i64 week, .slice aH hol.length cH] 26)) w2) := B1.out.trans (hb2.mono s1)
  have C2 := hid (boxed_below B2.out)
  have s2 : w1.heap.size ≤ w2.heap.size := hb2.size
  have X3 : Hid (∀ o, Below w2.heap.size w2 (w2.alloc o)) := fun o => (Below.refl _ _).alloc (Nat.le_refl _) _
  clear p4 p5 p6 p7 hb2 f0 f1 f2 f3 B1 C1
  go_wp2_with fail
  refine (new_any ⟨C, n, R, k, hol, week⟩ bc br bh bs _ (HT.out.below (C2.out.trans ((X3.out _).mono (by omega))) (Nat.le_refl _)) hn hk hhl HSL.out (P5.out.alloc _) (P6.out.alloc _) (P7.out.alloc _) (fun x hx => (P4.out x hx).2.2.alloc _)).mono ?_
  rintro e3 w4 ⟨hb4, er', a', hrel', hcase⟩
  obtain ⟨rfl, rfl⟩ := ChkRel.unique hrel' REL.out
  have B4' : Hid (Below (w2.heap.size + 1) (w2.alloc (.cells #[.slice (some ⟨bc, 0, none⟩) n (n + 8), .slice (some ⟨br, 0, none⟩) k (k + 8), .int .i64 week, .slice (some ⟨bh, 0, none⟩) hol.length (hol.length + 8)] 26)) w4) := by have h := hb4; rw [World.size_alloc] at h; exact h
  have D4 := hid (boxed_below B4'.out)
  have s4 : w2.heap.size + 1 ≤ w4.heap.size := by have := B4'.out.size; simpa using this
  have B4 : Hid (Below (w.heap.size + 1) (w.alloc (.cells #[.slice aC n cC, .slice aR k cR, .int .i64 week, .slice aH hol.length cH] 26)) w4) := B2.out.trans (D4.out.mono (by omega))
  have C4 := hid (boxed_below B4.out)
  have HCASE := hid hcase
  clear hrel' hb4 hcase
  have f0 := boxed B4.out 0
  have f1 := boxed B4.out 1
  have f2 := boxed B4.out 2
  have f3 := boxed B4.out 3
  have g0 := boxed B4'.out 0
  have g1 := boxed B4'.out 1
  have g2 := boxed B4'.out 2
  have g3 := boxed B4'.out 3
  simp at f0 f1 f2 f3 g0 g1 g2 g3
  have STILL := hid (still_any C R hol aC aR aH n cC k cR cH bc br bh bs week w4 hn hk hhl (HCS.out.below C4.out) (HRS.out.below C4.out) (SlAt.below HHS.out C4.out (Nat.le_refl _)) (P5.out.of_block (D4.out.block _ P5.out.lt)) (P6.out.of_block (D4.out.block _ P6.out.lt)) (P7.out.of_block (D4.out.block _ P7.out.lt)) (fun x hx => (P4.out x hx).2.2.of_block (D4.out.block _ (P4.out x hx).2.2.lt)))
  rcases HCASE.out with ⟨e0, rfl⟩ | ⟨rfl, _, Qk, pk, vk, rfl, hk4, hko, hkq⟩
  · clear HCASE
    go_wp2_with (go_at_call 18; refine STILL.out.mono ?_; rintro e5 w5 ⟨rfl, hb5⟩; refine stopH ?_)
    have Q : Hid (BgP ⟨C, n, R, k, hol, week⟩ w (.returned (.tuple #[.pointer none, .bool true])) w5) := ⟨C4.out.trans (hb5.mono C4.out.size), Or.inl rfl⟩
    clear hb5 f0 f1 f2 f3 g0 g1 g2 g3
    refine hid ?_
    go_wp2_with (go_at_call 19; refine (num_any _ _).mono ?_; rintro e6 w6 ⟨rfl, rfl⟩)
    go_ret2
    exact Q.out
  · have K4 : Hid (KAt Qk ⟨C, n, R, k, hol, week⟩ pk (beginM ⟨C, n, R, k, hol, week⟩) vk w4) := hk4
    have KO : Hid (∀ j, KOwn pk vk j → w2.heap.size + 1 ≤ j) := fun j hj => by have h := hko j hj; rw [World.size_alloc] at h; exact h
    have KQ : Hid (∀ j, Qk j → j = 0 ∨ w2.heap.size + 1 ≤ j) := fun j hj => by have h := hkq j hj; rw [World.size_alloc] at h; exact h
    clear hk4 hko hkq HCASE
    obtain ⟨rfl, hfo⟩ := REL.out.ok
    have HFO := hid hfo
    clear hfo
    go_wp2_with (go_at_call 18; refine STILL.out.mono ?_; rintro e5 w5 ⟨rfl, hb5⟩; refine stopH ?_)
    have B5' : Hid (Below (w2.heap.size + 1) (w2.alloc (.cells #[.slice (some ⟨bc, 0, none⟩) n (n + 8), .slice (some ⟨br, 0, none⟩) k (k + 8), .int .i64 week, .slice (some ⟨bh, 0, none⟩) hol.length (hol.length + 8)] 26)) w5) := B4'.out.trans (hb5.mono s4)
    have D5 := hid (boxed_below B5'.out)
    have s5 : w4.heap.size ≤ w5.heap.size := hb5.size
    have B5 : Hid (Below (w.heap.size + 1) (w.alloc (.cells #[.slice aC n cC, .slice aR k cR, .int .i64 week, .slice aH hol.length cH] 26)) w5) := B4.out.trans (hb5.mono (by omega))
    have K5 : Hid (KAt Qk ⟨C, n, R, k, hol, week⟩ pk (beginM ⟨C, n, R, k, hol, week⟩) vk w5) := KSt.drop K4.out hb5
    clear f0 f1 f2 f3 g0 g1 g2 g3 hb5 B4 B4' C4 D4 STILL K4 B2
    have g0 := boxed B5'.out 0
    have g1 := boxed B5'.out 1
    have g2 := boxed B5'.out 2
    have g3 := boxed B5'.out 3
    simp at g0 g1 g2 g3
    have BLOT := hid (blot_any R n k hol.length bc br bh bc (bh + 1) bs week (cellSt C n 8) w5 hn hk hhl (P5.out.of_block (D5.out.block _ P5.out.lt)) (P6.out.of_block (D5.out.block _ P6.out.lt)) (intSp_row (P7.out.of_block (D5.out.block _ P7.out.lt))) (fun x hx => intSp_row ((P4.out x hx).2.2.of_block (D5.out.block _ (P4.out x hx).2.2.lt))) HSL.out (Nat.le_refl _) p2 p3 (by omega) (by omega) (fun x hx => ⟨(P4.out x hx).1, (P4.out x hx).2.1⟩))
    refine hid ?_
    go_wp2_with first | (go_at_call 19; refine (num_any _ _).mono ?_; rintro e6 w6 ⟨rfl, hw⟩; rw [hw]; clear hw w6) | (go_at_call 20; refine BLOT.out.mono ?_; rintro e6 w6 ⟨rfl, rng⟩; refine stopH ?_)
    have s6 : w5.heap.size ≤ w6.heap.size := rng.bel.size
    have B6 : Hid (Below (w.heap.size + 1) (w.alloc (.cells #[.slice aC n cC, .slice aR k cR, .int .i64 week, .slice aH hol.length cH] 26)) w6) := B5.out.trans (rng.bel.mono (by omega))
    have C6 := hid (boxed_below B6.out)
    have K6 : Hid (KAt Qk ⟨C, n, R, k, hol, week⟩ pk (beginM ⟨C, n, R, k, hol, week⟩) vk w6) := KSt.move K5.out s6 (fun j hj => by
      rcases hj with hj | hj
      · rcases KQ.out j hj with e | e
        · subst e; exact rng.bel.block 0 (by omega)
        · exact rng.up j (by omega) (KSt.qlt K5.out j hj)
      · exact rng.up j (by have := KO.out j hj; omega) (KSt.own_lt K5.out j hj))
    clear rng BLOT g0 g1 g2 g3 B5 B5' D5 K5 P4 P5 P6 P7
    have f0 := boxed B6.out 0
    have f1 := boxed B6.out 1
    have f2 := boxed B6.out 2
    have f3 := boxed B6.out 3
    simp at f0 f1 f2 f3
    refine hid ?_
    go_wp2_with fail
    refine (dbegin_any C R hol aC aR aH n cC k cR cH week w6 HFO.out HSL.out (HCS.out.below C6.out) (HRS.out.below C6.out) (SlAt.below HHS.out C6.out (Nat.le_refl _))).mono ?_
    rintro e7 w7 ⟨Qd, pd, vd, rfl, q2, hb7, q3⟩
    have Q2 := hid q2
    have Q3 := hid q3
    have HB7 := hid hb7
    have s7 : w6.heap.size ≤ w7.heap.size := hb7.size
    clear q2 q3 hb7 f0 f1 f2 f3
    have NEWS : Hid (∀ j u, [Value.pointer (some ⟨pk.bp, 0, none⟩), .pointer (some ⟨pd.bw, 0, none⟩)][j]? = some u → ((w7.alloc (.cells #[.slice none 0 0, .slice none 0 0] 55)).alloc (.cells #[.pointer (some ⟨pk.bp, 0, none⟩), .pointer (some ⟨pd.bw, 0, none⟩)] 57)).cell? ((⟨w7.heap.size + 1, 0, none⟩ : Addr).add j) = some u) := by
      have h := news2' (w7.alloc (.cells #[.slice none 0 0, .slice none 0 0] 55)) (.pointer (some ⟨pk.bp, 0, none⟩)) (.pointer (some ⟨pd.bw, 0, none⟩)) 57
      rw [World.size_alloc] at h
      exact h
    go_wp2_with (at_builtin; refine wpList_append_lies _ rfl (.tmp 58) (.tmp 62) 52 rfl (w7.heap.size + 1) 57 i56 _ 2 16 Tryz.underlying52 I56.out Z56.out.1 Z56.out.2.1 Z56.out.2.2 rfl (by omega) (.slice none 0 0) 0 [] (by rfl) ⟨rfl, Or.inl ⟨rfl, rfl⟩⟩ ⟨w7.heap.size + 1, 0, none⟩ 1 1 [.pointer (some ⟨pk.bp, 0, none⟩), .pointer (some ⟨pd.bw, 0, none⟩)] (by rfl) (by rfl) NEWS.out (by simp [Value.oneCell']) (by omega) (by unfold maxLen; omega) (by omega) (by simp) (w7.heap.size + 1 + 1) (by simp) ?_; intro g cap w9 hown hgrow hat hlt; refine stopH ?_)
    have hgg : g = w7.heap.size + 1 + 1 := by
      rcases hat with h | h
      · simp [Value.ownBlock] at h
      · exact h
    have hgt : w7.heap.size < g := by omega
    clear hgg
    have PL9 : Hid (w9.rowIs w7.heap.size 55 2 (fun _ => .slice none 0 0)) := by
      have h1 := World.rowIs_alloc w7 #[.slice none 0 0, .slice none 0 0] 55 (fun _ => .slice none 0 0) (fun i hi => by
        have hi' : i = 0 ∨ i = 1 := by simp at hi; omega
        rcases hi' with rfl | rfl <;> rfl)
      exact h1.of_block (ev_far0 (w7.alloc (.cells #[.slice none 0 0, .slice none 0 0] 55)) _ hgrow (by simp) (by simp [Value.ownBlock]))
    have B9 : Hid (Below w7.heap.size w7 w9) := ((Below.refl _ _).alloc (Nat.le_refl _) _).trans ((grow_below0 hgrow (Nat.le_refl _) (fun g hg => by simp [Value.ownBlock] at hg)).mono (by simp))
    have PR := hid (own_mono hown (Nat.zero_le _))
    have e8 : w9.cell? ⟨w7.heap.size, 0, none⟩ = some (.slice none 0 0) := PL9.out.cell (by omega)
    have e9 := PL9.out.frozen 0
    clear hown hgrow hat NEWS
    have Q : Hid (BgP ⟨C, n, R, k, hol, week⟩ w (.returned (.tuple #[.pointer (some ⟨w7.heap.size, 0, none⟩), .bool true])) (w9.setCell ⟨w7.heap.size, 0, none⟩ (.slice (some ⟨g, 0, none⟩) 1 cap))) := by
      have BB : Below w7.heap.size w7 (w9.setCell ⟨w7.heap.size, 0, none⟩ (.slice (some ⟨g, 0, none⟩) 1 cap)) := B9.out.setCell (Nat.le_refl _) _
      have BT : Below w.heap.size w (w9.setCell ⟨w7.heap.size, 0, none⟩ (.slice (some ⟨g, 0, none⟩) 1 cap)) := (C6.out.trans (HB7.out.mono C6.out.size)).trans (BB.mono (by have := C6.out.size; omega))
      have Kf : KAt Qk ⟨C, n, R, k, hol, week⟩ pk (beginM ⟨C, n, R, k, hol, week⟩) vk (w9.setCell ⟨w7.heap.size, 0, none⟩ (.slice (some ⟨g, 0, none⟩) 1 cap)) := KSt.drop (KSt.drop K6.out HB7.out) BB
      have Df : DAt Qd ⟨C, n, R, k, hol, week⟩ pd (beginM ⟨C, n, R, k, hol, week⟩) vd (w9.setCell ⟨w7.heap.size, 0, none⟩ (.slice (some ⟨g, 0, none⟩) 1 cap)) := DSt.drop Q2.out BB
      have HOK : Frm.Ok ⟨C, n, R, k, hol, week⟩ := HFO.out
      refine ⟨BT, Or.inr ⟨HOK, fun _ => ⟨Qk, pk, vk, beginM ⟨C, n, R, k, hol, week⟩, Qd, pd, vd, beginM ⟨C, n, R, k, hol, week⟩⟩, btag pk vk pd vd w7.heap.size g, w7.heap.size, g, cap, .slice none 0 0, rfl, ?_, rfl, fun j hj => btag_no (fun h => by have := KO.out j h; omega) (fun h => by have := Q3.out j (Or.inr h); omega) (by omega) (by omega)⟩⟩
      have kl : ∀ j, KOwn pk vk j → j < w6.heap.size := fun j hj => KSt.own_lt K6.out j hj
      have dl : ∀ j, Own pd vd j → j < w7.heap.size := fun j hj => DSt.own_lt Q2.out j hj
      have kql : ∀ j, Qk j → j < w6.heap.size := fun j hj => KSt.qlt K6.out j hj
      have dql : ∀ j, Qd j → j < w7.heap.size := fun j hj => DSt.qlt Q2.out j hj
      refine ⟨fun i hi => Kf, fun i hi j hj => ?_, fun i hi j hj => ?_, fun i hi => ⟨beginM_ok HOK, beginM_few HOK⟩, fun i hi => Df, fun i hi j hj => ?_, fun i hi j hj => ?_, fun i hi => ⟨beginM_ok HOK, beginM_few HOK⟩, (PL9.out.set 0 _), ?_, ownsRow_setCell_other PR.out (fun e => by have h9 : g = w7.heap.size := own_blk e; omega) _, ?_, ⟨rfl, Or.inl ⟨rfl, rfl⟩⟩, fun j hj => (by cases hj), fun kk v hv => (by simp at hv)⟩
      · obtain rfl : i = 0 := by omega
        exact btag_k hj
      · exact btag_no (fun h => by
          obtain ⟨a1, a2, a3, a4⟩ := KSt.dis K6.out j hj
          rcases h with h | h | h | h
          · exact a1 h
          · exact a2 h
          · exact a3 h
          · exact a4 h) (fun h => by have := Q3.out j (Or.inr h); have := kql j hj; omega) (by have := kql j hj; omega) (by have := kql j hj; omega)
      · obtain rfl : i = 0 := by omega
        exact btag_d (fun h => by have := kl j h; have := Q3.out j (Or.inr hj); omega) hj
      · exact btag_no (fun h => by have := kl j h; have := Q3.out j (Or.inl hj); omega) (fun h => by
          obtain ⟨a1, a2, a3, a4⟩ := DSt.dis Q2.out j hj
          rcases h with h | h | h | h
          · exact a1 h
          · exact a2 h
          · exact a3 h
          · exact a4 h) (by have := dql j hj; omega) (by have := dql j hj; omega)
      · exact btag_s (fun h => by have := kl _ h; omega) (fun h => by have := dl _ h; omega) (Or.inl rfl)
      · exact btag_s (fun h => by have := kl _ h; omega) (fun h => by have := dl _ h; omega) (Or.inr rfl)
    clear B9 PR C6 K6 HB7 B6 KO KQ Q2 Q3
    refine hid ?_
    go_wp2
    go_ret2
    exact Q.out

end Go.Proofs.YtbkdmibggjjnmaaGreatDoor
