/-
  THE LAW: rules, looks.
-/
import Derived.Test.YtcondcffllaaoaaGreatDoorL6
import Derived.Test.YtcondcffllaaoaaGreatDoorL12
set_option linter.unusedVariables false
set_option linter.unusedSimpArgs false
namespace Go.Proofs.YtcondcffllaaoaaGreatDoor
open Go.RowKit
attribute [local go_sem ↓] Go.wp_at_zero Go.wp_at_succ
attribute [local go_sem] eqE eqSt

section
variable {f : Frm} {b np : Nat} {P : Nat → Pr} {nl : Nat} {xs : List Value} {tag : Nat → Nat} {bP bl cP : Nat} {vL : Value} {w : World}

/-- What is made behind is nobody's. -/
theorem PSt.fresh (h : PSt f b np P nl xs tag bP bl cP vL w) : PSt f b np P nl xs (ntag tag w.heap.size 0) bP bl cP vL w := by
  obtain ⟨g, N, f1, f2, f3⟩ := h.prow
  exact ⟨h.kst, fun i hi j hj => by rw [ntag_old (KSt.own_lt (h.kst i hi) j hj)]; exact h.kown i hi j hj, fun i hi j hj => by rw [ntag_old (KSt.qlt (h.kst i hi) j hj)]; exact h.kq i hi j hj, h.kok, h.dst, fun i hi j hj => by rw [ntag_old (DSt.own_lt (h.dst i hi) j hj)]; exact h.down i hi j hj, fun i hi j hj => by rw [ntag_old (DSt.qlt (h.dst i hi) j hj)]; exact h.dq i hi j hj, h.dok, h.row, by rw [ntag_old h.row.lt]; exact h.tP, h.prs, by rw [ntag_old f1.lt]; exact h.tl, h.lst, fun j hj => by rw [ntag_old (own_lt h.lst hj)]; exact h.tL j hj, fun k v hv => ⟨(h.els k v hv).1, fun j hj => ⟨((h.els k v hv).2 j hj).1, by rw [ntag_old ((h.els k v hv).2 j hj).1]; exact ((h.els k v hv).2 j hj).2⟩⟩⟩

theorem Kept.fresh {w' : World} (hb : Below w.heap.size w w') : Kept tag (ntag tag w.heap.size 0) w w' := ⟨hb.os, hb.tape, hb.output, hb.size, fun j hj _ => hb.block j hj, fun j hj => ntag_old hj⟩

end

/-- A box beside the play, which stands. -/
structure Bxd (f : Frm) (b np : Nat) (P : Nat → Pr) (nl : Nat) (tag : Nat → Nat) (bP bl cP : Nat) (w : World) (bx : Nat) (W0 W : World) : Prop where
  st : ∃ xs tag' vL, PSt f b np P nl xs tag' bP bl cP vL W ∧ Kept tag tag' w W ∧ tag' bx = 0
  lt : bx < W.heap.size
  box : W.heap[bx]? = W0.heap[bx]?

theorem Bxd.next {f : Frm} {b np : Nat} {P : Nat → Pr} {nl nl' : Nat} {tag : Nat → Nat} {bP bl cP : Nat} {w : World} {bx : Nat} {W0 W W' : World} (h : Bxd f b np P nl tag bP bl cP w bx W0 W) {tag' : Nat → Nat} (hk : Kept tag tag' w W) (h0 : tag' bx = 0) {e : Ending} (g : LkP f b np P nl' tag' bP bl cP W e W') : e = .returned (.bool true) ∧ Bxd f b np P nl' tag bP bl cP w bx W0 W' := by
  obtain ⟨e1, xs', tag2, vL', p1, p2⟩ := g
  exact ⟨e1, ⟨xs', tag2, vL', p1, hk.trans p2, by rw [p2.tags bx h.lt]; exact h0⟩, by have := p2.size; have := h.lt; omega, (p2.block bx h.lt h0).trans h.box⟩

theorem Bxd.drop {f : Frm} {b np : Nat} {P : Nat → Pr} {nl : Nat} {tag : Nat → Nat} {bP bl cP : Nat} {w : World} {bx : Nat} {W0 W W' : World} (h : Bxd f b np P nl tag bP bl cP w bx W0 W) (hb : Below W.heap.size W W') : Bxd f b np P nl tag bP bl cP w bx W0 W' := by
  obtain ⟨xs, tag', vL, p1, p2, p3⟩ := h.st
  exact ⟨⟨xs, tag', vL, p1.drop hb, p2.trans (Kept.of hb), p3⟩, by have := hb.size; have := h.lt; omega, (hb.block bx h.lt).trans h.box⟩

theorem Bxd.start {f : Frm} {b np : Nat} {P : Nat → Pr} {nl : Nat} {xs : List Value} {tag : Nat → Nat} {bP bl cP : Nat} {vL : Value} {w : World} (h : PSt f b np P nl xs tag bP bl cP vL w) (o : Obj) {W : World} (hb : Below (w.heap.size + 1) (w.alloc o) W) : Bxd f b np P nl tag bP bl cP w w.heap.size (w.alloc o) W := by
  have hbw := boxed_below hb
  exact ⟨⟨xs, _, vL, h.fresh.drop hbw, Kept.fresh hbw, ntag_new (Nat.le_refl _)⟩, by have := hb.size; simp at this; omega, hb.block _ (by omega)⟩

theorem Bxd.cell {f : Frm} {b np : Nat} {P : Nat → Pr} {nl : Nat} {tag : Nat → Nat} {bP bl cP : Nat} {w : World} {c : Array Value} {t : TypeId} {W : World} (h : Bxd f b np P nl tag bP bl cP w w.heap.size (w.alloc (.cells c t)) W) (i : Nat) : W.cell? ⟨w.heap.size, i, none⟩ = c[i]? := by
  rw [World.cell?_of_block (w := w.alloc (.cells c t)) h.box]
  exact boxed (Below.refl (w.heap.size + 1) (w.alloc (.cells c t))) i

set_option maxRecDepth 100000 in
set_option maxHeartbeats 3000000 in
theorem rules_any {f : Frm} {b np : Nat} {P : Nat → Pr} {nl : Nat} {xs : List Value} {tag : Nat → Nat} {bP bl cP : Nat} {vL : Value} {w : World} (h : PSt f b np P nl xs tag bP bl cP vL w) (hf : f.Ok) (hb : b ≤ 10000000000) {i : Nat} (hi : i < np) (hsame : (P i).ck = (P i).cd) (hnl : nl ≤ 5499999999990) :
    Calls Tryz.prog 23 #[.pointer (some ⟨bP, 0, none⟩), .agg #[.pointer (some ⟨(P i).pk.bp, 0, none⟩), .pointer (some ⟨(P i).pd.bw, 0, none⟩)]] w fun e w' => LkP f b np P (nl + 5) tag bP bl cP w e w' := by
  obtain ⟨n1, hn, hk, wk1, wk2⟩ := hf.sizes
  have hlen : (P i).ck.E.length ≤ 999999999000 := few_len (h.kok i hi).1 (h.kok i hi).2 hb
  have KR := hid (fun W (hW : Below w.heap.size w W) (c : Int) => kRule_any c (show KAt (P i).Qk f (P i).pk (P i).ck (P i).vk W from KSt.drop (h.kst i hi) hW))
  have DR := hid (fun W (hW : Below w.heap.size w W) (c : Int) => dRule_any c (show DAt (P i).Qd f (P i).pd (P i).cd (P i).vd W from DSt.drop (h.dst i hi) hW))
  rw [← hsame] at DR
  unfold RAns St.val at KR DR
  have W7 := hid (fun W (hW : Below w.heap.size w W) => (DSt.drop (h.dst i hi) hW).row.cell (i := 7) (by omega))
  have H := hid h
  have HSAME := hid hsame
  have HBX := hid (Below.refl (w.heap.size + 1) (w.alloc (.cells #[.pointer (some ⟨(P i).pk.bp, 0, none⟩), .pointer (some ⟨(P i).pd.bw, 0, none⟩)] 57)))
  clear h hsame
  go_enter Tryz.func23, Tryz.ntmps23
  go_wp2
  go_loopw [5] (fun t wr => ∃ (m : Nat), m ≤ f.k + 2 ∧ t = .int .i64 ((m : Int) - 1) ∧ Hid (Below (w.heap.size + 1) (w.alloc (.cells #[.pointer (some ⟨(P i).pk.bp, 0, none⟩), .pointer (some ⟨(P i).pd.bw, 0, none⟩)] 57)) wr)) (fun t _ => f.k + 2 - (intOf t + 1).toNat)
  case atStart => exact ⟨0, by omega, rfl, HBX⟩
  case round =>
    clear HBX
    obtain ⟨c, m1, rfl, hbx⟩ := hrel
    have f0 := boxed hbx.out 0
    have f1 := boxed hbx.out 1
    simp at f0 f1
    have hbw := hid (boxed_below hbx.out)
    have y7 := W7.out _ hbw.out
    simp [wf] at y7
    by_cases hm : c ≤ f.k + 1
    · have lt' : (c : Int) - 1 ≤ (f.k : Int) := by omega
      go_wp2_with fail
      refine (KR.out _ hbw.out _).mono ?_
      rintro e1 w1 ⟨rfl, q1⟩
      have hb1 : Hid (∀ o, Below (w.heap.size + 1) (w.alloc (.cells #[.pointer (some ⟨(P i).pk.bp, 0, none⟩), .pointer (some ⟨(P i).pd.bw, 0, none⟩)] 57)) (w1.alloc o)) := fun o => (hbx.out.trans (q1.mono (by have := hbx.out.size; simp at this; omega))).alloc (by have := hbx.out.size; have := q1.size; simp at *; omega) _
      have EQD := hid (fun W (hW : Below w.heap.size w W) => DR.out W hW ((c : Int) - 1))
      generalize rulS f (P i).ck ((c : Int) - 1) = st at *
      generalize rulE f ((c : Int) - 1) = er at *
      have z1 : wr.heap.size ≤ w1.heap.size := q1.size
      have z0 : w.heap.size < wr.heap.size := by have := hbx.out.size; simp at this; omega
      have g1 := boxed (hb1.out (.cells #[.bool st.lit, .int .i64 st.since, .int .i64 st.level, .bool st.acked] 94)) 1
      simp at g1
      clear q1 f0 f1 y7 hbx hbw
      go_wp2_with fail
      refine (EQD.out _ (boxed_below (hb1.out _))).mono ?_
      rintro e2 w2 ⟨rfl, q2⟩
      have hb2 : Hid (∀ o, Below (w.heap.size + 1) (w.alloc (.cells #[.pointer (some ⟨(P i).pk.bp, 0, none⟩), .pointer (some ⟨(P i).pd.bw, 0, none⟩)] 57)) (w2.alloc o)) := fun o => ((hb1.out _).trans (q2.mono (by simp; omega))).alloc (by have := q2.size; simp at *; omega) _
      have RS : w2.rowIs w1.heap.size 94 4 (stf (fun _ => st)) := by
        have h1 : (w1.alloc (.cells #[.bool st.lit, .int .i64 st.since, .int .i64 st.level, .bool st.acked] 94)).rowIs w1.heap.size 94 4 (stf (fun _ => st)) := World.rowIs_alloc w1 #[.bool st.lit, .int .i64 st.since, .int .i64 st.level, .bool st.acked] 94 (stf (fun _ => st)) (fun i hi => by
          have hi' : i = 0 ∨ i = 1 ∨ i = 2 ∨ i = 3 := by simp at hi; omega
          rcases hi' with rfl | rfl | rfl | rfl <;> rfl)
        exact h1.of_block (q2.block _ h1.lt)
      have p0 := RS.cell (i := 0) (by omega)
      have p1 := RS.cell (i := 1) (by omega)
      have p2 := RS.cell (i := 2) (by omega)
      have p3 := RS.cell (i := 3) (by omega)
      simp [stf] at p0 p1 p2 p3
      have zs := RS.lt
      clear q2 g1 hb1 RS
      have hmm := gSt
      go_wp2_with (go_at_call 19; refine (num_any _ _).mono ?_; rintro e w' ⟨rfl, rfl⟩)
      go_roundw
      case rel => exact ⟨c + 1, by omega, by go_num, hb2.out _⟩
      case measure => simp [intOf]; omega
    · have BX := hid (Bxd.start H.out _ hbx.out)
      have lt' : ¬ ((c : Int) - 1 ≤ (f.k : Int)) := by omega
      have VD := (show DSt (P i).Qd f (P i).pd (P i).cd.F (P i).cd.T (P i).cd.op (P i).cd.S (P i).vd (P i).cd.E wr from DSt.drop (H.out.dst i hi) hbw.out)
      have y8 := VD.row.cell (i := 8) (by omega)
      simp [wf] at y8
      obtain ⟨ae, ce, hve⟩ := own_len VD.ev
      rw [hve, ← HSAME.out] at y8
      have LOG := hid (fun (nn : Nat) (W : World) (x : Int) (hn : nn ≤ 5499999999999) (hB : Bxd f b np P nn tag bP bl cP w w.heap.size (w.alloc (.cells #[.pointer (some ⟨(P i).pk.bp, 0, none⟩), .pointer (some ⟨(P i).pd.bw, 0, none⟩)] 57)) W) => (show Calls Tryz.prog 56 #[.pointer (some ⟨bP, 0, none⟩), .agg #[.pointer (some ⟨(P i).pk.bp, 0, none⟩), .pointer (some ⟨(P i).pd.bw, 0, none⟩)], .int .i64 x] W fun e w' => e = .returned (.bool true) ∧ Bxd f b np P (nn + 1) tag bP bl cP w w.heap.size (w.alloc (.cells #[.pointer (some ⟨(P i).pk.bp, 0, none⟩), .pointer (some ⟨(P i).pd.bw, 0, none⟩)] 57)) w' from by
        obtain ⟨xs', tag', vL', p1, p2, p3⟩ := hB.st
        exact (log_any p1 hb hi HSAME.out (by omega) x).mono (fun e w' g => hB.next p2 p3 g)))
      clear VD hve hbx hbw KR DR W7
      go_wp2_with fail
      refine (LOG.out nl _ _ (by omega) BX.out).mono ?_
      rintro e w1 ⟨rfl, q⟩
      have BX1 := hid q
      have f0 := BX1.out.cell 0
      have f1 := BX1.out.cell 1
      simp at f0 f1
      clear q BX
      go_wp2_with fail
      refine (LOG.out (nl + 1) _ _ (by omega) BX1.out).mono ?_
      rintro e w2 ⟨rfl, q⟩
      have BX2 := hid q
      have f0 := BX2.out.cell 0
      have f1 := BX2.out.cell 1
      simp at f0 f1
      clear q BX1
      go_wp2_with fail
      refine (LOG.out (nl + 1 + 1) _ _ (by omega) BX2.out).mono ?_
      rintro e w3 ⟨rfl, q⟩
      have BX3 := hid q
      have f0 := BX3.out.cell 0
      have f1 := BX3.out.cell 1
      simp at f0 f1
      clear q BX2
      go_wp2_with fail
      refine (LOG.out (nl + 1 + 1 + 1) _ _ (by omega) BX3.out).mono ?_
      rintro e w4 ⟨rfl, q⟩
      have BX4 := hid q
      have f0 := BX4.out.cell 0
      have f1 := BX4.out.cell 1
      simp at f0 f1
      clear q BX3
      go_wp2_with fail
      refine (LOG.out (nl + 1 + 1 + 1 + 1) _ _ (by omega) BX4.out).mono ?_
      rintro e w5 ⟨rfl, q⟩
      have R : Hid (LkP f b np P (nl + 5) tag bP bl cP w (.returned (.bool true)) w5) := by
        obtain ⟨xs', tag', vL', p1, p2, _⟩ := q.st
        exact ⟨rfl, xs', tag', vL', p1, p2⟩
      clear q BX4
      go_wp2
      go_ret
      exact R.out

end Go.Proofs.YtcondcffllaaoaaGreatDoor

/-
  THE LAW: what a script looks at.
-/
set_option linter.unusedVariables false
set_option linter.unusedSimpArgs false
namespace Go.Proofs.YtcondcffllaaoaaGreatDoor
open Go.RowKit
attribute [local go_sem ↓] Go.wp_at_zero Go.wp_at_succ

/-- What the script's looks leave. -/
def LksP (f : Frm) (b np : Nat) (P : Nat → Pr) (nl : Nat) (tag : Nat → Nat) (bP bl cP : Nat) (w : World) (e : Ending) (w' : World) : Prop :=
  e = .returned (.bool true) ∧ ∃ nl' xs' tag' vL', nl' ≤ nl + 5 * np ∧ PSt f b np P nl' xs' tag' bP bl cP vL' w' ∧ Kept tag tag' w w'

set_option maxRecDepth 100000 in
set_option maxHeartbeats 3000000 in
theorem looks_any (av ar aa : Bool) {f : Frm} {b np : Nat} {P : Nat → Pr} {nl : Nat} {xs : List Value} {tag : Nat → Nat} {bP bl cP : Nat} {vL : Value} {w : World} (h : PSt f b np P nl xs tag bP bl cP vL w) (hf : f.Ok) (hb : b ≤ 10000000000) (hsame : ∀ i, i < np → (P i).ck = (P i).cd) (hnl : nl + 5 * np ≤ 5499999999990) :
    Calls Tryz.prog 13 #[.pointer (some ⟨bP, 0, none⟩), .agg #[.bool av, .bool ar, .bool aa]] w fun e w' => LksP f b np P nl tag bP bl cP w e w' := by
  have HF := hid hf
  have HSAME := hid hsame
  have BX0 := hid (Bxd.start h _ (Below.refl (w.heap.size + 1) (w.alloc (.cells #[.bool av, .bool ar, .bool aa] 29))))
  clear h hf hsame
  go_enter Tryz.func13, Tryz.ntmps13
  go_wp2
  go_loopw [5] (fun t wr => ∃ (i nl' : Nat), i ≤ np ∧ t = .int .i64 i ∧ nl' ≤ nl + 5 * i ∧ Hid (Bxd f b np P nl' tag bP bl cP w w.heap.size (w.alloc (.cells #[.bool av, .bool ar, .bool aa] 29)) wr)) (fun t _ => np - (intOf t).toNat)
  case atStart => exact ⟨0, nl, by omega, rfl, by omega, BX0⟩
  case round =>
    clear BX0
    obtain ⟨i, nl', i1, rfl, hnl', hbx⟩ := hrel
    obtain ⟨xs', tag', vL', p1, p2, p3⟩ := hbx.out.st
    have r0 := p1.row.cell (i := 0) (by omega)
    simp at r0
    have f0 := hbx.out.cell 0
    have f1 := hbx.out.cell 1
    have f2 := hbx.out.cell 2
    simp at f0 f1 f2
    have zx := hbx.out.lt
    by_cases hit : i < np
    · have lt' : (i : Int) < (np : Int) := by omega
      obtain ⟨g, N, g1, g2, g3⟩ := p1.prow
      have y0 := g1.cell (i := i * 2) (by omega)
      have y1 := g1.cell (i := i * 2 + 1) (by omega)
      rw [g3 _ (by omega)] at y0 y1
      unfold prf at y0 y1
      rw [if_pos (by omega), show i * 2 / 2 = i by omega] at y0
      rw [if_neg (by omega), show (i * 2 + 1) / 2 = i by omega] at y1
      have gl := g1.lt
      have zP := p1.row.lt
      have P1 := hid p1
      have P2 := hid p2
      have P3 := hid p3
      clear p1 p2 p3 g1 g2 g3
      have WB0 : Hid (Below wr.heap.size wr (wr.alloc (.cells #[.pointer (some ⟨(P i).pk.bp, 0, none⟩), .pointer (some ⟨(P i).pd.bw, 0, none⟩)] 57))) := (Below.refl _ _).alloc (Nat.le_refl _) _
      have VC := hid (fun W (hW : Below wr.heap.size wr W) => pvals_any (show KAt (P i).Qk f (P i).pk (P i).ck (P i).vk W from KSt.drop (P1.out.kst i hit) hW) (show DAt (P i).Qd f (P i).pd (P i).ck (P i).vd W by rw [HSAME.out i hit]; exact DSt.drop (P1.out.dst i hit) hW) HF.out (P1.out.kok i hit).1)
      have RC := hid (fun W (hW : Below wr.heap.size wr W) (hx : wr.heap.size < W.heap.size) => (rules_any (P1.out.fresh.drop hW) HF.out hb hit (HSAME.out i hit) (by omega)).mono (fun e w' (g : LkP f b np P (nl' + 5) (ntag tag' wr.heap.size 0) bP bl cP W e w') => (show e = .returned (.bool true) ∧ Bxd f b np P (nl' + 5) tag bP bl cP w w.heap.size (w.alloc (.cells #[.bool av, .bool ar, .bool aa] 29)) w' ∧ w'.heap[wr.heap.size]? = W.heap[wr.heap.size]? ∧ W.heap.size ≤ w'.heap.size from by
        obtain ⟨e1, e2⟩ := (hbx.out.drop hW).next (P2.out.trans (Kept.fresh hW)) (by rw [ntag_old zx]; exact P3.out) g
        obtain ⟨_, _, _, _, _, kk⟩ := g
        exact ⟨e1, e2, kk.block _ hx (ntag_new (Nat.le_refl _)), kk.size⟩)))
      have AC := hid (fun (nn : Nat) W (hB : Bxd f b np P nn tag bP bl cP w w.heap.size (w.alloc (.cells #[.bool av, .bool ar, .bool aa] 29)) W) => (show Calls Tryz.prog 24 #[.agg #[.pointer (some ⟨(P i).pk.bp, 0, none⟩), .pointer (some ⟨(P i).pd.bw, 0, none⟩)]] W fun e w' => e = .returned (.bool true) ∧ Bxd f b np P nn tag bP bl cP w w.heap.size (w.alloc (.cells #[.bool av, .bool ar, .bool aa] 29)) w' from by
        obtain ⟨_, _, _, q1, _, _⟩ := hB.st
        exact (pahead_any (q1.kst i hit) (show DAt (P i).Qd f (P i).pd (P i).ck (P i).vd W by rw [HSAME.out i hit]; exact q1.dst i hit) HF.out (q1.kok i hit).1 (q1.kok i hit).2 hb).mono (fun e w' g => ⟨g.1, hB.drop g.2⟩)))
      have DROP := hid (fun W (hW : Below wr.heap.size wr W) => hbx.out.drop hW)
      have XB := hid (fun (W : World) (hW : W.heap[wr.heap.size]? = (wr.alloc (.cells #[.pointer (some ⟨(P i).pk.bp, 0, none⟩), .pointer (some ⟨(P i).pd.bw, 0, none⟩)] 57)).heap[wr.heap.size]?) j => (show W.cell? ⟨wr.heap.size, j, none⟩ = (#[Value.pointer (some ⟨(P i).pk.bp, 0, none⟩), .pointer (some ⟨(P i).pd.bw, 0, none⟩)] : Array Value)[j]? from by
        rw [World.cell?_of_block hW]
        exact boxed (Below.refl (wr.heap.size + 1) (wr.alloc (.cells #[.pointer (some ⟨(P i).pk.bp, 0, none⟩), .pointer (some ⟨(P i).pd.bw, 0, none⟩)] 57))) j))
      have zx0 : wr.heap.size < (wr.alloc (.cells #[.pointer (some ⟨(P i).pk.bp, 0, none⟩), .pointer (some ⟨(P i).pd.bw, 0, none⟩)] 57)).heap.size := by simp
      clear hbx P1 P2 P3
      cases av
      · cases ar
        · have BX := hid (DROP.out _ WB0.out)
          cases aa
          · go_wp2
            go_roundw
            case rel => exact ⟨i + 1, nl', by omega, by go_num, by omega, BX⟩
            case measure => simp [intOf]; omega
          · go_wp2_with fail
            refine (AC.out _ _ BX.out).mono ?_
            rintro e w9 ⟨rfl, q⟩
            have BX9 := hid q
            clear q
            go_wp2
            go_roundw
            case rel => exact ⟨i + 1, nl', by omega, by go_num, by omega, BX9⟩
            case measure => simp [intOf]; omega
        · go_wp2_with fail
          refine (RC.out _ WB0.out zx0).mono ?_
          rintro e w2 ⟨rfl, q, qx, qs⟩
          have BX := hid q
          have f2 := q.cell 2
          simp at f2
          have u0 := XB.out w2 (qx) 0
          have u1 := XB.out w2 (qx) 1
          simp at u0 u1
          have zq := q.lt
          have zx2 : wr.heap.size < w2.heap.size := by omega
          clear q qx qs
          cases aa
          · go_wp2
            go_roundw
            case rel => exact ⟨i + 1, nl' + 5, by omega, by go_num, by omega, BX⟩
            case measure => simp [intOf]; omega
          · go_wp2_with fail
            refine (AC.out _ _ BX.out).mono ?_
            rintro e w9 ⟨rfl, q⟩
            have BX9 := hid q
            clear q
            go_wp2
            go_roundw
            case rel => exact ⟨i + 1, nl' + 5, by omega, by go_num, by omega, BX9⟩
            case measure => simp [intOf]; omega
      · go_wp2_with fail
        refine (VC.out _ WB0.out).mono ?_
        rintro e w1 ⟨rfl, q1⟩
        have W1 := hid (WB0.out.trans (q1.mono WB0.out.size))
        have BX1 := hid (DROP.out _ W1.out)
        have f1 := BX1.out.cell 1
        have f2 := BX1.out.cell 2
        simp at f1 f2
        have zx1 := BX1.out.lt
        have hbp : Hid (Below (wr.heap.size + 1) (wr.alloc (.cells #[.pointer (some ⟨(P i).pk.bp, 0, none⟩), .pointer (some ⟨(P i).pd.bw, 0, none⟩)] 57)) w1) := by have h := q1; rw [World.size_alloc] at h; exact h
        have p0 := boxed hbp.out 0
        have p1 := boxed hbp.out 1
        simp at p0 p1
        have zx3 : wr.heap.size < w1.heap.size := by have := q1.size; omega
        have QX : Hid (w1.heap[wr.heap.size]? = (wr.alloc (.cells #[.pointer (some ⟨(P i).pk.bp, 0, none⟩), .pointer (some ⟨(P i).pd.bw, 0, none⟩)] 57)).heap[wr.heap.size]?) := hbp.out.block _ (by omega)
        clear q1
        cases ar
        · cases aa
          · go_wp2
            go_roundw
            case rel => exact ⟨i + 1, nl', by omega, by go_num, by omega, BX1⟩
            case measure => simp [intOf]; omega
          · go_wp2_with fail
            refine (AC.out _ _ BX1.out).mono ?_
            rintro e w9 ⟨rfl, q⟩
            have BX9 := hid q
            clear q
            go_wp2
            go_roundw
            case rel => exact ⟨i + 1, nl', by omega, by go_num, by omega, BX9⟩
            case measure => simp [intOf]; omega
        · go_wp2_with fail
          refine (RC.out _ W1.out zx3).mono ?_
          rintro e w2 ⟨rfl, q, qx, qs⟩
          have BX := hid q
          have f2 := q.cell 2
          simp at f2
          have u0 := XB.out w2 (qx.trans QX.out) 0
          have u1 := XB.out w2 (qx.trans QX.out) 1
          simp at u0 u1
          have zq := q.lt
          have zx2 : wr.heap.size < w2.heap.size := by omega
          clear q qx qs
          cases aa
          · go_wp2
            go_roundw
            case rel => exact ⟨i + 1, nl' + 5, by omega, by go_num, by omega, BX⟩
            case measure => simp [intOf]; omega
          · go_wp2_with fail
            refine (AC.out _ _ BX.out).mono ?_
            rintro e w9 ⟨rfl, q⟩
            have BX9 := hid q
            clear q
            go_wp2
            go_roundw
            case rel => exact ⟨i + 1, nl' + 5, by omega, by go_num, by omega, BX9⟩
            case measure => simp [intOf]; omega
    · have KP := hid (kept_any p1 (by omega))
      have P1 := hid p1
      have P2 := hid p2
      clear p1 p2 p3 hbx
      go_wp2_with fail
      refine KP.out.mono ?_
      rintro e w1 ⟨rfl, q1⟩
      have R : Hid (LksP f b np P nl tag bP bl cP w (.returned (.bool true)) w1) := ⟨rfl, nl', xs', tag', vL', by omega, P1.out.drop q1, P2.out.trans (Kept.of q1)⟩
      clear q1
      go_wp2
      go_ret
      exact R.out

end Go.Proofs.YtcondcffllaaoaaGreatDoor
