/-
  CALLS on one of several cases.
-/
import Derived.Test.YtnkolbngeibhpaaDoorE10
import Derived.Test.YtnkolbngeibhpaaDoorE6
import Derived.Test.YtnkolbngeibhpaaDoorK11
set_option linter.unusedVariables false
set_option linter.unusedSimpArgs false
namespace Go.Proofs.YtnkolbngeibhpaaDoor
open Go.RowKit
attribute [local go_sem ↓] Go.wp_at_zero Go.wp_at_succ

/-- A case more. -/
def AddP (b' np : Nat) (P : Nat → KP) (f : Frm) (m : Cs) (tag : Nat → Nat) (w : World) (e : Ending) (w' : World) : Prop :=
  ∃ Q p v tag', e = .returned (.pointer (some ⟨p.bp, 0, none⟩)) ∧ CSt b' (np + 1) (upd P np ⟨Q, p, v, f, m⟩) tag' w' ∧ Kept tag tag' w w'

section
variable {b np : Nat} {P : Nat → KP} {tag : Nat → Nat} {w : World}

theorem CSt.len (h : CSt b np P tag w) {i : Nat} (hi : i < np) (hb : b ≤ 10000000000) : (P i).c.E.length ≤ 999999999000 := few_len (h.kok i hi).1 (h.kok i hi).2 hb

theorem copened (h : CSt b np P tag w) (hb : 1 ≤ b) {f : Frm} (hf : f.Ok) {fv : Value} (hfv : FAt w f fv) : Calls Tryd.prog 13 #[fv] w fun e w' => AddP b np P f (beginM f) tag w e w' :=
  (kopened_any hf h.tab hfv).mono (fun e w' g => by
    obtain ⟨Q, p, v, rfl, g1, g2, g3, g4⟩ := g
    obtain ⟨c1, c2⟩ := h.add g1 g2 g3 (fun j hj => by
      rcases g4 j hj with e | e
      · subst e; exact Or.inl ⟨h.tab.1, h.t0⟩
      · exact Or.inr e) (beginM_ok hf) (few_up (beginM_few hf) hb) (Nat.le_refl _) hf
    exact ⟨Q, p, v, _, rfl, c1, c2⟩)

theorem cfork (h : CSt b np P tag w) {i : Nat} (hi : i < np) (hb : b ≤ 10000000000) : Calls Tryd.prog 36 #[.pointer (some ⟨(P i).p.bp, 0, none⟩)] w fun e w' => AddP b np P (P i).f (P i).c tag w e w' :=
  (kFork_any (h.kst i hi) (h.fok i hi) (by have := h.len hi hb; omega)).mono (fun e w' g => by
    obtain ⟨Q, p, v, rfl, g1, g2, g3, g4⟩ := g
    obtain ⟨c1, c2⟩ := h.add g2 g1 g3 (fun j hj => by
      rcases g4 j hj with e | e
      · exact Or.inl ⟨KSt.qlt (h.kst i hi) j e, h.kq i hi j e⟩
      · exact Or.inr e) (h.kok i hi).1 (h.kok i hi).2 (Nat.le_refl _) (h.fok i hi)
    exact ⟨Q, p, v, _, rfl, c1, c2⟩)

/-- A call that came back with r. -/
theorem CSt.back (h : CSt b np P tag w) {i : Nat} (hi : i < np) {w' : World} {r : Int} {m' : Cs} {e : Ending} (g : KInP (P i).Q (P i).f (P i).p r m' (P i).v w e w') {b' : Nat} (hok : m'.Ok (P i).f) (hfew : Few b' m') (hbb : b ≤ b') : CsP (.int .i64 r) b' np P i m' tag w e w' := by
  obtain ⟨v', rfl, g1, g2⟩ := g
  obtain ⟨c1, c2⟩ := h.kgo hi g1 g2 hok hfew hbb
  exact ⟨rfl, v', _, c1, c2⟩

theorem cset (h : CSt b np P tag w) {i : Nat} (hi : i < np) (hb : b ≤ 10000000000) (c v : Int) : Calls Tryd.prog 18 #[.pointer (some ⟨(P i).p.bp, 0, none⟩), .int .i64 c, .int .i64 v] w fun e w' => CsP (.int .i64 (setNo (P i).f (P i).c c v)) (b + 1) np P i (setM (P i).f (P i).c c v) tag w e w' :=
  (kSet_any c v (h.kst i hi) (h.fok i hi) (h.kok i hi).1 (h.len hi hb)).mono (fun _ _ g => h.back hi g (setM_ok (h.fok i hi) (h.kok i hi).1 _ _) (setM_few (h.fok i hi) (h.kok i hi).2 _ _) (by omega))

theorem cadv (h : CSt b np P tag w) {i : Nat} (hi : i < np) (hb : b ≤ 10000000000) (tq : Int) : Calls Tryd.prog 20 #[.pointer (some ⟨(P i).p.bp, 0, none⟩), .int .i64 tq] w fun e w' => CsP (.int .i64 (advAns (P i).c.T tq)) b np P i (advM (P i).f (P i).c tq) tag w e w' :=
  (kadvance_any tq (h.kst i hi) (h.fok i hi) (h.kok i hi).1 (h.kok i hi).2 hb).mono (fun _ _ g => h.back hi g (advM_ok (h.fok i hi) (h.kok i hi).1 _) (advM_few (h.fok i hi) (h.kok i hi).2 _) (Nat.le_refl _))

theorem cack (h : CSt b np P tag w) {i : Nat} (hi : i < np) (r : Int) : Calls Tryd.prog 39 #[.pointer (some ⟨(P i).p.bp, 0, none⟩), .int .i64 r] w fun e w' => CsP (.int .i64 (ackNo (P i).f (P i).c r)) b np P i (ackM (P i).f (P i).c r) tag w e w' :=
  (kAck_any r (h.kst i hi) (h.fok i hi)).mono (fun _ _ g => h.back hi g (ackM_ok (h.kok i hi).1 _) (ackM_few (h.kok i hi).2 _) (Nat.le_refl _))

theorem cclose (h : CSt b np P tag w) {i : Nat} (hi : i < np) : Calls Tryd.prog 38 #[.pointer (some ⟨(P i).p.bp, 0, none⟩)] w fun e w' => CsP (.int .i64 (closeNo (P i).c)) b np P i (closeM (P i).f (P i).c) tag w e w' :=
  (kClose_any (h.kst i hi) (h.fok i hi)).mono (fun _ _ g => h.back hi g (closeM_ok (h.kok i hi).1) (closeM_few (h.kok i hi).2) (Nat.le_refl _))

theorem clook (h : CSt b np P tag w) {i : Nat} (hi : i < np) (hb : b ≤ 10000000000) {fv : Value} (hfv : FAt w (P i).f fv) : Calls Tryd.prog 23 #[.pointer (some ⟨(P i).p.bp, 0, none⟩), fv] w fun e w' => LoP (P i).f (P i).c w e w' :=
  klook_any (h.kst i hi) (h.fok i hi) (h.kok i hi).1 (h.kok i hi).2 hb hfv
end

/-- Of begun's script the steps up to j are filled in. -/
def fillM (f : Frm) (S : Nat → StK) : Nat → Cs
  | 0 => beginM f
  | j + 1 => if setsK f (S j).a < 0 then fillM f S j else setM f (fillM f S j) (setsK f (S j).a) (setsV f (S j).b)

theorem beginM_op (f : Frm) : (beginM f).op = true := rfl
theorem beginM_T (f : Frm) : (beginM f).T = 0 := rfl
theorem setM_T (f : Frm) (m : Cs) (c v : Int) : (setM f m c v).T = m.T := by
  unfold setM
  split
  · rw [settle_T]; rfl
  · rfl
theorem fillM_op (f : Frm) (S : Nat → StK) (j : Nat) : (fillM f S j).op = true := by
  induction j with
  | zero => exact beginM_op f
  | succ j ih =>
    unfold fillM
    split
    · exact ih
    · rw [setM_op]; exact ih
theorem fillM_T (f : Frm) (S : Nat → StK) (j : Nat) : (fillM f S j).T = 0 := by
  induction j with
  | zero => exact beginM_T f
  | succ j ih =>
    unfold fillM
    split
    · exact ih
    · rw [setM_T]; exact ih

/-- A Set that sets answers OK. -/
theorem sets_no {f : Frm} {m : Cs} (hop : m.op = true) (a b : Int) (h : ¬ setsK f a < 0) : setNo f m (setsK f a) (setsV f b) = 0 := by
  rcases setsK_ok f a b with ⟨e1, e2⟩ | ⟨j, e1, e2, e3, e4⟩
  · omega
  · unfold setNo
    rw [if_neg (by rw [hop]; simp)]
    unfold setAns
    have i4 : M.isv (setsV f b) = true := by unfold M.isv; exact decide_eq_true e4
    rw [e1, if_neg (by omega), if_neg (by simpa using e3), if_neg (by rw [i4]; simp)]

end Go.Proofs.YtnkolbngeibhpaaDoor

/-
  THE WALKS: docketkeep's begun.
-/
set_option linter.unusedVariables false
set_option linter.unusedSimpArgs false
namespace Go.Proofs.YtnkolbngeibhpaaDoor
open Go.RowKit
attribute [local go_sem ↓] Go.wp_at_zero Go.wp_at_succ

set_option maxRecDepth 100000 in
set_option maxHeartbeats 4000000 in
theorem kbegun_any {b np : Nat} {P : Nat → KP} {tag : Nat → Nat} {w w0 : World} (h : CSt b np P tag w) (hw0 : Below w0.heap.size w0 w) (hz : ∀ j, j < w0.heap.size → tag j = 0) {f : Frm} (hf : f.Ok) {fv : Value} (hfv : FAt w0 f fv) {aS : Option Addr} {m cS : Nat} {S : Nat → StK} (hsc : ScK w0 aS m S) (hm : m ≤ 1048576) (hb1 : 1 ≤ b) (hbb : b ≤ 8000000000) (at' : Int) (ha0 : 0 ≤ at') (ha1 : at' ≤ 1000000000) :
    Calls Tryd.prog 28 #[fv, .slice aS m cS, .int .i64 at'] w fun e w' => AddP (b + m) np P f (advM f (fillM f S m) at') tag w e w' := by
  have HFV := hid hfv
  have HSC := hid hsc
  have HZ := hid hz
  have HW0 := hid hw0
  have HF := hid hf
  have HH := hid h
  obtain ⟨n1, hn, hk6, _, _⟩ := hf.sizes
  obtain ⟨aC, cC, aR, cR, aH, cH, rfl, _, _, _⟩ := hfv
  have zw0 := hw0.size
  clear h hw0 hz hsc hf
  have BX := hid (Below.refl (w.heap.size + 1) (w.alloc (.cells #[.slice aC f.n cC, .slice aR f.k cR, .int .i64 f.week, .slice aH f.hol.length cH] 26)))
  have BW := hid (boxed_below BX.out)
  have OPN := hid (copened (HH.out.drop BW.out) hb1 HF.out (HFV.out.below (HW0.out.trans (BW.out.mono zw0))))
  go_enter Tryd.func28, Tryd.ntmps28
  go_wp2_with fail
  refine OPN.out.mono ?_
  rintro e w1 ⟨Q, p, v, tag1, rfl, hc1, hk1⟩
  have C1 : Hid (CSt (b + 0) (np + 1) (upd P np ⟨Q, p, v, f, fillM f S 0⟩) tag1 w1) := hc1
  have K1 := hid hk1
  clear hc1 hk1 OPN
  go_wp2_with fail
  go_loopw [8] (fun t wr => ∃ (j : Nat) (v' : Value) (tag' : Nat → Nat), j ≤ m ∧ t = .int .i64 j ∧ Hid (CSt (b + j) (np + 1) (upd P np ⟨Q, p, v', f, fillM f S j⟩) tag' wr) ∧ Hid (Kept (ntag tag w.heap.size 0) tag' (w.alloc (.cells #[.slice aC f.n cC, .slice aR f.k cR, .int .i64 f.week, .slice aH f.hol.length cH] 26)) wr)) (fun t _ => m - (intOf t).toNat)
  case atStart => exact ⟨0, v, tag1, by omega, rfl, C1, K1⟩
  case round =>
    clear C1 K1
    obtain ⟨j, v', tag', j1, rfl, hc, hk⟩ := hrel
    by_cases hjt : j < m
    · have lt' : (j : Int) < (m : Int) := by omega
      have zk := hk.out.size
      simp at zk
      have bx : wr.heap[w.heap.size]? = (w.alloc (.cells #[.slice aC f.n cC, .slice aR f.k cR, .int .i64 f.week, .slice aH f.hol.length cH] 26)).heap[w.heap.size]? := hk.out.block _ (by simp) (ntag_new (Nat.le_refl _))
      have lowB : Below w0.heap.size w0 wr := HW0.out.trans ((BW.out.mono zw0).trans ⟨hk.out.os, hk.out.tape, hk.out.output, hk.out.size, fun x hx => hk.out.block x (by simp; omega) (by rw [ntag_old (by omega)]; exact HZ.out x hx)⟩)
      obtain ⟨sc1, sc2⟩ := HSC.out.below lowB
      obtain ⟨bX, oX, hax, zX, hX⟩ : ∃ b off, aS = some ⟨b, off, none⟩ ∧ b < wr.heap.size ∧ ∀ i, i < m → wr.cell? ⟨b, off + i * 3, none⟩ = some (.int .i64 (S i).kd) ∧ wr.cell? ⟨b, off + i * 3 + 1, none⟩ = some (.int .i64 (S i).a) ∧ wr.cell? ⟨b, off + i * 3 + 2, none⟩ = some (.int .i64 (S i).b) := by
        rcases sc1 with h | h
        · omega
        · exact h
      obtain ⟨x0, x1, x2⟩ := hX j hjt
      obtain ⟨s0, s1, s2⟩ := sc2 j hjt
      have pX : upd P np ⟨Q, p, v', f, fillM f S j⟩ np = ⟨Q, p, v', f, fillM f S j⟩ := upd_same _ _ _
      have BXC : ∀ W : World, W.heap[w.heap.size]? = wr.heap[w.heap.size]? → ∀ x, W.cell? ⟨w.heap.size, x, none⟩ = (#[Value.slice aC f.n cC, .slice aR f.k cR, .int .i64 f.week, .slice aH f.hol.length cH] : Array Value)[x]? := fun W hW x => by
        rw [World.cell?_of_block (w := wr) hW, World.cell?_of_block bx]
        exact boxed (Below.refl (w.heap.size + 1) (w.alloc (.cells #[.slice aC f.n cC, .slice aR f.k cR, .int .i64 f.week, .slice aH f.hol.length cH] 26))) x
      have f0 := BXC wr rfl 0
      have f1 := BXC wr rfl 1
      have f2 := BXC wr rfl 2
      have f3 := BXC wr rfl 3
      simp at f0 f1 f2 f3
      have SE := hid (fun W (hW : Below wr.heap.size wr W) => (ksets_any hn (HFV.out.below (lowB.trans (hW.mono (by have := lowB.size; omega)))) (S j).kd (S j).a (S j).b s1 s2).mono (fun e w' g => (show e = .returned (.tuple #[.int .i64 (setsK f (S j).a), .int .i64 (setsV f (S j).b)]) ∧ Below wr.heap.size wr w' from ⟨g.1, hW.trans (g.2.mono hW.size)⟩)))
      have NOT : setsK f (S j).a < 0 → Hid (∀ W, Below wr.heap.size wr W → CSt (b + (j + 1)) (np + 1) (upd P np ⟨Q, p, v', f, fillM f S (j + 1)⟩) (ntag tag' wr.heap.size 0) W) := fun h W hW => by
        have e : fillM f S (j + 1) = fillM f S j := by show (if _ then _ else _) = _; rw [if_pos h]
        rw [e]
        exact (hc.out.drop hW).up (by omega)
      have SET : ¬ setsK f (S j).a < 0 → Hid (∀ W, Below wr.heap.size wr W → Calls Tryd.prog 18 #[.pointer (some ⟨p.bp, 0, none⟩), .int .i64 (setsK f (S j).a), .int .i64 (setsV f (S j).b)] W fun e w' => e = .returned (.int .i64 0) ∧ ∃ v2 tag2, CSt (b + (j + 1)) (np + 1) (upd P np ⟨Q, p, v2, f, fillM f S (j + 1)⟩) tag2 w' ∧ Kept tag' tag2 wr w') := fun h W hW => by
        have q := cset (hc.out.drop hW) (i := np) (by omega) (by omega) (setsK f (S j).a) (setsV f (S j).b)
        rw [pX] at q
        refine q.mono (fun e w' g => ?_)
        obtain ⟨g0, v2, tag2, g1, g2⟩ := g
        rw [pX, upd_twice] at g1
        have e : fillM f S (j + 1) = setM f (fillM f S j) (setsK f (S j).a) (setsV f (S j).b) := by show (if _ then _ else _) = _; rw [if_neg h]
        rw [e]
        refine ⟨?_, v2, tag2, g1, (Kept.fresh hW).trans g2⟩
        rw [g0]
        show Ending.returned (.int .i64 (setNo f (fillM f S j) _ _)) = _
        rw [sets_no (fillM_op f S j) _ _ h]
      have zk1 : w.heap.size < wr.heap.size := by omega
      subst hax
      have FRE : Hid (∀ W, Below wr.heap.size wr W → Kept (ntag tag w.heap.size 0) (ntag tag' wr.heap.size 0) (w.alloc (.cells #[.slice aC f.n cC, .slice aR f.k cR, .int .i64 f.week, .slice aH f.hol.length cH] 26)) W) := fun W hW => hk.out.trans (Kept.fresh hW)
      clear hX sc1 sc2 s0 s1 s2 pX lowB BXC hc bx
      generalize hkd : (S j).kd = kd at *
      generalize hka : (S j).a = sa at *
      generalize hkb : (S j).b = sb at *
      generalize hsk : setsK f sa = sk at *
      generalize hsv : setsV f sb = sv at *
      by_cases hneg : sk < 0
      · have N1 := NOT hneg
        have hn2 : ¬ (0 ≤ sk) := by omega
        clear SET NOT hkd hka hkb hsk hsv
        go_upto_region 7 with (fail)
        go_region_held3 (fun w' => w'.cell? ⟨w.heap.size, 0, none⟩ = some (.slice aC f.n cC) ∧ w'.cell? ⟨w.heap.size, 1, none⟩ = some (.slice aR f.k cR) ∧ w'.cell? ⟨w.heap.size, 2, none⟩ = some (.int .i64 f.week) ∧ w'.cell? ⟨w.heap.size, 3, none⟩ = some (.slice aH f.hol.length cH) ∧ w'.cell? ⟨bX, oX + j * 3, none⟩ = some (.int .i64 kd) ∧ w'.cell? ⟨bX, oX + j * 3 + 1, none⟩ = some (.int .i64 sa) ∧ w'.cell? ⟨bX, oX + j * 3 + 2, none⟩ = some (.int .i64 sb))
          (refine ⟨?_, ?_, ?_, ?_, ?_, ?_, ?_⟩ <;> assumption)
          ((go_at_call 17; refine (SE.out _ (Below.refl _ _).drew).mono ?_; rintro e w2 ⟨rfl, hb2⟩; have m0 : w2.cell? ⟨w.heap.size, 0, none⟩ = some (.slice aC f.n cC) := (hb2.cell (p := ⟨w.heap.size, 0, none⟩) zk1).trans f0; have m1 : w2.cell? ⟨w.heap.size, 1, none⟩ = some (.slice aR f.k cR) := (hb2.cell (p := ⟨w.heap.size, 1, none⟩) zk1).trans f1; have m2 : w2.cell? ⟨w.heap.size, 2, none⟩ = some (.int .i64 f.week) := (hb2.cell (p := ⟨w.heap.size, 2, none⟩) zk1).trans f2; have m3 : w2.cell? ⟨w.heap.size, 3, none⟩ = some (.slice aH f.hol.length cH) := (hb2.cell (p := ⟨w.heap.size, 3, none⟩) zk1).trans f3; have m4 : w2.cell? ⟨bX, oX + j * 3, none⟩ = some (.int .i64 kd) := (hb2.cell (p := ⟨bX, oX + j * 3, none⟩) zX).trans x0; have m5 : w2.cell? ⟨bX, oX + j * 3 + 1, none⟩ = some (.int .i64 sa) := (hb2.cell (p := ⟨bX, oX + j * 3 + 1, none⟩) zX).trans x1; have m6 : w2.cell? ⟨bX, oX + j * 3 + 2, none⟩ = some (.int .i64 sb) := (hb2.cell (p := ⟨bX, oX + j * 3 + 2, none⟩) zX).trans x2))
        all_goals (
          have N2 := hid (N1.out _ hb2)
          have N3 := hid (FRE.out _ hb2)
          clear N1 FRE hb2 m0 m1 m2 m3 m4 m5 m6 hk
          go_wp2
          go_roundw
          case rel => exact ⟨j + 1, v', _, by omega, by go_num, N2, N3⟩
          case measure => simp [intOf]; omega)
      · have N1 := SET hneg
        have hn2 : 0 ≤ sk := by omega
        clear SET NOT hkd hka hkb hsk hsv
        go_upto_region 7 with (fail)
        go_region_held3 (fun w' => w'.cell? ⟨w.heap.size, 0, none⟩ = some (.slice aC f.n cC) ∧ w'.cell? ⟨w.heap.size, 1, none⟩ = some (.slice aR f.k cR) ∧ w'.cell? ⟨w.heap.size, 2, none⟩ = some (.int .i64 f.week) ∧ w'.cell? ⟨w.heap.size, 3, none⟩ = some (.slice aH f.hol.length cH) ∧ w'.cell? ⟨bX, oX + j * 3, none⟩ = some (.int .i64 kd) ∧ w'.cell? ⟨bX, oX + j * 3 + 1, none⟩ = some (.int .i64 sa) ∧ w'.cell? ⟨bX, oX + j * 3 + 2, none⟩ = some (.int .i64 sb))
          (refine ⟨?_, ?_, ?_, ?_, ?_, ?_, ?_⟩ <;> assumption)
          ((go_at_call 17; refine (SE.out _ (Below.refl _ _).drew).mono ?_; rintro e w2 ⟨rfl, hb2⟩; have m0 : w2.cell? ⟨w.heap.size, 0, none⟩ = some (.slice aC f.n cC) := (hb2.cell (p := ⟨w.heap.size, 0, none⟩) zk1).trans f0; have m1 : w2.cell? ⟨w.heap.size, 1, none⟩ = some (.slice aR f.k cR) := (hb2.cell (p := ⟨w.heap.size, 1, none⟩) zk1).trans f1; have m2 : w2.cell? ⟨w.heap.size, 2, none⟩ = some (.int .i64 f.week) := (hb2.cell (p := ⟨w.heap.size, 2, none⟩) zk1).trans f2; have m3 : w2.cell? ⟨w.heap.size, 3, none⟩ = some (.slice aH f.hol.length cH) := (hb2.cell (p := ⟨w.heap.size, 3, none⟩) zk1).trans f3; have m4 : w2.cell? ⟨bX, oX + j * 3, none⟩ = some (.int .i64 kd) := (hb2.cell (p := ⟨bX, oX + j * 3, none⟩) zX).trans x0; have m5 : w2.cell? ⟨bX, oX + j * 3 + 1, none⟩ = some (.int .i64 sa) := (hb2.cell (p := ⟨bX, oX + j * 3 + 1, none⟩) zX).trans x1; have m6 : w2.cell? ⟨bX, oX + j * 3 + 2, none⟩ = some (.int .i64 sb) := (hb2.cell (p := ⟨bX, oX + j * 3 + 2, none⟩) zX).trans x2))
        all_goals (
          have N2 := hid (N1.out _ hb2)
          clear N1 FRE hb2 m0 m1 m2 m3 m4 m5 m6
          go_wp2_with fail
          refine N2.out.mono ?_
          rintro e w3 ⟨rfl, v2, tag2, c2, k2⟩
          have N3 := hid c2
          have N4 := hid (hk.out.trans k2)
          clear N2 c2 k2 hk
          go_wp2
          go_roundw
          case rel => exact ⟨j + 1, v2, tag2, by omega, by go_num, N3, N4⟩
          case measure => simp [intOf]; omega)
    · obtain rfl : j = m := by omega
      have pX : upd P np ⟨Q, p, v', f, fillM f S j⟩ np = ⟨Q, p, v', f, fillM f S j⟩ := upd_same _ _ _
      have ADV : Hid (Calls Tryd.prog 20 #[.pointer (some ⟨p.bp, 0, none⟩), .int .i64 at'] wr fun e w' => e = .returned (.int .i64 0) ∧ AddP (b + j) np P f (advM f (fillM f S j) at') tag w (.returned (.pointer (some ⟨p.bp, 0, none⟩))) w') := by
        have q := cadv hc.out (i := np) (by omega) (by omega) at'
        rw [pX] at q
        refine q.mono (fun e w' g => ?_)
        obtain ⟨g0, v2, tag2, g1, g2⟩ := g
        rw [pX, upd_twice] at g1
        refine ⟨?_, Q, p, v2, tag2, rfl, g1, ((Kept.fresh BW.out).trans hk.out).trans g2⟩
        rw [g0]
        show Ending.returned (.int .i64 (advAns (fillM f S j).T at')) = _
        rw [fillM_T]
        unfold advAns
        rw [if_neg (by omega)]
      clear hc hk pX
      go_wp2_with fail
      refine ADV.out.mono ?_
      rintro e w3 ⟨rfl, g⟩
      have R := hid g
      clear g ADV
      go_wp2
      go_ret
      exact R.out

end Go.Proofs.YtnkolbngeibhpaaDoor
