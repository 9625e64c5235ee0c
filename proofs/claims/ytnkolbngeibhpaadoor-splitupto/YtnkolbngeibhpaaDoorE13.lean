/-
  CASES, AND BLOCKS THAT STAND: what a law sees.
-/
import Derived.Test.YtnkolbngeibhpaaDoorE11
import Derived.Test.YtnkolbngeibhpaaDoorE6
set_option linter.unusedVariables false
set_option linter.unusedSimpArgs false
namespace Go.Proofs.YtnkolbngeibhpaaDoor
open Go.RowKit
attribute [local go_sem ↓] Go.wp_at_zero Go.wp_at_succ

/-- The blocks of Z stand. -/
structure StZ (Z : Nat → Prop) (w w' : World) : Prop where
  os : w'.os = w.os
  tape : w'.tape = w.tape
  output : w'.output = w.output
  size : w.heap.size ≤ w'.heap.size
  block : ∀ j, Z j → w'.heap[j]? = w.heap[j]?

theorem StZ.refl (Z : Nat → Prop) (w : World) : StZ Z w w := ⟨rfl, rfl, rfl, Nat.le_refl _, fun _ _ => rfl⟩
theorem StZ.trans {Z : Nat → Prop} {a b c : World} (h : StZ Z a b) (g : StZ Z b c) : StZ Z a c := ⟨g.os.trans h.os, g.tape.trans h.tape, g.output.trans h.output, Nat.le_trans h.size g.size, fun j hj => (g.block j hj).trans (h.block j hj)⟩
theorem StZ.less {Z Z' : Nat → Prop} {a b : World} (h : StZ Z a b) (hz : ∀ j, Z' j → Z j) : StZ Z' a b := ⟨h.os, h.tape, h.output, h.size, fun j hj => h.block j (hz j hj)⟩
theorem StZ.cell {Z : Nat → Prop} {w w' : World} (h : StZ Z w w') {g : Nat} (x : Nat) (hg : Z g) : w'.cell? ⟨g, x, none⟩ = w.cell? ⟨g, x, none⟩ := World.cell?_of_block (h.block g hg)
theorem StZ.below {Z : Nat → Prop} {w0 w w' : World} (h : StZ Z w w') (hb : Below w0.heap.size w0 w) (hz : ∀ j, j < w0.heap.size → Z j) : Below w0.heap.size w0 w' :=
  ⟨h.os.trans hb.os, h.tape.trans hb.tape, h.output.trans hb.output, Nat.le_trans hb.size h.size, fun j hj => (h.block j (hz j hj)).trans (hb.block j hj)⟩
theorem StZ.of {Z : Nat → Prop} {w w' : World} (hb : Below w.heap.size w w') (hz : ∀ j, Z j → j < w.heap.size) : StZ Z w w' := ⟨hb.os, hb.tape, hb.output, hb.size, fun j hj => hb.block j (hz j hj)⟩

/-- Cases, and blocks that are nobody's. -/
def LS (Z : Nat → Prop) (b np : Nat) (P : Nat → KP) (w : World) : Prop := ∃ tag, CSt b np P tag w ∧ ∀ j, Z j → j < w.heap.size ∧ tag j = 0

def LsC (r : Value) (Z : Nat → Prop) (b' np : Nat) (P : Nat → KP) (i : Nat) (m' : Cs) (w : World) (e : Ending) (w' : World) : Prop :=
  e = .returned r ∧ ∃ v', LS Z b' np (upd P i ⟨(P i).Q, (P i).p, v', (P i).f, m'⟩) w' ∧ StZ Z w w'
def LsA (Z : Nat → Prop) (b' np : Nat) (P : Nat → KP) (f : Frm) (m : Cs) (w : World) (e : Ending) (w' : World) : Prop :=
  ∃ Q p v, e = .returned (.pointer (some ⟨p.bp, 0, none⟩)) ∧ LS Z b' (np + 1) (upd P np ⟨Q, p, v, f, m⟩) w' ∧ StZ Z w w'

/-- More blocks that stand: what was made. -/
def zup (Z : Nat → Prop) (w w' : World) : Nat → Prop := fun j => Z j ∨ (w.heap.size ≤ j ∧ j < w'.heap.size)

section
variable {Z : Nat → Prop} {b np : Nat} {P : Nat → KP} {tag : Nat → Nat} {w w' : World}


theorem LsC.of {r : Value} {b' i : Nat} {m' : Cs} {e : Ending} (hz : ∀ j, Z j → j < w.heap.size ∧ tag j = 0) (g : CsP r b' np P i m' tag w e w') : LsC r Z b' np P i m' w e w' := by
  obtain ⟨g0, v', tag', g1, g2⟩ := g
  exact ⟨g0, v', ⟨tag', g1, fun j hj => ⟨by have := (hz j hj).1; have := g2.size; omega, by rw [g2.tags j (hz j hj).1]; exact (hz j hj).2⟩⟩, g2.os, g2.tape, g2.output, g2.size, fun j hj => g2.block j (hz j hj).1 (hz j hj).2⟩
theorem LsA.of {b' : Nat} {f : Frm} {m : Cs} {e : Ending} (hz : ∀ j, Z j → j < w.heap.size ∧ tag j = 0) (g : AddP b' np P f m tag w e w') : LsA Z b' np P f m w e w' := by
  obtain ⟨Q, p, v, tag', g0, g1, g2⟩ := g
  exact ⟨Q, p, v, g0, ⟨tag', g1, fun j hj => ⟨by have := (hz j hj).1; have := g2.size; omega, by rw [g2.tags j (hz j hj).1]; exact (hz j hj).2⟩⟩, g2.os, g2.tape, g2.output, g2.size, fun j hj => g2.block j (hz j hj).1 (hz j hj).2⟩

theorem LS.start (ht : Tab w) (P : Nat → KP) (b : Nat) : LS (fun j => j < w.heap.size) b 0 P w := ⟨fun _ => 0, CSt.start ht P, fun _ hj => ⟨hj, rfl⟩⟩
theorem LS.lt (h : LS Z b np P w) : ∀ j, Z j → j < w.heap.size := fun j hj => by obtain ⟨_, _, hz⟩ := h; exact (hz j hj).1
theorem LS.drop (h : LS Z b np P w) (hb : Below w.heap.size w w') : LS (zup Z w w') b np P w' := by
  obtain ⟨tag, h1, h2⟩ := h
  refine ⟨_, h1.drop hb, fun j hj => ?_⟩
  rcases hj with hj | ⟨h3, h4⟩
  · obtain ⟨a, c⟩ := h2 j hj
    exact ⟨by have := hb.size; omega, by rw [ntag_old a]; exact c⟩
  · exact ⟨h4, ntag_new h3⟩
theorem LS.less (h : LS Z b np P w) {Z' : Nat → Prop} (hz : ∀ j, Z' j → Z j) : LS Z' b np P w := by
  obtain ⟨tag, h1, h2⟩ := h
  exact ⟨tag, h1, fun j hj => h2 j (hz j hj)⟩
theorem LS.keep (h : LS Z b np P w) (hb : Below w.heap.size w w') : LS Z b np P w' := (h.drop hb).less (fun _ h => Or.inl h)
theorem LS.up (h : LS Z b np P w) {b2 : Nat} (hb : b ≤ b2) : LS Z b2 np P w := by
  obtain ⟨tag, h1, h2⟩ := h
  exact ⟨tag, h1.up hb, h2⟩
theorem LS.congr (h : LS Z b np P w) {P' : Nat → KP} (he : ∀ i, i < np → P i = P' i) : LS Z b np P' w := by
  obtain ⟨tag, h1, h2⟩ := h
  exact ⟨tag, ⟨fun i hi => by rw [← he i hi]; exact h1.kst i hi, fun i hi => by rw [← he i hi]; exact h1.kown i hi, fun i hi => by rw [← he i hi]; exact h1.kq i hi, fun i hi => by rw [← he i hi]; exact h1.kok i hi, fun i hi => by rw [← he i hi]; exact h1.fok i hi, h1.tab, h1.t0⟩, h2⟩
theorem LS.fok (h : LS Z b np P w) {i : Nat} (hi : i < np) : (P i).f.Ok := by obtain ⟨_, h, _⟩ := h; exact h.fok i hi
theorem LS.mok (h : LS Z b np P w) {i : Nat} (hi : i < np) : (P i).c.Ok (P i).f := by obtain ⟨_, h, _⟩ := h; exact (h.kok i hi).1
theorem LS.len (h : LS Z b np P w) {i : Nat} (hi : i < np) (hb : b ≤ 10000000000) : (P i).c.E.length ≤ 999999999000 := by obtain ⟨_, h, _⟩ := h; exact h.len hi hb

theorem lopened (h : LS Z b np P w) (hb : 1 ≤ b) {f : Frm} (hf : f.Ok) {fv : Value} (hfv : FAt w f fv) : Calls Tryd.prog 13 #[fv] w fun e w' => LsA Z b np P f (beginM f) w e w' := by
  obtain ⟨tag, h1, h2⟩ := h
  exact (copened h1 hb hf hfv).mono (fun _ _ g => LsA.of h2 g)
theorem lfork (h : LS Z b np P w) {i : Nat} (hi : i < np) (hb : b ≤ 10000000000) : Calls Tryd.prog 36 #[.pointer (some ⟨(P i).p.bp, 0, none⟩)] w fun e w' => LsA Z b np P (P i).f (P i).c w e w' := by
  obtain ⟨tag, h1, h2⟩ := h
  exact (cfork h1 hi hb).mono (fun _ _ g => LsA.of h2 g)
theorem lset (h : LS Z b np P w) {i : Nat} (hi : i < np) (hb : b ≤ 10000000000) (c v : Int) : Calls Tryd.prog 18 #[.pointer (some ⟨(P i).p.bp, 0, none⟩), .int .i64 c, .int .i64 v] w fun e w' => LsC (.int .i64 (setNo (P i).f (P i).c c v)) Z (b + 1) np P i (setM (P i).f (P i).c c v) w e w' := by
  obtain ⟨tag, h1, h2⟩ := h
  exact (cset h1 hi hb c v).mono (fun _ _ g => LsC.of h2 g)
theorem ladv (h : LS Z b np P w) {i : Nat} (hi : i < np) (hb : b ≤ 10000000000) (tq : Int) : Calls Tryd.prog 20 #[.pointer (some ⟨(P i).p.bp, 0, none⟩), .int .i64 tq] w fun e w' => LsC (.int .i64 (advAns (P i).c.T tq)) Z b np P i (advM (P i).f (P i).c tq) w e w' := by
  obtain ⟨tag, h1, h2⟩ := h
  exact (cadv h1 hi hb tq).mono (fun _ _ g => LsC.of h2 g)
theorem lack (h : LS Z b np P w) {i : Nat} (hi : i < np) (r : Int) : Calls Tryd.prog 39 #[.pointer (some ⟨(P i).p.bp, 0, none⟩), .int .i64 r] w fun e w' => LsC (.int .i64 (ackNo (P i).f (P i).c r)) Z b np P i (ackM (P i).f (P i).c r) w e w' := by
  obtain ⟨tag, h1, h2⟩ := h
  exact (cack h1 hi r).mono (fun _ _ g => LsC.of h2 g)
theorem lclose (h : LS Z b np P w) {i : Nat} (hi : i < np) : Calls Tryd.prog 38 #[.pointer (some ⟨(P i).p.bp, 0, none⟩)] w fun e w' => LsC (.int .i64 (closeNo (P i).c)) Z b np P i (closeM (P i).f (P i).c) w e w' := by
  obtain ⟨tag, h1, h2⟩ := h
  exact (cclose h1 hi).mono (fun _ _ g => LsC.of h2 g)
theorem llook (h : LS Z b np P w) {i : Nat} (hi : i < np) (hb : b ≤ 10000000000) {fv : Value} (hfv : FAt w (P i).f fv) : Calls Tryd.prog 23 #[.pointer (some ⟨(P i).p.bp, 0, none⟩), fv] w fun e w' => LoP (P i).f (P i).c w e w' := by
  obtain ⟨tag, h1, h2⟩ := h
  exact clook h1 hi hb hfv
theorem lnow (h : LS Z b np P w) {i : Nat} (hi : i < np) : Calls Tryd.prog 21 #[.pointer (some ⟨(P i).p.bp, 0, none⟩)] w fun e w' => e = .returned (.int .i64 (P i).c.T) ∧ w' = w := by
  obtain ⟨tag, h1, h2⟩ := h
  exact now_any (h1.kst i hi)
theorem lplay (h : LS Z b np P w) {w0 : World} (hw0 : Below w0.heap.size w0 w) (hz : ∀ j, j < w0.heap.size → Z j) {f : Frm} {fv : Value} (hfv : FAt w0 f fv) {aS : Option Addr} {m cS : Nat} {S : Nat → StK} (hsc : ScK w0 aS m S) {i : Nat} (hi : i < np) (hfi : (P i).f = f) (hop : (P i).c.op = true) (hm : m ≤ 1048576) (hbb : b ≤ 8000000000) :
    Calls Tryd.prog 35 #[.pointer (some ⟨(P i).p.bp, 0, none⟩), fv, .slice aS m cS] w fun e w' => LsC (.bool true) Z (b + m) np P i (playM f (P i).c S m) w e w' := by
  obtain ⟨tag, h1, h2⟩ := h
  exact (kplay_any h1 hw0 (fun j hj => (h2 j (hz j hj)).2) hfv hsc hi hfi hop hm hbb).mono (fun _ _ g => LsC.of h2 g)
theorem lone (h : LS Z b np P w) {f : Frm} {fv : Value} (hfv : FAt w f fv) {i : Nat} (hi : i < np) (hfi : (P i).f = f) (hop : (P i).c.op = true) (hbb : b ≤ 9000000000) (kd a b' : Int) (h0 : I64k kd) (h1 : I64k a) (h2 : I64k b') :
    Calls Tryd.prog 37 #[.pointer (some ⟨(P i).p.bp, 0, none⟩), fv, .agg #[.int .i64 kd, .int .i64 a, .int .i64 b']] w fun e w' => LsC (.bool true) Z (b + 1) np P i (oneM f (P i).c kd a b') w e w' := by
  obtain ⟨tag, g1, g2⟩ := h
  exact (kone_any g1 hfv hi hfi hop hbb kd a b' h0 h1 h2).mono (fun _ _ g => LsC.of g2 g)
theorem lbegun (h : LS Z b np P w) {w0 : World} (hw0 : Below w0.heap.size w0 w) (hz : ∀ j, j < w0.heap.size → Z j) {f : Frm} (hf : f.Ok) {fv : Value} (hfv : FAt w0 f fv) {aS : Option Addr} {m cS : Nat} {S : Nat → StK} (hsc : ScK w0 aS m S) (hm : m ≤ 1048576) (hb1 : 1 ≤ b) (hbb : b ≤ 8000000000) (at' : Int) (ha0 : 0 ≤ at') (ha1 : at' ≤ 1000000000) :
    Calls Tryd.prog 28 #[fv, .slice aS m cS, .int .i64 at'] w fun e w' => LsA Z (b + m) np P f (advM f (fillM f S m) at') w e w' := by
  obtain ⟨tag, h1, h2⟩ := h
  exact (kbegun_any h1 hw0 (fun j hj => (h2 j (hz j hj)).2) hf hfv hsc hm hb1 hbb at' ha0 ha1).mono (fun _ _ g => LsA.of h2 g)
end

theorem own_from {w : World} {base : Nat} {e : TypeId} {size : Nat} {v : Value} {n : Nat} {xs : List Value} (h : w.ownsRow base e size v n xs) {g : Nat} (hg : v.ownBlock = some g) : base ≤ g := by
  rcases h.2 with ⟨rfl, _⟩ | ⟨g', cap, cur, rfl, a1, _⟩
  · cases hg
  · cases hg
    exact a1

theorem LookAt.stays {Z : Nat → Prop} {B : Nat} {f : Frm} {m : Cs} {v : Value} {w w' : World} (h : LookAt B f m v w) (hz : ∀ j, B ≤ j → j < w.heap.size → Z j) (hs : StZ Z w w') : LookAt B f m v w' := by
  obtain ⟨vV, vS, vL, rfl, h1, h2, h3⟩ := h.ex
  exact ⟨vV, vS, vL, rfl, own_of_block h1 (fun g hg hlt => hs.block g (hz g (own_from h1 hg) hlt)), own_of_block h2 (fun g hg hlt => hs.block g (hz g (own_from h2 hg) hlt)), own_of_block h3 (fun g hg hlt => hs.block g (hz g (own_from h3 hg) hlt))⟩

/-- Up to four cases, by name. -/
def p4 (A B C D : KP) : Nat → KP
  | 0 => A
  | 1 => B
  | 2 => C
  | _ => D

/-- The clock goes on by two steps as by one. -/
theorem adv_adv (f : Frm) (m : Cs) {t1 t2 : Int} (h0 : m.T ≤ t1) (h1 : t1 ≤ t2) (h2 : t2 ≤ 1000000000) : advM f (advM f m t1) t2 = advM f m t2 := by
  have eT : (m.go f (t1 - m.T).toNat).T = t1 := by rw [go_T]; omega
  have e1 : advM f m t1 = m.go f (t1 - m.T).toNat := by unfold advM; rw [if_neg (by omega)]
  have e2 : advM f m t2 = m.go f (t2 - m.T).toNat := by unfold advM; rw [if_neg (by omega)]
  rw [e1, e2]
  unfold advM
  rw [eT, if_neg (by omega), ← go_add]
  congr 1
  omega
theorem advM_T (f : Frm) (m : Cs) {t : Int} (h0 : m.T ≤ t) (h1 : t ≤ 1000000000) : (advM f m t).T = t := by
  unfold advM
  rw [if_neg (by omega), go_T]
  omega

end Go.Proofs.YtnkolbngeibhpaaDoor

/-
  THE WALKS: docketkeep.Split.
-/
set_option linter.unusedVariables false
set_option linter.unusedSimpArgs false
namespace Go.Proofs.YtnkolbngeibhpaaDoor
open Go.RowKit
attribute [local go_sem ↓] Go.wp_at_zero Go.wp_at_succ

def kpl0 : KPl := ⟨0, 0, 0, none, 0, none, 0, 0, 0⟩
theorem p4_one (A B C D X : KP) : upd (p4 A B C D) 1 X = p4 A X C D := by
  funext i
  match i with
  | 0 => exact upd_other _ _ (by omega)
  | 1 => exact upd_same _ _ _
  | 2 => exact upd_other _ _ (by omega)
  | n + 3 => exact upd_other _ _ (by omega)
theorem p4_two (A B C D X : KP) : upd (p4 A B C D) 2 X = p4 A B X D := by
  funext i
  match i with
  | 0 => exact upd_other _ _ (by omega)
  | 1 => exact upd_other _ _ (by omega)
  | 2 => exact upd_same _ _ _
  | n + 3 => exact upd_other _ _ (by omega)

/-- A case whose clock has come to tm goes on to tt. -/
theorem adv_at {Z : Nat → Prop} {b np : Nat} {P : Nat → KP} {w : World} (h : LS Z b np P w) {i : Nat} (hi : i < np) (hb : b ≤ 10000000000) {f : Frm} {F : Cs} {tm tt : Int} (hf : (P i).f = f) (hc : (P i).c = advM f F tm) (h0 : F.T ≤ tm) (h1 : tm ≤ tt) (h2 : tt ≤ 1000000000) :
    Calls Tryd.prog 20 #[.pointer (some ⟨(P i).p.bp, 0, none⟩), .int .i64 tt] w fun e w' => LsC (.int .i64 0) Z b np P i (advM f F tt) w e w' :=
  (ladv h hi hb tt).mono (fun e w' g => by
    have e1 : advM (P i).f (P i).c tt = advM f F tt := by rw [hf, hc]; exact adv_adv f F h0 h1 h2
    have e2 : advAns (P i).c.T tt = 0 := by
      rw [hc, advM_T f F h0 (by omega)]
      unfold advAns
      rw [if_neg (by omega)]
    rw [e1, e2] at g
    exact g)

set_option maxRecDepth 100000 in
set_option maxHeartbeats 4000000 in
theorem ksplit_any (C : Nat → Cel) (R : Nat → Rul) (hol : List Int) (aC aR aH : Option Addr) (n cC k cR cH : Nat) (week : Int) (w : World) (ht : Tab w) (hn : n ≤ 1000000000) (hk : k ≤ 1000000000) (hhl : hol.length ≤ 1000000000) (h64 : Raw64 C n R k week hol)
    (hcs : CAt w aC n C) (hrs : RAt w aR k R) (hhs : IntsAt w (.slice aH hol.length cH) hol) {aS : Option Addr} {mS cS : Nat} {S : Nat → StK} (hsc : ScK w aS mS S) (hm : mS ≤ 1048576) (tq : Int) (h1 : I64k tq) {aK : Option Addr} {cK : Nat} {cuts : List Int} (hcu : IntsAt w (.slice aK cuts.length cK) cuts) (hcl : cuts.length ≤ 1048576) (hc64 : ∀ j, j < cuts.length → I64k (cuts.getD j 0)) :
    Calls Tryd.prog 7 #[.agg #[.slice aC n cC, .slice aR k cR, .int .i64 week, .slice aH hol.length cH], .slice aS mS cS, .int .i64 tq, .slice aK cuts.length cK] w fun e w' => TPost w e w' := by
  have BX := hid (Below.refl (w.heap.size + 1) (w.alloc (.cells #[.slice aC n cC, .slice aR k cR, .int .i64 week, .slice aH hol.length cH] 26)))
  have BW := hid (boxed_below BX.out)
  have SH := hid (kshaped_any C R hol aC aR aH n cC k cR cH week _ hn hk hhl h64 (hcs.below BW.out) (hrs.below BW.out) (SlAt.below hhs BW.out (Nat.le_refl _)))
  have FSO := hid (shF_ok C n R k week hol)
  have HSC := hid hsc
  have HCU := hid hcu
  have HC64 := hid hc64
  have HT := hid ht
  clear hcs hrs hhs hsc h64 hcu hc64 ht
  generalize shF C n R k week hol = f at *
  go_enter Tryd.func7, Tryd.ntmps7
  go_wp2_with fail
  refine SH.out.mono ?_
  rintro e w1 ⟨fv, rfl, fa, hb1⟩
  have FA := hid fa
  obtain ⟨aC', cC', aR', cR', aH', cH', rfl, fa1, fa2, fa3⟩ := fa
  clear fa1 fa2 fa3
  have B1 : Hid (Below w.heap.size w w1) := BW.out.trans (hb1.mono (by simp))
  clear hb1 BX BW SH
  have BX := hid (Below.refl (w1.heap.size + 1) (w1.alloc (.cells #[.slice aC' f.n cC', .slice aR' f.k cR', .int .i64 f.week, .slice aH' f.hol.length cH'] 26)))
  have BB := hid (boxed_below BX.out)
  have f0 : (w1.alloc (.cells #[.slice aC' f.n cC', .slice aR' f.k cR', .int .i64 f.week, .slice aH' f.hol.length cH'] 26)).cell? ⟨w1.heap.size, 0, none⟩ = some (.slice aC' f.n cC') := boxed BX.out 0
  have f1 : (w1.alloc (.cells #[.slice aC' f.n cC', .slice aR' f.k cR', .int .i64 f.week, .slice aH' f.hol.length cH'] 26)).cell? ⟨w1.heap.size, 1, none⟩ = some (.slice aR' f.k cR') := boxed BX.out 1
  have f2 : (w1.alloc (.cells #[.slice aC' f.n cC', .slice aR' f.k cR', .int .i64 f.week, .slice aH' f.hol.length cH'] 26)).cell? ⟨w1.heap.size, 2, none⟩ = some (.int .i64 f.week) := boxed BX.out 2
  have f3 : (w1.alloc (.cells #[.slice aC' f.n cC', .slice aR' f.k cR', .int .i64 f.week, .slice aH' f.hol.length cH'] 26)).cell? ⟨w1.heap.size, 3, none⟩ = some (.slice aH' f.hol.length cH') := boxed BX.out 3
  have zg : w1.heap.size < (w1.alloc (.cells #[.slice aC' f.n cC', .slice aR' f.k cR', .int .i64 f.week, .slice aH' f.hol.length cH'] 26)).heap.size := by simp
  have B0 : Hid (Below w.heap.size w (w1.alloc (.cells #[.slice aC' f.n cC', .slice aR' f.k cR', .int .i64 f.week, .slice aH' f.hol.length cH'] 26))) := B1.out.trans (BB.out.mono B1.out.size)
  have FA0 := hid (FA.out.below BB.out)
  have SC0 := hid (HSC.out.below B0.out)
  have CU0 := hid (SlAt.below HCU.out B0.out (Nat.le_refl _))
  have T0 := hid (HT.out.below B0.out (Nat.le_refl _))
  have INS := hid (fun W => kinstant_any tq W h1)
  obtain ⟨p0, p1⟩ := pickI_bd tq (n := 1000000001) (by omega)
  go_wp2_with fail
  refine (INS.out _).mono ?_
  rintro e w' ⟨rfl, hw⟩
  rw [hw]
  clear hw w'
  clear BX BB FA B1 HSC HCU HT INS
  generalize w1.alloc (.cells #[.slice aC' f.n cC', .slice aR' f.k cR', .int .i64 f.week, .slice aH' f.hol.length cH'] 26) = w0 at *
  generalize w1.heap.size = g at *
  generalize pickI tq 1000000001 = to2 at *
  obtain ⟨n1, n20, k6, _, _⟩ := FSO.out.ok.sizes
  have LS0 := hid (LS.start T0.out (fun _ => ⟨fun _ => False, kpl0, .bool false, f, beginM f⟩) 1)
  have BEG : Hid (∀ (P : Nat → KP) (W : World) (b np : Nat) (at' : Int), LS (fun j => j < w0.heap.size) b np P W → Below w0.heap.size w0 W → 1 ≤ b → b ≤ 8000000000 → 0 ≤ at' → at' ≤ 1000000000 → Calls Tryd.prog 28 #[.agg #[.slice aC' f.n cC', .slice aR' f.k cR', .int .i64 f.week, .slice aH' f.hol.length cH'], .slice aS mS cS, .int .i64 at'] W fun e w' => LsA (fun j => j < w0.heap.size) (b + mS) np P f (advM f (fillM f S mS) at') W e w') := fun P W b np at' h hb hb1 hb2 a0 a1 => lbegun h hb (fun j hj => hj) FSO.out.ok FA0.out SC0.out hm hb1 hb2 at' a0 a1
  have FT : Hid ((fillM f S mS).T = 0) := fillM_T f S mS
  generalize fillM f S mS = F at *
  go_wp2_with fail
  refine (BEG.out _ w0 1 0 to2 LS0.out (Below.refl _ _) (by omega) (by omega) p0 (by omega)).mono ?_
  rintro e w2 ⟨QA, pA, vA, rfl, l2, s2⟩
  have L2 : Hid (LS (fun j => j < w0.heap.size) (1 + mS) 1 (p4 ⟨QA, pA, vA, f, advM f F to2⟩ ⟨QA, pA, vA, f, advM f F to2⟩ ⟨QA, pA, vA, f, advM f F to2⟩ ⟨QA, pA, vA, f, advM f F to2⟩) w2) := l2.congr (fun i hi => by
    have e : i = 0 := by omega
    subst e
    exact upd_same _ _ _)
  have S2 := hid s2
  have f0' := (s2.cell 0 zg).trans f0
  have f1' := (s2.cell 1 zg).trans f1
  have f2' := (s2.cell 2 zg).trans f2
  have f3' := (s2.cell 3 zg).trans f3
  clear l2 s2 LS0
  go_wp2_with fail
  refine (BEG.out _ w2 (1 + mS) 1 0 L2.out (S2.out.below (Below.refl _ _) (fun j hj => hj)) (by omega) (by omega) (by omega) (by omega)).mono ?_
  rintro e w3 ⟨QB, pB, vB, rfl, l3, s3⟩
  have L3 : Hid (LS (fun j => j < w0.heap.size) (1 + mS + mS) 2 (p4 ⟨QA, pA, vA, f, advM f F to2⟩ ⟨QB, pB, vB, f, advM f F 0⟩ ⟨QB, pB, vB, f, advM f F 0⟩ ⟨QB, pB, vB, f, advM f F 0⟩) w3) := l3.congr (fun i hi => by
    have hi' : i = 0 ∨ i = 1 := by omega
    rcases hi' with rfl | rfl
    · exact upd_other _ _ (by omega)
    · exact upd_same _ _ _)
  have S3 := hid (S2.out.trans s3)
  clear l3 s3 L2 S2 f0' f1' f2' f3'
  have f0' := (S3.out.cell 0 zg).trans f0
  have f1' := (S3.out.cell 1 zg).trans f1
  have f2' := (S3.out.cell 2 zg).trans f2
  have f3' := (S3.out.cell 3 zg).trans f3
  go_wp2_with fail
  refine (BEG.out _ w3 (1 + mS + mS) 2 0 L3.out (S3.out.below (Below.refl _ _) (fun j hj => hj)) (by omega) (by omega) (by omega) (by omega)).mono ?_
  rintro e w4 ⟨QC, pC, vC, rfl, l4, s4⟩
  have L4 : Hid (LS (fun j => j < w0.heap.size) (1 + mS + mS + mS) 3 (p4 ⟨QA, pA, vA, f, advM f F to2⟩ ⟨QB, pB, vB, f, advM f F 0⟩ ⟨QC, pC, vC, f, advM f F 0⟩ ⟨QC, pC, vC, f, advM f F 0⟩) w4) := l4.congr (fun i hi => by
    have hi' : i = 0 ∨ i = 1 ∨ i = 2 := by omega
    rcases hi' with rfl | rfl | rfl
    · exact upd_other _ _ (by omega)
    · exact upd_other _ _ (by omega)
    · exact upd_same _ _ _)
  have S4 := hid (S3.out.trans s4)
  clear l4 s4 L3 S3 f0' f1' f2' f3' BEG
  generalize hbb : 1 + mS + mS + mS = bb at *
  have hb9 : bb ≤ 8000000000 := by omega
  clear hbb
  go_wp2_with fail
  go_loopw [13] (fun t wr => ∃ (j : Nat) (v' : Value) (tm : Int), j ≤ cuts.length ∧ t = .int .i64 j ∧ Hid (0 ≤ tm ∧ tm ≤ to2) ∧ Hid (LS (fun j => j < w0.heap.size) bb 3 (p4 ⟨QA, pA, vA, f, advM f F to2⟩ ⟨QB, pB, v', f, advM f F tm⟩ ⟨QC, pC, vC, f, advM f F 0⟩ ⟨QC, pC, vC, f, advM f F 0⟩) wr) ∧ Hid (StZ (fun j => j < w0.heap.size) w0 wr)) (fun t _ => cuts.length - (intOf t).toNat)
  case atStart => exact ⟨0, vB, 0, by omega, rfl, ⟨by omega, p0⟩, L4, S4⟩
  case round =>
    clear L4 S4
    obtain ⟨j, v', tm, j1, rfl, htm, hl, hs⟩ := hrel
    obtain ⟨tm0, tm1⟩ := htm.out
    by_cases hjt : j < cuts.length
    · have lt' : (j : Int) < (cuts.length : Int) := by omega
      obtain ⟨a', c', ea, hcell⟩ := SlAt.below CU0.out (hs.out.below (Below.refl _ _) (fun j hj => hj)) (Nat.le_refl _)
      cases ea
      obtain ⟨bK, oK, hak, zK, xK0⟩ := hcell j (by omega)
      subst hak
      have xK : wr.cell? ⟨bK, oK + j, none⟩ = some (.int .i64 (cuts.getD j 0)) := xK0
      clear hcell CU0 xK0
      have NW : Hid (Calls Tryd.prog 21 #[.pointer (some ⟨pB.bp, 0, none⟩)] wr fun e w' => e = .returned (.int .i64 tm) ∧ w' = wr) := (lnow hl.out (i := 1) (by omega)).mono (fun e w' g => ⟨by
        rw [g.1]
        show Ending.returned (.int .i64 (advM f F tm).T) = _
        rw [advM_T f F (by rw [FT.out]; exact tm0) (by omega)], g.2⟩)
      have PK := hid (fun W => kpick_any (cuts.getD j 0) (to2 + 1) W (HC64.out j hjt) (by omega) (by omega))
      obtain ⟨k0, k1⟩ := pickI_bd (cuts.getD j 0) (n := to2 + 1) (by omega)
      have ADV : Hid (∀ tt : Int, tm ≤ tt → tt ≤ to2 → Calls Tryd.prog 20 #[.pointer (some ⟨pB.bp, 0, none⟩), .int .i64 tt] wr fun e w' => e = .returned (.int .i64 0) ∧ ∃ v2, LS (fun j => j < w0.heap.size) bb 3 (p4 ⟨QA, pA, vA, f, advM f F to2⟩ ⟨QB, pB, v2, f, advM f F tt⟩ ⟨QC, pC, vC, f, advM f F 0⟩ ⟨QC, pC, vC, f, advM f F 0⟩) w' ∧ StZ (fun j => j < w0.heap.size) wr w') := fun tt g1 g2 => (adv_at hl.out (i := 1) (by omega) (by omega) rfl rfl (by rw [FT.out]; exact tm0) g1 (by omega)).mono (fun e w' g => by
        obtain ⟨g0, v2, g3, g4⟩ := g
        rw [p4_one] at g3
        exact ⟨g0, v2, g3, g4⟩)
      generalize cuts.getD j 0 = cj at PK k0 k1 xK
      generalize pickI cj (to2 + 1) = pk at PK k0 k1
      clear hl
      go_wp2_with fail
      refine NW.out.mono ?_
      rintro e w' ⟨rfl, hw⟩
      rw [hw]
      clear hw w' NW
      go_wp2_with fail
      refine (PK.out _).mono ?_
      rintro e w' ⟨rfl, hw⟩
      rw [hw]
      clear hw w' PK
      by_cases hgt : to2 < tm + pk
      · have AD := hid (ADV.out to2 tm1 (by omega))
        clear ADV
        go_wp2_with fail
        refine AD.out.mono ?_
        rintro e w5 ⟨rfl, v2, l5, s5⟩
        have N1 := hid l5
        have N2 := hid (hs.out.trans s5)
        clear l5 s5 hs AD
        go_wp2
        go_roundw
        case rel => exact ⟨j + 1, v2, to2, by omega, by go_num, ⟨p0, by omega⟩, N1, N2⟩
        case measure => simp [intOf]; omega
      · have AD := hid (ADV.out (tm + pk) (by omega) (by omega))
        clear ADV
        go_wp2_with fail
        refine AD.out.mono ?_
        rintro e w5 ⟨rfl, v2, l5, s5⟩
        have N1 := hid l5
        have N2 := hid (hs.out.trans s5)
        clear l5 s5 hs AD
        go_wp2
        go_roundw
        case rel => exact ⟨j + 1, v2, tm + pk, by omega, by go_num, ⟨by omega, by omega⟩, N1, N2⟩
        case measure => simp [intOf]; omega
    · have ADV : Hid (Calls Tryd.prog 20 #[.pointer (some ⟨pB.bp, 0, none⟩), .int .i64 to2] wr fun e w' => e = .returned (.int .i64 0) ∧ ∃ v2, LS (fun j => j < w0.heap.size) bb 3 (p4 ⟨QA, pA, vA, f, advM f F to2⟩ ⟨QB, pB, v2, f, advM f F to2⟩ ⟨QC, pC, vC, f, advM f F 0⟩ ⟨QC, pC, vC, f, advM f F 0⟩) w' ∧ StZ (fun j => j < w0.heap.size) wr w') := (adv_at hl.out (i := 1) (by omega) (by omega) rfl rfl (by rw [FT.out]; exact tm0) tm1 (by omega)).mono (fun e w' g => by
        obtain ⟨g0, v2, g3, g4⟩ := g
        rw [p4_one] at g3
        exact ⟨g0, v2, g3, g4⟩)
      clear hl
      go_wp2_with fail
      refine ADV.out.mono ?_
      rintro e w5 ⟨rfl, vB2, l5, s5⟩
      have L5 := hid l5
      have S5 := hid (hs.out.trans s5)
      clear l5 s5 hs ADV tm0 tm1 htm
      by_cases hneg : to2 - 50 < 0
      all_goals (
        go_wp2_with fail
        go_loopw [18] (fun t wr => ∃ (s : Int) (v' : Value) (tm : Int), 0 ≤ s ∧ s ≤ to2 + 1 ∧ t = .int .i64 s ∧ Hid (0 ≤ tm ∧ tm ≤ s ∧ tm ≤ to2 ∧ (s = to2 + 1 → tm = to2)) ∧ Hid (LS (fun j => j < w0.heap.size) bb 3 (p4 ⟨QA, pA, vA, f, advM f F to2⟩ ⟨QB, pB, vB2, f, advM f F to2⟩ ⟨QC, pC, v', f, advM f F tm⟩ ⟨QC, pC, vC, f, advM f F 0⟩) wr) ∧ Hid (StZ (fun j => j < w0.heap.size) w0 wr)) (fun t _ => (to2 + 1 - intOf t).toNat)
        case atStart => exact ⟨_, vC, 0, by omega, by omega, rfl, ⟨by omega, by omega, by omega, fun h => by omega⟩, L5, S5⟩
        case round =>
          clear L5 S5
          obtain ⟨s, v', tm, sa, sb, rfl, htm, hl, hs⟩ := hrel
          obtain ⟨tm0, tm1, tm2, tm3⟩ := htm.out
          by_cases hst : s ≤ to2
          · have ADV : Hid (Calls Tryd.prog 20 #[.pointer (some ⟨pC.bp, 0, none⟩), .int .i64 s] wr fun e w' => e = .returned (.int .i64 0) ∧ ∃ v2, LS (fun j => j < w0.heap.size) bb 3 (p4 ⟨QA, pA, vA, f, advM f F to2⟩ ⟨QB, pB, vB2, f, advM f F to2⟩ ⟨QC, pC, v2, f, advM f F s⟩ ⟨QC, pC, vC, f, advM f F 0⟩) w' ∧ StZ (fun j => j < w0.heap.size) wr w') := (adv_at hl.out (i := 2) (by omega) (by omega) rfl rfl (by rw [FT.out]; exact tm0) tm1 (by omega)).mono (fun e w' g => by
              obtain ⟨g0, v2, g3, g4⟩ := g
              rw [p4_two] at g3
              exact ⟨g0, v2, g3, g4⟩)
            clear hl tm3
            go_wp2_with fail
            refine ADV.out.mono ?_
            rintro e w6 ⟨rfl, v2, l6, s6⟩
            have N1 := hid l6
            have N2 := hid (hs.out.trans s6)
            clear l6 s6 hs ADV
            go_wp2
            go_roundw
            case rel => exact ⟨s + 1, v2, s, by omega, by omega, by go_num, ⟨sa, by omega, hst, fun h => by omega⟩, N1, N2⟩
            case measure => simp [intOf]; omega
          · have etm : tm = to2 := tm3 (by omega)
            rw [etm] at hl
            clear etm tm3 tm0 tm1 tm2 htm
            have g0 := (hs.out.cell 0 zg).trans f0
            have g1 := (hs.out.cell 1 zg).trans f1
            have g2 := (hs.out.cell 2 zg).trans f2
            have g3 := (hs.out.cell 3 zg).trans f3
            have zg2 : g < wr.heap.size := by have := hs.out.size; omega
            have BWR : Hid (Below w0.heap.size w0 wr) := hs.out.below (Below.refl _ _) (fun j hj => hj)
            have FAW := hid (FA0.out.below BWR.out)
            have MT : Hid ((advM f F to2).T = to2) := advM_T f F (by rw [FT.out]; exact p0) (by omega)
            have LEN : Hid ((advM f F to2).E.length ≤ 1000000000000) := (show _ ≤ _ from by have h := hl.out.len (i := 0) (by omega) (by omega); have h' : (advM f F to2).E.length ≤ 999999999000 := h; omega)
            have LKA : Hid (∀ W, Below wr.heap.size wr W → Calls Tryd.prog 23 #[.pointer (some ⟨pA.bp, 0, none⟩), (.agg #[.slice aC' f.n cC', .slice aR' f.k cR', .int .i64 f.week, .slice aH' f.hol.length cH'])] W fun e w' => LoP f (advM f F to2) W e w') := fun W hW => llook (hl.out.keep hW) (i := 0) (by omega) (by omega) (FAW.out.below hW)
            have LKB : Hid (∀ W, Below wr.heap.size wr W → Calls Tryd.prog 23 #[.pointer (some ⟨pB.bp, 0, none⟩), (.agg #[.slice aC' f.n cC', .slice aR' f.k cR', .int .i64 f.week, .slice aH' f.hol.length cH'])] W fun e w' => LoP f (advM f F to2) W e w') := fun W hW => llook (hl.out.keep hW) (i := 1) (by omega) (by omega) (FAW.out.below hW)
            have LKC : Hid (∀ W, Below wr.heap.size wr W → Calls Tryd.prog 23 #[.pointer (some ⟨pC.bp, 0, none⟩), (.agg #[.slice aC' f.n cC', .slice aR' f.k cR', .int .i64 f.week, .slice aH' f.hol.length cH'])] W fun e w' => LoP f (advM f F to2) W e w') := fun W hW => llook (hl.out.keep hW) (i := 2) (by omega) (by omega) (FAW.out.below hW)
            have B6 : Hid (Below wr.heap.size wr wr) := Below.refl _ _
            have ST : Hid (Below w.heap.size w wr) := B0.out.trans (BWR.out.mono B0.out.size)
            clear hl hs BWR FAW FA0 SC0 CU0 T0 HC64 f0 f1 f2 f3 zg hcl
            generalize advM f F to2 = M at *
            go_wp2_with fail
            refine (LKA.out _ B6.out).mono ?_
            rintro e w7 ⟨vx, rfl, l, b⟩
            have Lx := hid l
            obtain ⟨xV, xS, xL, rfl, r1, r2, r3⟩ := l.ex
            obtain ⟨xa1, xc1, rfl⟩ := own_len r1
            obtain ⟨xa2, xc2, rfl⟩ := own_len r2
            obtain ⟨xa3, xc3, rfl⟩ := own_len r3
            have BB : Hid (Below w7.heap.size w7 (w7.alloc (.cells #[.int .i64 M.T, .slice xa1 f.n xc1, .slice xa2 f.k xc2, .slice xa3 M.E.length xc3, .bool true] 46))) := boxed_below (Below.refl (w7.heap.size + 1) (w7.alloc (.cells #[.int .i64 M.T, .slice xa1 f.n xc1, .slice xa2 f.k xc2, .slice xa3 M.E.length xc3, .bool true] 46)))
            have NW : Hid (Below wr.heap.size wr (w7.alloc (.cells #[.int .i64 M.T, .slice xa1 f.n xc1, .slice xa2 f.k xc2, .slice xa3 M.E.length xc3, .bool true] 46))) := b.trans (BB.out.mono b.size)
            have Lx := hid (Lx.out.below (B2 := 0) BB.out)
            have g0 := (NW.out.cell (p := ⟨g, 0, none⟩) zg2).trans g0
            have g1 := (NW.out.cell (p := ⟨g, 1, none⟩) zg2).trans g1
            have g2 := (NW.out.cell (p := ⟨g, 2, none⟩) zg2).trans g2
            have g3 := (NW.out.cell (p := ⟨g, 3, none⟩) zg2).trans g3
            have cx0 : (w7.alloc (.cells #[.int .i64 M.T, .slice xa1 f.n xc1, .slice xa2 f.k xc2, .slice xa3 M.E.length xc3, .bool true] 46)).cell? ⟨w7.heap.size, 0, none⟩ = some (.int .i64 M.T) := boxed (Below.refl (w7.heap.size + 1) (w7.alloc (.cells #[.int .i64 M.T, .slice xa1 f.n xc1, .slice xa2 f.k xc2, .slice xa3 M.E.length xc3, .bool true] 46))) 0
            have cx1 : (w7.alloc (.cells #[.int .i64 M.T, .slice xa1 f.n xc1, .slice xa2 f.k xc2, .slice xa3 M.E.length xc3, .bool true] 46)).cell? ⟨w7.heap.size, 1, none⟩ = some (.slice xa1 f.n xc1) := boxed (Below.refl (w7.heap.size + 1) (w7.alloc (.cells #[.int .i64 M.T, .slice xa1 f.n xc1, .slice xa2 f.k xc2, .slice xa3 M.E.length xc3, .bool true] 46))) 1
            have cx2 : (w7.alloc (.cells #[.int .i64 M.T, .slice xa1 f.n xc1, .slice xa2 f.k xc2, .slice xa3 M.E.length xc3, .bool true] 46)).cell? ⟨w7.heap.size, 2, none⟩ = some (.slice xa2 f.k xc2) := boxed (Below.refl (w7.heap.size + 1) (w7.alloc (.cells #[.int .i64 M.T, .slice xa1 f.n xc1, .slice xa2 f.k xc2, .slice xa3 M.E.length xc3, .bool true] 46))) 2
            have cx3 : (w7.alloc (.cells #[.int .i64 M.T, .slice xa1 f.n xc1, .slice xa2 f.k xc2, .slice xa3 M.E.length xc3, .bool true] 46)).cell? ⟨w7.heap.size, 3, none⟩ = some (.slice xa3 M.E.length xc3) := boxed (Below.refl (w7.heap.size + 1) (w7.alloc (.cells #[.int .i64 M.T, .slice xa1 f.n xc1, .slice xa2 f.k xc2, .slice xa3 M.E.length xc3, .bool true] 46))) 3
            have cx4 : (w7.alloc (.cells #[.int .i64 M.T, .slice xa1 f.n xc1, .slice xa2 f.k xc2, .slice xa3 M.E.length xc3, .bool true] 46)).cell? ⟨w7.heap.size, 4, none⟩ = some (.bool true) := boxed (Below.refl (w7.heap.size + 1) (w7.alloc (.cells #[.int .i64 M.T, .slice xa1 f.n xc1, .slice xa2 f.k xc2, .slice xa3 M.E.length xc3, .bool true] 46))) 4
            have zg2 : g < (w7.alloc (.cells #[.int .i64 M.T, .slice xa1 f.n xc1, .slice xa2 f.k xc2, .slice xa3 M.E.length xc3, .bool true] 46)).heap.size := by have := NW.out.size; omega
            have zx : w7.heap.size < (w7.alloc (.cells #[.int .i64 M.T, .slice xa1 f.n xc1, .slice xa2 f.k xc2, .slice xa3 M.E.length xc3, .bool true] 46)).heap.size := by simp
            have B6 := hid (B6.out.trans (NW.out.mono B6.out.size))
            clear r1 r2 r3 l b BB NW
            go_upto_region 28 with (fail)
            generalize w7.alloc (.cells #[.int .i64 M.T, .slice xa1 f.n xc1, .slice xa2 f.k xc2, .slice xa3 M.E.length xc3, .bool true] 46) = u7 at *
            generalize w7.heap.size = gx at *
            go_wp2_with fail
            refine (LKB.out _ B6.out).mono ?_
            rintro e w8 ⟨vy, rfl, l, b⟩
            have Ly := hid l
            obtain ⟨yV, yS, yL, rfl, r1, r2, r3⟩ := l.ex
            obtain ⟨ya1, yc1, rfl⟩ := own_len r1
            obtain ⟨ya2, yc2, rfl⟩ := own_len r2
            obtain ⟨ya3, yc3, rfl⟩ := own_len r3
            have BB : Hid (Below w8.heap.size w8 (w8.alloc (.cells #[.int .i64 M.T, .slice ya1 f.n yc1, .slice ya2 f.k yc2, .slice ya3 M.E.length yc3, .bool true] 46))) := boxed_below (Below.refl (w8.heap.size + 1) (w8.alloc (.cells #[.int .i64 M.T, .slice ya1 f.n yc1, .slice ya2 f.k yc2, .slice ya3 M.E.length yc3, .bool true] 46)))
            have NW : Hid (Below u7.heap.size u7 (w8.alloc (.cells #[.int .i64 M.T, .slice ya1 f.n yc1, .slice ya2 f.k yc2, .slice ya3 M.E.length yc3, .bool true] 46))) := b.trans (BB.out.mono b.size)
            have Ly := hid (Ly.out.below (B2 := 0) BB.out)
            have Lx := hid (Lx.out.below (B2 := 0) NW.out)
            have g0 := (NW.out.cell (p := ⟨g, 0, none⟩) zg2).trans g0
            have g1 := (NW.out.cell (p := ⟨g, 1, none⟩) zg2).trans g1
            have g2 := (NW.out.cell (p := ⟨g, 2, none⟩) zg2).trans g2
            have g3 := (NW.out.cell (p := ⟨g, 3, none⟩) zg2).trans g3
            have cx0 := (NW.out.cell (p := ⟨gx, 0, none⟩) zx).trans cx0
            have cx1 := (NW.out.cell (p := ⟨gx, 1, none⟩) zx).trans cx1
            have cx2 := (NW.out.cell (p := ⟨gx, 2, none⟩) zx).trans cx2
            have cx3 := (NW.out.cell (p := ⟨gx, 3, none⟩) zx).trans cx3
            have cx4 := (NW.out.cell (p := ⟨gx, 4, none⟩) zx).trans cx4
            have cy0 : (w8.alloc (.cells #[.int .i64 M.T, .slice ya1 f.n yc1, .slice ya2 f.k yc2, .slice ya3 M.E.length yc3, .bool true] 46)).cell? ⟨w8.heap.size, 0, none⟩ = some (.int .i64 M.T) := boxed (Below.refl (w8.heap.size + 1) (w8.alloc (.cells #[.int .i64 M.T, .slice ya1 f.n yc1, .slice ya2 f.k yc2, .slice ya3 M.E.length yc3, .bool true] 46))) 0
            have cy1 : (w8.alloc (.cells #[.int .i64 M.T, .slice ya1 f.n yc1, .slice ya2 f.k yc2, .slice ya3 M.E.length yc3, .bool true] 46)).cell? ⟨w8.heap.size, 1, none⟩ = some (.slice ya1 f.n yc1) := boxed (Below.refl (w8.heap.size + 1) (w8.alloc (.cells #[.int .i64 M.T, .slice ya1 f.n yc1, .slice ya2 f.k yc2, .slice ya3 M.E.length yc3, .bool true] 46))) 1
            have cy2 : (w8.alloc (.cells #[.int .i64 M.T, .slice ya1 f.n yc1, .slice ya2 f.k yc2, .slice ya3 M.E.length yc3, .bool true] 46)).cell? ⟨w8.heap.size, 2, none⟩ = some (.slice ya2 f.k yc2) := boxed (Below.refl (w8.heap.size + 1) (w8.alloc (.cells #[.int .i64 M.T, .slice ya1 f.n yc1, .slice ya2 f.k yc2, .slice ya3 M.E.length yc3, .bool true] 46))) 2
            have cy3 : (w8.alloc (.cells #[.int .i64 M.T, .slice ya1 f.n yc1, .slice ya2 f.k yc2, .slice ya3 M.E.length yc3, .bool true] 46)).cell? ⟨w8.heap.size, 3, none⟩ = some (.slice ya3 M.E.length yc3) := boxed (Below.refl (w8.heap.size + 1) (w8.alloc (.cells #[.int .i64 M.T, .slice ya1 f.n yc1, .slice ya2 f.k yc2, .slice ya3 M.E.length yc3, .bool true] 46))) 3
            have cy4 : (w8.alloc (.cells #[.int .i64 M.T, .slice ya1 f.n yc1, .slice ya2 f.k yc2, .slice ya3 M.E.length yc3, .bool true] 46)).cell? ⟨w8.heap.size, 4, none⟩ = some (.bool true) := boxed (Below.refl (w8.heap.size + 1) (w8.alloc (.cells #[.int .i64 M.T, .slice ya1 f.n yc1, .slice ya2 f.k yc2, .slice ya3 M.E.length yc3, .bool true] 46))) 4
            have zg2 : g < (w8.alloc (.cells #[.int .i64 M.T, .slice ya1 f.n yc1, .slice ya2 f.k yc2, .slice ya3 M.E.length yc3, .bool true] 46)).heap.size := by have := NW.out.size; omega
            have zx : gx < (w8.alloc (.cells #[.int .i64 M.T, .slice ya1 f.n yc1, .slice ya2 f.k yc2, .slice ya3 M.E.length yc3, .bool true] 46)).heap.size := by have := NW.out.size; omega
            have zy : w8.heap.size < (w8.alloc (.cells #[.int .i64 M.T, .slice ya1 f.n yc1, .slice ya2 f.k yc2, .slice ya3 M.E.length yc3, .bool true] 46)).heap.size := by simp
            have B6 := hid (B6.out.trans (NW.out.mono B6.out.size))
            clear r1 r2 r3 l b BB NW
            go_upto_region 29 with (fail)
            generalize w8.alloc (.cells #[.int .i64 M.T, .slice ya1 f.n yc1, .slice ya2 f.k yc2, .slice ya3 M.E.length yc3, .bool true] 46) = u8 at *
            generalize w8.heap.size = gy at *
            go_wp2_with fail
            refine (LKC.out _ B6.out).mono ?_
            rintro e w9 ⟨vz, rfl, l, b⟩
            have Lz := hid l
            obtain ⟨zV, zS, zL, rfl, r1, r2, r3⟩ := l.ex
            obtain ⟨za1, zc1, rfl⟩ := own_len r1
            obtain ⟨za2, zc2, rfl⟩ := own_len r2
            obtain ⟨za3, zc3, rfl⟩ := own_len r3
            have BB : Hid (Below w9.heap.size w9 (w9.alloc (.cells #[.int .i64 M.T, .slice za1 f.n zc1, .slice za2 f.k zc2, .slice za3 M.E.length zc3, .bool true] 46))) := boxed_below (Below.refl (w9.heap.size + 1) (w9.alloc (.cells #[.int .i64 M.T, .slice za1 f.n zc1, .slice za2 f.k zc2, .slice za3 M.E.length zc3, .bool true] 46)))
            have NW : Hid (Below u8.heap.size u8 (w9.alloc (.cells #[.int .i64 M.T, .slice za1 f.n zc1, .slice za2 f.k zc2, .slice za3 M.E.length zc3, .bool true] 46))) := b.trans (BB.out.mono b.size)
            have Lz := hid (Lz.out.below (B2 := 0) BB.out)
            have Lx := hid (Lx.out.below (B2 := 0) NW.out)
            have Ly := hid (Ly.out.below (B2 := 0) NW.out)
            have g0 := (NW.out.cell (p := ⟨g, 0, none⟩) zg2).trans g0
            have g1 := (NW.out.cell (p := ⟨g, 1, none⟩) zg2).trans g1
            have g2 := (NW.out.cell (p := ⟨g, 2, none⟩) zg2).trans g2
            have g3 := (NW.out.cell (p := ⟨g, 3, none⟩) zg2).trans g3
            have cx0 := (NW.out.cell (p := ⟨gx, 0, none⟩) zx).trans cx0
            have cx1 := (NW.out.cell (p := ⟨gx, 1, none⟩) zx).trans cx1
            have cx2 := (NW.out.cell (p := ⟨gx, 2, none⟩) zx).trans cx2
            have cx3 := (NW.out.cell (p := ⟨gx, 3, none⟩) zx).trans cx3
            have cx4 := (NW.out.cell (p := ⟨gx, 4, none⟩) zx).trans cx4
            have cy0 := (NW.out.cell (p := ⟨gy, 0, none⟩) zy).trans cy0
            have cy1 := (NW.out.cell (p := ⟨gy, 1, none⟩) zy).trans cy1
            have cy2 := (NW.out.cell (p := ⟨gy, 2, none⟩) zy).trans cy2
            have cy3 := (NW.out.cell (p := ⟨gy, 3, none⟩) zy).trans cy3
            have cy4 := (NW.out.cell (p := ⟨gy, 4, none⟩) zy).trans cy4
            have cz0 : (w9.alloc (.cells #[.int .i64 M.T, .slice za1 f.n zc1, .slice za2 f.k zc2, .slice za3 M.E.length zc3, .bool true] 46)).cell? ⟨w9.heap.size, 0, none⟩ = some (.int .i64 M.T) := boxed (Below.refl (w9.heap.size + 1) (w9.alloc (.cells #[.int .i64 M.T, .slice za1 f.n zc1, .slice za2 f.k zc2, .slice za3 M.E.length zc3, .bool true] 46))) 0
            have cz1 : (w9.alloc (.cells #[.int .i64 M.T, .slice za1 f.n zc1, .slice za2 f.k zc2, .slice za3 M.E.length zc3, .bool true] 46)).cell? ⟨w9.heap.size, 1, none⟩ = some (.slice za1 f.n zc1) := boxed (Below.refl (w9.heap.size + 1) (w9.alloc (.cells #[.int .i64 M.T, .slice za1 f.n zc1, .slice za2 f.k zc2, .slice za3 M.E.length zc3, .bool true] 46))) 1
            have cz2 : (w9.alloc (.cells #[.int .i64 M.T, .slice za1 f.n zc1, .slice za2 f.k zc2, .slice za3 M.E.length zc3, .bool true] 46)).cell? ⟨w9.heap.size, 2, none⟩ = some (.slice za2 f.k zc2) := boxed (Below.refl (w9.heap.size + 1) (w9.alloc (.cells #[.int .i64 M.T, .slice za1 f.n zc1, .slice za2 f.k zc2, .slice za3 M.E.length zc3, .bool true] 46))) 2
            have cz3 : (w9.alloc (.cells #[.int .i64 M.T, .slice za1 f.n zc1, .slice za2 f.k zc2, .slice za3 M.E.length zc3, .bool true] 46)).cell? ⟨w9.heap.size, 3, none⟩ = some (.slice za3 M.E.length zc3) := boxed (Below.refl (w9.heap.size + 1) (w9.alloc (.cells #[.int .i64 M.T, .slice za1 f.n zc1, .slice za2 f.k zc2, .slice za3 M.E.length zc3, .bool true] 46))) 3
            have cz4 : (w9.alloc (.cells #[.int .i64 M.T, .slice za1 f.n zc1, .slice za2 f.k zc2, .slice za3 M.E.length zc3, .bool true] 46)).cell? ⟨w9.heap.size, 4, none⟩ = some (.bool true) := boxed (Below.refl (w9.heap.size + 1) (w9.alloc (.cells #[.int .i64 M.T, .slice za1 f.n zc1, .slice za2 f.k zc2, .slice za3 M.E.length zc3, .bool true] 46))) 4
            have zg2 : g < (w9.alloc (.cells #[.int .i64 M.T, .slice za1 f.n zc1, .slice za2 f.k zc2, .slice za3 M.E.length zc3, .bool true] 46)).heap.size := by have := NW.out.size; omega
            have zx : gx < (w9.alloc (.cells #[.int .i64 M.T, .slice za1 f.n zc1, .slice za2 f.k zc2, .slice za3 M.E.length zc3, .bool true] 46)).heap.size := by have := NW.out.size; omega
            have zy : gy < (w9.alloc (.cells #[.int .i64 M.T, .slice za1 f.n zc1, .slice za2 f.k zc2, .slice za3 M.E.length zc3, .bool true] 46)).heap.size := by have := NW.out.size; omega
            have zz : w9.heap.size < (w9.alloc (.cells #[.int .i64 M.T, .slice za1 f.n zc1, .slice za2 f.k zc2, .slice za3 M.E.length zc3, .bool true] 46)).heap.size := by simp
            have B6 := hid (B6.out.trans (NW.out.mono B6.out.size))
            clear r1 r2 r3 l b BB NW
            go_upto_region 30 with (fail)
            generalize w9.alloc (.cells #[.int .i64 M.T, .slice za1 f.n zc1, .slice za2 f.k zc2, .slice za3 M.E.length zc3, .bool true] 46) = u9 at *
            generalize w9.heap.size = gz at *
            have AX := hid (kalike_any Lx.out Ly.out rfl rfl rfl (fun _ _ => rfl) (fun _ _ => rfl) rfl n20 k6 LEN.out)
            have AY := hid (fun W (hW : Below u9.heap.size u9 W) => kalike_any (Lx.out.below (B2 := 0) hW) (Lz.out.below (B2 := 0) hW) rfl rfl rfl (fun _ _ => rfl) (fun _ _ => rfl) rfl n20 k6 LEN.out)
            go_wp2_with fail
            refine AX.out.mono ?_
            rintro e y1 ⟨rfl, h1⟩
            have Y1 := hid h1
            have cx0 := (h1.cell (p := ⟨gx, 0, none⟩) zx).trans cx0
            have cx1 := (h1.cell (p := ⟨gx, 1, none⟩) zx).trans cx1
            have cx2 := (h1.cell (p := ⟨gx, 2, none⟩) zx).trans cx2
            have cx3 := (h1.cell (p := ⟨gx, 3, none⟩) zx).trans cx3
            have cx4 := (h1.cell (p := ⟨gx, 4, none⟩) zx).trans cx4
            have cz0 := (h1.cell (p := ⟨gz, 0, none⟩) zz).trans cz0
            have cz1 := (h1.cell (p := ⟨gz, 1, none⟩) zz).trans cz1
            have cz2 := (h1.cell (p := ⟨gz, 2, none⟩) zz).trans cz2
            have cz3 := (h1.cell (p := ⟨gz, 3, none⟩) zz).trans cz3
            have cz4 := (h1.cell (p := ⟨gz, 4, none⟩) zz).trans cz4
            clear h1 AX
            go_wp2_with fail
            refine (AY.out _ Y1.out).mono ?_
            rintro e y2 ⟨rfl, h2⟩
            have Y2 := hid (Y1.out.trans (h2.mono Y1.out.size))
            have cx0 := (h2.cell (p := ⟨gx, 0, none⟩) (by show gx < _; have := Y1.out.size; omega)).trans cx0
            have R : Hid (TPost w (.returned (.bool true)) y2) := ⟨rfl, ST.out.trans ((B6.out.trans (Y2.out.mono B6.out.size)).mono ST.out.size)⟩
            rw [MT.out] at cx0
            clear h2 AY
            go_wp2
            go_ret
            exact R.out)

end Go.Proofs.YtnkolbngeibhpaaDoor
