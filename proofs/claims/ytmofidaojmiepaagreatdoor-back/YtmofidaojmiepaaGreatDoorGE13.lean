/-
  CASES, AND BLOCKS THAT STAND: what a law sees.
-/
import Derived.Test.YtmofidaojmiepaaGreatDoorGE11
import Derived.Test.YtmofidaojmiepaaGreatDoorGE6
set_option linter.unusedVariables false
set_option linter.unusedSimpArgs false
namespace Go.Proofs.YtmofidaojmiepaaGreatDoor

open Go.RowKit

attribute [local go_sem ↓] Go.wp_at_zero Go.wp_at_succ

/-- The blocks of Z stand. -/
structure StZ (Z : Nat → Prop) (w w' : World) : Prop where
  os : w'.os = w.os
  tape : w'.tape = w.tape
  output : w'.output = w.output
  size : w.heap.size ≤ w'.heap.size
  block : ∀ j, Z j → w'.heap[j]? = w.heap[j]?

theorem StZ.refl (Z : Nat → Prop) (w : World) : StZ Z w w := ⟨rfl, rfl, rfl, Nat.le_refl _, fun _ _ => rfl⟩

theorem StZ.trans {Z : Nat → Prop} {a b c : World} (h : StZ Z a b) (g : StZ Z b c) : StZ Z a c := ⟨g.os.trans h.os, g.tape.trans h.tape, g.output.trans h.output, Nat.le_trans h.size g.size, fun j hj => (g.block j hj).trans (h.block j hj)⟩

theorem StZ.less {Z Z' : Nat → Prop} {a b : World} (h : StZ Z a b) (hz : ∀ j, Z' j → Z j) : StZ Z' a b := ⟨h.os, h.tape, h.output, h.size, fun j hj => h.block j (hz j hj)⟩

theorem StZ.cell {Z : Nat → Prop} {w w' : World} (h : StZ Z w w') {g : Nat} (x : Nat) (hg : Z g) : w'.cell? ⟨g, x, none⟩ = w.cell? ⟨g, x, none⟩ := World.cell?_of_block (h.block g hg)

theorem StZ.below {Z : Nat → Prop} {w0 w w' : World} (h : StZ Z w w') (hb : Below w0.heap.size w0 w) (hz : ∀ j, j < w0.heap.size → Z j) : Below w0.heap.size w0 w' :=
  ⟨h.os.trans hb.os, h.tape.trans hb.tape, h.output.trans hb.output, Nat.le_trans hb.size h.size, fun j hj => (h.block j (hz j hj)).trans (hb.block j hj)⟩

theorem StZ.of {Z : Nat → Prop} {w w' : World} (hb : Below w.heap.size w w') (hz : ∀ j, Z j → j < w.heap.size) : StZ Z w w' := ⟨hb.os, hb.tape, hb.output, hb.size, fun j hj => hb.block j (hz j hj)⟩

/-- Cases, and blocks that are nobody's. -/
def LS (Z : Nat → Prop) (b np : Nat) (P : Nat → KP) (w : World) : Prop := ∃ tag, CSt b np P tag w ∧ ∀ j, Z j → j < w.heap.size ∧ tag j = 0

def LsC (r : Value) (Z : Nat → Prop) (b' np : Nat) (P : Nat → KP) (i : Nat) (m' : Cs) (w : World) (e : Ending) (w' : World) : Prop :=
  e = .returned r ∧ ∃ v', LS Z b' np (upd P i ⟨(P i).Q, (P i).p, v', (P i).f, m'⟩) w' ∧ StZ Z w w'

def LsA (Z : Nat → Prop) (b' np : Nat) (P : Nat → KP) (f : Frm) (m : Cs) (w : World) (e : Ending) (w' : World) : Prop :=
  ∃ Q p v, e = .returned (.pointer (some ⟨p.bp, 0, none⟩)) ∧ LS Z b' (np + 1) (upd P np ⟨Q, p, v, f, m⟩) w' ∧ StZ Z w w'

/-- More blocks that stand: what was made. -/
def zup (Z : Nat → Prop) (w w' : World) : Nat → Prop := fun j => Z j ∨ (w.heap.size ≤ j ∧ j < w'.heap.size)

section

variable {Z : Nat → Prop} {b np : Nat} {P : Nat → KP} {tag : Nat → Nat} {w w' : World}

theorem LsC.of {r : Value} {b' i : Nat} {m' : Cs} {e : Ending} (hz : ∀ j, Z j → j < w.heap.size ∧ tag j = 0) (g : CsP r b' np P i m' tag w e w') : LsC r Z b' np P i m' w e w' := by
  obtain ⟨g0, v', tag', g1, g2⟩ := g
  exact ⟨g0, v', ⟨tag', g1, fun j hj => ⟨by have := (hz j hj).1; have := g2.size; omega, by rw [g2.tags j (hz j hj).1]; exact (hz j hj).2⟩⟩, g2.os, g2.tape, g2.output, g2.size, fun j hj => g2.block j (hz j hj).1 (hz j hj).2⟩

theorem LsA.of {b' : Nat} {f : Frm} {m : Cs} {e : Ending} (hz : ∀ j, Z j → j < w.heap.size ∧ tag j = 0) (g : AddP b' np P f m tag w e w') : LsA Z b' np P f m w e w' := by
  obtain ⟨Q, p, v, tag', g0, g1, g2⟩ := g
  exact ⟨Q, p, v, g0, ⟨tag', g1, fun j hj => ⟨by have := (hz j hj).1; have := g2.size; omega, by rw [g2.tags j (hz j hj).1]; exact (hz j hj).2⟩⟩, g2.os, g2.tape, g2.output, g2.size, fun j hj => g2.block j (hz j hj).1 (hz j hj).2⟩

theorem LS.start (ht : Tab w) (P : Nat → KP) (b : Nat) : LS (fun j => j < w.heap.size) b 0 P w := ⟨fun _ => 0, CSt.start ht P, fun _ hj => ⟨hj, rfl⟩⟩

theorem LS.lt (h : LS Z b np P w) : ∀ j, Z j → j < w.heap.size := fun j hj => by obtain ⟨_, _, hz⟩ := h; exact (hz j hj).1

theorem LS.drop (h : LS Z b np P w) (hb : Below w.heap.size w w') : LS (zup Z w w') b np P w' := by
  obtain ⟨tag, h1, h2⟩ := h
  refine ⟨_, h1.drop hb, fun j hj => ?_⟩
  rcases hj with hj | ⟨h3, h4⟩
  · obtain ⟨a, c⟩ := h2 j hj
    exact ⟨by have := hb.size; omega, by rw [ntag_old a]; exact c⟩
  · exact ⟨h4, ntag_new h3⟩

theorem LS.less (h : LS Z b np P w) {Z' : Nat → Prop} (hz : ∀ j, Z' j → Z j) : LS Z' b np P w := by
  obtain ⟨tag, h1, h2⟩ := h
  exact ⟨tag, h1, fun j hj => h2 j (hz j hj)⟩

theorem LS.keep (h : LS Z b np P w) (hb : Below w.heap.size w w') : LS Z b np P w' := (h.drop hb).less (fun _ h => Or.inl h)

theorem LS.up (h : LS Z b np P w) {b2 : Nat} (hb : b ≤ b2) : LS Z b2 np P w := by
  obtain ⟨tag, h1, h2⟩ := h
  exact ⟨tag, h1.up hb, h2⟩

theorem LS.congr (h : LS Z b np P w) {P' : Nat → KP} (he : ∀ i, i < np → P i = P' i) : LS Z b np P' w := by
  obtain ⟨tag, h1, h2⟩ := h
  exact ⟨tag, ⟨fun i hi => by rw [← he i hi]; exact h1.kst i hi, fun i hi => by rw [← he i hi]; exact h1.kown i hi, fun i hi => by rw [← he i hi]; exact h1.kq i hi, fun i hi => by rw [← he i hi]; exact h1.kok i hi, fun i hi => by rw [← he i hi]; exact h1.fok i hi, h1.tab, h1.t0⟩, h2⟩

theorem LS.fok (h : LS Z b np P w) {i : Nat} (hi : i < np) : (P i).f.Ok := by obtain ⟨_, h, _⟩ := h; exact h.fok i hi

theorem LS.mok (h : LS Z b np P w) {i : Nat} (hi : i < np) : (P i).c.Ok (P i).f := by obtain ⟨_, h, _⟩ := h; exact (h.kok i hi).1

theorem LS.len (h : LS Z b np P w) {i : Nat} (hi : i < np) (hb : b ≤ 10000000000) : (P i).c.E.length ≤ 999999999000 := by obtain ⟨_, h, _⟩ := h; exact h.len hi hb

theorem lopened (h : LS Z b np P w) (hb : 1 ≤ b) {f : Frm} (hf : f.Ok) {fv : Value} (hfv : FAt w f fv) : Calls Tryz.prog 24 #[fv] w fun e w' => LsA Z b np P f (beginM f) w e w' := by
  obtain ⟨tag, h1, h2⟩ := h
  exact (copened h1 hb hf hfv).mono (fun _ _ g => LsA.of h2 g)

theorem lset (h : LS Z b np P w) {i : Nat} (hi : i < np) (hb : b ≤ 10000000000) (c v : Int) : Calls Tryz.prog 26 #[.pointer (some ⟨(P i).p.bp, 0, none⟩), .int .i64 c, .int .i64 v] w fun e w' => LsC (.int .i64 (setNo (P i).f (P i).c c v)) Z (b + 1) np P i (setM (P i).f (P i).c c v) w e w' := by
  obtain ⟨tag, h1, h2⟩ := h
  exact (cset h1 hi hb c v).mono (fun _ _ g => LsC.of h2 g)

theorem ladv (h : LS Z b np P w) {i : Nat} (hi : i < np) (hb : b ≤ 10000000000) (to : Int) : Calls Tryz.prog 27 #[.pointer (some ⟨(P i).p.bp, 0, none⟩), .int .i64 to] w fun e w' => LsC (.int .i64 (advAns (P i).c.T to)) Z b np P i (advM (P i).f (P i).c to) w e w' := by
  obtain ⟨tag, h1, h2⟩ := h
  exact (cadv h1 hi hb to).mono (fun _ _ g => LsC.of h2 g)

theorem llook (h : LS Z b np P w) {i : Nat} (hi : i < np) (hb : b ≤ 10000000000) {fv : Value} (hfv : FAt w (P i).f fv) : Calls Tryz.prog 12 #[.pointer (some ⟨(P i).p.bp, 0, none⟩), fv] w fun e w' => LoP (P i).f (P i).c w e w' := by
  obtain ⟨tag, h1, h2⟩ := h
  exact clook h1 hi hb hfv

theorem lnow (h : LS Z b np P w) {i : Nat} (hi : i < np) : Calls Tryz.prog 28 #[.pointer (some ⟨(P i).p.bp, 0, none⟩)] w fun e w' => e = .returned (.int .i64 (P i).c.T) ∧ w' = w := by
  obtain ⟨tag, h1, h2⟩ := h
  exact now_any (h1.kst i hi)

theorem lbegun (h : LS Z b np P w) {w0 : World} (hw0 : Below w0.heap.size w0 w) (hz : ∀ j, j < w0.heap.size → Z j) {f : Frm} (hf : f.Ok) {fv : Value} (hfv : FAt w0 f fv) {aS : Option Addr} {m cS : Nat} {S : Nat → StK} (hsc : ScK w0 aS m S) (hm : m ≤ 1048576) (hb1 : 1 ≤ b) (hbb : b ≤ 8000000000) (at' : Int) (ha0 : 0 ≤ at') (ha1 : at' ≤ 1000000000) :
    Calls Tryz.prog 10 #[fv, .slice aS m cS, .int .i64 at'] w fun e w' => LsA Z (b + m) np P f (advM f (fillM f S m) at') w e w' := by
  obtain ⟨tag, h1, h2⟩ := h
  exact (kbegun_any h1 hw0 (fun j hj => (h2 j (hz j hj)).2) hf hfv hsc hm hb1 hbb at' ha0 ha1).mono (fun _ _ g => LsA.of h2 g)

end

theorem own_from {w : World} {base : Nat} {e : TypeId} {size : Nat} {v : Value} {n : Nat} {xs : List Value} (h : w.ownsRow base e size v n xs) {g : Nat} (hg : v.ownBlock = some g) : base ≤ g := by
  rcases h.2 with ⟨rfl, _⟩ | ⟨g', cap, cur, rfl, a1, _⟩
  · cases hg
  · cases hg
    exact a1

theorem LookAt.stays {Z : Nat → Prop} {B : Nat} {f : Frm} {m : Cs} {v : Value} {w w' : World} (h : LookAt B f m v w) (hz : ∀ j, B ≤ j → j < w.heap.size → Z j) (hs : StZ Z w w') : LookAt B f m v w' := by
  obtain ⟨vV, vS, vL, rfl, h1, h2, h3⟩ := h.ex
  exact ⟨vV, vS, vL, rfl, own_of_block h1 (fun g hg hlt => hs.block g (hz g (own_from h1 hg) hlt)), own_of_block h2 (fun g hg hlt => hs.block g (hz g (own_from h2 hg) hlt)), own_of_block h3 (fun g hg hlt => hs.block g (hz g (own_from h3 hg) hlt))⟩

/-- Up to four cases, by name. -/
def p4 (A B C D : KP) : Nat → KP
  | 0 => A
  | 1 => B
  | 2 => C
  | _ => D

/-- The clock goes on by two steps as by one. -/
theorem adv_adv (f : Frm) (m : Cs) {t1 t2 : Int} (h0 : m.T ≤ t1) (h1 : t1 ≤ t2) (h2 : t2 ≤ 1000000000) : advM f (advM f m t1) t2 = advM f m t2 := by
  have eT : (m.go f (t1 - m.T).toNat).T = t1 := by rw [go_T]; omega
  have e1 : advM f m t1 = m.go f (t1 - m.T).toNat := by unfold advM; rw [if_neg (by omega)]
  have e2 : advM f m t2 = m.go f (t2 - m.T).toNat := by unfold advM; rw [if_neg (by omega)]
  rw [e1, e2]
  unfold advM
  rw [eT, if_neg (by omega), ← go_add]
  congr 1
  omega

theorem advM_T (f : Frm) (m : Cs) {t : Int} (h0 : m.T ≤ t) (h1 : t ≤ 1000000000) : (advM f m t).T = t := by
  unfold advM
  rw [if_neg (by omega), go_T]
  omega

end Go.Proofs.YtmofidaojmiepaaGreatDoor

/-
  SEVERAL CASES: their calls, the rooms of their logs left unsaid.
-/
set_option linter.unusedVariables false
set_option linter.unusedSimpArgs false
namespace Go.Proofs.YtmofidaojmiepaaGreatDoor

open Go.RowKit

attribute [local go_sem ↓] Go.wp_at_zero Go.wp_at_succ

/-- Four things by name. -/
def q4 {α : Type} (A B C D : α) : Nat → α
  | 0 => A
  | 1 => B
  | 2 => C
  | _ => D

section

variable {α : Type} (A B C D X : α)

theorem q4_0 : upd (q4 A B C D) 0 X = q4 X B C D := by
  funext i
  match i with
  | 0 => exact upd_same _ _ _
  | 1 => exact upd_other _ _ (by omega)
  | 2 => exact upd_other _ _ (by omega)
  | n + 3 => exact upd_other _ _ (by omega)

theorem q4_1 : upd (q4 A B C D) 1 X = q4 A X C D := by
  funext i
  match i with
  | 0 => exact upd_other _ _ (by omega)
  | 1 => exact upd_same _ _ _
  | 2 => exact upd_other _ _ (by omega)
  | n + 3 => exact upd_other _ _ (by omega)

theorem q4_2 : upd (q4 A B C D) 2 X = q4 A B X D := by
  funext i
  match i with
  | 0 => exact upd_other _ _ (by omega)
  | 1 => exact upd_other _ _ (by omega)
  | 2 => exact upd_same _ _ _
  | n + 3 => exact upd_other _ _ (by omega)

theorem q4_3 (i : Nat) (hi : i < 4) : upd (q4 A B C D) 3 X i = q4 A B C X i := by
  have : i = 0 ∨ i = 1 ∨ i = 2 ∨ i = 3 := by omega
  rcases this with rfl | rfl | rfl | rfl
  · exact upd_other _ _ (by omega)
  · exact upd_other _ _ (by omega)
  · exact upd_other _ _ (by omega)
  · exact upd_same _ _ _

end

/-- Of a case: what it stands on, its places, its form. -/
structure KS where
  Q : Nat → Prop
  p : KPl
  f : Frm

/-- Cases, and blocks that are nobody's. -/
def CN (Z : Nat → Prop) (b np : Nat) (K : Nat → KS) (M : Nat → Cs) (w : World) : Prop := ∃ V : Nat → Value, LS Z b np (fun i => ⟨(K i).Q, (K i).p, V i, (K i).f, M i⟩) w

def CNP (r : Value) (Z : Nat → Prop) (b np : Nat) (K : Nat → KS) (M : Nat → Cs) (w : World) (e : Ending) (w' : World) : Prop := e = .returned r ∧ CN Z b np K M w' ∧ StZ Z w w'

def CNA (Z : Nat → Prop) (b np : Nat) (K : Nat → KS) (M : Nat → Cs) (f : Frm) (m : Cs) (w : World) (e : Ending) (w' : World) : Prop := ∃ Q p, e = .returned (.pointer (some ⟨p.bp, 0, none⟩)) ∧ CN Z b (np + 1) (upd K np ⟨Q, p, f⟩) (upd M np m) w' ∧ StZ Z w w'

section

variable {Z : Nat → Prop} {b np : Nat} {K : Nat → KS} {M : Nat → Cs} {w w' : World}

theorem CNP.of {r : Value} {b' i : Nat} {m' : Cs} {V : Nat → Value} {e : Ending} (g : LsC r Z b' np (fun i => ⟨(K i).Q, (K i).p, V i, (K i).f, M i⟩) i m' w e w') : CNP r Z b' np K (upd M i m') w e w' := by
  obtain ⟨g0, v', g1, g2⟩ := g
  refine ⟨g0, ⟨upd V i v', g1.congr (fun j hj => ?_)⟩, g2⟩
  by_cases e : j = i
  · subst e
    rw [upd_same, upd_same, upd_same]
  · rw [upd_other _ _ e, upd_other _ _ e, upd_other _ _ e]

theorem CNA.of {b' : Nat} {f : Frm} {m' : Cs} {V : Nat → Value} {e : Ending} (g : LsA Z b' np (fun i => ⟨(K i).Q, (K i).p, V i, (K i).f, M i⟩) f m' w e w') : CNA Z b' np K M f m' w e w' := by
  obtain ⟨Q, p, v, g0, g1, g2⟩ := g
  refine ⟨Q, p, g0, ⟨upd V np v, g1.congr (fun j hj => ?_)⟩, g2⟩
  by_cases e : j = np
  · subst e
    rw [upd_same, upd_same, upd_same, upd_same]
  · rw [upd_other _ _ e, upd_other _ _ e, upd_other _ _ e, upd_other _ _ e]

theorem CN.congr (h : CN Z b np K M w) {K' : Nat → KS} {M' : Nat → Cs} (hK : ∀ i, i < np → K i = K' i) (hM : ∀ i, i < np → M i = M' i) : CN Z b np K' M' w := by
  obtain ⟨V, h⟩ := h
  exact ⟨V, h.congr (fun i hi => by rw [hK i hi, hM i hi])⟩

theorem CN.start (ht : Tab w) (K : Nat → KS) (M : Nat → Cs) (b : Nat) : CN (fun j => j < w.heap.size) b 0 K M w := ⟨fun _ => .bool false, LS.start ht _ b⟩

theorem CN.lt (h : CN Z b np K M w) : ∀ j, Z j → j < w.heap.size := by obtain ⟨v, h⟩ := h; exact h.lt

theorem CN.drop (h : CN Z b np K M w) (hb : Below w.heap.size w w') : CN (zup Z w w') b np K M w' := by obtain ⟨v, h⟩ := h; exact ⟨v, h.drop hb⟩

theorem CN.less (h : CN Z b np K M w) {Z' : Nat → Prop} (hz : ∀ j, Z' j → Z j) : CN Z' b np K M w := by obtain ⟨v, h⟩ := h; exact ⟨v, h.less hz⟩

theorem CN.keep (h : CN Z b np K M w) (hb : Below w.heap.size w w') : CN Z b np K M w' := by obtain ⟨v, h⟩ := h; exact ⟨v, h.keep hb⟩

theorem CN.up (h : CN Z b np K M w) {b2 : Nat} (hb : b ≤ b2) : CN Z b2 np K M w := by obtain ⟨v, h⟩ := h; exact ⟨v, h.up hb⟩

theorem CN.fok (h : CN Z b np K M w) {i : Nat} (hi : i < np) : (K i).f.Ok := by obtain ⟨v, h⟩ := h; exact h.fok hi

theorem CN.mok (h : CN Z b np K M w) {i : Nat} (hi : i < np) : (M i).Ok (K i).f := by obtain ⟨v, h⟩ := h; exact h.mok hi

theorem CN.len (h : CN Z b np K M w) {i : Nat} (hi : i < np) (hb : b ≤ 10000000000) : (M i).E.length ≤ 999999999000 := by obtain ⟨v, h⟩ := h; exact h.len hi hb


theorem cnopened (h : CN Z b np K M w) (hb : 1 ≤ b) {f : Frm} (hf : f.Ok) {fv : Value} (hfv : FAt w f fv) : Calls Tryz.prog 24 #[fv] w fun e w' => CNA Z b np K M f (beginM f) w e w' := by
  obtain ⟨v, h⟩ := h
  exact (lopened h hb hf hfv).mono (fun _ _ g => CNA.of g)

theorem cnbegun (h : CN Z b np K M w) {w0 : World} (hw0 : Below w0.heap.size w0 w) (hz : ∀ j, j < w0.heap.size → Z j) {f : Frm} (hf : f.Ok) {fv : Value} (hfv : FAt w0 f fv) {aS : Option Addr} {m cS : Nat} {S : Nat → StK} (hsc : ScK w0 aS m S) (hm : m ≤ 1048576) (hb1 : 1 ≤ b) (hbb : b ≤ 8000000000) (at' : Int) (ha0 : 0 ≤ at') (ha1 : at' ≤ 1000000000) :
    Calls Tryz.prog 10 #[fv, .slice aS m cS, .int .i64 at'] w fun e w' => CNA Z (b + m) np K M f (advM f (fillM f S m) at') w e w' := by
  obtain ⟨v, h⟩ := h
  exact (lbegun h hw0 hz hf hfv hsc hm hb1 hbb at' ha0 ha1).mono (fun _ _ g => CNA.of g)

theorem cnset (h : CN Z b np K M w) {i : Nat} (hi : i < np) (hb : b ≤ 10000000000) (c v : Int) : Calls Tryz.prog 26 #[.pointer (some ⟨(K i).p.bp, 0, none⟩), .int .i64 c, .int .i64 v] w fun e w' => CNP (.int .i64 (setNo (K i).f (M i) c v)) Z (b + 1) np K (upd M i (setM (K i).f (M i) c v)) w e w' := by
  obtain ⟨v', h⟩ := h
  exact (lset h hi hb c v).mono (fun _ _ g => CNP.of g)

theorem cnadv (h : CN Z b np K M w) {i : Nat} (hi : i < np) (hb : b ≤ 10000000000) (to : Int) : Calls Tryz.prog 27 #[.pointer (some ⟨(K i).p.bp, 0, none⟩), .int .i64 to] w fun e w' => CNP (.int .i64 (advAns (M i).T to)) Z b np K (upd M i (advM (K i).f (M i) to)) w e w' := by
  obtain ⟨v', h⟩ := h
  exact (ladv h hi hb to).mono (fun _ _ g => CNP.of g)

theorem cnlook (h : CN Z b np K M w) {i : Nat} (hi : i < np) (hb : b ≤ 10000000000) {fv : Value} (hfv : FAt w (K i).f fv) : Calls Tryz.prog 12 #[.pointer (some ⟨(K i).p.bp, 0, none⟩), fv] w fun e w' => LoP (K i).f (M i) w e w' := by
  obtain ⟨v, h⟩ := h
  exact llook h hi hb hfv

/-- A store into a block that is nobody's, and that no case stands on. -/
theorem CN.store (h : CN Z b np K M w) {g : Nat} (hg : Z g) (hq : ∀ i, i < np → ¬ (K i).Q g) (hg0 : g ≠ 0) (hs : w.heap.size ≤ w'.heap.size) (hb : ∀ j, j < w.heap.size → j ≠ g → w'.heap[j]? = w.heap[j]?) : CN Z b np K M w' := by
  obtain ⟨V, tag, h1, h2⟩ := h
  refine ⟨V, ntag tag w.heap.size 0, ⟨fun i hi => ?_, fun i hi j hj => ?_, fun i hi j hj => ?_, h1.kok, h1.fok, ⟨by have := h1.tab.1; omega, fun q hq' => ?_⟩, ?_⟩, fun j hj => ?_⟩
  · refine KSt.move (h1.kst i hi) hs (fun j hj => ?_)
    rcases hj with hj | hj
    · exact hb j (KSt.qlt (h1.kst i hi) j hj) (fun e => hq i hi (e ▸ hj))
    · refine hb j (KSt.own_lt (h1.kst i hi) j hj) (fun e => ?_)
      have t1 := h1.kown i hi j hj
      rw [e, (h2 g hg).2] at t1
      omega
  · rw [ntag_old (KSt.own_lt (h1.kst i hi) j hj)]; exact h1.kown i hi j hj
  · rw [ntag_old (KSt.qlt (h1.kst i hi) j hj)]; exact h1.kq i hi j hj
  · have := h1.tab.2 q hq'
    have e : w'.heap[0]? = w.heap[0]? := hb 0 h1.tab.1 (fun e => hg0 e.symm)
    unfold World.cell? at this ⊢
    rw [e]
    exact this
  · rw [ntag_old h1.tab.1]; exact h1.t0
  · obtain ⟨a, c⟩ := h2 j hj
    exact ⟨by omega, by rw [ntag_old a]; exact c⟩

end

end Go.Proofs.YtmofidaojmiepaaGreatDoor

/-
  THE WALKS: docketkeep.Split.
-/
set_option linter.unusedVariables false
set_option linter.unusedSimpArgs false
namespace Go.Proofs.YtmofidaojmiepaaGreatDoor

open Go.RowKit

attribute [local go_sem ↓] Go.wp_at_zero Go.wp_at_succ

def kpl0 : KPl := ⟨0, 0, 0, none, 0, none, 0, 0, 0⟩

theorem p4_one (A B C D X : KP) : upd (p4 A B C D) 1 X = p4 A X C D := by
  funext i
  match i with
  | 0 => exact upd_other _ _ (by omega)
  | 1 => exact upd_same _ _ _
  | 2 => exact upd_other _ _ (by omega)
  | n + 3 => exact upd_other _ _ (by omega)

theorem p4_two (A B C D X : KP) : upd (p4 A B C D) 2 X = p4 A B X D := by
  funext i
  match i with
  | 0 => exact upd_other _ _ (by omega)
  | 1 => exact upd_other _ _ (by omega)
  | 2 => exact upd_same _ _ _
  | n + 3 => exact upd_other _ _ (by omega)

/-- A case whose clock has come to tm goes on to tt. -/
theorem adv_at {Z : Nat → Prop} {b np : Nat} {P : Nat → KP} {w : World} (h : LS Z b np P w) {i : Nat} (hi : i < np) (hb : b ≤ 10000000000) {f : Frm} {F : Cs} {tm tt : Int} (hf : (P i).f = f) (hc : (P i).c = advM f F tm) (h0 : F.T ≤ tm) (h1 : tm ≤ tt) (h2 : tt ≤ 1000000000) :
    Calls Tryz.prog 27 #[.pointer (some ⟨(P i).p.bp, 0, none⟩), .int .i64 tt] w fun e w' => LsC (.int .i64 0) Z b np P i (advM f F tt) w e w' :=
  (ladv h hi hb tt).mono (fun e w' g => by
    have e1 : advM (P i).f (P i).c tt = advM f F tt := by rw [hf, hc]; exact adv_adv f F h0 h1 h2
    have e2 : advAns (P i).c.T tt = 0 := by
      rw [hc, advM_T f F h0 (by omega)]
      unfold advAns
      rw [if_neg (by omega)]
    rw [e1, e2] at g
    exact g)

end Go.Proofs.YtmofidaojmiepaaGreatDoor
