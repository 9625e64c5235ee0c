/-
  MEMORY: cases beside each other.
-/
import Derived.Test.YtnkolbngeibhpaaDoorE1
import Derived.Test.YtnkolbngeibhpaaDoorK9
set_option linter.unusedVariables false
set_option linter.unusedSimpArgs false
namespace Go.Proofs.YtnkolbngeibhpaaDoor
open Go.RowKit
attribute [local go_sem ↓] Go.wp_at_zero Go.wp_at_succ

/-- A case: what it stands on, its places, its log's room, its form, what it is. -/
structure KP where
  Q : Nat → Prop
  p : KPl
  v : Value
  f : Frm
  c : Cs

/-- Cases, and whose is each block: 0 nobody's, 1 + i case i's. -/
structure CSt (b np : Nat) (P : Nat → KP) (tag : Nat → Nat) (w : World) : Prop where
  kst : ∀ i, i < np → KAt (P i).Q (P i).f (P i).p (P i).c (P i).v w
  kown : ∀ i, i < np → ∀ j, KOwn (P i).p (P i).v j → tag j = 1 + i
  kq : ∀ i, i < np → ∀ j, (P i).Q j → tag j = 0
  kok : ∀ i, i < np → (P i).c.Ok (P i).f ∧ Few b (P i).c
  fok : ∀ i, i < np → (P i).f.Ok
  tab : Tab w
  t0 : tag 0 = 0

def ntag (tag : Nat → Nat) (B t : Nat) : Nat → Nat := fun j => if j < B then tag j else t
theorem ntag_old {tag : Nat → Nat} {B t j : Nat} (h : j < B) : ntag tag B t j = tag j := if_pos h
theorem ntag_new {tag : Nat → Nat} {B t j : Nat} (h : B ≤ j) : ntag tag B t j = t := if_neg (by omega)

/-- What the caller sees: blocks that are nobody's stand. -/
structure Kept (tag tag' : Nat → Nat) (w w' : World) : Prop where
  os : w'.os = w.os
  tape : w'.tape = w.tape
  output : w'.output = w.output
  size : w.heap.size ≤ w'.heap.size
  block : ∀ j, j < w.heap.size → tag j = 0 → w'.heap[j]? = w.heap[j]?
  tags : ∀ j, j < w.heap.size → tag' j = tag j

theorem Kept.of {tag : Nat → Nat} {w w' : World} (h : Below w.heap.size w w') : Kept tag tag w w' := ⟨h.os, h.tape, h.output, h.size, fun j hj _ => h.block j hj, fun _ _ => rfl⟩
theorem Kept.fresh {tag : Nat → Nat} {w w' : World} (hb : Below w.heap.size w w') : Kept tag (ntag tag w.heap.size 0) w w' := ⟨hb.os, hb.tape, hb.output, hb.size, fun j hj _ => hb.block j hj, fun j hj => ntag_old hj⟩
theorem Kept.trans {t1 t2 t3 : Nat → Nat} {a b c : World} (h : Kept t1 t2 a b) (g : Kept t2 t3 b c) : Kept t1 t3 a c :=
  ⟨g.os.trans h.os, g.tape.trans h.tape, g.output.trans h.output, Nat.le_trans h.size g.size, fun j hj h0 => (g.block j (by have := h.size; omega) (by rw [h.tags j hj]; exact h0)).trans (h.block j hj h0), fun j hj => (g.tags j (by have := h.size; omega)).trans (h.tags j hj)⟩
theorem Kept.below {B0 : Nat} {t t' : Nat → Nat} {a b : World} (h : Kept t t' a b) (ht : ∀ j, j < B0 → t j = 0) (hB : B0 ≤ a.heap.size) : Below B0 a b ∧ ∀ j, j < B0 → t' j = 0 :=
  ⟨⟨h.os, h.tape, h.output, h.size, fun j hj => h.block j (by omega) (ht j hj)⟩, fun j hj => by rw [h.tags j (by omega)]; exact ht j hj⟩

theorem few_up {b b' : Nat} {m : Cs} (h : Few b m) (hb : b ≤ b') : Few b' m := by unfold Few at h ⊢; omega
theorem few_len {f : Frm} {b : Nat} {m : Cs} (hm : m.Ok f) (h : Few b m) (hb : b ≤ 10000000000) : m.E.length ≤ 999999999000 := by
  have h2 := hm.t1
  unfold Few at h
  omega

section
variable {b np : Nat} {P : Nat → KP} {tag : Nat → Nat} {w : World}

theorem CSt.start (ht : Tab w) (P : Nat → KP) : CSt b 0 P (fun _ => 0) w := ⟨fun i hi => by omega, fun i hi => by omega, fun i hi => by omega, fun i hi => by omega, fun i hi => by omega, ht, rfl⟩

theorem CSt.up (h : CSt b np P tag w) {b2 : Nat} (hb : b ≤ b2) : CSt b2 np P tag w := ⟨h.kst, h.kown, h.kq, fun i hi => ⟨(h.kok i hi).1, few_up (h.kok i hi).2 hb⟩, h.fok, h.tab, h.t0⟩

/-- Nothing that was there has turned; what is made behind is nobody's. -/
theorem CSt.drop (h : CSt b np P tag w) {w' : World} (hb : Below w.heap.size w w') : CSt b np P (ntag tag w.heap.size 0) w' :=
  ⟨fun i hi => KSt.drop (h.kst i hi) hb, fun i hi j hj => by rw [ntag_old (KSt.own_lt (h.kst i hi) j hj)]; exact h.kown i hi j hj, fun i hi j hj => by rw [ntag_old (KSt.qlt (h.kst i hi) j hj)]; exact h.kq i hi j hj, h.kok, h.fok, h.tab.below hb (Nat.le_refl _), by rw [ntag_old h.tab.1]; exact h.t0⟩

/-- Case i has been called. -/
theorem CSt.kgo (h : CSt b np P tag w) {i : Nat} (hi : i < np) {w' : World} {v' : Value} {m' : Cs} {b' : Nat} (hs : KAt (P i).Q (P i).f (P i).p m' v' w') (hg : KGone (P i).p (P i).v v' w w') (hok : m'.Ok (P i).f) (hfew : Few b' m') (hb : b ≤ b') :
    CSt b' np (upd P i ⟨(P i).Q, (P i).p, v', (P i).f, m'⟩) (ntag tag w.heap.size (1 + i)) w' ∧ Kept tag (ntag tag w.heap.size (1 + i)) w w' := by
  have hsz := hg.1.size
  have st : ∀ j, j < w.heap.size → tag j ≠ 1 + i → w'.heap[j]? = w.heap[j]? := fun j hj ht => hg.1.block j hj (fun e => ht (h.kown i hi j e))
  refine ⟨⟨fun x hx => ?_, fun x hx j hj => ?_, fun x hx j hj => ?_, fun x hx => ?_, fun x hx => ?_, ⟨by have := h.tab.1; omega, fun q hq => ?_⟩, by rw [ntag_old h.tab.1]; exact h.t0⟩, hg.1.os, hg.1.tape, hg.1.output, hsz, fun j hj h0 => st j hj (by omega), fun j hj => ntag_old hj⟩
  · by_cases e : x = i
    · subst e; rw [upd_same]; exact hs
    · rw [upd_other _ _ e]
      refine KSt.move (h.kst x hx) hsz (fun j hj => ?_)
      rcases hj with hj | hj
      · exact st j (KSt.qlt (h.kst x hx) j hj) (by rw [h.kq x hx j hj]; omega)
      · exact st j (KSt.own_lt (h.kst x hx) j hj) (by rw [h.kown x hx j hj]; omega)
  · by_cases e : x = i
    · subst e
      rw [upd_same] at hj
      by_cases hl : j < w.heap.size
      · rw [ntag_old hl]; exact h.kown x hx j (KOwn.grew hg.2 j hl hj)
      · rw [ntag_new (by omega)]
    · rw [upd_other _ _ e] at hj
      rw [ntag_old (KSt.own_lt (h.kst x hx) j hj)]; exact h.kown x hx j hj
  · have hj' : (P x).Q j := by
      by_cases e : x = i
      · subst e; rw [upd_same] at hj; exact hj
      · rw [upd_other _ _ e] at hj; exact hj
    rw [ntag_old (KSt.qlt (h.kst x hx) j hj')]; exact h.kq x hx j hj'
  · by_cases e : x = i
    · subst e; rw [upd_same]; exact ⟨hok, hfew⟩
    · rw [upd_other _ _ e]; exact ⟨(h.kok x hx).1, few_up (h.kok x hx).2 hb⟩
  · by_cases e : x = i
    · subst e; rw [upd_same]; exact h.fok x hx
    · rw [upd_other _ _ e]; exact h.fok x hx
  · have := h.tab.2 q hq
    have e : w'.heap[0]? = w.heap[0]? := st 0 h.tab.1 (by rw [h.t0]; omega)
    unfold World.cell? at this ⊢
    rw [e]
    exact this

def atag (tag : Nat → Nat) (B np : Nat) (p : KPl) (v : Value) (j : Nat) : Nat := if j < B then tag j else @ite Nat (KOwn p v j) (KOwn.dec p v j) (1 + np) 0

/-- A case more. -/
theorem CSt.add (h : CSt b np P tag w) {w' : World} {Q : Nat → Prop} {p : KPl} {v : Value} {f : Frm} {m : Cs} {b' : Nat} (hb : Below w.heap.size w w') (hs : KAt Q f p m v w') (ho : ∀ j, KOwn p v j → w.heap.size ≤ j) (hq : ∀ j, Q j → (j < w.heap.size ∧ tag j = 0) ∨ w.heap.size ≤ j) (hok : m.Ok f) (hfew : Few b' m) (hbb : b ≤ b') (hf : f.Ok) :
    CSt b' (np + 1) (upd P np ⟨Q, p, v, f, m⟩) (atag tag w.heap.size np p v) w' ∧ Kept tag (atag tag w.heap.size np p v) w w' := by
  have old : ∀ j, j < w.heap.size → atag tag w.heap.size np p v j = tag j := fun j hj => by unfold atag; rw [if_pos hj]
  refine ⟨⟨fun x hx => ?_, fun x hx j hj => ?_, fun x hx j hj => ?_, fun x hx => ?_, fun x hx => ?_, h.tab.below hb (Nat.le_refl _), by rw [old 0 h.tab.1]; exact h.t0⟩, hb.os, hb.tape, hb.output, hb.size, fun j hj _ => hb.block j hj, old⟩
  · by_cases e : x = np
    · subst e; rw [upd_same]; exact hs
    · rw [upd_other _ _ e]; exact KSt.drop (h.kst x (by omega)) hb
  · by_cases e : x = np
    · subst e
      rw [upd_same] at hj
      have := ho j hj
      unfold atag
      rw [if_neg (by omega), if_pos hj]
    · rw [upd_other _ _ e] at hj
      rw [old j (KSt.own_lt (h.kst x (by omega)) j hj)]
      exact h.kown x (by omega) j hj
  · by_cases e : x = np
    · subst e
      rw [upd_same] at hj
      have hj' : Q j := hj
      rcases hq j hj' with ⟨h1, h2⟩ | h1
      · rw [old j h1]; exact h2
      · unfold atag
        rw [if_neg (by omega), if_neg (fun hk => ?_)]
        obtain ⟨a1, a2, a3, a4⟩ := KSt.dis hs j hj'
        rcases hk with h | h | h | h
        · exact a1 h
        · exact a2 h
        · exact a3 h
        · exact a4 h
    · rw [upd_other _ _ e] at hj
      rw [old j (KSt.qlt (h.kst x (by omega)) j hj)]
      exact h.kq x (by omega) j hj
  · by_cases e : x = np
    · subst e; rw [upd_same]; exact ⟨hok, hfew⟩
    · rw [upd_other _ _ e]; exact ⟨(h.kok x (by omega)).1, few_up (h.kok x (by omega)).2 hbb⟩
  · by_cases e : x = np
    · subst e; rw [upd_same]; exact hf
    · rw [upd_other _ _ e]; exact h.fok x (by omega)
end

/-- A form in memory. -/
def FAt (w : World) (f : Frm) (fv : Value) : Prop := ∃ aC cC aR cR aH cH, fv = .agg #[.slice aC f.n cC, .slice aR f.k cR, .int .i64 f.week, .slice aH f.hol.length cH] ∧ CAt w aC f.n f.C ∧ RAt w aR f.k f.R ∧ IntsAt w (.slice aH f.hol.length cH) f.hol

theorem FAt.below {w w' : World} {f : Frm} {fv : Value} (h : FAt w f fv) (hb : Below w.heap.size w w') : FAt w' f fv := by
  obtain ⟨aC, cC, aR, cR, aH, cH, rfl, h1, h2, h3⟩ := h
  exact ⟨aC, cC, aR, cR, aH, cH, rfl, h1.below hb, h2.below hb, SlAt.below h3 hb (Nat.le_refl _)⟩

theorem ok_rel {f : Frm} (hf : f.Ok) : ChkRel f.C f.n f.R f.k f.week f.hol 0 0 := by
  refine Or.inr (Or.inr ⟨hf.sizes, hf.hol.1, f.hol.length, ⟨Nat.le_refl _, rise_not (fun x hx => hf.hol.2.1 x hx) hf.hol.2.2, fun h => by omega⟩, Or.inr ⟨rfl, f.n, ⟨Nat.le_refl _, fun j hj h => h (hf.cells j hj), fun h => by omega⟩, Or.inr ⟨rfl, f.n, ⟨Nat.le_refl _, fun j hj h => hf.ring j hj h, fun h => by omega⟩, Or.inr ⟨rfl, f.k, ⟨Nat.le_refl _, fun j hj h => h (hf.rules j hj), fun h => by omega⟩, Or.inr ⟨rfl, rfl, rfl⟩⟩⟩⟩⟩)

/-- What opened answers. -/
def OpP (f : Frm) (w : World) (e : Ending) (w' : World) : Prop := ∃ Q p v, e = .returned (.pointer (some ⟨p.bp, 0, none⟩)) ∧ Below w.heap.size w w' ∧ KAt Q f p (beginM f) v w' ∧ (∀ j, KOwn p v j → w.heap.size ≤ j) ∧ ∀ j, Q j → j = 0 ∨ w.heap.size ≤ j

set_option maxRecDepth 100000 in
set_option maxHeartbeats 1000000 in
theorem kopened_any {f : Frm} (hf : f.Ok) {fv : Value} {w : World} (ht : Tab w) (h : FAt w f fv) : Calls Tryd.prog 13 #[fv] w fun e w' => OpP f w e w' := by
  obtain ⟨aC, cC, aR, cR, aH, cH, rfl, h1, h2, h3⟩ := h
  have BX := hid (Below.refl (w.heap.size + 1) (w.alloc (.cells #[.slice aC f.n cC, .slice aR f.k cR, .int .i64 f.week, .slice aH f.hol.length cH] 26)))
  have BW := hid (boxed_below BX.out)
  obtain ⟨n1, hn, hk, _, _⟩ := hf.sizes
  have NW := hid (new_gen f aC aR aH cC cR cH _ (ht.below BW.out (Nat.le_refl _)) (by omega) (by omega) (by have := hf.hol.1; omega) (h1.below BW.out) (h2.below BW.out) (SlAt.below h3 BW.out (Nat.le_refl _)))
  have REL := hid (ok_rel hf)
  clear h1 h2 h3 hf ht
  go_enter Tryd.func13, Tryd.ntmps13
  go_wp2_with fail
  refine NW.out.mono ?_
  rintro e w1 ⟨hb, er, a, hrel, hc⟩
  obtain ⟨rfl, rfl⟩ := hrel.unique REL.out
  rcases hc with ⟨h, _⟩ | ⟨_, _, Q, p, v, rfl, k1, k2, k3⟩
  · exact (h rfl).elim
  have R : Hid (OpP f w (.returned (.pointer (some ⟨p.bp, 0, none⟩))) w1) := ⟨Q, p, v, rfl, BW.out.trans (hb.mono (by simp)), k1, fun j hj => by have := k2 j hj; simp at this; omega, fun j hj => by
    rcases k3 j hj with e | e
    · exact Or.inl e
    · simp at e
      exact Or.inr (by omega)⟩
  clear hb hrel k1 k2 k3
  go_wp2
  go_ret
  exact R.out

end Go.Proofs.YtnkolbngeibhpaaDoor

/-
  THE WALKS: docketkeep's cell.
-/
set_option linter.unusedVariables false
set_option linter.unusedSimpArgs false
namespace Go.Proofs.YtnkolbngeibhpaaDoor
open Go.RowKit
attribute [local go_sem ↓] Go.wp_at_zero Go.wp_at_succ

def CelP (c : Cel) (w : World) (e : Ending) (w' : World) : Prop := e = .returned (.agg #[.int .i64 c.kind, .int .i64 c.a, .int .i64 c.b, .int .i64 c.c, .int .i64 c.k]) ∧ Below w.heap.size w w'

theorem shCel_eq {kd ca cb cc ck k0 q : Int} {i : Nat} (hk : kindI kd i = k0) (hq : M.needs k0 = q) : shCel ⟨kd, ca, cb, cc, ck⟩ i = ⟨k0, if 0 < q then pickI ca i else 0, if 1 < q then pickI cb i else 0, if 2 < q then pickI cc i else 0, shK k0 ck⟩ := by
  subst hk
  subst hq
  rfl

theorem celP_of {kd ca cb cc ck k0 q a b c k : Int} {i : Nat} {w W : World} (hk : kindI kd i = k0) (hq : M.needs k0 = q) (ha : (if 0 < q then pickI ca i else 0) = a) (hb : (if 1 < q then pickI cb i else 0) = b) (hc : (if 2 < q then pickI cc i else 0) = c) (hK : shK k0 ck = k) (hB : Below w.heap.size w W) : CelP (shCel ⟨kd, ca, cb, cc, ck⟩ i) w (.returned (.agg #[.int .i64 k0, .int .i64 a, .int .i64 b, .int .i64 c, .int .i64 k])) W := by
  refine ⟨?_, hB⟩
  rw [shCel_eq hk hq, ha, hb, hc, hK]

set_option maxRecDepth 100000 in
set_option maxHeartbeats 2000000 in
theorem cell_z0 (kd ca cb cc ck : Int) (w : World) (h0 : I64k kd) (h1 : I64k ca) (h2 : I64k cb) (h3 : I64k cc) (h4 : I64k ck) (hk : kindI kd 0 = 0) :
    Calls Tryd.prog 46 #[.agg #[.int .i64 kd, .int .i64 ca, .int .i64 cb, .int .i64 cc, .int .i64 ck], .int .i64 0] w fun e w' => CelP (shCel ⟨kd, ca, cb, cc, ck⟩ 0) w e w' := by
  have e2 : pickI kd 2 = 0 := by unfold kindI at hk; rw [if_pos rfl] at hk; exact hk
  have P13 := hid (fun W => kpick_any kd 13 W h0 (by omega) (by omega))
  have P2 := hid (fun W => kpick_any kd 2 W h0 (by omega) (by omega))
  rw [e2] at P2
  have PA := P2
  have PB := P2
  have PC := P2
  have P11 := hid (fun W => kpick_any ck 999000001 W h4 (by omega) (by omega))
  have P12 := hid (fun W => kpick_any ck 251 W h4 (by omega) (by omega))
  have VL := hid (fun W => kvalue_any ck W h4)
  have b11 := pickI_bd ck (n := 999000001) (by omega)
  have ND := hid (fun W => kneeds_any (0) W (by omega) (by omega))
  have nd : M.needs (0) = 0 := by decide
  rw [nd] at ND
  have R := hid (fun W hB => celP_of (kd := kd) (ca := ca) (cb := cb) (cc := cc) (ck := ck) (i := 0) (w := w) (W := W) hk nd (if_neg (by omega)) (if_neg (by omega)) (if_neg (by omega)) (by unfold shK; rw [if_pos (by omega)]) hB)
  clear e2 hk nd h0 h1 h2 h3 h4
  generalize pickI kd 13 = xk at *
  generalize pickI ck 999000001 = x11 at *
  generalize pickI ck 251 = x12 at *
  generalize valI ck = xv at *
  go_enter Tryd.func46, Tryd.ntmps46
  go_wp2_with fail
  refine (P13.out _).mono ?_
  rintro e w' ⟨rfl, hw⟩
  rw [hw]
  clear hw w'
  go_wp2_with fail
  refine (P2.out _).mono ?_
  rintro e w' ⟨rfl, hw⟩
  rw [hw]
  clear hw w'
  go_wp2_with fail
  refine (ND.out _).mono ?_
  rintro e w' ⟨rfl, hw⟩
  rw [hw]
  clear hw w'
  go_wp2_with fail
  refine (VL.out _).mono ?_
  rintro e w' ⟨rfl, hw⟩
  rw [hw]
  clear hw w'
  go_wp2
  exact bodyPost_ret (v := .agg #[.int .i64 0, .int .i64 0, .int .i64 0, .int .i64 0, .int .i64 xv]) (by simp [results, Tryd.results46, go_sem]) rfl (R.out _ (by repeat' (first | exact Below.refl _ _ | refine Below.setCell ?_ (by show w.heap.size ≤ _; omega) _ | refine Below.alloc ?_ (by first | exact Nat.le_refl _ | (simp; done) | (simp; omega)) _)))

set_option maxRecDepth 100000 in
set_option maxHeartbeats 2000000 in
theorem cell_z1 (kd ca cb cc ck : Int) (w : World) (h0 : I64k kd) (h1 : I64k ca) (h2 : I64k cb) (h3 : I64k cc) (h4 : I64k ck) (hk : kindI kd 0 = 1) :
    Calls Tryd.prog 46 #[.agg #[.int .i64 kd, .int .i64 ca, .int .i64 cb, .int .i64 cc, .int .i64 ck], .int .i64 0] w fun e w' => CelP (shCel ⟨kd, ca, cb, cc, ck⟩ 0) w e w' := by
  have e2 : pickI kd 2 = 1 := by unfold kindI at hk; rw [if_pos rfl] at hk; exact hk
  have P13 := hid (fun W => kpick_any kd 13 W h0 (by omega) (by omega))
  have P2 := hid (fun W => kpick_any kd 2 W h0 (by omega) (by omega))
  rw [e2] at P2
  have PA := P2
  have PB := P2
  have PC := P2
  have P11 := hid (fun W => kpick_any ck 999000001 W h4 (by omega) (by omega))
  have P12 := hid (fun W => kpick_any ck 251 W h4 (by omega) (by omega))
  have VL := hid (fun W => kvalue_any ck W h4)
  have b11 := pickI_bd ck (n := 999000001) (by omega)
  have ND := hid (fun W => kneeds_any (1) W (by omega) (by omega))
  have nd : M.needs (1) = 0 := by decide
  rw [nd] at ND
  have R := hid (fun W hB => celP_of (kd := kd) (ca := ca) (cb := cb) (cc := cc) (ck := ck) (i := 0) (w := w) (W := W) hk nd (if_neg (by omega)) (if_neg (by omega)) (if_neg (by omega)) (by unfold shK; rw [if_pos (by omega)]) hB)
  clear e2 hk nd h0 h1 h2 h3 h4
  generalize pickI kd 13 = xk at *
  generalize pickI ck 999000001 = x11 at *
  generalize pickI ck 251 = x12 at *
  generalize valI ck = xv at *
  go_enter Tryd.func46, Tryd.ntmps46
  go_wp2_with fail
  refine (P13.out _).mono ?_
  rintro e w' ⟨rfl, hw⟩
  rw [hw]
  clear hw w'
  go_wp2_with fail
  refine (P2.out _).mono ?_
  rintro e w' ⟨rfl, hw⟩
  rw [hw]
  clear hw w'
  go_wp2_with fail
  refine (ND.out _).mono ?_
  rintro e w' ⟨rfl, hw⟩
  rw [hw]
  clear hw w'
  go_wp2_with fail
  refine (VL.out _).mono ?_
  rintro e w' ⟨rfl, hw⟩
  rw [hw]
  clear hw w'
  go_wp2
  exact bodyPost_ret (v := .agg #[.int .i64 1, .int .i64 0, .int .i64 0, .int .i64 0, .int .i64 xv]) (by simp [results, Tryd.results46, go_sem]) rfl (R.out _ (by repeat' (first | exact Below.refl _ _ | refine Below.setCell ?_ (by show w.heap.size ≤ _; omega) _ | refine Below.alloc ?_ (by first | exact Nat.le_refl _ | (simp; done) | (simp; omega)) _)))

set_option maxRecDepth 100000 in
set_option maxHeartbeats 2000000 in
theorem cell_0 (kd ca cb cc ck : Int) (i : Nat) (w : World) (hi : i < 20) (hi1 : 1 ≤ i) (h0 : I64k kd) (h1 : I64k ca) (h2 : I64k cb) (h3 : I64k cc) (h4 : I64k ck) (hk : kindI kd i = 0) :
    Calls Tryd.prog 46 #[.agg #[.int .i64 kd, .int .i64 ca, .int .i64 cb, .int .i64 cc, .int .i64 ck], .int .i64 i] w fun e w' => CelP (shCel ⟨kd, ca, cb, cc, ck⟩ i) w e w' := by
  have e13 : pickI kd 13 = 0 := by unfold kindI at hk; rw [if_neg (by omega)] at hk; exact hk
  have P13 := hid (fun W => kpick_any kd 13 W h0 (by omega) (by omega))
  have P2 := hid (fun W => kpick_any kd 2 W h0 (by omega) (by omega))
  rw [e13] at P13
  have PA := hid (fun W => kpick_any ca i W h1 (by omega) (by omega))
  have PB := hid (fun W => kpick_any cb i W h2 (by omega) (by omega))
  have PC := hid (fun W => kpick_any cc i W h3 (by omega) (by omega))
  have P11 := hid (fun W => kpick_any ck 999000001 W h4 (by omega) (by omega))
  have P12 := hid (fun W => kpick_any ck 251 W h4 (by omega) (by omega))
  have VL := hid (fun W => kvalue_any ck W h4)
  have b11 := pickI_bd ck (n := 999000001) (by omega)
  have ND := hid (fun W => kneeds_any (0) W (by omega) (by omega))
  have nd : M.needs (0) = 0 := by decide
  rw [nd] at ND
  have R := hid (fun W hB => celP_of (kd := kd) (ca := ca) (cb := cb) (cc := cc) (ck := ck) (i := i) (w := w) (W := W) hk nd (if_neg (by omega)) (if_neg (by omega)) (if_neg (by omega)) (by unfold shK; rw [if_pos (by omega)]) hB)
  have ei : ((i : Int) == 0) = false := beq_eq_false_iff_ne.2 (by omega)
  clear e13 hk nd h0 h1 h2 h3 h4
  generalize pickI kd 2 = xk at *
  generalize pickI ca i = xa at *
  generalize pickI cb i = xb at *
  generalize pickI cc i = xc at *
  generalize pickI ck 999000001 = x11 at *
  generalize pickI ck 251 = x12 at *
  generalize valI ck = xv at *
  go_enter Tryd.func46, Tryd.ntmps46
  go_wp2_with fail
  refine (P13.out _).mono ?_
  rintro e w' ⟨rfl, hw⟩
  rw [hw]
  clear hw w'
  go_wp2_with fail
  refine (ND.out _).mono ?_
  rintro e w' ⟨rfl, hw⟩
  rw [hw]
  clear hw w'
  go_wp2_with fail
  refine (VL.out _).mono ?_
  rintro e w' ⟨rfl, hw⟩
  rw [hw]
  clear hw w'
  go_wp2
  exact bodyPost_ret (v := .agg #[.int .i64 0, .int .i64 0, .int .i64 0, .int .i64 0, .int .i64 xv]) (by simp [results, Tryd.results46, go_sem]) rfl (R.out _ (by repeat' (first | exact Below.refl _ _ | refine Below.setCell ?_ (by show w.heap.size ≤ _; omega) _ | refine Below.alloc ?_ (by first | exact Nat.le_refl _ | (simp; done) | (simp; omega)) _)))

set_option maxRecDepth 100000 in
set_option maxHeartbeats 2000000 in
theorem cell_1 (kd ca cb cc ck : Int) (i : Nat) (w : World) (hi : i < 20) (hi1 : 1 ≤ i) (h0 : I64k kd) (h1 : I64k ca) (h2 : I64k cb) (h3 : I64k cc) (h4 : I64k ck) (hk : kindI kd i = 1) :
    Calls Tryd.prog 46 #[.agg #[.int .i64 kd, .int .i64 ca, .int .i64 cb, .int .i64 cc, .int .i64 ck], .int .i64 i] w fun e w' => CelP (shCel ⟨kd, ca, cb, cc, ck⟩ i) w e w' := by
  have e13 : pickI kd 13 = 1 := by unfold kindI at hk; rw [if_neg (by omega)] at hk; exact hk
  have P13 := hid (fun W => kpick_any kd 13 W h0 (by omega) (by omega))
  have P2 := hid (fun W => kpick_any kd 2 W h0 (by omega) (by omega))
  rw [e13] at P13
  have PA := hid (fun W => kpick_any ca i W h1 (by omega) (by omega))
  have PB := hid (fun W => kpick_any cb i W h2 (by omega) (by omega))
  have PC := hid (fun W => kpick_any cc i W h3 (by omega) (by omega))
  have P11 := hid (fun W => kpick_any ck 999000001 W h4 (by omega) (by omega))
  have P12 := hid (fun W => kpick_any ck 251 W h4 (by omega) (by omega))
  have VL := hid (fun W => kvalue_any ck W h4)
  have b11 := pickI_bd ck (n := 999000001) (by omega)
  have ND := hid (fun W => kneeds_any (1) W (by omega) (by omega))
  have nd : M.needs (1) = 0 := by decide
  rw [nd] at ND
  have R := hid (fun W hB => celP_of (kd := kd) (ca := ca) (cb := cb) (cc := cc) (ck := ck) (i := i) (w := w) (W := W) hk nd (if_neg (by omega)) (if_neg (by omega)) (if_neg (by omega)) (by unfold shK; rw [if_pos (by omega)]) hB)
  have ei : ((i : Int) == 0) = false := beq_eq_false_iff_ne.2 (by omega)
  clear e13 hk nd h0 h1 h2 h3 h4
  generalize pickI kd 2 = xk at *
  generalize pickI ca i = xa at *
  generalize pickI cb i = xb at *
  generalize pickI cc i = xc at *
  generalize pickI ck 999000001 = x11 at *
  generalize pickI ck 251 = x12 at *
  generalize valI ck = xv at *
  go_enter Tryd.func46, Tryd.ntmps46
  go_wp2_with fail
  refine (P13.out _).mono ?_
  rintro e w' ⟨rfl, hw⟩
  rw [hw]
  clear hw w'
  go_wp2_with fail
  refine (ND.out _).mono ?_
  rintro e w' ⟨rfl, hw⟩
  rw [hw]
  clear hw w'
  go_wp2_with fail
  refine (VL.out _).mono ?_
  rintro e w' ⟨rfl, hw⟩
  rw [hw]
  clear hw w'
  go_wp2
  exact bodyPost_ret (v := .agg #[.int .i64 1, .int .i64 0, .int .i64 0, .int .i64 0, .int .i64 xv]) (by simp [results, Tryd.results46, go_sem]) rfl (R.out _ (by repeat' (first | exact Below.refl _ _ | refine Below.setCell ?_ (by show w.heap.size ≤ _; omega) _ | refine Below.alloc ?_ (by first | exact Nat.le_refl _ | (simp; done) | (simp; omega)) _)))

set_option maxRecDepth 100000 in
set_option maxHeartbeats 2000000 in
theorem cell_2 (kd ca cb cc ck : Int) (i : Nat) (k0 : Int) (w : World) (hi : i < 20) (hi1 : 1 ≤ i) (g2 : 2 ≤ k0) (g8 : k0 ≤ 8) (h0 : I64k kd) (h1 : I64k ca) (h2 : I64k cb) (h3 : I64k cc) (h4 : I64k ck) (hk : kindI kd i = k0) :
    Calls Tryd.prog 46 #[.agg #[.int .i64 kd, .int .i64 ca, .int .i64 cb, .int .i64 cc, .int .i64 ck], .int .i64 i] w fun e w' => CelP (shCel ⟨kd, ca, cb, cc, ck⟩ i) w e w' := by
  have e13 : pickI kd 13 = k0 := by unfold kindI at hk; rw [if_neg (by omega)] at hk; exact hk
  have P13 := hid (fun W => kpick_any kd 13 W h0 (by omega) (by omega))
  have P2 := hid (fun W => kpick_any kd 2 W h0 (by omega) (by omega))
  rw [e13] at P13
  have PA := hid (fun W => kpick_any ca i W h1 (by omega) (by omega))
  have PB := hid (fun W => kpick_any cb i W h2 (by omega) (by omega))
  have PC := hid (fun W => kpick_any cc i W h3 (by omega) (by omega))
  have P11 := hid (fun W => kpick_any ck 999000001 W h4 (by omega) (by omega))
  have P12 := hid (fun W => kpick_any ck 251 W h4 (by omega) (by omega))
  have VL := hid (fun W => kvalue_any ck W h4)
  have b11 := pickI_bd ck (n := 999000001) (by omega)
  have ND := hid (fun W => kneeds_any (k0) W (by omega) (by omega))
  have nd : M.needs (k0) = 2 := by unfold M.needs; rw [if_neg (by omega), if_neg (by omega), if_neg (by omega), if_pos (by omega)]
  rw [nd] at ND
  have R := hid (fun W hB => celP_of (kd := kd) (ca := ca) (cb := cb) (cc := cc) (ck := ck) (i := i) (w := w) (W := W) hk nd (if_pos (by omega)) (if_pos (by omega)) (if_neg (by omega)) (by unfold shK; rw [if_neg (by omega), if_neg (by omega), if_neg (by omega)]) hB)
  have e0 : (k0 == 0) = false := beq_eq_false_iff_ne.2 (by omega)
  have e1 : (k0 == 1) = false := beq_eq_false_iff_ne.2 (by omega)
  have e9 : (k0 == 9) = false := beq_eq_false_iff_ne.2 (by omega)
  have e10 : (k0 == 10) = false := beq_eq_false_iff_ne.2 (by omega)
  have e11 : (k0 == 11) = false := beq_eq_false_iff_ne.2 (by omega)
  have e12 : (k0 == 12) = false := beq_eq_false_iff_ne.2 (by omega)
  have ei : ((i : Int) == 0) = false := beq_eq_false_iff_ne.2 (by omega)
  clear e13 hk nd h0 h1 h2 h3 h4
  generalize pickI kd 2 = xk at *
  generalize pickI ca i = xa at *
  generalize pickI cb i = xb at *
  generalize pickI cc i = xc at *
  generalize pickI ck 999000001 = x11 at *
  generalize pickI ck 251 = x12 at *
  generalize valI ck = xv at *
  go_enter Tryd.func46, Tryd.ntmps46
  go_wp2_with fail
  refine (P13.out _).mono ?_
  rintro e w' ⟨rfl, hw⟩
  rw [hw]
  clear hw w'
  go_wp2_with fail
  refine (ND.out _).mono ?_
  rintro e w' ⟨rfl, hw⟩
  rw [hw]
  clear hw w'
  go_wp2_with fail
  refine (PA.out _).mono ?_
  rintro e w' ⟨rfl, hw⟩
  rw [hw]
  clear hw w'
  go_wp2_with fail
  refine (PB.out _).mono ?_
  rintro e w' ⟨rfl, hw⟩
  rw [hw]
  clear hw w'
  go_wp2
  exact bodyPost_ret (v := .agg #[.int .i64 k0, .int .i64 xa, .int .i64 xb, .int .i64 0, .int .i64 0]) (by simp [results, Tryd.results46, go_sem]) rfl (R.out _ (by repeat' (first | exact Below.refl _ _ | refine Below.setCell ?_ (by show w.heap.size ≤ _; omega) _ | refine Below.alloc ?_ (by first | exact Nat.le_refl _ | (simp; done) | (simp; omega)) _)))

set_option maxRecDepth 100000 in
set_option maxHeartbeats 2000000 in
theorem cell_9 (kd ca cb cc ck : Int) (i : Nat) (w : World) (hi : i < 20) (hi1 : 1 ≤ i) (h0 : I64k kd) (h1 : I64k ca) (h2 : I64k cb) (h3 : I64k cc) (h4 : I64k ck) (hk : kindI kd i = 9) :
    Calls Tryd.prog 46 #[.agg #[.int .i64 kd, .int .i64 ca, .int .i64 cb, .int .i64 cc, .int .i64 ck], .int .i64 i] w fun e w' => CelP (shCel ⟨kd, ca, cb, cc, ck⟩ i) w e w' := by
  have e13 : pickI kd 13 = 9 := by unfold kindI at hk; rw [if_neg (by omega)] at hk; exact hk
  have P13 := hid (fun W => kpick_any kd 13 W h0 (by omega) (by omega))
  have P2 := hid (fun W => kpick_any kd 2 W h0 (by omega) (by omega))
  rw [e13] at P13
  have PA := hid (fun W => kpick_any ca i W h1 (by omega) (by omega))
  have PB := hid (fun W => kpick_any cb i W h2 (by omega) (by omega))
  have PC := hid (fun W => kpick_any cc i W h3 (by omega) (by omega))
  have P11 := hid (fun W => kpick_any ck 999000001 W h4 (by omega) (by omega))
  have P12 := hid (fun W => kpick_any ck 251 W h4 (by omega) (by omega))
  have VL := hid (fun W => kvalue_any ck W h4)
  have b11 := pickI_bd ck (n := 999000001) (by omega)
  have ND := hid (fun W => kneeds_any (9) W (by omega) (by omega))
  have nd : M.needs (9) = 3 := by decide
  rw [nd] at ND
  have R := hid (fun W hB => celP_of (kd := kd) (ca := ca) (cb := cb) (cc := cc) (ck := ck) (i := i) (w := w) (W := W) hk nd (if_pos (by omega)) (if_pos (by omega)) (if_pos (by omega)) (by unfold shK; rw [if_neg (by omega), if_neg (by omega), if_neg (by omega)]) hB)
  have ei : ((i : Int) == 0) = false := beq_eq_false_iff_ne.2 (by omega)
  clear e13 hk nd h0 h1 h2 h3 h4
  generalize pickI kd 2 = xk at *
  generalize pickI ca i = xa at *
  generalize pickI cb i = xb at *
  generalize pickI cc i = xc at *
  generalize pickI ck 999000001 = x11 at *
  generalize pickI ck 251 = x12 at *
  generalize valI ck = xv at *
  go_enter Tryd.func46, Tryd.ntmps46
  go_wp2_with fail
  refine (P13.out _).mono ?_
  rintro e w' ⟨rfl, hw⟩
  rw [hw]
  clear hw w'
  go_wp2_with fail
  refine (ND.out _).mono ?_
  rintro e w' ⟨rfl, hw⟩
  rw [hw]
  clear hw w'
  go_wp2_with fail
  refine (PA.out _).mono ?_
  rintro e w' ⟨rfl, hw⟩
  rw [hw]
  clear hw w'
  go_wp2_with fail
  refine (PB.out _).mono ?_
  rintro e w' ⟨rfl, hw⟩
  rw [hw]
  clear hw w'
  go_wp2_with fail
  refine (PC.out _).mono ?_
  rintro e w' ⟨rfl, hw⟩
  rw [hw]
  clear hw w'
  go_wp2
  exact bodyPost_ret (v := .agg #[.int .i64 9, .int .i64 xa, .int .i64 xb, .int .i64 xc, .int .i64 0]) (by simp [results, Tryd.results46, go_sem]) rfl (R.out _ (by repeat' (first | exact Below.refl _ _ | refine Below.setCell ?_ (by show w.heap.size ≤ _; omega) _ | refine Below.alloc ?_ (by first | exact Nat.le_refl _ | (simp; done) | (simp; omega)) _)))

set_option maxRecDepth 100000 in
set_option maxHeartbeats 2000000 in
theorem cell_10 (kd ca cb cc ck : Int) (i : Nat) (w : World) (hi : i < 20) (hi1 : 1 ≤ i) (h0 : I64k kd) (h1 : I64k ca) (h2 : I64k cb) (h3 : I64k cc) (h4 : I64k ck) (hk : kindI kd i = 10) :
    Calls Tryd.prog 46 #[.agg #[.int .i64 kd, .int .i64 ca, .int .i64 cb, .int .i64 cc, .int .i64 ck], .int .i64 i] w fun e w' => CelP (shCel ⟨kd, ca, cb, cc, ck⟩ i) w e w' := by
  have e13 : pickI kd 13 = 10 := by unfold kindI at hk; rw [if_neg (by omega)] at hk; exact hk
  have P13 := hid (fun W => kpick_any kd 13 W h0 (by omega) (by omega))
  have P2 := hid (fun W => kpick_any kd 2 W h0 (by omega) (by omega))
  rw [e13] at P13
  have PA := hid (fun W => kpick_any ca i W h1 (by omega) (by omega))
  have PB := hid (fun W => kpick_any cb i W h2 (by omega) (by omega))
  have PC := hid (fun W => kpick_any cc i W h3 (by omega) (by omega))
  have P11 := hid (fun W => kpick_any ck 999000001 W h4 (by omega) (by omega))
  have P12 := hid (fun W => kpick_any ck 251 W h4 (by omega) (by omega))
  have VL := hid (fun W => kvalue_any ck W h4)
  have b11 := pickI_bd ck (n := 999000001) (by omega)
  have ND := hid (fun W => kneeds_any (10) W (by omega) (by omega))
  have nd : M.needs (10) = 1 := by decide
  rw [nd] at ND
  have R := hid (fun W hB => celP_of (kd := kd) (ca := ca) (cb := cb) (cc := cc) (ck := ck) (i := i) (w := w) (W := W) hk nd (if_pos (by omega)) (if_neg (by omega)) (if_neg (by omega)) (by unfold shK; rw [if_neg (by omega), if_neg (by omega), if_neg (by omega)]) hB)
  have ei : ((i : Int) == 0) = false := beq_eq_false_iff_ne.2 (by omega)
  clear e13 hk nd h0 h1 h2 h3 h4
  generalize pickI kd 2 = xk at *
  generalize pickI ca i = xa at *
  generalize pickI cb i = xb at *
  generalize pickI cc i = xc at *
  generalize pickI ck 999000001 = x11 at *
  generalize pickI ck 251 = x12 at *
  generalize valI ck = xv at *
  go_enter Tryd.func46, Tryd.ntmps46
  go_wp2_with fail
  refine (P13.out _).mono ?_
  rintro e w' ⟨rfl, hw⟩
  rw [hw]
  clear hw w'
  go_wp2_with fail
  refine (ND.out _).mono ?_
  rintro e w' ⟨rfl, hw⟩
  rw [hw]
  clear hw w'
  go_wp2_with fail
  refine (PA.out _).mono ?_
  rintro e w' ⟨rfl, hw⟩
  rw [hw]
  clear hw w'
  go_wp2
  exact bodyPost_ret (v := .agg #[.int .i64 10, .int .i64 xa, .int .i64 0, .int .i64 0, .int .i64 0]) (by simp [results, Tryd.results46, go_sem]) rfl (R.out _ (by repeat' (first | exact Below.refl _ _ | refine Below.setCell ?_ (by show w.heap.size ≤ _; omega) _ | refine Below.alloc ?_ (by first | exact Nat.le_refl _ | (simp; done) | (simp; omega)) _)))

set_option maxRecDepth 100000 in
set_option maxHeartbeats 2000000 in
theorem cell_11 (kd ca cb cc ck : Int) (i : Nat) (w : World) (hi : i < 20) (hi1 : 1 ≤ i) (h0 : I64k kd) (h1 : I64k ca) (h2 : I64k cb) (h3 : I64k cc) (h4 : I64k ck) (hk : kindI kd i = 11) :
    Calls Tryd.prog 46 #[.agg #[.int .i64 kd, .int .i64 ca, .int .i64 cb, .int .i64 cc, .int .i64 ck], .int .i64 i] w fun e w' => CelP (shCel ⟨kd, ca, cb, cc, ck⟩ i) w e w' := by
  have e13 : pickI kd 13 = 11 := by unfold kindI at hk; rw [if_neg (by omega)] at hk; exact hk
  have P13 := hid (fun W => kpick_any kd 13 W h0 (by omega) (by omega))
  have P2 := hid (fun W => kpick_any kd 2 W h0 (by omega) (by omega))
  rw [e13] at P13
  have PA := hid (fun W => kpick_any ca i W h1 (by omega) (by omega))
  have PB := hid (fun W => kpick_any cb i W h2 (by omega) (by omega))
  have PC := hid (fun W => kpick_any cc i W h3 (by omega) (by omega))
  have P11 := hid (fun W => kpick_any ck 999000001 W h4 (by omega) (by omega))
  have P12 := hid (fun W => kpick_any ck 251 W h4 (by omega) (by omega))
  have VL := hid (fun W => kvalue_any ck W h4)
  have b11 := pickI_bd ck (n := 999000001) (by omega)
  have ND := hid (fun W => kneeds_any (11) W (by omega) (by omega))
  have nd : M.needs (11) = 1 := by decide
  rw [nd] at ND
  have R := hid (fun W hB => celP_of (kd := kd) (ca := ca) (cb := cb) (cc := cc) (ck := ck) (i := i) (w := w) (W := W) hk nd (if_pos (by omega)) (if_neg (by omega)) (if_neg (by omega)) (by unfold shK; rw [if_neg (by omega), if_pos (by omega)]) hB)
  have ei : ((i : Int) == 0) = false := beq_eq_false_iff_ne.2 (by omega)
  clear e13 hk nd h0 h1 h2 h3 h4
  generalize pickI kd 2 = xk at *
  generalize pickI ca i = xa at *
  generalize pickI cb i = xb at *
  generalize pickI cc i = xc at *
  generalize pickI ck 999000001 = x11 at *
  generalize pickI ck 251 = x12 at *
  generalize valI ck = xv at *
  go_enter Tryd.func46, Tryd.ntmps46
  go_wp2_with fail
  refine (P13.out _).mono ?_
  rintro e w' ⟨rfl, hw⟩
  rw [hw]
  clear hw w'
  go_wp2_with fail
  refine (ND.out _).mono ?_
  rintro e w' ⟨rfl, hw⟩
  rw [hw]
  clear hw w'
  go_wp2_with fail
  refine (PA.out _).mono ?_
  rintro e w' ⟨rfl, hw⟩
  rw [hw]
  clear hw w'
  go_wp2_with fail
  refine (P11.out _).mono ?_
  rintro e w' ⟨rfl, hw⟩
  rw [hw]
  clear hw w'
  go_wp2
  exact bodyPost_ret (v := .agg #[.int .i64 11, .int .i64 xa, .int .i64 0, .int .i64 0, .int .i64 (1000000 + x11)]) (by simp [results, Tryd.results46, go_sem]) rfl (R.out _ (by repeat' (first | exact Below.refl _ _ | refine Below.setCell ?_ (by show w.heap.size ≤ _; omega) _ | refine Below.alloc ?_ (by first | exact Nat.le_refl _ | (simp; done) | (simp; omega)) _)))

set_option maxRecDepth 100000 in
set_option maxHeartbeats 2000000 in
theorem cell_12 (kd ca cb cc ck : Int) (i : Nat) (w : World) (hi : i < 20) (hi1 : 1 ≤ i) (h0 : I64k kd) (h1 : I64k ca) (h2 : I64k cb) (h3 : I64k cc) (h4 : I64k ck) (hk : kindI kd i = 12) :
    Calls Tryd.prog 46 #[.agg #[.int .i64 kd, .int .i64 ca, .int .i64 cb, .int .i64 cc, .int .i64 ck], .int .i64 i] w fun e w' => CelP (shCel ⟨kd, ca, cb, cc, ck⟩ i) w e w' := by
  have e13 : pickI kd 13 = 12 := by unfold kindI at hk; rw [if_neg (by omega)] at hk; exact hk
  have P13 := hid (fun W => kpick_any kd 13 W h0 (by omega) (by omega))
  have P2 := hid (fun W => kpick_any kd 2 W h0 (by omega) (by omega))
  rw [e13] at P13
  have PA := hid (fun W => kpick_any ca i W h1 (by omega) (by omega))
  have PB := hid (fun W => kpick_any cb i W h2 (by omega) (by omega))
  have PC := hid (fun W => kpick_any cc i W h3 (by omega) (by omega))
  have P11 := hid (fun W => kpick_any ck 999000001 W h4 (by omega) (by omega))
  have P12 := hid (fun W => kpick_any ck 251 W h4 (by omega) (by omega))
  have VL := hid (fun W => kvalue_any ck W h4)
  have b11 := pickI_bd ck (n := 999000001) (by omega)
  have ND := hid (fun W => kneeds_any (12) W (by omega) (by omega))
  have nd : M.needs (12) = 1 := by decide
  rw [nd] at ND
  have R := hid (fun W hB => celP_of (kd := kd) (ca := ca) (cb := cb) (cc := cc) (ck := ck) (i := i) (w := w) (W := W) hk nd (if_pos (by omega)) (if_neg (by omega)) (if_neg (by omega)) (by unfold shK; rw [if_neg (by omega), if_neg (by omega), if_pos (by omega)]) hB)
  have ei : ((i : Int) == 0) = false := beq_eq_false_iff_ne.2 (by omega)
  clear e13 hk nd h0 h1 h2 h3 h4
  generalize pickI kd 2 = xk at *
  generalize pickI ca i = xa at *
  generalize pickI cb i = xb at *
  generalize pickI cc i = xc at *
  generalize pickI ck 999000001 = x11 at *
  generalize pickI ck 251 = x12 at *
  generalize valI ck = xv at *
  go_enter Tryd.func46, Tryd.ntmps46
  go_wp2_with fail
  refine (P13.out _).mono ?_
  rintro e w' ⟨rfl, hw⟩
  rw [hw]
  clear hw w'
  go_wp2_with fail
  refine (ND.out _).mono ?_
  rintro e w' ⟨rfl, hw⟩
  rw [hw]
  clear hw w'
  go_wp2_with fail
  refine (PA.out _).mono ?_
  rintro e w' ⟨rfl, hw⟩
  rw [hw]
  clear hw w'
  go_wp2_with fail
  refine (P12.out _).mono ?_
  rintro e w' ⟨rfl, hw⟩
  rw [hw]
  clear hw w'
  go_wp2
  exact bodyPost_ret (v := .agg #[.int .i64 12, .int .i64 xa, .int .i64 0, .int .i64 0, .int .i64 x12]) (by simp [results, Tryd.results46, go_sem]) rfl (R.out _ (by repeat' (first | exact Below.refl _ _ | refine Below.setCell ?_ (by show w.heap.size ≤ _; omega) _ | refine Below.alloc ?_ (by first | exact Nat.le_refl _ | (simp; done) | (simp; omega)) _)))

theorem kcell_any (kd ca cb cc ck : Int) (i : Nat) (w : World) (hi : i < 20) (h0 : I64k kd) (h1 : I64k ca) (h2 : I64k cb) (h3 : I64k cc) (h4 : I64k ck) :
    Calls Tryd.prog 46 #[.agg #[.int .i64 kd, .int .i64 ca, .int .i64 cb, .int .i64 cc, .int .i64 ck], .int .i64 i] w fun e w' => CelP (shCel ⟨kd, ca, cb, cc, ck⟩ i) w e w' := by
  have kb := kindI_bd kd i
  by_cases e : i = 0
  · subst e
    rcases kindI_zero kd with h | h
    · exact cell_z0 kd ca cb cc ck w h0 h1 h2 h3 h4 h
    · exact cell_z1 kd ca cb cc ck w h0 h1 h2 h3 h4 h
  · have cs : kindI kd i = 0 ∨ kindI kd i = 1 ∨ (2 ≤ kindI kd i ∧ kindI kd i ≤ 8) ∨ kindI kd i = 9 ∨ kindI kd i = 10 ∨ kindI kd i = 11 ∨ kindI kd i = 12 := by omega
    rcases cs with h | h | h | h | h | h | h
    · exact cell_0 kd ca cb cc ck i w hi (by omega) h0 h1 h2 h3 h4 h
    · exact cell_1 kd ca cb cc ck i w hi (by omega) h0 h1 h2 h3 h4 h
    · exact cell_2 kd ca cb cc ck i _ w hi (by omega) h.1 h.2 h0 h1 h2 h3 h4 rfl
    · exact cell_9 kd ca cb cc ck i w hi (by omega) h0 h1 h2 h3 h4 h
    · exact cell_10 kd ca cb cc ck i w hi (by omega) h0 h1 h2 h3 h4 h
    · exact cell_11 kd ca cb cc ck i w hi (by omega) h0 h1 h2 h3 h4 h
    · exact cell_12 kd ca cb cc ck i w hi (by omega) h0 h1 h2 h3 h4 h

end Go.Proofs.YtnkolbngeibhpaaDoor
