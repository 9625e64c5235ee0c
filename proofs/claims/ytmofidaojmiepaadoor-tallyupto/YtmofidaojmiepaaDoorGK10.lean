/-
  THE CODE: what is to come: Next, When.
-/
import Derived.Test.YtmofidaojmiepaaDoorGK4
import Derived.Test.YtmofidaojmiepaaDoorGH22
set_option linter.unusedVariables false
set_option linter.unusedSimpArgs false
namespace Go.Proofs.YtmofidaojmiepaaDoor

open Go.RowKit

attribute [local go_sem ↓] Go.wp_at_zero Go.wp_at_succ

set_option maxRecDepth 100000 in
set_option maxHeartbeats 1000000 in
theorem kNext_any {Q : Nat → Prop} {f : Frm} {p : KPl} {m : Cs} {vE : Value} {w : World} (hS : KAt Q f p m vE w) (hf : f.Ok) (hm : m.Ok f) :
    Calls Tryd.prog 33 #[.pointer (some ⟨p.bp, 0, none⟩)] w fun e w' => NxP f m w e w' := by
  have VC := hid (kvalues_any (show KSt Q f p m.F m.T m.op m.S vE m.E w from hS) hf hm.fv hm.t0 hm.t1)
  have HS := hid hS
  have HF := hid hf
  have HM := hid hm
  clear hS hf hm
  go_enter Tryd.func33, Tryd.ntmps33
  go_wp2_with fail
  refine VC.out.mono ?_
  rintro e w1 ⟨bv, rfl, q1, q2, q3⟩
  have S1 : Hid (KAt Q f p m vE w1) := KSt.drop HS.out q3
  have V1 := hid q2
  have B1 := hid q3
  clear q1 q2 q3 VC HS
  go_wp2_with fail
  refine (knext_any S1.out HF.out HM.out.fv HM.out.st HM.out.t0 HM.out.t1 V1.out).mono ?_
  rintro e w2 ⟨c, t, ok, rfl, q1, q2, q3⟩
  have R : Hid (NxP f m w (.returned (.tuple #[.int .i64 t, .bool ok])) w2) := ⟨t, ok, rfl, nex_of HF.out HM.out q1.1 q1.2 q2, B1.out.trans (q3.mono B1.out.size)⟩
  clear q1 q2 q3
  go_wp2
  go_ret2
  exact R.out

def st5 (g : Nat → Value) (q : Nat) (c : Cel) (j : Nat) : Value :=
  if j = q + 4 then .int .i64 c.k else if j = q + 3 then .int .i64 c.c else if j = q + 2 then .int .i64 c.b else if j = q + 1 then .int .i64 c.a else if j = q then .int .i64 c.kind else g j

theorem row_st5 {w : World} {b t L : Nat} {g : Nat → Value} (h : w.rowIs b t L g) (q : Nat) (c : Cel) :
    (((((w.setCell ⟨b, q, none⟩ (.int .i64 c.kind)).setCell ⟨b, q + 1, none⟩ (.int .i64 c.a)).setCell ⟨b, q + 2, none⟩ (.int .i64 c.b)).setCell ⟨b, q + 3, none⟩ (.int .i64 c.c)).setCell ⟨b, q + 4, none⟩ (.int .i64 c.k)).rowIs b t L (st5 g q c) :=
  ((((h.set q _).set (q + 1) _).set (q + 2) _).set (q + 3) _).set (q + 4) _

/-- A cell is laid. -/
def lay5 (w : World) (b q : Nat) (c : Cel) : World := ((((w.setCell ⟨b, q, none⟩ (.int .i64 c.kind)).setCell ⟨b, q + 1, none⟩ (.int .i64 c.a)).setCell ⟨b, q + 2, none⟩ (.int .i64 c.b)).setCell ⟨b, q + 3, none⟩ (.int .i64 c.c)).setCell ⟨b, q + 4, none⟩ (.int .i64 c.k)

theorem lay5_row {w : World} {b t L : Nat} {g : Nat → Value} (h : w.rowIs b t L g) (q : Nat) (c : Cel) : (lay5 w b q c).rowIs b t L (st5 g q c) := row_st5 h q c

theorem lay5_other {w : World} {b b' t L : Nat} {g : Nat → Value} (h : w.rowIs b' t L g) (hb : b' ≠ b) (q : Nat) (c : Cel) : (lay5 w b q c).rowIs b' t L g := ((((h.setOther hb _).setOther hb _).setOther hb _).setOther hb _).setOther hb _

theorem lay5_below {w0 w : World} {B b : Nat} (h : Below B w0 w) (hb : B ≤ b) (q : Nat) (c : Cel) : Below B w0 (lay5 w b q c) := ((((h.setCell hb _).setCell hb _).setCell hb _).setCell hb _).setCell hb _

/-- Cells, as far as they were laid. -/
def upTo (X : Nat → Cel) (m : Nat) (j : Nat) : Value := if j < m * 5 then cellf X j else .int .i64 0

theorem st5_next {X : Nat → Cel} {m : Nat} {c : Cel} (h : X m = c) (j : Nat) : st5 (upTo X m) (m * 5) c j = upTo X (m + 1) j := by
  subst h
  unfold st5
  by_cases e4 : j = m * 5 + 4
  · subst e4; rw [if_pos rfl]; unfold upTo; rw [if_pos (by omega), cellf4]
  rw [if_neg e4]
  by_cases e3 : j = m * 5 + 3
  · subst e3; rw [if_pos rfl]; unfold upTo; rw [if_pos (by omega), cellf3]
  rw [if_neg e3]
  by_cases e2 : j = m * 5 + 2
  · subst e2; rw [if_pos rfl]; unfold upTo; rw [if_pos (by omega), cellf2]
  rw [if_neg e2]
  by_cases e1 : j = m * 5 + 1
  · subst e1; rw [if_pos rfl]; unfold upTo; rw [if_pos (by omega), cellf1]
  rw [if_neg e1]
  by_cases e0 : j = m * 5
  · subst e0; rw [if_pos rfl]; unfold upTo; rw [if_pos (by omega), cellf0]
  rw [if_neg e0]
  unfold upTo
  by_cases h1 : j < m * 5
  · rw [if_pos h1, if_pos (by omega)]
  · rw [if_neg h1, if_neg (by omega)]

theorem st5_over {g : Nat → Value} {q : Nat} {c d : Cel} (j : Nat) : st5 (st5 g q c) q d j = st5 g q d j := by
  unfold st5
  repeat' split
  all_goals first | rfl | omega

theorem two_rows {w wr : World} {c1 c2 : Array Value} {t1 t2 : TypeId} (h : Below (w.heap.size + 1 + 1) ((w.alloc (.cells c1 t1)).alloc (.cells c2 t2)) wr) (f1 f2 : Nat → Value) (h1 : ∀ i, i < c1.size → c1[i]? = some (f1 i)) (h2 : ∀ i, i < c2.size → c2[i]? = some (f2 i)) : wr.rowIs w.heap.size t1 c1.size f1 ∧ wr.rowIs (w.heap.size + 1) t2 c2.size f2 := by
  constructor
  · exact ((World.rowIs_alloc w c1 t1 f1 h1).alloc _).of_block (h.block _ (by omega))
  · have := World.rowIs_alloc (w.alloc (.cells c1 t1)) c2 t2 f2 h2
    rw [World.size_alloc] at this
    exact this.of_block (h.block _ (by omega))

/-- What alone answers. -/
def AlP (f : Frm) (F : Nat → Int) (c : Nat) (aR : Option Addr) (cR : Nat) (aH : Option Addr) (cH : Nat) (w : World) (e : Ending) (w' : World) : Prop :=
  ∃ (b : Nat) (S : Nat → Bool), e = .returned (.agg #[.slice (some ⟨b, 0, none⟩) f.n f.n, .slice aR f.k cR, .int .i64 f.week, .slice aH f.hol.length cH]) ∧ w.heap.size ≤ b ∧ w'.rowIs b 82 (f.n * 5) (cellf (f.only F c S).C) ∧ (∀ j, j < f.n → (S j = true ↔ ∃ s, 1 ≤ s ∧ M.Way (Ed (effC f.C F) f.n) s c j)) ∧ Below w.heap.size w w'

set_option maxRecDepth 100000 in
set_option maxHeartbeats 2000000 in
theorem alone_any {f : Frm} (hf : f.Ok) {F : Nat → Int} (hF : FV f F) {c : Nat} (hcn : c < f.n) {w : World} {bc cC cR cH : Nat} {aR aH : Option Addr} (ht : Tab w) (hc : ∀ i, i < f.n → CelIs w bc (0 + i * 5) (effC f.C F i)) (hbc : bc < w.heap.size) :
    Calls Tryd.prog 78 #[.agg #[.slice (some ⟨bc, 0, none⟩) f.n cC, .slice aR f.k cR, .int .i64 f.week, .slice aH f.hol.length cH], .int .i64 c] w fun e w' => AlP f F c aR cR aH cH w e w' := by
  obtain ⟨n1, hn, hk, wk1, wk2⟩ := hf.sizes
  have HC := hid hc
  have B0 := hid (Below.refl (w.heap.size + 1 + 1) ((w.alloc (.cells #[.slice (some ⟨bc, 0, none⟩) f.n cC, .slice aR f.k cR, .int .i64 f.week, .slice aH f.hol.length cH] 26)).alloc (.cells #[.slice none 0 0, .slice none 0 0, .int .i64 0, .slice none 0 0] 26)))
  have BW := hid (two_boxes_below B0.out)
  have RC := hid (reached_any bc 0 f.n cC (effC f.C F) c _ (ht.below BW.out (Nat.le_refl _)) hn hcn (by simp; omega) (fun i hi => (hc i hi).below BW.out hbc) (effC_ok hf.cells hF))
  have p0 := (two_boxes B0.out 0).1
  simp at p0
  clear hc ht hf hF BW
  go_enter Tryd.func78, Tryd.ntmps78
  go_wp2_with fail
  refine RC.out.mono ?_
  rintro e w1 ⟨bn, S, rfl, hb0, hrow, hS, hb1⟩
  have B1 : Hid (Below (w.heap.size + 1 + 1) ((w.alloc (.cells #[.slice (some ⟨bc, 0, none⟩) f.n cC, .slice aR f.k cR, .int .i64 f.week, .slice aH f.hol.length cH] 26)).alloc (.cells #[.slice none 0 0, .slice none 0 0, .int .i64 0, .slice none 0 0] 26)) w1) := by have h := hb1; simp only [World.size_alloc] at h; exact h
  have zb : w.heap.size + 1 + 1 ≤ bn := by simpa using hb0
  have ROW := hid hrow
  have HS := hid hS
  have z1 : w.heap.size + 1 + 1 < w1.heap.size := by have := hrow.lt; omega
  clear hb0 hrow hS hb1 B0 RC p0
  have mk1 := run_make_is (P := Tryd.prog) 22 82 _ 5 40 Tryd.underlying22 info76 f.n (by omega) (by omega)
  have p0 := (two_boxes B1.out 0).1
  simp at p0
  have p0a : ∀ o, (w1.alloc o).cell? ⟨w.heap.size, 0, none⟩ = some (.slice (some ⟨bc, 0, none⟩) f.n cC) := fun o => by
    rw [World.cell?_alloc_lt (h := by show w.heap.size < _; omega)]
    exact p0
  go_wp2
  have M2 : Hid ((w1.alloc (.cells (madeCells #[.int .i64 0, .int .i64 0, .int .i64 0, .int .i64 0, .int .i64 0] (f.n * 5)) 82)).rowIs w1.heap.size 82 (f.n * 5) (upTo (f.only F c S).C 0)) := row_made (z := .agg #[.int .i64 0, .int .i64 0, .int .i64 0, .int .i64 0, .int .i64 0]) rfl _ (fun j hj => by
    unfold upTo
    rw [if_neg (by omega)]
    have : j % 5 = 0 ∨ j % 5 = 1 ∨ j % 5 = 2 ∨ j % 5 = 3 ∨ j % 5 = 4 := by omega
    show (#[Value.int .i64 0, .int .i64 0, .int .i64 0, .int .i64 0, .int .i64 0] : Array Value)[j % 5]! = _
    rcases this with h | h | h | h | h <;> rw [h] <;> rfl)
  have R2 : Hid ((w1.alloc (.cells (madeCells #[.int .i64 0, .int .i64 0, .int .i64 0, .int .i64 0, .int .i64 0] (f.n * 5)) 82)).rowIs bn 4 f.n (fun j => .bool (S j))) := ROW.out.alloc _
  have B2 : Hid (Below (w.heap.size + 1 + 1) ((w.alloc (.cells #[.slice (some ⟨bc, 0, none⟩) f.n cC, .slice aR f.k cR, .int .i64 f.week, .slice aH f.hol.length cH] 26)).alloc (.cells #[.slice none 0 0, .slice none 0 0, .int .i64 0, .slice none 0 0] 26)) (w1.alloc (.cells (madeCells #[.int .i64 0, .int .i64 0, .int .i64 0, .int .i64 0, .int .i64 0] (f.n * 5)) 82))) := B1.out.alloc (by omega) _
  have zl := ROW.out.lt
  clear mk1 p0 p0a ROW B1
  go_loopw [20] (fun t wr => ∃ m : Nat, m ≤ f.n ∧ t = .int .i64 m ∧ Hid (wr.rowIs w1.heap.size 82 (f.n * 5) (upTo (f.only F c S).C m)) ∧ Hid (wr.rowIs bn 4 f.n (fun j => .bool (S j))) ∧ Hid (Below (w.heap.size + 1 + 1) ((w.alloc (.cells #[.slice (some ⟨bc, 0, none⟩) f.n cC, .slice aR f.k cR, .int .i64 f.week, .slice aH f.hol.length cH] 26)).alloc (.cells #[.slice none 0 0, .slice none 0 0, .int .i64 0, .slice none 0 0] 26)) wr)) (fun t _ => f.n - (intOf t).toNat)
  case atStart => exact ⟨0, by omega, rfl, M2, R2, B2⟩
  case round =>
    clear M2 R2 B2
    obtain ⟨m, m1, rfl, hcr, hnr, hb⟩ := hrel
    have hbw := hid (two_boxes_below hb.out)
    by_cases hmt : m < f.n
    · have lt' : (m : Int) < (f.n : Int) := by omega
      obtain ⟨g0, g1, g2, g3, g4⟩ := (HC.out m hmt).below hbw.out hbc
      rw [Nat.zero_add] at g0 g1 g2 g3 g4
      have zc : bc < wr.heap.size := by have := hbw.out.size; omega
      have zr := hcr.out.lt
      have zn := hnr.out.lt
      have ONL : Hid ((m = c ∨ S m = true → (f.only F c S).C m = effC f.C F m) ∧ (¬ (m = c ∨ S m = true) → (f.only F c S).C m = noCel)) := ⟨fun h => only_in h, fun h => only_out h⟩
      generalize effC f.C F m = ce at *
      obtain ⟨ck, ca, cb, cc, cd⟩ := ce
      simp only at g0 g1 g2 g3 g4
      have CR := hid (hcr.out.alloc (.cells #[.int .i64 ck, .int .i64 ca, .int .i64 cb, .int .i64 cc, .int .i64 cd] 82))
      have NR := hid (hnr.out.alloc (.cells #[.int .i64 ck, .int .i64 ca, .int .i64 cb, .int .i64 cc, .int .i64 cd] 82))
      have BX : Hid (Below (w.heap.size + 1 + 1) ((w.alloc (.cells #[.slice (some ⟨bc, 0, none⟩) f.n cC, .slice aR f.k cR, .int .i64 f.week, .slice aH f.hol.length cH] 26)).alloc (.cells #[.slice none 0 0, .slice none 0 0, .int .i64 0, .slice none 0 0] 26)) (wr.alloc (.cells #[.int .i64 ck, .int .i64 ca, .int .i64 cb, .int .i64 cc, .int .i64 cd] 82))) := hb.out.alloc (by have := hb.out.size; simp at this; omega) _
      have bx0 := boxed (Below.refl (wr.heap.size + 1) (wr.alloc (.cells #[.int .i64 ck, .int .i64 ca, .int .i64 cb, .int .i64 cc, .int .i64 cd] 82))) 0
      have bx1 := boxed (Below.refl (wr.heap.size + 1) (wr.alloc (.cells #[.int .i64 ck, .int .i64 ca, .int .i64 cb, .int .i64 cc, .int .i64 cd] 82))) 1
      have bx2 := boxed (Below.refl (wr.heap.size + 1) (wr.alloc (.cells #[.int .i64 ck, .int .i64 ca, .int .i64 cb, .int .i64 cc, .int .i64 cd] 82))) 2
      have bx3 := boxed (Below.refl (wr.heap.size + 1) (wr.alloc (.cells #[.int .i64 ck, .int .i64 ca, .int .i64 cb, .int .i64 cc, .int .i64 cd] 82))) 3
      have bx4 := boxed (Below.refl (wr.heap.size + 1) (wr.alloc (.cells #[.int .i64 ck, .int .i64 ca, .int .i64 cb, .int .i64 cc, .int .i64 cd] 82))) 4
      have zx : wr.heap.size < (wr.alloc (.cells #[.int .i64 ck, .int .i64 ca, .int .i64 cb, .int .i64 cc, .int .i64 cd] 82)).heap.size := by simp
      go_upto_region 6 with (fail)
      generalize (wr.alloc (.cells #[.int .i64 ck, .int .i64 ca, .int .i64 cb, .int .i64 cc, .int .i64 cd] 82)) = Wb at *
      simp at bx0 bx1 bx2 bx3 bx4
      clear g0 g1 g2 g3 g4 hcr hnr hb hbw
      have c0 := CR.out.cell (i := m * 5) (by omega)
      have c1 := CR.out.cell (i := m * 5 + 1) (by omega)
      have c2 := CR.out.cell (i := m * 5 + 2) (by omega)
      have c3 := CR.out.cell (i := m * 5 + 3) (by omega)
      have c4 := CR.out.cell (i := m * 5 + 4) (by omega)
      have cz : ∀ j, Wb.frozen? ⟨w1.heap.size, j, none⟩ = false := fun j => CR.out.frozen j
      have zr2 := CR.out.lt
      have zn2 := NR.out.lt
      have nr := NR.out.cell (i := m) hmt
      have bnx : bn ≠ w1.heap.size := by omega
      by_cases hin : m = c ∨ S m = true
      · have N1 : Hid ((lay5 (lay5 Wb w1.heap.size (m * 5) noCel) w1.heap.size (m * 5) ⟨ck, ca, cb, cc, cd⟩).rowIs w1.heap.size 82 (f.n * 5) (upTo (f.only F c S).C (m + 1))) := (lay5_row (lay5_row CR.out (m * 5) noCel) (m * 5) ⟨ck, ca, cb, cc, cd⟩).congr (fun j _ => by rw [st5_over, st5_next (ONL.out.1 hin)])
        have N2 : Hid ((lay5 (lay5 Wb w1.heap.size (m * 5) noCel) w1.heap.size (m * 5) ⟨ck, ca, cb, cc, cd⟩).rowIs bn 4 f.n (fun j => .bool (S j))) := lay5_other (lay5_other NR.out bnx _ _) bnx _ _
        have N3 : Hid (Below (w.heap.size + 1 + 1) ((w.alloc (.cells #[.slice (some ⟨bc, 0, none⟩) f.n cC, .slice aR f.k cR, .int .i64 f.week, .slice aH f.hol.length cH] 26)).alloc (.cells #[.slice none 0 0, .slice none 0 0, .int .i64 0, .slice none 0 0] 26)) (lay5 (lay5 Wb w1.heap.size (m * 5) noCel) w1.heap.size (m * 5) ⟨ck, ca, cb, cc, cd⟩)) := lay5_below (lay5_below BX.out (by omega) _ _) (by omega) _ _
        unfold lay5 noCel at N1 N2 N3
        simp only at N1 N2 N3
        have cs : (m = c) ∨ (m ≠ c ∧ S m = true) := by
          by_cases e : m = c
          · exact Or.inl e
          · rcases hin with h | h
            · exact Or.inl h
            · exact Or.inr ⟨e, h⟩
        clear CR NR BX ONL hin
        rcases cs with e | ⟨e, e2⟩
        · have d : ((m : Int) == (c : Int)) = true := by simp [e]
          clear e
          go_wp2
          go_roundw
          case rel => exact ⟨m + 1, by omega, by go_num, N1, N2, N3⟩
          case measure => simp [intOf]; omega
        · have d : ((m : Int) == (c : Int)) = false := by simp; omega
          rw [e2] at nr
          clear e e2
          go_wp2
          go_roundw
          case rel => exact ⟨m + 1, by omega, by go_num, N1, N2, N3⟩
          case measure => simp [intOf]; omega
      · have N1 : Hid ((lay5 Wb w1.heap.size (m * 5) noCel).rowIs w1.heap.size 82 (f.n * 5) (upTo (f.only F c S).C (m + 1))) := (lay5_row CR.out (m * 5) noCel).congr (fun j _ => st5_next (ONL.out.2 hin) j)
        have N2 : Hid ((lay5 Wb w1.heap.size (m * 5) noCel).rowIs bn 4 f.n (fun j => .bool (S j))) := lay5_other NR.out bnx _ _
        have N3 : Hid (Below (w.heap.size + 1 + 1) ((w.alloc (.cells #[.slice (some ⟨bc, 0, none⟩) f.n cC, .slice aR f.k cR, .int .i64 f.week, .slice aH f.hol.length cH] 26)).alloc (.cells #[.slice none 0 0, .slice none 0 0, .int .i64 0, .slice none 0 0] 26)) (lay5 Wb w1.heap.size (m * 5) noCel)) := lay5_below BX.out (by omega) _ _
        unfold lay5 noCel at N1 N2 N3
        simp only at N1 N2 N3
        have d : ((m : Int) == (c : Int)) = false := by simp; omega
        have e2 : S m = false := by simpa using fun h => hin (Or.inr h)
        rw [e2] at nr
        clear CR NR BX ONL hin e2
        go_wp2
        go_roundw
        case rel => exact ⟨m + 1, by omega, by go_num, N1, N2, N3⟩
        case measure => simp [intOf]; omega
    · obtain rfl : m = f.n := by omega
      obtain ⟨r1, r2⟩ := two_rows hb.out (gCopy (.slice (some ⟨bc, 0, none⟩) f.n cC) (.slice aH f.hol.length cH) f.week (.slice aR f.k cR)) (gf 0) (fun i hi => by
        have hi' : i = 0 ∨ i = 1 ∨ i = 2 ∨ i = 3 := by simp at hi; omega
        rcases hi' with rfl | rfl | rfl | rfl <;> rfl) (fun i hi => by
        have hi' : i = 0 ∨ i = 1 ∨ i = 2 ∨ i = 3 := by simp at hi; omega
        rcases hi' with rfl | rfl | rfl | rfl <;> rfl)
      have F1 : wr.rowIs w.heap.size 26 4 (gCopy (.slice (some ⟨bc, 0, none⟩) f.n cC) (.slice aH f.hol.length cH) f.week (.slice aR f.k cR)) := r1
      have F2 : wr.rowIs (w.heap.size + 1) 26 4 (gf 0) := r2
      clear r1 r2
      have d0 := F1.cell (i := 0) (by omega)
      have d1 := F1.cell (i := 1) (by omega)
      have d2 := F1.cell (i := 2) (by omega)
      have d3 := F1.cell (i := 3) (by omega)
      have dz : ∀ j, wr.frozen? ⟨w.heap.size, j, none⟩ = false := fun j => F1.frozen j
      have r0 := F2.cell (i := 0) (by omega)
      have r1 := F2.cell (i := 1) (by omega)
      have r2 := F2.cell (i := 2) (by omega)
      have r3 := F2.cell (i := 3) (by omega)
      have rz : ∀ j, wr.frozen? ⟨w.heap.size + 1, j, none⟩ = false := fun j => F2.frozen j
      simp [gf] at r0 r1 r2 r3
      simp [gCopy] at d0 d1 d2 d3
      have y1 := F1.lt
      have y2 := F2.lt
      have hx : ∃ FW, FW = (((((wr.setCell ⟨w.heap.size, 0, none⟩ (.slice (some ⟨w1.heap.size, 0, none⟩) f.n f.n)).setCell ⟨w.heap.size + 1, 0, none⟩ (.slice (some ⟨w1.heap.size, 0, none⟩) f.n f.n)).setCell ⟨w.heap.size + 1, 1, none⟩ (.slice aR f.k cR)).setCell ⟨w.heap.size + 1, 2, none⟩ (.int .i64 f.week)).setCell ⟨w.heap.size + 1, 3, none⟩ (.slice aH f.hol.length cH)) := ⟨_, rfl⟩
      obtain ⟨FW, hFW⟩ := hx
      have P0 : Hid (FW.rowIs (w.heap.size + 1) 26 4 (fun j => if j = 3 then .slice aH f.hol.length cH else if j = 2 then .int .i64 f.week else if j = 1 then .slice aR f.k cR else if j = 0 then .slice (some ⟨w1.heap.size, 0, none⟩) f.n f.n else gf 0 j)) := by
        rw [hFW]
        exact ((((F2.setOther (by show w.heap.size + 1 ≠ w.heap.size; omega) _).set _ _).set _ _).set _ _).set _ _
      have ne1 : w1.heap.size ≠ w.heap.size := by omega
      have ne2 : w1.heap.size ≠ w.heap.size + 1 := by omega
      have P1 : FW.rowIs w1.heap.size 82 (f.n * 5) (cellf (f.only F c S).C) := by
        rw [hFW]
        exact (((((hcr.out.setOther ne1 _).setOther ne2 _).setOther ne2 _).setOther ne2 _).setOther ne2 _).congr (fun j hj => by unfold upTo; rw [if_pos hj])
      have P2 : Below w.heap.size w FW := by
        rw [hFW]
        exact ((((hbw.out.setCell (Nat.le_refl _) _).setCell (by show _ ≤ w.heap.size + 1; omega) _).setCell (by show _ ≤ w.heap.size + 1; omega) _).setCell (by show _ ≤ w.heap.size + 1; omega) _).setCell (by show _ ≤ w.heap.size + 1; omega) _
      have Q : Hid (AlP f F c aR cR aH cH w (.returned (.agg #[.slice (some ⟨w1.heap.size, 0, none⟩) f.n f.n, .slice aR f.k cR, .int .i64 f.week, .slice aH f.hol.length cH])) FW) := ⟨w1.heap.size, S, rfl, by omega, P1, HS.out, P2⟩
      have HFW := hid hFW
      clear hFW P1 P2 hb hcr hnr hbw F1 F2
      go_wp2
      rw [← HFW.out]
      have x0 := P0.out.cell (i := 0) (by omega)
      have x1 := P0.out.cell (i := 1) (by omega)
      have x2 := P0.out.cell (i := 2) (by omega)
      have x3 := P0.out.cell (i := 3) (by omega)
      simp at x0 x1 x2 x3
      exact bodyPost_ret (v := .agg #[.slice (some ⟨w1.heap.size, 0, none⟩) f.n f.n, .slice aR f.k cR, .int .i64 f.week, .slice aH f.hol.length cH]) (by simp [results, Tryd.results78, go_sem, x0, x1, x2, x3]) rfl Q.out

/-- What cells.When answers. -/
def WhP (f : Frm) (F : Nat → Int) (T : Int) (c : Nat) (w : World) (e : Ending) (w' : World) : Prop := ∃ t ok, e = .returned (.tuple #[.int .i64 t, .bool ok]) ∧ WhenIs f ⟨F, T, true, fun _ => noSt, []⟩ c t ok ∧ Below w.heap.size w w'

/-- The cell's value, from T up to T', in the form in which it stands alone. -/
def Stays (g : Frm) (F : Nat → Int) (T : Int) (c : Nat) (T' : Int) : Prop := T ≤ T' ∧ T' ≤ 1000000000 ∧ ∀ u, T < u → u ≤ T' → g.vals F u c = g.vals F T c

theorem Stays.more {g : Frm} (hg : g.Ok) {F : Nat → Int} (hF : FV g F) {T T' cc : Int} {c : Nat} (hc : c < g.n) (t0 : 0 ≤ T) (h : Stays g F T c T') (hq : CQ g F T' g.n cc) : ∀ u, T < u → u ≤ 1000000000 → Bef cc u → g.vals F u c = g.vals F T c := fun u u1 u2 hb => by
  obtain ⟨h1, h2, h3⟩ := h
  by_cases hu : u ≤ T'
  · exact h3 u u1 hu
  · rw [cq_same hg hF (by omega) h2 hq (by omega) u2 hb c hc]
    by_cases e : T < T'
    · exact h3 T' e (Int.le_refl _)
    · rw [show T' = T by omega]

set_option maxRecDepth 100000 in
set_option maxHeartbeats 2000000 in
theorem when_any {f : Frm} (hf : f.Ok) {F : Nat → Int} (hF : FV f F) {T : Int} (t0 : 0 ≤ T) (t1 : T ≤ 1000000000) {c : Nat} (hcn : c < f.n) {w : World} {bc cC cR cH : Nat} {aR aH : Option Addr} (ht : Tab w) (hc : ∀ i, i < f.n → CelIs w bc (0 + i * 5) (effC f.C F i)) (hbc : bc < w.heap.size) (hh : IntsAt w (.slice aH f.hol.length cH) f.hol) :
    Calls Tryd.prog 66 #[.agg #[.slice (some ⟨bc, 0, none⟩) f.n cC, .slice aR f.k cR, .int .i64 f.week, .slice aH f.hol.length cH], .int .i64 c, .int .i64 T] w fun e w' => WhP f F T c w e w' := by
  obtain ⟨n1, hn, hk, wk1, wk2⟩ := hf.sizes
  have B0 := hid (Below.refl (w.heap.size + 1) (w.alloc (.cells #[.slice (some ⟨bc, 0, none⟩) f.n cC, .slice aR f.k cR, .int .i64 f.week, .slice aH f.hol.length cH] 26)))
  have BW := hid (boxed_below B0.out)
  have AL := hid (alone_any hf hF hcn (w := w.alloc (.cells #[.slice (some ⟨bc, 0, none⟩) f.n cC, .slice aR f.k cR, .int .i64 f.week, .slice aH f.hol.length cH] 26)) (cC := cC) (cR := cR) (cH := cH) (aR := aR) (aH := aH) (ht.below BW.out (Nat.le_refl _)) (fun i hi => (hc i hi).below BW.out hbc) (by simp; omega))
  have HF := hid hf
  have HFV := hid hF
  have HT := hid ht
  have HH := hid hh
  clear hc ht hf hF hh
  go_enter Tryd.func66, Tryd.ntmps66
  go_wp2_with fail
  refine AL.out.mono ?_
  rintro e w1 ⟨b, S, rfl, hb0, hrow, hS, hb1⟩
  have B1 : Hid (Below w.heap.size w w1) := BW.out.trans (hb1.mono (by simp))
  have GOK := hid (only_ok HF.out HFV.out c S)
  have GFV := hid (only_fv HFV.out c S)
  have GV := hid (fun u (u0 : 0 ≤ u) (u1 : u ≤ 1000000000) => only_vals HF.out HFV.out hcn hS u0 u1)
  have zb : w.heap.size < b := by simp at hb0; omega
  have ROW := hid hrow
  clear hb0 hrow hS hb1 AL BW B0
  have GN : (f.only F c S).n = f.n := rfl
  have CEL : Hid (∀ W, w1.heap[b]? = W.heap[b]? → ∀ i, i < f.n → CelIs W b (0 + i * 5) (effC (f.only F c S).C F i)) := fun W hW i hi => by
    rw [only_eff, Nat.zero_add]
    have r := ROW.out.of_block hW.symm
    refine ⟨?_, ?_, ?_, ?_, ?_⟩
    · rw [r.cell (by omega), cellf0]
    · rw [r.cell (by omega), cellf1]
    · rw [r.cell (by omega), cellf2]
    · rw [r.cell (by omega), cellf3]
    · rw [r.cell (by omega), cellf4]
  have VAL : Hid (∀ W, Below w1.heap.size w1 W → ∀ u, 0 ≤ u → u ≤ 1000000000 → Calls Tryd.prog 74 #[.agg #[.slice (some ⟨b, 0, none⟩) f.n f.n, .slice aR f.k cR, .int .i64 f.week, .slice aH f.hol.length cH], .int .i64 u] W fun e w' => VlPost (f.only F c S) F u W e w') := fun W hW u u0 u1 => by
    have hW2 := B1.out.trans (hW.mono B1.out.size)
    exact (pvalues_any aR aH b 0 f.n f.n f.k cR f.hol.length cH (effC (f.only F c S).C F) f.week u f.hol W hn n1 (HT.out.below hW2 (Nat.le_refl _)) wk1 wk2 HF.out.hol rfl (SlAt.below HH.out hW2 (Nat.le_refl _)) (by have := ROW.out.lt; have := hW.size; omega) (CEL.out W (hW.block _ ROW.out.lt).symm) (effC_ok GOK.out.cells GFV.out) (effC_ring GOK.out.ring) u0 u1).mono (fun e w' h => vl_of GOK.out GFV.out h)
  have TRN : Hid (∀ W, Below w1.heap.size w1 W → ∀ u bv, 0 ≤ u → u ≤ 1000000000 → W.rowIs bv 3 f.n (fun i => .int .i64 ((f.only F c S).vals F u i)) → Calls Tryd.prog 76 #[.agg #[.slice (some ⟨b, 0, none⟩) f.n f.n, .slice aR f.k cR, .int .i64 f.week, .slice aH f.hol.length cH], .slice (some ⟨bv, 0, none⟩) f.n f.n, .int .i64 u] W fun e w' => TrP (f.only F c S) F u W e w') := fun W hW u bv u0 u1 hv =>
    turn_any GOK.out GFV.out u0 u1 (w := W) (bc := b) (cC := f.n) (cR := cR) (cH := cH) (aR := aR) (aH := aH) (CEL.out W (hW.block _ ROW.out.lt).symm) (by have := ROW.out.lt; have := hW.size; omega) hv
  have PCK : Hid (∀ W u bv, W.rowIs bv 3 f.n (fun i => .int .i64 ((f.only F c S).vals F u i)) → Calls Tryd.prog 79 #[.slice (some ⟨bv, 0, none⟩) f.n f.n, .int .i64 c] W fun e w' => e = .returned (.int .i64 ((f.only F c S).vals F u c)) ∧ w' = W) := fun W u bv hv => by
    have := pick_any (some ⟨bv, 0, none⟩) f.n f.n ((f.only F c S).vals F u) c W hn ⟨some ⟨bv, 0, none⟩, f.n, rfl, fun j hj => ⟨bv, 0, rfl, by have := hv.lt; omega, by rw [Nat.zero_add]; exact hv.cell (by omega)⟩⟩
    rw [pk_in hcn] at this
    exact this
  clear CEL HT HH GN
  have GN : Hid ((f.only F c S).n = f.n) := rfl
  have zr := ROW.out.lt
  clear ROW
  generalize f.only F c S = g at *
  have B2 := hid (Below.refl (w1.heap.size + 1) (w1.alloc (.cells #[.slice (some ⟨b, 0, none⟩) f.n f.n, .slice aR f.k cR, .int .i64 f.week, .slice aH f.hol.length cH] 26)))
  have q0 := boxed B2.out 0
  have q1 := boxed B2.out 1
  have q2 := boxed B2.out 2
  have q3 := boxed B2.out 3
  simp at q0 q1 q2 q3
  go_wp2_with fail
  refine (VAL.out _ (boxed_below B2.out) T t0 t1).mono ?_
  rintro e w3 ⟨bv, rfl, y1, y2, y3⟩
  rw [GN.out] at y2 ⊢
  have B3 : Hid (Below (w1.heap.size + 1) (w1.alloc (.cells #[.slice (some ⟨b, 0, none⟩) f.n f.n, .slice aR f.k cR, .int .i64 f.week, .slice aH f.hol.length cH] 26)) w3) := by have h := y3; rw [World.size_alloc] at h; exact h
  have V3 := hid y2
  clear y1 y2 y3 B2 q0 q1 q2 q3
  have q0 := boxed B3.out 0
  have q1 := boxed B3.out 1
  have q2 := boxed B3.out 2
  have q3 := boxed B3.out 3
  simp at q0 q1 q2 q3
  go_wp2_with first | (go_at_call 79; refine (PCK.out _ _ _ V3.out).mono ?_; rintro e w' ⟨rfl, rfl⟩) | (go_at_call 76; refine (TRN.out _ (boxed_below B3.out) T _ t0 t1 V3.out).mono ?_; rintro e w4 ⟨cc, t, ok, rfl, y1, y2, y3, y4⟩; refine stopH ?_)
  have B4 : Hid (Below (w1.heap.size + 1) (w1.alloc (.cells #[.slice (some ⟨b, 0, none⟩) f.n f.n, .slice aR f.k cR, .int .i64 f.week, .slice aH f.hol.length cH] 26)) w4) := B3.out.trans (y4.mono (by have := B3.out.size; simp at this; omega))
  have ST : Hid (Stays g F T c T) := ⟨Int.le_refl _, t1, fun u u1 u2 => by omega⟩
  have CQ0 := hid y1
  have TL : Hid (Tell T cc t ok) := y3
  clear y1 y2 y3 y4 B3 q0 q1 q2 q3 V3
  refine hid ?_
  go_wp2
  go_loopw [9, 11, 12] (fun _ tt tb wr => ∃ (T' cc t : Int) (ok : Bool), tt = .int .i64 t ∧ tb = .bool ok ∧ Hid (Stays g F T c T') ∧ Hid (CQ g F T' g.n cc) ∧ Hid (Tell T' cc t ok) ∧ Hid (Below (w1.heap.size + 1) (w1.alloc (.cells #[.slice (some ⟨b, 0, none⟩) f.n f.n, .slice aR f.k cR, .int .i64 f.week, .slice aH f.hol.length cH] 26)) wr)) (fun _ tt tb _ => match tb with | .bool true => (1000000001 - intOf tt).toNat | _ => 0)
  case atStart => exact ⟨T, cc, t, ok, rfl, rfl, ST, CQ0, TL, B4⟩
  case round =>
    clear B4 ST CQ0 TL
    obtain ⟨T', cc, t, ok, rfl, rfl, hst, hq, htl, hb⟩ := hrel
    have hbw := hid (B1.out.trans ((boxed_below hb.out).mono B1.out.size))
    have MORE := hid (hst.out.more GOK.out GFV.out (by rw [GN.out]; exact hcn) t0 hq.out)
    have s1 := hst.out.1
    have q0 := boxed hb.out 0
    have q1 := boxed hb.out 1
    have q2 := boxed hb.out 2
    have q3 := boxed hb.out 3
    simp at q0 q1 q2 q3
    rcases htl.out with ⟨rfl, rfl, rfl⟩ | ⟨rfl, g1, g2, rfl⟩
    · have R : Hid (WhP f F T c w (.returned (.tuple #[.int .i64 0, .bool false])) wr) := ⟨0, false, rfl, Or.inr ⟨rfl, rfl, fun u u1 u2 => by
        have u1' : T < u := u1
        have := MORE.out u u1' u2 (Or.inl rfl)
        rw [GV.out u (by omega) u2, GV.out T t0 t1] at this
        exact this⟩, hbw.out⟩
      clear hb hst hq htl MORE
      go_wp2
      go_ret2
      exact R.out
    · go_wp2_with fail
      refine (VAL.out _ (boxed_below hb.out) cc (by omega) g2).mono ?_
      rintro e w5 ⟨bn, rfl, y1, y2, y3⟩
      rw [GN.out] at y2 ⊢
      have B5 : Hid (Below (w1.heap.size + 1) (w1.alloc (.cells #[.slice (some ⟨b, 0, none⟩) f.n f.n, .slice aR f.k cR, .int .i64 f.week, .slice aH f.hol.length cH] 26)) w5) := hb.out.trans (y3.mono (by have := hb.out.size; simp at this; omega))
      have V5 := hid y2
      clear y1 y2 y3 hb hbw q0 q1 q2 q3
      have q0 := boxed B5.out 0
      have q1 := boxed B5.out 1
      have q2 := boxed B5.out 2
      have q3 := boxed B5.out 3
      simp at q0 q1 q2 q3
      by_cases e : g.vals F cc c = g.vals F T c
      · have d : (g.vals F cc c != g.vals F T c) = false := by simp [e]
        have ST2 : Hid (Stays g F T c cc) := ⟨by omega, g2, fun u u1 u2 => by
          by_cases e2 : u = cc
          · subst e2; exact e
          · exact MORE.out u u1 (by omega) (Or.inr (by omega))⟩
        clear e
        go_wp2_with first | (go_at_call 79; refine (PCK.out _ _ _ V5.out).mono ?_; rintro e w' ⟨rfl, rfl⟩) | (go_at_call 76; refine (TRN.out _ (boxed_below B5.out) cc _ (by omega) g2 V5.out).mono ?_; rintro e w6 ⟨c2, t2, ok2, rfl, y1, y2, y3, y4⟩; refine stopH ?_)
        have B6 : Hid (Below (w1.heap.size + 1) (w1.alloc (.cells #[.slice (some ⟨b, 0, none⟩) f.n f.n, .slice aR f.k cR, .int .i64 f.week, .slice aH f.hol.length cH] 26)) w6) := B5.out.trans (y4.mono (by have := B5.out.size; simp at this; omega))
        have CQ2 := hid y1
        have TL2 : Hid (Tell cc c2 t2 ok2) := y3
        have DEC : Hid ((match (Value.bool ok2) with | .bool true => (1000000001 - intOf (.int .i64 t2)).toNat | _ => 0) < (1000000001 - cc).toNat) := by
          show _ < _
          rcases TL2.out with ⟨_, _, rfl⟩ | ⟨rfl, h1, h2, rfl⟩
          · show 0 < _; omega
          · show (1000000001 - c2).toNat < _; omega
        clear y1 y2 y3 y4 B5 q0 q1 q2 q3 V5 d
        refine hid ?_
        go_wp2
        go_roundw
        case rel => exact ⟨cc, c2, t2, ok2, rfl, rfl, ST2, CQ2, TL2, B6⟩
        case measure => exact DEC.out
      · have d : (g.vals F cc c != g.vals F T c) = true := by simp [e]
        have R : Hid (WhP f F T c w (.returned (.tuple #[.int .i64 cc, .bool true])) w5) := by
          refine ⟨cc, true, rfl, Or.inl ⟨rfl, by show T < cc; omega, g2, ?_, fun u u1 u2 => ?_⟩, B1.out.trans ((boxed_below B5.out).mono B1.out.size)⟩
          · show f.vals F cc c ≠ f.vals F T c
            rw [← GV.out cc (by omega) g2, ← GV.out T t0 t1]
            exact e
          · show f.vals F u c = f.vals F T c
            have u1' : T < u := u1
            rw [← GV.out u (by omega) (by omega), ← GV.out T t0 t1]
            exact MORE.out u u1' (by omega) (Or.inr u2)
        clear e B5 MORE
        go_wp2_with (go_at_call 79; refine (PCK.out _ _ _ V5.out).mono ?_; rintro e w' ⟨rfl, rfl⟩)
        go_ret2
        exact R.out

set_option maxRecDepth 100000 in
set_option maxHeartbeats 1000000 in
theorem kWhen_any {Q : Nat → Prop} {f : Frm} {p : KPl} {m : Cs} {vE : Value} {w : World} (c : Int) (hS : KAt Q f p m vE w) (hf : f.Ok) (hm : m.Ok f) :
    Calls Tryd.prog 32 #[.pointer (some ⟨p.bp, 0, none⟩), .int .i64 c] w fun e w' => WnP f m c w e w' := by
  have HAS := hid (has_any c hS)
  have hK : KSt Q f p m.F m.T m.op m.S vE m.E w := hS
  by_cases h : 0 ≤ c ∧ c < f.n
  · obtain ⟨i, rfl⟩ := Int.eq_ofNat_of_zero_le h.1
    have hi : i < f.n := by have := h.2; omega
    have r0 := hK.row.cell (i := 0) (by omega)
    have r1 := hK.row.cell (i := 1) (by omega)
    have r2 := hK.row.cell (i := 2) (by omega)
    have r3 := hK.row.cell (i := 3) (by omega)
    have r4 := hK.row.cell (i := 4) (by omega)
    simp [kf] at r0 r1 r2 r3 r4
    have zb := hK.row.lt
    obtain ⟨b1, b2, b3⟩ := hK.base.now
    have WC := hid (fun W (hW : Below w.heap.size w W) => when_any hf hm.fv hm.t0 hm.t1 hi (w := W) (bc := p.bc) (cC := p.cC) (cR := p.cR) (cH := p.cH) (aR := p.aR) (aH := p.aH) (b1.below hW (Nat.le_refl _)) (fun j hj => (hK.celIs hj).below hW hK.celLt) (by have := hK.celLt; have := hW.size; omega) (SlAt.below b3 hW (Nat.le_refl _)))
    rw [show decide (0 ≤ (i : Int) ∧ (i : Int) < f.n) = true from decide_eq_true h] at HAS
    clear hS hK hf hm b1 b2 b3 h
    go_enter Tryd.func32, Tryd.ntmps32
    go_wp2_with (go_at_call 53; refine HAS.out.mono ?_; rintro e w' ⟨rfl, hw⟩; rw [hw]; clear hw w')
    go_region_held3 (fun w' => w'.cell? ⟨p.bp, 0, none⟩ = some (.slice (some ⟨p.bc, 0, none⟩) f.n p.cC) ∧ w'.cell? ⟨p.bp, 1, none⟩ = some (.slice p.aR f.k p.cR) ∧ w'.cell? ⟨p.bp, 2, none⟩ = some (.int .i64 f.week) ∧ w'.cell? ⟨p.bp, 3, none⟩ = some (.slice p.aH f.hol.length p.cH) ∧ w'.cell? ⟨p.bp, 4, none⟩ = some (.int .i64 m.T))
      ((refine ⟨?_, ?_, ?_, ?_, ?_⟩ <;> first | assumption | (rw [hb2.cell (show p.bp < w.heap.size from zb)]; assumption)))
      ((go_at_call 66; refine (WC.out _ (by exact (Below.refl _ _).drew)).mono ?_; rintro e w2 ⟨t, ok, rfl, q1, hb2⟩))
    all_goals (
      have R : Hid (WnP f m i w (.returned (.tuple #[.int .i64 t, .bool ok, .int .i64 0])) w2) := ⟨t, ok, 0, rfl, Or.inr ⟨i, rfl, hi, rfl, q1⟩, ⟨hb2.os, hb2.tape, hb2.output, hb2.size, hb2.block⟩⟩
      clear q1 hb2
      go_wp2
      go_ret3
      exact R.out)
  · rw [show decide (0 ≤ c ∧ c < f.n) = false from decide_eq_false h] at HAS
    have R : Hid (WnP f m c w (.returned (.tuple #[.int .i64 0, .bool false, .int .i64 6])) w) := ⟨0, false, 6, rfl, Or.inl ⟨h, rfl, rfl, rfl⟩, Below.refl _ _⟩
    clear hS hK hf hm
    go_enter Tryd.func32, Tryd.ntmps32
    go_wp2_with (go_at_call 53; refine HAS.out.mono ?_; rintro e w' ⟨rfl, rfl⟩)
    go_ret3
    exact R.out

end Go.Proofs.YtmofidaojmiepaaDoor
