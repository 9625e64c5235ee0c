/-
  THE WALKS: the code's reader of texts: a form.
-/
import Derived.Test.YtmofidaojmiepaaGreatDoorGZ1
set_option linter.unusedVariables false
set_option linter.unusedSimpArgs false
namespace Go.Proofs.YtmofidaojmiepaaGreatDoor

open Go.RowKit

open Go.Lib (itoa decDigits nDigits)

attribute [local go_sem ↓] Go.wp_at_zero Go.wp_at_succ

def f4 (a b c d : Value) (j : Nat) : Value := if j = 0 then a else if j = 1 then b else if j = 2 then c else d

/-- The memory of a form that is being read: a box for the result, a box for the form, its lists. -/
structure FoW (br : Nat) (w : World) (bf : Nat) (f : Frm) (vC vR vH : Value) (sv : Nat → Value) (wr : World) : Prop where
  own : OF (w.heap.size + 1) wr f vC vR vH sv
  chg : Chg (· = br) w wr
  res : wr.rowIs w.heap.size 26 4 (f4 (.slice none 0 0) (.slice none 0 0) (.int .i64 0) (.slice none 0 0))
  box : wr.rowIs bf 26 4 (f4 vC vR (.int .i64 f.week) vH)
  bf : w.heap.size < bf
  zb : br < w.heap.size

theorem FoW.turn {br bf : Nat} {w wr w1 : World} {f : Frm} {vC vR vH : Value} {sv : Nat → Value} (h : FoW br w bf f vC vR vH sv wr) (hc : Chg (· = br) wr w1) : FoW br w bf f vC vR vH sv w1 :=
  ⟨h.own.chg (by have := h.zb; omega) hc, h.chg.trans hc (fun _ _ x => x), h.res.of_block (hc.block _ h.res.lt (by have := h.zb; omega)), h.box.of_block (hc.block _ h.box.lt (by have := h.zb; have := h.bf; omega)), h.bf, h.zb⟩

theorem FoW.low {br bf : Nat} {w wr w1 : World} {f : Frm} {vC vR vH : Value} {sv : Nat → Value} (h : FoW br w bf f vC vR vH sv wr) (hb : Below wr.heap.size wr w1) : FoW br w bf f vC vR vH sv w1 :=
  ⟨h.own.below hb, h.chg.low hb, h.res.of_block (hb.block _ h.res.lt), h.box.of_block (hb.block _ h.box.lt), h.bf, h.zb⟩

theorem own_not_row {w : World} {base : Nat} {e t : TypeId} {size : Nat} {v : Value} {n N : Nat} {xs : List Value} {f : Nat → Value} {b : Nat} (h : w.ownsRow base e size v n xs) (g : w.rowIs b t N f) (hne : t ≠ e) (u : Value) (j : Nat) : (w.setCell ⟨b, j, none⟩ u).ownsRow base e size v n xs :=
  ownsRow_setCell_other h (own_ne_row h g hne) u

theorem OF.setRow {B b N : Nat} {w : World} {f : Frm} {vC vR vH : Value} {sv : Nat → Value} {g : Nat → Value} (h : OF B w f vC vR vH sv) (hr : w.rowIs b 26 N g) (u : Value) (j : Nat) : OF B (w.setCell ⟨b, j, none⟩ u) f vC vR vH sv :=
  ⟨own_not_row h.cells hr (by decide) u j, own_not_row h.rules hr (by decide) u j, own_not_row h.hol hr (by decide) u j, fun i hi => own_not_row (h.steps i hi) hr (by decide) u j, h.apart⟩

theorem FoW.addC {br bf : Nat} {w w5 w6 : World} {f : Frm} {vC vR vH v' : Value} {sv : Nat → Value} {o : Obj} (h : FoW br w bf f vC vR vH sv w5) (c : Cel) (hown : w6.ownsRow (w.heap.size + 1) 47 5 v' (f.n + 1) (cells5 f.C f.n ++ [.int .i64 c.kind, .int .i64 c.a, .int .i64 c.b, .int .i64 c.c, .int .i64 c.k]))
    (hg : (w5.alloc o).grownBy w6 vC.ownBlock) : FoW br w bf (f.addC c) v' vR vH sv (w6.setCell ⟨bf, 0, none⟩ v') := by
  have far : ∀ g, g < w5.heap.size → vC.ownBlock ≠ some g → w6.heap[g]? = w5.heap[g]? := fun g hl hn => ev_far0 w5 _ hg hl hn
  have rb : w6.rowIs bf 26 4 _ := h.box.of_block (far _ h.box.lt (own_ne_row h.own.cells h.box (by decide)))
  have rr : w6.rowIs w.heap.size 26 4 _ := h.res.of_block (far _ h.res.lt (own_ne_row h.own.cells h.res (by decide)))
  have hbf := h.bf
  have gb : Below w.heap.size w5 w6 := grow_below0 hg h.chg.size (fun g hg' => by have := own_base h.own.cells hg'; omega)
  refine ⟨(h.own.addC c hown far).setRow rb _ _, ?_, rr.setOther (by show _ ≠ bf; omega) _, (rb.set 0 _).congr (fun j hj => ?_), hbf, h.zb⟩
  · exact h.chg.trans (Y := fun j => w.heap.size ≤ j) ((Chg.mk gb.os gb.tape gb.output gb.size (fun j hj hx => gb.block j (by omega))).setCell _ _ (by show w.heap.size ≤ bf; omega)) (fun j hj hx => by omega)
  · have : j = 0 ∨ j = 1 ∨ j = 2 ∨ j = 3 := by omega
    rcases this with rfl | rfl | rfl | rfl <;> rfl

theorem FoW.addR {br bf : Nat} {w w5 w6 : World} {f : Frm} {vC vR vH v' u : Value} {sv : Nat → Value} {o : Obj} (h : FoW br w bf f vC vR vH sv w5) (r : Rul) (hu : w5.ownsRow (w.heap.size + 1) 3 1 u r.steps.length (ints r.steps)) (hua : ∀ b, u.ownBlock = some b → vH.ownBlock ≠ some b ∧ ∀ j, j < f.k → (sv j).ownBlock ≠ some b)
    (hown : w6.ownsRow (w.heap.size + 1) 51 2 v' (f.k + 1) (rules2 f.R sv f.k ++ [.int .i64 r.guard, u]))
    (hg : (w5.alloc o).grownBy w6 vR.ownBlock) : FoW br w bf (f.addR r) vC v' vH (upd sv f.k u) (w6.setCell ⟨bf, 1, none⟩ v') := by
  have far : ∀ g, g < w5.heap.size → vR.ownBlock ≠ some g → w6.heap[g]? = w5.heap[g]? := fun g hl hn => ev_far0 w5 _ hg hl hn
  have rb : w6.rowIs bf 26 4 _ := h.box.of_block (far _ h.box.lt (own_ne_row h.own.rules h.box (by decide)))
  have rr : w6.rowIs w.heap.size 26 4 _ := h.res.of_block (far _ h.res.lt (own_ne_row h.own.rules h.res (by decide)))
  have hbf := h.bf
  have gb : Below w.heap.size w5 w6 := grow_below0 hg h.chg.size (fun g hg' => by have := own_base h.own.rules hg'; omega)
  refine ⟨(h.own.addR r hu hua hown far).setRow rb _ _, ?_, rr.setOther (by show _ ≠ bf; omega) _, (rb.set 1 _).congr (fun j hj => ?_), hbf, h.zb⟩
  · exact h.chg.trans (Y := fun j => w.heap.size ≤ j) ((Chg.mk gb.os gb.tape gb.output gb.size (fun j hj hx => gb.block j (by omega))).setCell _ _ (by show w.heap.size ≤ bf; omega)) (fun j hj hx => by omega)
  · have : j = 0 ∨ j = 1 ∨ j = 2 ∨ j = 3 := by omega
    rcases this with rfl | rfl | rfl | rfl <;> rfl

/-- What form leaves. -/
def FmP (br : Nat) (s : ByteArray) (k : Nat) (w : World) (e : Ending) (w' : World) : Prop :=
  (∃ (f : Frm) (aC : Option Addr) (cC : Nat) (aR : Option Addr) (cR : Nat) (aH : Option Addr) (cH : Nat) (sv : Nat → Value), e = .returned (.tuple #[.agg #[.slice aC f.n cC, .slice aR f.k cR, .int .i64 f.week, .slice aH f.hol.length cH], .bool true]) ∧ f.Txt ∧ rest s k = f.doc.text ∧ OF (w.heap.size + 1) w' f (.slice aC f.n cC) (.slice aR f.k cR) (.slice aH f.hol.length cH) sv ∧ Chg (· = br) w w') ∨
  (∃ (aC : Option Addr) (nC cC : Nat) (aR : Option Addr) (nR cR : Nat) (wk : Int) (aH : Option Addr) (nH cH : Nat) (k' : Nat), e = .returned (.tuple #[.agg #[.slice aC nC cC, .slice aR nR cR, .int .i64 wk, .slice aH nH cH], .bool false]) ∧ TextNo (rest s k) (rest s k') ∧ Rd br s k' w' ∧ Chg (· = br) w w')

theorem no_out {br bf k k' : Nat} {s : ByteArray} {w W : World} {f : Frm} {vC vR vH : Value} {sv : Nat → Value} (h : FoW br w bf f vC vR vH sv W) (rd : Rd br s k' W) (no : TextNo (rest s k) (rest s k')) (o : Obj) :
    FmP br s k w (.returned (.tuple #[.agg #[.slice none 0 0, .slice none 0 0, .int .i64 0, .slice none 0 0], .bool false])) (((((W.setCell ⟨w.heap.size, 0, none⟩ (.slice none 0 0)).setCell ⟨w.heap.size, 1, none⟩ (.slice none 0 0)).setCell ⟨w.heap.size, 2, none⟩ (.int .i64 0)).setCell ⟨w.heap.size, 3, none⟩ (.slice none 0 0)).alloc o) := by
  obtain ⟨p1, p2⟩ := put4 rd h.chg h.zb (.slice none 0 0) (.slice none 0 0) (.int .i64 0) (.slice none 0 0)
  exact Or.inr ⟨none, 0, 0, none, 0, 0, 0, none, 0, 0, k', rfl, no, p1.keep ((Below.refl _ _).alloc (Nat.le_refl _) o), p2.low ((Below.refl _ _).alloc (Nat.le_refl _) o)⟩

/-- So far: of the text. -/
structure FoT (s : ByteArray) (k : Nat) (f : Frm) (k' : Nat) : Prop where
  txt : f.Txt
  eq : rest s k = f.doc.text ++ rest s k'

set_option maxRecDepth 100000 in
set_option maxHeartbeats 4000000 in
theorem form_rd {br k : Nat} {s : ByteArray} {w : World} (h : Rd br s k w) (ht : Tab w) (hb0 : 0 < br) (hs : s.size ≤ 1000000000) :
    Calls Tryz.prog 42 #[.pointer (some ⟨br, 0, none⟩)] w fun e w' => FmP br s k w e w' := by
  obtain ⟨i76, y1, y2⟩ := Option.map_eq_some_iff.1 info76
  obtain ⟨i80, y5, y6⟩ := Option.map_eq_some_iff.1 info80
  simp only [Prod.mk.injEq] at y2 y6
  have I76 := hid y1
  have Z76 := hid y2
  have I80 := hid y5
  have Z80 := hid y6
  clear y1 y2 y5 y6
  have zb := h.row.lt
  have B0 : Below w.heap.size w (w.alloc (.cells #[.slice none 0 0, .slice none 0 0, .int .i64 0, .slice none 0 0] 26)) := (Below.refl _ _).alloc (Nat.le_refl _) _
  have RD0 := hid (h.keep B0)
  have HT := hid ht
  have CH0 : Hid (Chg (· = br) w (w.alloc (.cells #[.slice none 0 0, .slice none 0 0, .int .i64 0, .slice none 0 0] 26))) := Chg.of B0
  have RW0 : Hid ((w.alloc (.cells #[.slice none 0 0, .slice none 0 0, .int .i64 0, .slice none 0 0] 26)).rowIs w.heap.size 26 4 (f4 (.slice none 0 0) (.slice none 0 0) (.int .i64 0) (.slice none 0 0))) := World.rowIs_alloc w #[.slice none 0 0, .slice none 0 0, .int .i64 0, .slice none 0 0] 26 _ (fun i hi => by
    have : i = 0 ∨ i = 1 ∨ i = 2 ∨ i = 3 := by simp at hi; omega
    rcases this with rfl | rfl | rfl | rfl <;> rfl)
  have CA := hid (calendar_any RD0.out)
  clear h B0 ht
  go_enter Tryz.func42, Tryz.ntmps42
  go_wp2_with fail
  refine CA.out.mono ?_
  rintro e w1 (⟨g, a, c, l, k1, rfl, hr, few, own, rd, ch⟩ | ⟨g, k1, rfl, no, rd, ch⟩)
  · have RD1 := hid rd
    have zz1 := (RW0.out.of_block (ch.block _ RW0.out.lt (by omega))).lt
    have F0 : Hid (FoW br w w1.heap.size (frm0 g l) (.slice none 0 0) (.slice none 0 0) (.slice a l.length c) (fun _ => .slice none 0 0) (w1.alloc (.cells #[.slice none 0 0, .slice none 0 0, .int .i64 g, .slice a l.length c] 26))) := by
      have b1 : Below w1.heap.size w1 (w1.alloc (.cells #[.slice none 0 0, .slice none 0 0, .int .i64 g, .slice a l.length c] 26)) := (Below.refl _ _).alloc (Nat.le_refl _) _
      have r1 := RW0.out.of_block (ch.block _ RW0.out.lt (by omega))
      refine ⟨(OF.start (own_monoY own (by simp))).below b1, (CH0.out.trans ch (fun _ _ x => x)).low b1, r1.of_block (b1.block _ r1.lt), ?_, r1.lt, zb⟩
      exact World.rowIs_alloc w1 #[.slice none 0 0, .slice none 0 0, .int .i64 g, .slice a l.length c] 26 _ (fun i hi => by
        have : i = 0 ∨ i = 1 ∨ i = 2 ∨ i = 3 := by simp at hi; omega
        rcases this with rfl | rfl | rfl | rfl <;> rfl)
    have T0 : Hid (FoT s k (frm0 g l) k1) := by
      obtain ⟨t1, t2⟩ := frm0_txt few
      exact ⟨t1, by rw [t2, hr]; unfold lineT; simp⟩
    have RDa : Hid (Rd br s k1 (w1.alloc (.cells #[.slice none 0 0, .slice none 0 0, .int .i64 g, .slice a l.length c] 26))) := RD1.out.keep ((Below.refl _ _).alloc (Nat.le_refl _) _)
    obtain ⟨bf, hbf⟩ : ∃ b, w1.heap.size = b := ⟨_, rfl⟩
    clear few hr own rd ch CA CH0 RW0 RD0 RD1
    go_wp2_with fail
    rw [hbf] at F0
    have hbfl : w.heap.size < bf := by omega
    clear hbf zz1
    generalize w1.alloc (.cells #[.slice none 0 0, .slice none 0 0, .int .i64 g, .slice a l.length c] 26) = wa at *
    clear w1
    go_loopw [] (fun wr => ∃ (f : Frm) (vC : Value) (k' : Nat), Hid (f.k = 0) ∧ Hid (FoW br w bf f vC (.slice none 0 0) (.slice a l.length c) (fun _ => .slice none 0 0) wr) ∧ Hid (FoT s k f k') ∧ Hid (Rd br s k' wr)) (fun wr => s.size - atOf br wr)
    case atStart => exact ⟨frm0 g l, .slice none 0 0, k1, rfl, F0, T0, RDa⟩
    case round =>
      clear F0 T0 RDa
      obtain ⟨f, vC, k', hfk, hF, hT, hR⟩ := hrel
      have TK := hid (take_any hR.out 99 99 (by decide))
      have AT := hid hR.out.at
      go_wp2_with fail
      refine TK.out.mono ?_
      rintro e w2 (⟨k2, rfl, rd, ch, hk2, hr⟩ | ⟨rfl, rd, ch, hr⟩)
      · have far : k' < k2 := by omega
        clear hk2
        have F1 := hid (hF.out.turn ch)
        have HR := hid hr
        have CE := hid (cell_any rd (HT.out.chg hb0 F1.out.chg) hb0)
        clear rd ch hr hF hR TK
        go_wp2_with fail
        refine CE.out.mono ?_
        rintro e w3 (⟨kd, ln, K, k3, rfl, kd12, lnl, hK, hr3, few, rd, ch⟩ | ⟨k3, rfl, no, rd, ch⟩)
        · have T2 : Hid (FoT s k (f.addC ⟨kd, ln.getD 0 0, ln.getD 1 0, ln.getD 2 0, K⟩) k3) := by
            obtain ⟨q1, q2⟩ := bare_line (K := K) kd12 lnl few
            refine ⟨hT.out.txt.addC ⟨kd, ln, K, rfl, kd12, lnl, hK⟩ q2, ?_⟩
            rw [hT.out.eq, f.doc_addC _ hfk.out, HR.out, hr3, q1]
            unfold lineT
            rw [numsT_cons]
            simp
          have FK : Hid ((f.addC ⟨kd, ln.getD 0 0, ln.getD 1 0, ln.getD 2 0, K⟩).k = 0) := hfk.out
          obtain ⟨x0, hx0⟩ : ∃ x, ln.getD 0 0 = x := ⟨_, rfl⟩
          obtain ⟨x1, hx1⟩ : ∃ x, ln.getD 1 0 = x := ⟨_, rfl⟩
          obtain ⟨x2, hx2⟩ : ∃ x, ln.getD 2 0 = x := ⟨_, rfl⟩
          rw [hx0, hx1, hx2] at T2 FK ⊢
          have fn : f.n ≤ 1000000000 := by
            have e := congrArg List.length hT.out.eq
            rw [List.length_append, rest_len] at e
            have := f.few.1
            omega
          have far3 : k2 ≤ k3 := by
            have e := congrArg List.length hr3
            have := rd.le
            simp [rest_len] at e
            omega
          have B4 : Below w3.heap.size w3 (w3.alloc (.cells #[.int .i64 kd, .int .i64 x0, .int .i64 x1, .int .i64 x2, .int .i64 K] 47)) := (Below.refl _ _).alloc (Nat.le_refl _) _
          have F4 := hid ((F1.out.turn ch).low B4)
          have RD4 := hid (rd.keep B4)
          have y0 : (w3.alloc (.cells #[.int .i64 kd, .int .i64 x0, .int .i64 x1, .int .i64 x2, .int .i64 K] 47)).cell? ⟨w3.heap.size, 0, none⟩ = some (.int .i64 kd) := by simp
          have y1 : (w3.alloc (.cells #[.int .i64 kd, .int .i64 x0, .int .i64 x1, .int .i64 x2, .int .i64 K] 47)).cell? ⟨w3.heap.size, 1, none⟩ = some (.int .i64 x0) := by simp
          have y2 : (w3.alloc (.cells #[.int .i64 kd, .int .i64 x0, .int .i64 x1, .int .i64 x2, .int .i64 K] 47)).cell? ⟨w3.heap.size, 2, none⟩ = some (.int .i64 x1) := by simp
          have y3 : (w3.alloc (.cells #[.int .i64 kd, .int .i64 x0, .int .i64 x1, .int .i64 x2, .int .i64 K] 47)).cell? ⟨w3.heap.size, 3, none⟩ = some (.int .i64 x2) := by simp
          have y4 : (w3.alloc (.cells #[.int .i64 kd, .int .i64 x0, .int .i64 x1, .int .i64 x2, .int .i64 K] 47)).cell? ⟨w3.heap.size, 4, none⟩ = some (.int .i64 K) := by simp
          obtain ⟨bx, hbx⟩ : ∃ b, w3.heap.size = b := ⟨_, rfl⟩
          clear hx0 hx1 hx2 kd12 lnl hK hr3 few rd ch CE F1 B4 hT hfk HR
          go_upto_region 8 with (fail)
          rw [hbx] at y0 y1 y2 y3 y4
          clear hbx
          generalize w3.alloc (.cells #[.int .i64 kd, .int .i64 x0, .int .i64 x1, .int .i64 x2, .int .i64 K] 47) = w4 at *
          clear w3
          have d0 : w4.cell? ⟨bf, 0, none⟩ = some vC := F4.out.box.cell (i := 0) (by omega)
          have d9 := F4.out.box.frozen 0
          have zf := F4.out.box.lt
          go_wp2_with (at_builtin; refine wpList_append_lies _ rfl (.tmp 29) (.tmp 31) 22 rfl (w.heap.size + 1) 47 i76 _ 5 40 Tryz.underlying22 I76.out Z76.out.1 Z76.out.2.1 Z76.out.2.2 rfl (by omega) vC f.n (cells5 f.C f.n) (by rfl) (own_alloc0 F4.out.own.cells _) ⟨w4.heap.size, 0, none⟩ 1 1 [.int .i64 kd, .int .i64 x0, .int .i64 x1, .int .i64 x2, .int .i64 K] (by rfl) (by rfl) (news5k _ _ _ _ _ _ _ rfl) (by simp [Value.oneCell']) (by omega) (by unfold maxLen; omega) (by omega) (by simp; omega) (w4.heap.size + 1) (by simp) ?_; intro g5 cap w6 hown2 hgrow hat hlt; refine stopH ?_)
          have N1 := hid (F4.out.addC ⟨kd, x0, x1, x2, K⟩ hown2 hgrow)
          have hbk : w6.heap[bf]? = w4.heap[bf]? := ev_far0 w4 _ hgrow zf (own_ne_row F4.out.own.cells F4.out.box (by decide))
          have e8 : w6.cell? ⟨bf, 0, none⟩ = some vC := by rw [World.cell?_of_block (w := w4) hbk]; exact d0
          have e9 : w6.frozen? ⟨bf, 0, none⟩ = false := by rw [World.frozen?_of_block (w := w4) hbk]; exact d9
          have RD6 : Hid (Rd br s k3 (w6.setCell ⟨bf, 0, none⟩ (.slice (some ⟨g5, 0, none⟩) (f.n + 1) cap))) := by
            have hb6 : w6.heap[br]? = w4.heap[br]? := ev_far0 w4 _ hgrow RD4.out.row.lt (fun e => by have := own_base F4.out.own.cells e; omega)
            exact (Rd.mk (RD4.out.row.of_block hb6) RD4.out.le RD4.out.big).far (by show bf ≠ _; omega) _ _
          have AT6 := hid RD6.out.at
          have k3s := RD6.out.le
          have s6 := hgrow.size
          simp at s6
          have z6 : bf < w6.heap.size := by omega
          clear hown2 hgrow hat hlt hbk d0 d9 y0 y1 y2 y3 y4 F4 RD4
          refine hid ?_
          go_wp2
          go_roundw
          case rel => exact ⟨_, _, k3, FK, N1, T2, RD6⟩
          case measure => rw [AT6.out, AT.out]; omega
        · have F2 := hid (F1.out.turn ch)
          have z0 : w3.cell? ⟨w.heap.size, 0, none⟩ = some (.slice none 0 0) := F2.out.res.cell (i := 0) (by omega)
          have z1 : w3.cell? ⟨w.heap.size, 1, none⟩ = some (.slice none 0 0) := F2.out.res.cell (i := 1) (by omega)
          have z2 : w3.cell? ⟨w.heap.size, 2, none⟩ = some (.int .i64 0) := F2.out.res.cell (i := 2) (by omega)
          have z3 : w3.cell? ⟨w.heap.size, 3, none⟩ = some (.slice none 0 0) := F2.out.res.cell (i := 3) (by omega)
          have fz : ∀ j, w3.frozen? ⟨w.heap.size, j, none⟩ = false := fun j => F2.out.res.frozen j
          have zz := F2.out.res.lt
          have R := hid (fun o => no_out (k := k) F2.out rd (Or.inr (Or.inr (Or.inl ⟨f.doc, _, hT.out.txt.ok, by show List.map _ (List.range f.k) = []; rw [hfk.out]; rfl, by rw [hT.out.eq, HR.out], no⟩))) o)
          clear no rd ch CE F1 F2 hT HR hfk
          go_wp2
          exact bodyPost_ret (v := .tuple #[.agg #[.slice none 0 0, .slice none 0 0, .int .i64 0, .slice none 0 0], .bool false]) (by simp [results, Tryz.results42, go_sem, *]) rfl (R.out _)
      · have F1 := hid (hF.out.turn ch)
        have RD1 := hid rd
        have N9 := hid hr
        clear rd ch hr hF hR TK AT
        generalize wr = wo at *
        go_wp2_with fail
        go_loopw [] (fun wr => ∃ (f : Frm) (vC vR : Value) (sv : Nat → Value) (k' : Nat), Hid (FoW br w bf f vC vR (.slice a l.length c) sv wr) ∧ Hid (FoT s k f k') ∧ Hid (Rd br s k' wr) ∧ Hid (f.k = 0 → Not 99 (rest s k'))) (fun wr => s.size - atOf br wr)
        case atStart => exact ⟨f, vC, .slice none 0 0, _, k', F1, hT, RD1, fun _ => N9.out⟩
        case round =>
          clear F1 hT RD1 N9 hfk
          clear f vC k' w2 wo
          obtain ⟨f, vC, vR, sv, k', hF, hT, hR, h9⟩ := hrel
          have TK := hid (take_any hR.out 114 114 (by decide))
          have AT := hid hR.out.at
          go_wp2_with fail
          refine TK.out.mono ?_
          rintro e w2 (⟨k2, rfl, rd, ch, hk2, hr⟩ | ⟨rfl, rd, ch, hr⟩)
          · have far : k' < k2 := by omega
            clear hk2
            have F1 := hid (hF.out.turn ch)
            have HR := hid hr
            have RU := hid (rule_any rd)
            clear rd ch hr hF hR TK
            go_wp2_with fail
            refine RU.out.mono ?_
            rintro e w3 (⟨gd, ast, cs, ls, k3, rfl, hr3, few, own, rd, ch⟩ | ⟨gd, k3, rfl, no, rd, ch⟩)
            · have T2 : Hid (FoT s k (f.addR ⟨gd, ls⟩) k3) := by
                refine ⟨hT.out.txt.addR few, ?_⟩
                rw [hT.out.eq, f.doc_addR, HR.out, hr3]
                unfold lineT rulL
                simp
              have N2 : Hid ((f.addR ⟨gd, ls⟩).k = 0 → Not 99 (rest s k3)) := fun e => by
                have e2 : f.k + 1 = 0 := e
                omega
              have fn : f.k ≤ 1000000000 ∧ ls.length ≤ 1000000000 := by
                have e := congrArg List.length hT.out.eq
                rw [List.length_append, rest_len] at e
                have e2 := congrArg List.length hr3
                rw [List.length_append, rest_len] at e2
                have := numsT_len (gd :: ls)
                rw [List.length_cons] at this
                have := f.few.2.1
                omega
              have far3 : k2 ≤ k3 := by
                have e := congrArg List.length hr3
                have := rd.le
                simp [rest_len] at e
                omega
              have B4 : Below w3.heap.size w3 (w3.alloc (.cells #[.int .i64 gd, .slice ast ls.length cs] 51)) := (Below.refl _ _).alloc (Nat.le_refl _) _
              have F4 := hid ((F1.out.turn ch).low B4)
              have RD4 := hid (rd.keep B4)
              have OW4 : Hid ((w3.alloc (.cells #[.int .i64 gd, .slice ast ls.length cs] 51)).ownsRow (w.heap.size + 1) 3 1 (.slice ast ls.length cs) ls.length (ints ls)) := own_alloc0 (own_monoY own F1.out.res.lt) _
              have AP : Hid (∀ b, (Value.slice ast ls.length cs).ownBlock = some b → (Value.slice a l.length c).ownBlock ≠ some b ∧ ∀ j, j < f.k → (sv j).ownBlock ≠ some b) := fun b hb => by
                have b1 := own_base own hb
                exact ⟨fun e => by have := own_ltT F1.out.own.hol e; omega, fun j hj e => by have := own_ltT (F1.out.own.steps j hj) e; omega⟩
              have y0 : (w3.alloc (.cells #[.int .i64 gd, .slice ast ls.length cs] 51)).cell? ⟨w3.heap.size, 0, none⟩ = some (.int .i64 gd) := by simp
              have y1 : (w3.alloc (.cells #[.int .i64 gd, .slice ast ls.length cs] 51)).cell? ⟨w3.heap.size, 1, none⟩ = some (.slice ast ls.length cs) := by simp
              obtain ⟨bx, hbx⟩ : ∃ b, w3.heap.size = b := ⟨_, rfl⟩
              clear hr3 few own rd ch RU F1 B4 hT HR h9
              go_upto_region 13 with (fail)
              rw [hbx] at y0 y1
              clear hbx
              generalize w3.alloc (.cells #[.int .i64 gd, .slice ast ls.length cs] 51) = w4 at *
              clear w3
              have d0 : w4.cell? ⟨bf, 1, none⟩ = some vR := F4.out.box.cell (i := 1) (by omega)
              have d9 := F4.out.box.frozen 1
              have zf := F4.out.box.lt
              go_wp2_with (at_builtin; refine wpList_append_lies _ rfl (.tmp 45) (.tmp 47) 23 rfl (w.heap.size + 1) 51 i80 _ 2 32 Tryz.underlying23 I80.out Z80.out.1 Z80.out.2.1 Z80.out.2.2 rfl (by omega) vR f.k (rules2 f.R sv f.k) (by rfl) (own_alloc0 F4.out.own.rules _) ⟨w4.heap.size, 0, none⟩ 1 1 [.int .i64 gd, .slice ast ls.length cs] (by rfl) (by rfl) (news2k _ _ _ _ rfl) (by simp [Value.oneCell']) (by omega) (by unfold maxLen; omega) (by omega) (by simp; omega) (w4.heap.size + 1) (by simp) ?_; intro g5 cap w6 hown2 hgrow hat hlt; refine stopH ?_)
              have N1 := hid (F4.out.addR ⟨gd, ls⟩ OW4.out AP.out hown2 hgrow)
              have hbk : w6.heap[bf]? = w4.heap[bf]? := ev_far0 w4 _ hgrow zf (own_ne_row F4.out.own.rules F4.out.box (by decide))
              have e8 : w6.cell? ⟨bf, 1, none⟩ = some vR := by rw [World.cell?_of_block (w := w4) hbk]; exact d0
              have e9 : w6.frozen? ⟨bf, 1, none⟩ = false := by rw [World.frozen?_of_block (w := w4) hbk]; exact d9
              have RD6 : Hid (Rd br s k3 (w6.setCell ⟨bf, 1, none⟩ (.slice (some ⟨g5, 0, none⟩) (f.k + 1) cap))) := by
                have hb6 : w6.heap[br]? = w4.heap[br]? := ev_far0 w4 _ hgrow RD4.out.row.lt (fun e => by have := own_base F4.out.own.rules e; omega)
                exact (Rd.mk (RD4.out.row.of_block hb6) RD4.out.le RD4.out.big).far (by show bf ≠ _; omega) _ _
              have AT6 := hid RD6.out.at
              have k3s := RD6.out.le
              have s6 := hgrow.size
              simp at s6
              have z6 : bf < w6.heap.size := by omega
              clear hown2 hgrow hat hlt hbk d0 d9 y0 y1 F4 RD4 OW4 AP
              refine hid ?_
              go_wp2
              go_roundw
              case rel => exact ⟨_, _, _, _, k3, N1, T2, RD6, N2⟩
              case measure => rw [AT6.out, AT.out]; omega
            · have F2 := hid (F1.out.turn ch)
              have z0 : w3.cell? ⟨w.heap.size, 0, none⟩ = some (.slice none 0 0) := F2.out.res.cell (i := 0) (by omega)
              have z1 : w3.cell? ⟨w.heap.size, 1, none⟩ = some (.slice none 0 0) := F2.out.res.cell (i := 1) (by omega)
              have z2 : w3.cell? ⟨w.heap.size, 2, none⟩ = some (.int .i64 0) := F2.out.res.cell (i := 2) (by omega)
              have z3 : w3.cell? ⟨w.heap.size, 3, none⟩ = some (.slice none 0 0) := F2.out.res.cell (i := 3) (by omega)
              have fz : ∀ j, w3.frozen? ⟨w.heap.size, j, none⟩ = false := fun j => F2.out.res.frozen j
              have zz := F2.out.res.lt
              have R := hid (fun o => no_out (k := k) F2.out rd (Or.inr (Or.inr (Or.inr (Or.inl ⟨f.doc, _, hT.out.txt.ok, by rw [hT.out.eq, HR.out], no⟩)))) o)
              clear no rd ch RU F1 F2 hT HR h9
              go_wp2
              exact bodyPost_ret (v := .tuple #[.agg #[.slice none 0 0, .slice none 0 0, .int .i64 0, .slice none 0 0], .bool false]) (by simp [results, Tryz.results42, go_sem, *]) rfl (R.out _)
          · have F1 := hid (hF.out.turn ch)
            have RD1 := hid rd
            have N14 := hid hr
            obtain ⟨aC, cC, rfl⟩ := own_len hF.out.own.cells
            obtain ⟨aR, cR, rfl⟩ := own_len hF.out.own.rules
            have r0 : w2.cell? ⟨br, 0, none⟩ = some (.string s) := rd.row.cell (i := 0) (by omega)
            have r1 : w2.cell? ⟨br, 1, none⟩ = some (.int .i64 k') := rd.row.cell (i := 1) (by omega)
            have d0 : w2.cell? ⟨bf, 0, none⟩ = some (.slice aC f.n cC) := F1.out.box.cell (i := 0) (by omega)
            have d1 : w2.cell? ⟨bf, 1, none⟩ = some (.slice aR f.k cR) := F1.out.box.cell (i := 1) (by omega)
            have d2 : w2.cell? ⟨bf, 2, none⟩ = some (.int .i64 f.week) := F1.out.box.cell (i := 2) (by omega)
            have d3 : w2.cell? ⟨bf, 3, none⟩ = some (.slice a l.length c) := F1.out.box.cell (i := 3) (by omega)
            have z0 : w2.cell? ⟨w.heap.size, 0, none⟩ = some (.slice none 0 0) := F1.out.res.cell (i := 0) (by omega)
            have z1 : w2.cell? ⟨w.heap.size, 1, none⟩ = some (.slice none 0 0) := F1.out.res.cell (i := 1) (by omega)
            have z2 : w2.cell? ⟨w.heap.size, 2, none⟩ = some (.int .i64 0) := F1.out.res.cell (i := 2) (by omega)
            have z3 : w2.cell? ⟨w.heap.size, 3, none⟩ = some (.slice none 0 0) := F1.out.res.cell (i := 3) (by omega)
            have fz : ∀ j, w2.frozen? ⟨w.heap.size, j, none⟩ = false := fun j => F1.out.res.frozen j
            have zz := F1.out.res.lt
            have kle := rd.le
            clear rd ch hr hF hR TK AT
            by_cases hk : k' = s.size
            · have R : Hid (FmP br s k w (.returned (.tuple #[.agg #[.slice aC f.n cC, .slice aR f.k cR, .int .i64 f.week, .slice a l.length c], .bool true])) ((((w2.setCell ⟨w.heap.size, 0, none⟩ (.slice aC f.n cC)).setCell ⟨w.heap.size, 1, none⟩ (.slice aR f.k cR)).setCell ⟨w.heap.size, 2, none⟩ (.int .i64 f.week)).setCell ⟨w.heap.size, 3, none⟩ (.slice a l.length c)).drew) := by
                obtain ⟨p1, p2⟩ := put4 RD1.out F1.out.chg zb (.slice aC f.n cC) (.slice aR f.k cR) (.int .i64 f.week) (.slice a l.length c)
                obtain ⟨a', c', e⟩ := own_len F1.out.own.hol
                have el : l.length = f.hol.length := by injection e
                refine Or.inl ⟨f, aC, cC, aR, cR, a, c, sv, by rw [el], hT.out.txt, ?_, ?_, p2.drew⟩
                · rw [hT.out.eq, rest_nil (by omega), List.append_nil]
                · rw [← el]
                  refine OF.keep ((((F1.out.own.set _ ?_ _).set _ ?_ _).set _ ?_ _).set _ ?_ _) (fun g _ _ => rfl)
                  all_goals exact Nat.lt_succ_self _
              clear F1 hT RD1 N14 h9
              go_wp2
              go_region
              go_wp2
              exact bodyPost_ret (v := .tuple #[.agg #[.slice aC f.n cC, .slice aR f.k cR, .int .i64 f.week, .slice a l.length c], .bool true]) (by simp [results, Tryz.results42, go_sem, *]) rfl R.out
            · have ne : ((k' : Int) == (s.size : Int)) = false := beq_eq_false_iff_ne.2 (by omega)
              have R : Hid (FmP br s k w (.returned (.tuple #[.agg #[.slice aC f.n cC, .slice aR f.k cR, .int .i64 f.week, .slice a l.length c], .bool false])) ((((w2.setCell ⟨w.heap.size, 0, none⟩ (.slice aC f.n cC)).setCell ⟨w.heap.size, 1, none⟩ (.slice aR f.k cR)).setCell ⟨w.heap.size, 2, none⟩ (.int .i64 f.week)).setCell ⟨w.heap.size, 3, none⟩ (.slice a l.length c)).drew) := by
                obtain ⟨p1, p2⟩ := put4 RD1.out F1.out.chg zb (.slice aC f.n cC) (.slice aR f.k cR) (.int .i64 f.week) (.slice a l.length c)
                refine Or.inr ⟨aC, f.n, cC, aR, f.k, cR, f.week, a, l.length, c, k', rfl, ?_, p1.keep ((Below.refl _ _).drew), p2.drew⟩
                refine Or.inr (Or.inr (Or.inr (Or.inr ⟨f.doc, hT.out.txt.ok, hT.out.eq, ?_, N14.out, fun e => h9.out ?_⟩)))
                · intro e
                  have := congrArg List.length e
                  rw [rest_len] at this
                  simp at this
                  omega
                · have := congrArg List.length e
                  simpa [Frm.doc] using this
              clear F1 hT RD1 N14 h9 hk
              go_wp2
              go_region
              go_wp2
              exact bodyPost_ret (v := .tuple #[.agg #[.slice aC f.n cC, .slice aR f.k cR, .int .i64 f.week, .slice a l.length c], .bool false]) (by simp [results, Tryz.results42, go_sem, *]) rfl R.out
  · have row2 := RW0.out.of_block (ch.block _ RW0.out.lt (by omega))
    have z0 : w1.cell? ⟨w.heap.size, 0, none⟩ = some (.slice none 0 0) := row2.cell (i := 0) (by omega)
    have z1 : w1.cell? ⟨w.heap.size, 1, none⟩ = some (.slice none 0 0) := row2.cell (i := 1) (by omega)
    have z2 : w1.cell? ⟨w.heap.size, 2, none⟩ = some (.int .i64 0) := row2.cell (i := 2) (by omega)
    have z3 : w1.cell? ⟨w.heap.size, 3, none⟩ = some (.slice none 0 0) := row2.cell (i := 3) (by omega)
    have fz : ∀ j, w1.frozen? ⟨w.heap.size, j, none⟩ = false := fun j => row2.frozen j
    have zz := row2.lt
    have R : Hid (FmP br s k w (.returned (.tuple #[.agg #[.slice none 0 0, .slice none 0 0, .int .i64 0, .slice none 0 0], .bool false])) (((((w1.setCell ⟨w.heap.size, 0, none⟩ (.slice none 0 0)).setCell ⟨w.heap.size, 1, none⟩ (.slice none 0 0)).setCell ⟨w.heap.size, 2, none⟩ (.int .i64 0)).setCell ⟨w.heap.size, 3, none⟩ (.slice none 0 0)).alloc (.cells #[.slice none 0 0, .slice none 0 0, .int .i64 g, .slice none 0 0] 26))) := by
      have b1 := fun W : World => (Below.refl W.heap.size W).alloc (Nat.le_refl _) (.cells #[.slice none 0 0, .slice none 0 0, .int .i64 g, .slice none 0 0] 26)
      obtain ⟨p1, p2⟩ := put4 rd (CH0.out.trans ch (fun _ _ x => x)) zb (.slice none 0 0) (.slice none 0 0) (.int .i64 0) (.slice none 0 0)
      refine Or.inr ⟨none, 0, 0, none, 0, 0, 0, none, 0, 0, k1, rfl, ?_, p1.keep (b1 _), p2.low (b1 _)⟩
      rcases no with ⟨rfl, no⟩ | ⟨r, e, no⟩
      · exact Or.inl ⟨no, rfl⟩
      · exact Or.inr (Or.inl ⟨r, e, no⟩)
    clear row2 no rd ch CA RD0 CH0 RW0
    go_wp2
    exact bodyPost_ret (v := .tuple #[.agg #[.slice none 0 0, .slice none 0 0, .int .i64 0, .slice none 0 0], .bool false]) (by simp [results, Tryz.results42, go_sem, *]) rfl R.out

end Go.Proofs.YtmofidaojmiepaaGreatDoor
