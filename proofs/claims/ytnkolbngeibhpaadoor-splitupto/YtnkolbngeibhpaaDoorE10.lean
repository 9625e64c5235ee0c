/-
  THE WALKS: docketkeep's play.
-/
import Derived.Test.YtnkolbngeibhpaaDoorE8
import Derived.Test.YtnkolbngeibhpaaDoorE5
set_option linter.unusedVariables false
set_option linter.unusedSimpArgs false
namespace Go.Proofs.YtnkolbngeibhpaaDoor
open Go.RowKit
attribute [local go_sem ↓] Go.wp_at_zero Go.wp_at_succ

/-- A raw step. -/
structure StK where
  kd : Int
  a : Int
  b : Int

/-- A script in memory. -/
def ScK (w : World) (a : Option Addr) (m : Nat) (S : Nat → StK) : Prop :=
  (m = 0 ∨ ∃ b off, a = some ⟨b, off, none⟩ ∧ b < w.heap.size ∧ ∀ i, i < m → w.cell? ⟨b, off + i * 3, none⟩ = some (.int .i64 (S i).kd) ∧ w.cell? ⟨b, off + i * 3 + 1, none⟩ = some (.int .i64 (S i).a) ∧ w.cell? ⟨b, off + i * 3 + 2, none⟩ = some (.int .i64 (S i).b)) ∧ ∀ i, i < m → I64k (S i).kd ∧ I64k (S i).a ∧ I64k (S i).b

theorem ScK.below {w w' : World} {a : Option Addr} {m : Nat} {S : Nat → StK} (h : ScK w a m S) (hb : Below w.heap.size w w') : ScK w' a m S := by
  refine ⟨?_, h.2⟩
  rcases h.1 with h | ⟨b, off, e, h1, h2⟩
  · exact Or.inl h
  · refine Or.inr ⟨b, off, e, by have := hb.size; omega, fun i hi => ?_⟩
    obtain ⟨x0, x1, x2⟩ := h2 i hi
    exact ⟨by rw [hb.cell (p := ⟨b, off + i * 3, none⟩) h1]; exact x0, by rw [hb.cell (p := ⟨b, off + i * 3 + 1, none⟩) h1]; exact x1, by rw [hb.cell (p := ⟨b, off + i * 3 + 2, none⟩) h1]; exact x2⟩

/-- A script, played on an open case. -/
def playM (f : Frm) (c : Cs) (S : Nat → StK) : Nat → Cs
  | 0 => c
  | j + 1 => oneM f (playM f c S j) (S j).kd (S j).a (S j).b
theorem playM_op (f : Frm) (c : Cs) (S : Nat → StK) (j : Nat) : (playM f c S j).op = c.op := by
  induction j with
  | zero => rfl
  | succ j ih => show (oneM _ _ _ _ _).op = _; rw [oneM_op]; exact ih

theorem upd_twice {α : Type} (P : Nat → α) (i : Nat) (x y : α) : upd (upd P i x) i y = upd P i y := by
  funext j
  by_cases e : j = i
  · subst e; rw [upd_same, upd_same]
  · rw [upd_other _ _ e, upd_other _ _ e, upd_other _ _ e]

set_option maxRecDepth 100000 in
set_option maxHeartbeats 4000000 in
theorem kplay_any {b np : Nat} {P : Nat → KP} {tag : Nat → Nat} {w w0 : World} (h : CSt b np P tag w) (hw0 : Below w0.heap.size w0 w) (hz : ∀ j, j < w0.heap.size → tag j = 0) {f : Frm} {fv : Value} (hfv : FAt w0 f fv) {aS : Option Addr} {m cS : Nat} {S : Nat → StK} (hsc : ScK w0 aS m S) {i : Nat} (hi : i < np) (hfi : (P i).f = f) (hop : (P i).c.op = true) (hm : m ≤ 1048576) (hbb : b ≤ 8000000000) :
    Calls Tryd.prog 35 #[.pointer (some ⟨(P i).p.bp, 0, none⟩), fv, .slice aS m cS] w fun e w' => CsP (.bool true) (b + m) np P i (playM f (P i).c S m) tag w e w' := by
  have HFV := hid hfv
  have HSC := hid hsc
  have HZ := hid hz
  have HW0 := hid hw0
  obtain ⟨aC, cC, aR, cR, aH, cH, rfl, _, _, _⟩ := hfv
  have B0 : Below w.heap.size w (w.alloc (.cells #[.slice aC f.n cC, .slice aR f.k cR, .int .i64 f.week, .slice aH f.hol.length cH] 26)) := (Below.refl _ _).alloc (Nat.le_refl _) _
  have C1 : Hid (CSt (b + 0) np (upd P i ⟨(P i).Q, (P i).p, (P i).v, (P i).f, playM f (P i).c S 0⟩) (ntag tag w.heap.size 0) (w.alloc (.cells #[.slice aC f.n cC, .slice aR f.k cR, .int .i64 f.week, .slice aH f.hol.length cH] 26))) := by
    have e : (⟨(P i).Q, (P i).p, (P i).v, (P i).f, playM f (P i).c S 0⟩ : KP) = P i := rfl
    rw [e, upd_self]
    exact h.drop B0
  have K1 : Hid (Kept tag (ntag tag w.heap.size 0) w (w.alloc (.cells #[.slice aC f.n cC, .slice aR f.k cR, .int .i64 f.week, .slice aH f.hol.length cH] 26))) := Kept.fresh B0
  have R1 : Hid (Kept (ntag tag w.heap.size 0) (ntag tag w.heap.size 0) (w.alloc (.cells #[.slice aC f.n cC, .slice aR f.k cR, .int .i64 f.week, .slice aH f.hol.length cH] 26)) (w.alloc (.cells #[.slice aC f.n cC, .slice aR f.k cR, .int .i64 f.week, .slice aH f.hol.length cH] 26))) := Kept.of (Below.refl _ _)
  have OPJ : Hid (∀ j, (playM f (P i).c S j).op = true) := fun j => by rw [playM_op]; exact hop
  have HFI := hid hfi
  have zw0 := hw0.size
  clear h hw0 hz hsc hfi hop B0
  go_enter Tryd.func35, Tryd.ntmps35
  go_wp2
  go_loopw [7] (fun t wr => ∃ (j : Nat) (v' : Value) (tag' : Nat → Nat), j ≤ m ∧ t = .int .i64 j ∧ Hid (CSt (b + j) np (upd P i ⟨(P i).Q, (P i).p, v', (P i).f, playM f (P i).c S j⟩) tag' wr) ∧ Hid (Kept (ntag tag w.heap.size 0) tag' (w.alloc (.cells #[.slice aC f.n cC, .slice aR f.k cR, .int .i64 f.week, .slice aH f.hol.length cH] 26)) wr)) (fun t _ => m - (intOf t).toNat)
  case atStart => exact ⟨0, (P i).v, _, by omega, rfl, C1, R1⟩
  case round =>
    clear C1 R1
    obtain ⟨j, v', tag', j1, rfl, hc, hk⟩ := hrel
    by_cases hjt : j < m
    · have lt' : (j : Int) < (m : Int) := by omega
      have zk := hk.out.size
      simp at zk
      -- what stands: the form's box, and all that was there ahead of the cases
      have bx : wr.heap[w.heap.size]? = (w.alloc (.cells #[.slice aC f.n cC, .slice aR f.k cR, .int .i64 f.week, .slice aH f.hol.length cH] 26)).heap[w.heap.size]? := hk.out.block _ (by simp) (ntag_new (Nat.le_refl _))
      have bt : tag' w.heap.size = 0 := by rw [hk.out.tags _ (by simp)]; exact ntag_new (Nat.le_refl _)
      have lowT : ∀ x, x < w0.heap.size → tag' x = 0 := fun x hx => by rw [hk.out.tags _ (by simp; omega), ntag_old (by omega)]; exact HZ.out x hx
      have lowB : Below w0.heap.size w0 wr := HW0.out.trans ((((Below.refl _ _).alloc (Nat.le_refl _) _).mono zw0).trans ⟨hk.out.os, hk.out.tape, hk.out.output, hk.out.size, fun x hx => hk.out.block x (by simp; omega) (by rw [ntag_old (by omega)]; exact HZ.out x hx)⟩)
      obtain ⟨sc1, sc2⟩ := HSC.out.below lowB
      obtain ⟨bX, oX, hax, zX, hX⟩ : ∃ b off, aS = some ⟨b, off, none⟩ ∧ b < wr.heap.size ∧ ∀ i, i < m → wr.cell? ⟨b, off + i * 3, none⟩ = some (.int .i64 (S i).kd) ∧ wr.cell? ⟨b, off + i * 3 + 1, none⟩ = some (.int .i64 (S i).a) ∧ wr.cell? ⟨b, off + i * 3 + 2, none⟩ = some (.int .i64 (S i).b) := by
        rcases sc1 with h | h
        · omega
        · exact h
      have zX0 : bX < w0.heap.size := by
        rcases HSC.out.1 with h | ⟨b, off, e, h1, _⟩
        · omega
        · rw [hax] at e
          simp at e
          omega
      obtain ⟨x0, x1, x2⟩ := hX j hjt
      obtain ⟨s0, s1, s2⟩ := sc2 j hjt
      have pX : upd P i ⟨(P i).Q, (P i).p, v', (P i).f, playM f (P i).c S j⟩ i = ⟨(P i).Q, (P i).p, v', (P i).f, playM f (P i).c S j⟩ := upd_same _ _ _
      have BXC : ∀ W : World, W.heap[w.heap.size]? = wr.heap[w.heap.size]? → ∀ x, W.cell? ⟨w.heap.size, x, none⟩ = (#[Value.slice aC f.n cC, .slice aR f.k cR, .int .i64 f.week, .slice aH f.hol.length cH] : Array Value)[x]? := fun W hW x => by
        rw [World.cell?_of_block (w := wr) hW, World.cell?_of_block bx]
        exact boxed (Below.refl (w.heap.size + 1) (w.alloc (.cells #[.slice aC f.n cC, .slice aR f.k cR, .int .i64 f.week, .slice aH f.hol.length cH] 26))) x
      have f0 := BXC wr rfl 0
      have f1 := BXC wr rfl 1
      have f2 := BXC wr rfl 2
      have f3 := BXC wr rfl 3
      simp at f0 f1 f2 f3
      have ONE := hid (fun W (hW : Below wr.heap.size wr W) => (kone_any (hc.out.drop hW) (HFV.out.below (lowB.trans (hW.mono (by have := lowB.size; omega)))) hi (by rw [pX]; exact HFI.out) (by rw [pX]; exact OPJ.out j) (by omega) (S j).kd (S j).a (S j).b s0 s1 s2).mono (fun e w' g => (show e = .returned (.bool true) ∧ ∃ v2 tag2, CSt (b + (j + 1)) np (upd P i ⟨(P i).Q, (P i).p, v2, (P i).f, playM f (P i).c S (j + 1)⟩) tag2 w' ∧ Kept tag' tag2 wr w' from by
        obtain ⟨g0, v2, tag2, g1, g2⟩ := g
        rw [pX, upd_twice] at g1
        exact ⟨g0, v2, tag2, g1, (Kept.fresh hW).trans g2⟩)))
      rw [pX] at ONE
      have tX : tag' bX = 0 := lowT bX zX0
      have zk1 : w.heap.size < wr.heap.size := by omega
      subst hax
      clear hX sc1 sc2 s0 s1 s2 pX lowB lowT BXC hc
      generalize hkd : (S j).kd = kd at *
      generalize hka : (S j).a = sa at *
      generalize hkb : (S j).b = sb at *
      go_upto_region 4 with (fail)
      go_region_held3 (fun w' => w'.cell? ⟨w.heap.size, 0, none⟩ = some (.slice aC f.n cC) ∧ w'.cell? ⟨w.heap.size, 1, none⟩ = some (.slice aR f.k cR) ∧ w'.cell? ⟨w.heap.size, 2, none⟩ = some (.int .i64 f.week) ∧ w'.cell? ⟨w.heap.size, 3, none⟩ = some (.slice aH f.hol.length cH) ∧ w'.cell? ⟨bX, oX + j * 3, none⟩ = some (.int .i64 kd) ∧ w'.cell? ⟨bX, oX + j * 3 + 1, none⟩ = some (.int .i64 sa) ∧ w'.cell? ⟨bX, oX + j * 3 + 2, none⟩ = some (.int .i64 sb))
        (refine ⟨?_, ?_, ?_, ?_, ?_, ?_, ?_⟩ <;> assumption)
        ((go_at_call 37; refine (ONE.out _ (Below.refl _ _).drew).mono ?_; rintro e w2 ⟨rfl, v2, tag2, c2, k2⟩; have m0 : w2.cell? ⟨w.heap.size, 0, none⟩ = some (.slice aC f.n cC) := (by rw [World.cell?_of_block (w := wr) (k2.block _ zk1 bt)]; exact f0); have m1 : w2.cell? ⟨w.heap.size, 1, none⟩ = some (.slice aR f.k cR) := (by rw [World.cell?_of_block (w := wr) (k2.block _ zk1 bt)]; exact f1); have m2 : w2.cell? ⟨w.heap.size, 2, none⟩ = some (.int .i64 f.week) := (by rw [World.cell?_of_block (w := wr) (k2.block _ zk1 bt)]; exact f2); have m3 : w2.cell? ⟨w.heap.size, 3, none⟩ = some (.slice aH f.hol.length cH) := (by rw [World.cell?_of_block (w := wr) (k2.block _ zk1 bt)]; exact f3); have m4 : w2.cell? ⟨bX, oX + j * 3, none⟩ = some (.int .i64 kd) := (by rw [World.cell?_of_block (w := wr) (k2.block _ zX tX)]; exact x0); have m5 : w2.cell? ⟨bX, oX + j * 3 + 1, none⟩ = some (.int .i64 sa) := (by rw [World.cell?_of_block (w := wr) (k2.block _ zX tX)]; exact x1); have m6 : w2.cell? ⟨bX, oX + j * 3 + 2, none⟩ = some (.int .i64 sb) := (by rw [World.cell?_of_block (w := wr) (k2.block _ zX tX)]; exact x2)))
      all_goals (
        have N1 := hid c2
        have N2 := hid (hk.out.trans k2)
        clear c2 k2 m0 m1 m2 m3 m4 m5 m6 hk
        go_wp2
        go_roundw
        case rel => exact ⟨j + 1, v2, tag2, by omega, by go_num, N1, N2⟩
        case measure => simp [intOf]; omega)
    · obtain rfl : j = m := by omega
      have R : Hid (CsP (.bool true) (b + j) np P i (playM f (P i).c S j) tag w (.returned (.bool true)) wr) := ⟨rfl, v', tag', hc.out, K1.out.trans hk.out⟩
      clear hc hk
      go_wp2
      go_ret
      exact R.out

end Go.Proofs.YtnkolbngeibhpaaDoor
