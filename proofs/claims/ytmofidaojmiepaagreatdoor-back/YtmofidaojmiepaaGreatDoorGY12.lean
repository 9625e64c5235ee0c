/-
  THE WALKS: the code's Read.
-/
import Derived.Test.YtmofidaojmiepaaGreatDoorGY11
import Derived.Test.YtmofidaojmiepaaGreatDoorGW18
import Derived.Test.YtmofidaojmiepaaGreatDoorGZ1
set_option linter.unusedVariables false
set_option linter.unusedSimpArgs false
namespace Go.Proofs.YtmofidaojmiepaaGreatDoor

open Go.RowKit

open Go.Lib (itoa decDigits nDigits)

attribute [local go_sem ↓] Go.wp_at_zero Go.wp_at_succ

theorem rest_zero (s : ByteArray) : rest s 0 = s.data.toList := rfl

/-- What Read leaves. -/
def ReP (s : ByteArray) (w : World) (e : Ending) (w' : World) : Prop :=
  (∃ (f : Frm) (aC : Option Addr) (cC : Nat) (aR : Option Addr) (cR : Nat) (aH : Option Addr) (cH : Nat) (sv : Nat → Value), e = .returned (.tuple #[.agg #[.slice aC f.n cC, .slice aR f.k cR, .int .i64 f.week, .slice aH f.hol.length cH], .int .i64 0, .bool true]) ∧ f.Txt ∧ s.data.toList = f.doc.text ∧ OF w.heap.size w' f (.slice aC f.n cC) (.slice aR f.k cR) (.slice aH f.hol.length cH) sv ∧ Below w.heap.size w w') ∨
  (∃ p : Nat, e = .returned (.tuple #[.agg #[.slice none 0 0, .slice none 0 0, .int .i64 0, .slice none 0 0], .int .i64 p, .bool false]) ∧ pl sc0 s.data.toList = some p ∧ Below w.heap.size w w')

theorem put4b {w W : World} (hb : Below w.heap.size w W) (a b c d : Value) : Below w.heap.size w ((((W.setCell ⟨w.heap.size, 0, none⟩ a).setCell ⟨w.heap.size, 1, none⟩ b).setCell ⟨w.heap.size, 2, none⟩ c).setCell ⟨w.heap.size, 3, none⟩ d) :=
  (((hb.setCell (Nat.le_refl _) _).setCell (Nat.le_refl _) _).setCell (Nat.le_refl _) _).setCell (Nat.le_refl _) _

set_option maxRecDepth 100000 in
set_option maxHeartbeats 2000000 in
theorem read_any {s : ByteArray} {w : World} (ht : Tab w) (hs : s.size ≤ 1000000000) :
    Calls Tryz.prog 22 #[.string s] w fun e w' => ReP s w e w' := by
  have RW0 : Hid (((w.alloc (.cells #[.slice none 0 0, .slice none 0 0, .int .i64 0, .slice none 0 0] 26)).alloc (.cells #[.string s, .int .i64 0] 87)).rowIs w.heap.size 26 4 (f4 (.slice none 0 0) (.slice none 0 0) (.int .i64 0) (.slice none 0 0))) := by
    have r := World.rowIs_alloc w #[.slice none 0 0, .slice none 0 0, .int .i64 0, .slice none 0 0] 26 (f4 (.slice none 0 0) (.slice none 0 0) (.int .i64 0) (.slice none 0 0)) (fun i hi => by
      have : i = 0 ∨ i = 1 ∨ i = 2 ∨ i = 3 := by simp at hi; omega
      rcases this with rfl | rfl | rfl | rfl <;> rfl)
    exact r.of_block (((Below.refl _ _).alloc (Nat.le_refl _) _).block _ r.lt)
  have B0 : Hid (Below w.heap.size w ((w.alloc (.cells #[.slice none 0 0, .slice none 0 0, .int .i64 0, .slice none 0 0] 26)).alloc (.cells #[.string s, .int .i64 0] 87))) := ((Below.refl _ _).alloc (Nat.le_refl _) _).alloc (by simp) _
  have RD0 : Hid (Rd (w.heap.size + 1) s 0 ((w.alloc (.cells #[.slice none 0 0, .slice none 0 0, .int .i64 0, .slice none 0 0] 26)).alloc (.cells #[.string s, .int .i64 0] 87))) := by
    refine ⟨?_, by omega, by omega⟩
    have r := World.rowIs_alloc (w.alloc (.cells #[.slice none 0 0, .slice none 0 0, .int .i64 0, .slice none 0 0] 26)) #[.string s, .int .i64 0] 87 (rdf s 0) (fun i hi => by
      have : i = 0 ∨ i = 1 := by simp at hi; omega
      rcases this with rfl | rfl <;> rfl)
    have e : (w.alloc (.cells #[.slice none 0 0, .slice none 0 0, .int .i64 0, .slice none 0 0] 26)).heap.size = w.heap.size + 1 := by simp
    rw [e] at r
    exact r
  have FM := hid (form_rd RD0.out (ht.below B0.out (Nat.le_refl _)) (by omega) hs)
  clear ht RD0
  go_enter Tryz.func22, Tryz.ntmps22
  go_wp2_with fail
  refine FM.out.mono ?_
  rintro e w1 (⟨f, aC, cC, aR, cR, aH, cH, sv, rfl, txt, eq, own, ch⟩ | ⟨aC, nC, cC, aR, nR, cR, wk, aH, nH, cH, k', rfl, no, rd, ch⟩)
  · have b1 : Below w.heap.size w w1 := B0.out.trans (ch.below (fun j hj => by omega) (by simp; omega))
    have row := RW0.out.of_block (ch.block _ RW0.out.lt (by omega))
    have z0 : w1.cell? ⟨w.heap.size, 0, none⟩ = some (.slice none 0 0) := row.cell (i := 0) (by omega)
    have z1 : w1.cell? ⟨w.heap.size, 1, none⟩ = some (.slice none 0 0) := row.cell (i := 1) (by omega)
    have z2 : w1.cell? ⟨w.heap.size, 2, none⟩ = some (.int .i64 0) := row.cell (i := 2) (by omega)
    have z3 : w1.cell? ⟨w.heap.size, 3, none⟩ = some (.slice none 0 0) := row.cell (i := 3) (by omega)
    have fz : ∀ j, w1.frozen? ⟨w.heap.size, j, none⟩ = false := fun j => row.frozen j
    have zz := row.lt
    have R : Hid (ReP s w (.returned (.tuple #[.agg #[.slice aC f.n cC, .slice aR f.k cR, .int .i64 f.week, .slice aH f.hol.length cH], .int .i64 0, .bool true])) (((((w1.setCell ⟨w.heap.size, 0, none⟩ (.slice aC f.n cC)).setCell ⟨w.heap.size, 1, none⟩ (.slice aR f.k cR)).setCell ⟨w.heap.size, 2, none⟩ (.int .i64 f.week)).setCell ⟨w.heap.size, 3, none⟩ (.slice aH f.hol.length cH)).alloc (.cells #[.slice aC f.n cC, .slice aR f.k cR, .int .i64 f.week, .slice aH f.hol.length cH] 26))) := by
      have own' : OF (w.heap.size + 1) w1 f (.slice aC f.n cC) (.slice aR f.k cR) (.slice aH f.hol.length cH) sv := own.mono (by simp)
      refine Or.inl ⟨f, aC, cC, aR, cR, aH, cH, sv, rfl, txt, eq, ?_, (put4b b1 _ _ _ _).alloc (by simp; omega) _⟩
      refine (((((own'.set _ ?_ _).set _ ?_ _).set _ ?_ _).set _ ?_ _).below ((Below.refl _ _).alloc (Nat.le_refl _) _)).mono (Nat.le_succ _)
      all_goals exact Nat.lt_succ_self _
    clear FM B0 RW0 txt eq own ch b1 row
    go_wp2
    exact bodyPost_ret (v := .tuple #[.agg #[.slice aC f.n cC, .slice aR f.k cR, .int .i64 f.week, .slice aH f.hol.length cH], .int .i64 0, .bool true]) (by simp [results, Tryz.results22, go_sem, *]) rfl R.out
  · have b1 : Below w.heap.size w w1 := B0.out.trans (ch.below (fun j hj => by omega) (by simp; omega))
    have row := RW0.out.of_block (ch.block _ RW0.out.lt (by omega))
    have z0 : w1.cell? ⟨w.heap.size, 0, none⟩ = some (.slice none 0 0) := row.cell (i := 0) (by omega)
    have z1 : w1.cell? ⟨w.heap.size, 1, none⟩ = some (.slice none 0 0) := row.cell (i := 1) (by omega)
    have z2 : w1.cell? ⟨w.heap.size, 2, none⟩ = some (.int .i64 0) := row.cell (i := 2) (by omega)
    have z3 : w1.cell? ⟨w.heap.size, 3, none⟩ = some (.slice none 0 0) := row.cell (i := 3) (by omega)
    have r1 : w1.cell? ⟨w.heap.size + 1, 1, none⟩ = some (.int .i64 k') := rd.row.cell (i := 1) (by omega)
    have fz : ∀ j, w1.frozen? ⟨w.heap.size, j, none⟩ = false := fun j => row.frozen j
    have zz := row.lt
    have zr := rd.row.lt
    have R : Hid (∀ W, Below w.heap.size w W → ReP s w (.returned (.tuple #[.agg #[.slice none 0 0, .slice none 0 0, .int .i64 0, .slice none 0 0], .int .i64 k', .bool false])) W) := fun W hW => by
      refine Or.inr ⟨k', rfl, ?_, hW⟩
      have e := no.pl
      rw [rest_len, rest_len] at e
      have e2 := rd.le
      rw [show s.size - 0 - (s.size - k') = k' by omega] at e
      exact e
    have B1 := hid b1
    clear FM B0 RW0 ch b1 row no rd
    go_wp2
    go_region
    go_wp2
    refine bodyPost_ret (v := .tuple #[.agg #[.slice none 0 0, .slice none 0 0, .int .i64 0, .slice none 0 0], .int .i64 k', .bool false]) (by simp [results, Tryz.results22, go_sem, *]) rfl (R.out _ ?_)
    exact ((put4b B1.out _ _ _ _).alloc (by simp; omega) _).drew

end Go.Proofs.YtmofidaojmiepaaGreatDoor

/-
  THE WALKS: the code's Parse.
-/
set_option linter.unusedVariables false
set_option linter.unusedSimpArgs false
namespace Go.Proofs.YtmofidaojmiepaaGreatDoor

open Go.RowKit

open Go.Lib (itoa decDigits nDigits)

attribute [local go_sem ↓] Go.wp_at_zero Go.wp_at_succ

def Frm.Rel (f : Frm) (e n : Int) : Prop := ChkRel f.C f.n f.R f.k f.week f.hol e n

/-- What Parse leaves. -/
def PaP (s : ByteArray) (w : World) (e : Ending) (w' : World) : Prop :=
  (∃ (f : Frm) (aC : Option Addr) (cC : Nat) (aR : Option Addr) (cR : Nat) (aH : Option Addr) (cH : Nat) (sv : Nat → Value), e = .returned (.tuple #[.agg #[.slice aC f.n cC, .slice aR f.k cR, .int .i64 f.week, .slice aH f.hol.length cH], .int .i64 0, .int .i64 0]) ∧ f.Txt ∧ s.data.toList = f.doc.text ∧ f.Rel 0 0 ∧ OF w.heap.size w' f (.slice aC f.n cC) (.slice aR f.k cR) (.slice aH f.hol.length cH) sv ∧ Below w.heap.size w w') ∨
  (∃ a n : Int, e = .returned (.tuple #[.agg #[.slice none 0 0, .slice none 0 0, .int .i64 0, .slice none 0 0], .int .i64 a, .int .i64 n]) ∧ ((∃ p : Nat, pl sc0 s.data.toList = some p ∧ a = 12 ∧ n = p) ∨ (∃ f : Frm, f.Txt ∧ s.data.toList = f.doc.text ∧ f.Rel a n ∧ a ≠ 0)) ∧ Below w.heap.size w w')

set_option maxRecDepth 100000 in
set_option maxHeartbeats 2000000 in
theorem parse_any {s : ByteArray} {w : World} (ht : Tab w) (hs : s.size ≤ 1000000000) :
    Calls Tryz.prog 7 #[.string s] w fun e w' => PaP s w e w' := by
  have RW0 : Hid ((w.alloc (.cells #[.slice none 0 0, .slice none 0 0, .int .i64 0, .slice none 0 0] 26)).rowIs w.heap.size 26 4 (f4 (.slice none 0 0) (.slice none 0 0) (.int .i64 0) (.slice none 0 0))) := by
    exact World.rowIs_alloc w #[.slice none 0 0, .slice none 0 0, .int .i64 0, .slice none 0 0] 26 (f4 (.slice none 0 0) (.slice none 0 0) (.int .i64 0) (.slice none 0 0)) (fun i hi => by
      have : i = 0 ∨ i = 1 ∨ i = 2 ∨ i = 3 := by simp at hi; omega
      rcases this with rfl | rfl | rfl | rfl <;> rfl)
  have B0 : Hid (Below w.heap.size w (w.alloc (.cells #[.slice none 0 0, .slice none 0 0, .int .i64 0, .slice none 0 0] 26))) := (Below.refl _ _).alloc (Nat.le_refl _) _
  have RE := hid (read_any (s := s) (ht.below B0.out (Nat.le_refl _)) hs)
  have HT := hid ht
  clear ht
  go_enter Tryz.func7, Tryz.ntmps7
  go_wp2_with fail
  refine RE.out.mono ?_
  rintro e w1 (⟨f, aC, cC, aR, cR, aH, cH, sv, rfl, txt, eq, own, b1⟩ | ⟨p, rfl, no, b1⟩)
  · have B1 : Hid (Below w.heap.size w w1) := B0.out.trans (b1.mono (by simp))
    have RW1 := hid (RW0.out.of_block (b1.block _ RW0.out.lt))
    have ln : f.doc.text.length ≤ 1000000000 := by rw [← eq]; simpa using hs
    obtain ⟨n1, n2, n3, n4⟩ := f.few
    have fn : f.n ≤ 1000000000 ∧ f.k ≤ 1000000000 ∧ f.hol.length ≤ 1000000000 := by omega
    have BA : Hid (Below w1.heap.size w1 (w1.alloc (.cells #[.slice aC f.n cC, .slice aR f.k cR, .int .i64 f.week, .slice aH f.hol.length cH] 26))) := (Below.refl _ _).alloc (Nat.le_refl _) _
    have FO : Hid (Calls Tryz.prog 20 #[.agg #[.slice aC f.n cC, .slice aR f.k cR, .int .i64 f.week, .slice aH f.hol.length cH]] (w1.alloc (.cells #[.slice aC f.n cC, .slice aR f.k cR, .int .i64 f.week, .slice aH f.hol.length cH] 26)) fun e w' => ChkPost f.C f.n f.R f.k f.week f.hol (w1.alloc (.cells #[.slice aC f.n cC, .slice aR f.k cR, .int .i64 f.week, .slice aH f.hol.length cH] 26)) e w') := by
      obtain ⟨aC', cC', aR', cR', aH', cH', e1, e2, e3, h1, h2, h3⟩ := (own.below BA.out).at (fun i hi => by have := n4 i hi; omega)
      injection e1 with e1 _ _
      injection e2 with e2 _ _
      injection e3 with e3 _ e4
      subst e1 e2 e3 e4
      exact form_any f.C f.R f.hol aC aR aH f.n cC f.k cR cH f.week _ (HT.out.below (B1.out.trans (BA.out.mono (by have := B1.out.size; omega))) (Nat.le_refl _)) fn.1 fn.2.1 fn.2.2 h1 h2 h3
    have OW := hid (own.mono (B' := w.heap.size + 1) (by simp))
    have TX : Hid (f.Txt ∧ s.data.toList = f.doc.text) := ⟨txt, eq⟩
    have zf : w.heap.size < w1.heap.size := RW1.out.lt
    clear txt eq own b1 RE B0 RW0 n1 n2 n3 n4 ln
    go_wp2_with fail
    refine FO.out.mono ?_
    rintro e w2 ⟨a, n, rfl, rel, b2⟩
    have row := RW1.out.of_block (b2.block _ (by simp; omega) |>.trans (BA.out.block _ RW1.out.lt))
    have z0 : w2.cell? ⟨w.heap.size, 0, none⟩ = some (.slice none 0 0) := row.cell (i := 0) (by omega)
    have z1 : w2.cell? ⟨w.heap.size, 1, none⟩ = some (.slice none 0 0) := row.cell (i := 1) (by omega)
    have z2 : w2.cell? ⟨w.heap.size, 2, none⟩ = some (.int .i64 0) := row.cell (i := 2) (by omega)
    have z3 : w2.cell? ⟨w.heap.size, 3, none⟩ = some (.slice none 0 0) := row.cell (i := 3) (by omega)
    have fz : ∀ j, w2.frozen? ⟨w.heap.size, j, none⟩ = false := fun j => row.frozen j
    have zz := row.lt
    have BX : (w1.alloc (.cells #[.slice aC f.n cC, .slice aR f.k cR, .int .i64 f.week, .slice aH f.hol.length cH] 26)).rowIs w1.heap.size 26 4 (f4 (.slice aC f.n cC) (.slice aR f.k cR) (.int .i64 f.week) (.slice aH f.hol.length cH)) :=
      World.rowIs_alloc w1 #[.slice aC f.n cC, .slice aR f.k cR, .int .i64 f.week, .slice aH f.hol.length cH] 26 _ (fun i hi => by
        have : i = 0 ∨ i = 1 ∨ i = 2 ∨ i = 3 := by simp at hi; omega
        rcases this with rfl | rfl | rfl | rfl <;> rfl)
    have rbx := BX.of_block (b2.block _ BX.lt)
    have x0 : w2.cell? ⟨w1.heap.size, 0, none⟩ = some (.slice aC f.n cC) := rbx.cell (i := 0) (by omega)
    have x1 : w2.cell? ⟨w1.heap.size, 1, none⟩ = some (.slice aR f.k cR) := rbx.cell (i := 1) (by omega)
    have x2 : w2.cell? ⟨w1.heap.size, 2, none⟩ = some (.int .i64 f.week) := rbx.cell (i := 2) (by omega)
    have x3 : w2.cell? ⟨w1.heap.size, 3, none⟩ = some (.slice aH f.hol.length cH) := rbx.cell (i := 3) (by omega)
    have zx := rbx.lt
    have B2 : Hid (Below w.heap.size w w2) := B1.out.trans ((BA.out.trans (b2.mono (by simp))).mono (by omega))
    have OW2 := hid (OW.out.keep (w' := w2) (fun g _ hl => (b2.block g (by simp; omega)).trans (BA.out.block g hl)))
    by_cases ha : a = 0
    · subst ha
      have R : Hid (PaP s w (.returned (.tuple #[.agg #[.slice aC f.n cC, .slice aR f.k cR, .int .i64 f.week, .slice aH f.hol.length cH], .int .i64 0, .int .i64 0])) ((((w2.setCell ⟨w.heap.size, 0, none⟩ (.slice aC f.n cC)).setCell ⟨w.heap.size, 1, none⟩ (.slice aR f.k cR)).setCell ⟨w.heap.size, 2, none⟩ (.int .i64 f.week)).setCell ⟨w.heap.size, 3, none⟩ (.slice aH f.hol.length cH))) := by
        obtain ⟨rfl, _⟩ := rel.ok
        refine Or.inl ⟨f, aC, cC, aR, cR, aH, cH, sv, rfl, TX.out.1, TX.out.2, rel, ?_, put4b B2.out _ _ _ _⟩
        refine ((((OW2.out.set _ ?_ _).set _ ?_ _).set _ ?_ _).set _ ?_ _).mono (Nat.le_succ _)
        all_goals exact Nat.lt_succ_self _
      clear rel b2 row BX rbx FO B1 RW1 BA OW TX B2 OW2
      go_wp2
      exact bodyPost_ret (v := .tuple #[.agg #[.slice aC f.n cC, .slice aR f.k cR, .int .i64 f.week, .slice aH f.hol.length cH], .int .i64 0, .int .i64 0]) (by simp [results, Tryz.results7, go_sem, *]) rfl R.out
    · have R : Hid (PaP s w (.returned (.tuple #[.agg #[.slice none 0 0, .slice none 0 0, .int .i64 0, .slice none 0 0], .int .i64 a, .int .i64 n])) ((((w2.setCell ⟨w.heap.size, 0, none⟩ (.slice none 0 0)).setCell ⟨w.heap.size, 1, none⟩ (.slice none 0 0)).setCell ⟨w.heap.size, 2, none⟩ (.int .i64 0)).setCell ⟨w.heap.size, 3, none⟩ (.slice none 0 0))) :=
        Or.inr ⟨a, n, rfl, Or.inr ⟨f, TX.out.1, TX.out.2, rel, ha⟩, put4b B2.out _ _ _ _⟩
      have ne : (a != 0) = true := bne_iff_ne.2 ha
      clear rel b2 row BX rbx FO B1 RW1 BA OW TX B2 OW2 x0 x1 x2 x3
      go_wp2
      exact bodyPost_ret (v := .tuple #[.agg #[.slice none 0 0, .slice none 0 0, .int .i64 0, .slice none 0 0], .int .i64 a, .int .i64 n]) (by simp [results, Tryz.results7, go_sem, *]) rfl R.out
  · have B1 : Hid (Below w.heap.size w w1) := B0.out.trans (b1.mono (by simp))
    have row := RW0.out.of_block (b1.block _ RW0.out.lt)
    have z0 : w1.cell? ⟨w.heap.size, 0, none⟩ = some (.slice none 0 0) := row.cell (i := 0) (by omega)
    have z1 : w1.cell? ⟨w.heap.size, 1, none⟩ = some (.slice none 0 0) := row.cell (i := 1) (by omega)
    have z2 : w1.cell? ⟨w.heap.size, 2, none⟩ = some (.int .i64 0) := row.cell (i := 2) (by omega)
    have z3 : w1.cell? ⟨w.heap.size, 3, none⟩ = some (.slice none 0 0) := row.cell (i := 3) (by omega)
    have fz : ∀ j, w1.frozen? ⟨w.heap.size, j, none⟩ = false := fun j => row.frozen j
    have zz := row.lt
    have R : Hid (∀ W, Below w.heap.size w W → PaP s w (.returned (.tuple #[.agg #[.slice none 0 0, .slice none 0 0, .int .i64 0, .slice none 0 0], .int .i64 12, .int .i64 p])) W) := fun W hW => Or.inr ⟨12, p, rfl, Or.inl ⟨p, no, rfl, rfl⟩, hW⟩
    clear RE B0 RW0 no b1 row
    go_wp2
    exact bodyPost_ret (v := .tuple #[.agg #[.slice none 0 0, .slice none 0 0, .int .i64 0, .slice none 0 0], .int .i64 12, .int .i64 p]) (by simp [results, Tryz.results7, go_sem, *]) rfl (R.out _ ((put4b B1.out _ _ _ _).alloc (by simp; omega) _))

end Go.Proofs.YtmofidaojmiepaaGreatDoor

/-
  THE WALKS: the code's Parse of a text.
-/
set_option linter.unusedVariables false
set_option linter.unusedSimpArgs false
namespace Go.Proofs.YtmofidaojmiepaaGreatDoor

open Go.RowKit

open Go.Lib (itoa decDigits nDigits)

attribute [local go_sem ↓] Go.wp_at_zero Go.wp_at_succ

theorem cells5_congr {C C' : Nat → Cel} {n : Nat} (h : ∀ i, i < n → C i = C' i) : cells5 C n = cells5 C' n := by
  unfold cells5
  refine List.map_congr_left (fun j hj => ?_)
  have hj' : j < n * 5 := List.mem_range.1 hj
  unfold cellf
  rw [h (j / 5) (by omega)]

theorem rules2_congr {R R' : Nat → Rul} {sv : Nat → Value} {n : Nat} (h : ∀ i, i < n → R i = R' i) : rules2 R sv n = rules2 R' sv n := by
  unfold rules2
  refine List.map_congr_left (fun j hj => ?_)
  have hj' : j < n * 2 := List.mem_range.1 hj
  unfold rulV
  rw [h (j / 2) (by omega)]

theorem OF.congr {B : Nat} {w : World} {f g : Frm} {vC vR vH : Value} {sv : Nat → Value} (h : OF B w f vC vR vH sv) (e : f.Same g) : OF B w g vC vR vH sv := by
  refine ⟨?_, ?_, ?_, fun i hi => ?_, fun i hi => h.apart i (by rw [e.k]; exact hi)⟩
  · rw [← e.n, ← cells5_congr e.C]; exact h.cells
  · rw [← e.k, ← rules2_congr e.R]; exact h.rules
  · rw [← e.hol]; exact h.hol
  · have hi' : i < f.k := by rw [e.k]; exact hi
    rw [← e.R i hi']; exact h.steps i hi'

/-- What Read answers of a text. -/
theorem read_text {s : ByteArray} {f : Frm} {w : World} (ht : Tab w) (hs : s.size ≤ 1000000000) (hf : f.Txt) (he : s.data.toList = f.doc.text) :
    Calls Tryz.prog 22 #[.string s] w fun e w' => ∃ (aC : Option Addr) (cC : Nat) (aR : Option Addr) (cR : Nat) (aH : Option Addr) (cH : Nat) (sv : Nat → Value), e = .returned (.tuple #[.agg #[.slice aC f.n cC, .slice aR f.k cR, .int .i64 f.week, .slice aH f.hol.length cH], .int .i64 0, .bool true]) ∧ OF w.heap.size w' f (.slice aC f.n cC) (.slice aR f.k cR) (.slice aH f.hol.length cH) sv ∧ Below w.heap.size w w' := by
  refine (read_any ht hs).mono ?_
  rintro e w' (⟨g, aC, cC, aR, cR, aH, cH, sv, rfl, txt, eq, own, b1⟩ | ⟨p, rfl, no, b1⟩)
  · have sm := txt.inj hf (by rw [← eq, he])
    have own' := own.congr sm
    refine ⟨aC, cC, aR, cR, aH, cH, sv, by rw [sm.n, sm.k, sm.week, sm.hol], ?_, b1⟩
    rw [← sm.n, ← sm.k, ← sm.hol]
    exact own'
  · rw [he, Doc.pl hf.ok] at no
    cases no

/-- What Parse answers of a text. -/
def PtP (f : Frm) (w : World) (e : Ending) (w' : World) : Prop :=
  ∃ a n : Int, f.Rel a n ∧ Below w.heap.size w w' ∧ ((a = 0 ∧ ∃ aC cC aR cR aH cH sv, e = .returned (.tuple #[.agg #[.slice aC f.n cC, .slice aR f.k cR, .int .i64 f.week, .slice aH f.hol.length cH], .int .i64 0, .int .i64 0]) ∧ OF w.heap.size w' f (.slice aC f.n cC) (.slice aR f.k cR) (.slice aH f.hol.length cH) sv) ∨ (a ≠ 0 ∧ e = .returned (.tuple #[.agg #[.slice none 0 0, .slice none 0 0, .int .i64 0, .slice none 0 0], .int .i64 a, .int .i64 n])))

set_option maxRecDepth 100000 in
set_option maxHeartbeats 2000000 in
theorem parse_text {s : ByteArray} {f : Frm} {w : World} (ht : Tab w) (hs : s.size ≤ 1000000000) (hf : f.Txt) (he : s.data.toList = f.doc.text) :
    Calls Tryz.prog 7 #[.string s] w fun e w' => PtP f w e w' := by
  have RW0 : Hid ((w.alloc (.cells #[.slice none 0 0, .slice none 0 0, .int .i64 0, .slice none 0 0] 26)).rowIs w.heap.size 26 4 (f4 (.slice none 0 0) (.slice none 0 0) (.int .i64 0) (.slice none 0 0))) := by
    exact World.rowIs_alloc w #[.slice none 0 0, .slice none 0 0, .int .i64 0, .slice none 0 0] 26 (f4 (.slice none 0 0) (.slice none 0 0) (.int .i64 0) (.slice none 0 0)) (fun i hi => by
      have : i = 0 ∨ i = 1 ∨ i = 2 ∨ i = 3 := by simp at hi; omega
      rcases this with rfl | rfl | rfl | rfl <;> rfl)
  have B0 : Hid (Below w.heap.size w (w.alloc (.cells #[.slice none 0 0, .slice none 0 0, .int .i64 0, .slice none 0 0] 26))) := (Below.refl _ _).alloc (Nat.le_refl _) _
  have RE := hid (read_text (s := s) (ht.below B0.out (Nat.le_refl _)) hs hf he)
  have HT := hid ht
  clear ht
  go_enter Tryz.func7, Tryz.ntmps7
  go_wp2_with fail
  refine RE.out.mono ?_
  rintro e w1 ⟨aC, cC, aR, cR, aH, cH, sv, rfl, own, b1⟩
  · have B1 : Hid (Below w.heap.size w w1) := B0.out.trans (b1.mono (by simp))
    have RW1 := hid (RW0.out.of_block (b1.block _ RW0.out.lt))
    have ln : f.doc.text.length ≤ 1000000000 := by rw [← he]; simpa using hs
    obtain ⟨n1, n2, n3, n4⟩ := f.few
    have fn : f.n ≤ 1000000000 ∧ f.k ≤ 1000000000 ∧ f.hol.length ≤ 1000000000 := by omega
    have BA : Hid (Below w1.heap.size w1 (w1.alloc (.cells #[.slice aC f.n cC, .slice aR f.k cR, .int .i64 f.week, .slice aH f.hol.length cH] 26))) := (Below.refl _ _).alloc (Nat.le_refl _) _
    have FO : Hid (Calls Tryz.prog 20 #[.agg #[.slice aC f.n cC, .slice aR f.k cR, .int .i64 f.week, .slice aH f.hol.length cH]] (w1.alloc (.cells #[.slice aC f.n cC, .slice aR f.k cR, .int .i64 f.week, .slice aH f.hol.length cH] 26)) fun e w' => ChkPost f.C f.n f.R f.k f.week f.hol (w1.alloc (.cells #[.slice aC f.n cC, .slice aR f.k cR, .int .i64 f.week, .slice aH f.hol.length cH] 26)) e w') := by
      obtain ⟨aC', cC', aR', cR', aH', cH', e1, e2, e3, h1, h2, h3⟩ := (own.below BA.out).at (fun i hi => by have := n4 i hi; omega)
      injection e1 with e1 _ _
      injection e2 with e2 _ _
      injection e3 with e3 _ e4
      subst e1 e2 e3 e4
      exact form_any f.C f.R f.hol aC aR aH f.n cC f.k cR cH f.week _ (HT.out.below (B1.out.trans (BA.out.mono (by have := B1.out.size; omega))) (Nat.le_refl _)) fn.1 fn.2.1 fn.2.2 h1 h2 h3
    have OW := hid (own.mono (B' := w.heap.size + 1) (by simp))
    have zf : w.heap.size < w1.heap.size := RW1.out.lt
    clear own b1 RE B0 RW0 n1 n2 n3 n4 ln hf he
    go_wp2_with fail
    refine FO.out.mono ?_
    rintro e w2 ⟨a, n, rfl, rel, b2⟩
    have row := RW1.out.of_block (b2.block _ (by simp; omega) |>.trans (BA.out.block _ RW1.out.lt))
    have z0 : w2.cell? ⟨w.heap.size, 0, none⟩ = some (.slice none 0 0) := row.cell (i := 0) (by omega)
    have z1 : w2.cell? ⟨w.heap.size, 1, none⟩ = some (.slice none 0 0) := row.cell (i := 1) (by omega)
    have z2 : w2.cell? ⟨w.heap.size, 2, none⟩ = some (.int .i64 0) := row.cell (i := 2) (by omega)
    have z3 : w2.cell? ⟨w.heap.size, 3, none⟩ = some (.slice none 0 0) := row.cell (i := 3) (by omega)
    have fz : ∀ j, w2.frozen? ⟨w.heap.size, j, none⟩ = false := fun j => row.frozen j
    have zz := row.lt
    have BX : (w1.alloc (.cells #[.slice aC f.n cC, .slice aR f.k cR, .int .i64 f.week, .slice aH f.hol.length cH] 26)).rowIs w1.heap.size 26 4 (f4 (.slice aC f.n cC) (.slice aR f.k cR) (.int .i64 f.week) (.slice aH f.hol.length cH)) :=
      World.rowIs_alloc w1 #[.slice aC f.n cC, .slice aR f.k cR, .int .i64 f.week, .slice aH f.hol.length cH] 26 _ (fun i hi => by
        have : i = 0 ∨ i = 1 ∨ i = 2 ∨ i = 3 := by simp at hi; omega
        rcases this with rfl | rfl | rfl | rfl <;> rfl)
    have rbx := BX.of_block (b2.block _ BX.lt)
    have x0 : w2.cell? ⟨w1.heap.size, 0, none⟩ = some (.slice aC f.n cC) := rbx.cell (i := 0) (by omega)
    have x1 : w2.cell? ⟨w1.heap.size, 1, none⟩ = some (.slice aR f.k cR) := rbx.cell (i := 1) (by omega)
    have x2 : w2.cell? ⟨w1.heap.size, 2, none⟩ = some (.int .i64 f.week) := rbx.cell (i := 2) (by omega)
    have x3 : w2.cell? ⟨w1.heap.size, 3, none⟩ = some (.slice aH f.hol.length cH) := rbx.cell (i := 3) (by omega)
    have zx := rbx.lt
    have B2 : Hid (Below w.heap.size w w2) := B1.out.trans ((BA.out.trans (b2.mono (by simp))).mono (by omega))
    have OW2 := hid (OW.out.keep (w' := w2) (fun g _ hl => (b2.block g (by simp; omega)).trans (BA.out.block g hl)))
    by_cases ha : a = 0
    · subst ha
      have R : Hid (PtP f w (.returned (.tuple #[.agg #[.slice aC f.n cC, .slice aR f.k cR, .int .i64 f.week, .slice aH f.hol.length cH], .int .i64 0, .int .i64 0])) ((((w2.setCell ⟨w.heap.size, 0, none⟩ (.slice aC f.n cC)).setCell ⟨w.heap.size, 1, none⟩ (.slice aR f.k cR)).setCell ⟨w.heap.size, 2, none⟩ (.int .i64 f.week)).setCell ⟨w.heap.size, 3, none⟩ (.slice aH f.hol.length cH))) := by
        refine ⟨0, n, rel, put4b B2.out _ _ _ _, Or.inl ⟨rfl, aC, cC, aR, cR, aH, cH, sv, rfl, ?_⟩⟩
        refine ((((OW2.out.set _ ?_ _).set _ ?_ _).set _ ?_ _).set _ ?_ _).mono (Nat.le_succ _)
        all_goals exact Nat.lt_succ_self _
      clear rel b2 row BX rbx FO B1 RW1 BA OW B2 OW2
      go_wp2
      exact bodyPost_ret (v := .tuple #[.agg #[.slice aC f.n cC, .slice aR f.k cR, .int .i64 f.week, .slice aH f.hol.length cH], .int .i64 0, .int .i64 0]) (by simp [results, Tryz.results7, go_sem, *]) rfl R.out
    · have R : Hid (PtP f w (.returned (.tuple #[.agg #[.slice none 0 0, .slice none 0 0, .int .i64 0, .slice none 0 0], .int .i64 a, .int .i64 n])) ((((w2.setCell ⟨w.heap.size, 0, none⟩ (.slice none 0 0)).setCell ⟨w.heap.size, 1, none⟩ (.slice none 0 0)).setCell ⟨w.heap.size, 2, none⟩ (.int .i64 0)).setCell ⟨w.heap.size, 3, none⟩ (.slice none 0 0))) :=
        ⟨a, n, rel, put4b B2.out _ _ _ _, Or.inr ⟨ha, rfl⟩⟩
      have ne : (a != 0) = true := bne_iff_ne.2 ha
      clear rel b2 row BX rbx FO B1 RW1 BA OW B2 OW2 x0 x1 x2 x3
      go_wp2
      exact bodyPost_ret (v := .tuple #[.agg #[.slice none 0 0, .slice none 0 0, .int .i64 0, .slice none 0 0], .int .i64 a, .int .i64 n]) (by simp [results, Tryz.results7, go_sem, *]) rfl R.out

end Go.Proofs.YtmofidaojmiepaaGreatDoor
