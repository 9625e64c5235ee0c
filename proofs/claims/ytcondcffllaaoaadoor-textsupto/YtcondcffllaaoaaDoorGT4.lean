/-
  THE LAW: prints.
-/
import Derived.Test.YtcondcffllaaoaaDoorGT3
import Derived.Test.YtcondcffllaaoaaDoorGR3
import Derived.Test.YtcondcffllaaoaaDoorGY12
import Derived.Test.YtcondcffllaaoaaDoorGR12
set_option linter.unusedVariables false
set_option linter.unusedSimpArgs false
namespace Go.Proofs.YtcondcffllaaoaaDoor
open Go.RowKit
attribute [local go_sem ↓] Go.wp_at_zero Go.wp_at_succ

theorem ints_hand {w : World} {b : Nat} {l : List Int} (h : w.rowIs b 3 (l.length + 8) (intSp l)) (cap : Nat) : IntsAt w (.slice (some ⟨b, 0, none⟩) l.length cap) l :=
  ⟨some ⟨b, 0, none⟩, cap, rfl, fun j hj => ⟨b, 0, rfl, h.lt, by
    rw [Nat.zero_add, h.cell (by omega)]
    unfold intSp
    rw [if_pos (by omega)]⟩⟩
theorem cat_hand {w : World} {b n : Nat} {C : Nat → Cel} (h : w.rowIs b 46 ((n + 8) * 5) (cellSt C n 8)) : CAt w (some ⟨b, 0, none⟩) n C :=
  Or.inr ⟨b, 0, rfl, h.lt, fun m hm => by rw [Nat.zero_add]; exact cellSt_cel h hm (by omega)⟩
theorem rat_hand {w : World} {b k : Nat} {R : Nat → Rul} {bs : Nat → Nat} (h : w.rowIs b 44 ((k + 8) * 2) (ruleSt R bs k 8)) (hst : ∀ x, x < k → w.rowIs (bs x) 3 ((R x).steps.length + 8) (intSp (R x).steps)) (hsl : ∀ i, i < k → (R i).steps.length ≤ 1000000000) : RAt w (some ⟨b, 0, none⟩) k R :=
  Or.inr ⟨b, 0, rfl, h.lt, fun m hm => by
    rw [Nat.zero_add]
    refine ⟨?_, some ⟨bs m, 0, none⟩, (R m).steps.length + 8, ?_, ints_hand (hst m hm) _, hsl m hm⟩
    · rw [h.cell (by omega)]
      unfold ruleSt ruleOf
      rw [if_pos (by omega), if_pos (by omega), show m * 2 / 2 = m by omega]
    · rw [h.cell (by omega)]
      unfold ruleSt ruleOf
      rw [if_pos (by omega), if_neg (by omega), show (m * 2 + 1) / 2 = m by omega]⟩

set_option maxRecDepth 100000 in
set_option maxHeartbeats 2000000 in
theorem prints_any (f : Frm) (aC aR aH : Option Addr) (cC cR cH : Nat) (w : World) (ht : Tab w) (hp : Pow w) (hn : f.n ≤ 1000000000) (hk : f.k ≤ 1000000000) (hh : f.hol.length ≤ 1000000000) (hsl : ∀ i, i < f.k → (f.R i).steps.length ≤ 1000000000)
    (h1 : CAt w aC f.n f.C) (h2 : RAt w aR f.k f.R) (h3 : IntsAt w (.slice aH f.hol.length cH) f.hol) :
    Calls Tryd.prog 4 #[.agg #[.slice aC f.n cC, .slice aR f.k cR, .int .i64 f.week, .slice aH f.hol.length cH]] w fun e w' => e = .returned (.bool true) ∧ Below w.heap.size w w' := by
  have B0 : Below w.heap.size w (w.alloc (.cells #[.slice aC f.n cC, .slice aR f.k cR, .int .i64 f.week, .slice aH f.hol.length cH] 26)) := (Below.refl _ _).alloc (Nat.le_refl _) _
  have ST : Hid (∀ W, Below w.heap.size w W → Tab W ∧ Pow W ∧ CAt W aC f.n f.C ∧ RAt W aR f.k f.R ∧ IntsAt W (.slice aH f.hol.length cH) f.hol) := fun W hW => ⟨ht.below hW (Nat.le_refl _), hp.below hW (Nat.le_refl _), h1.below hW, h2.below hW, SlAt.below h3 hW (Nat.le_refl _)⟩
  have BX : Hid (∀ W, Below (w.heap.size + 1) (w.alloc (.cells #[.slice aC f.n cC, .slice aR f.k cR, .int .i64 f.week, .slice aH f.hol.length cH] 26)) W → W.cell? ⟨w.heap.size, 0, none⟩ = some (.slice aC f.n cC) ∧ W.cell? ⟨w.heap.size, 1, none⟩ = some (.slice aR f.k cR) ∧ W.cell? ⟨w.heap.size, 2, none⟩ = some (.int .i64 f.week) ∧ W.cell? ⟨w.heap.size, 3, none⟩ = some (.slice aH f.hol.length cH) ∧ Below w.heap.size w W) := fun W hW =>
    ⟨by have := boxed hW 0; simpa using this, by have := boxed hW 1; simpa using this, by have := boxed hW 2; simpa using this, by have := boxed hW 3; simpa using this, B0.trans (hW.mono (by omega))⟩
  have HD := hid (handed_any f.C f.R f.hol aC aR aH f.n cC f.k cR cH f.week (w.alloc (.cells #[.slice aC f.n cC, .slice aR f.k cR, .int .i64 f.week, .slice aH f.hol.length cH] 26)) hn hk hh (h1.below B0) (h2.below B0) (SlAt.below h3 B0 (Nat.le_refl _)))
  have HSL := hid hsl
  clear ht hp h1 h2 h3 B0 hsl
  go_enter Tryd.func4, Tryd.ntmps4
  go_wp2_with fail
  refine HD.out.mono ?_
  rintro e w2 ⟨bc, br, bh, bs', rfl, p1, p2, p3, p4, p5, p6, p7, hb2⟩
  have B2 : Hid (Below (w.heap.size + 1) (w.alloc (.cells #[.slice aC f.n cC, .slice aR f.k cR, .int .i64 f.week, .slice aH f.hol.length cH] 26)) w2) := hb2.mono (by simp)
  have P4 := hid p4
  have P5 := hid p5
  have P6 := hid p6
  have P7 := hid p7
  obtain ⟨W3, hW3⟩ : ∃ W, w2.alloc (.cells #[.slice (some ⟨bc, 0, none⟩) f.n (f.n + 8), .slice (some ⟨br, 0, none⟩) f.k (f.k + 8), .int .i64 f.week, .slice (some ⟨bh, 0, none⟩) f.hol.length (f.hol.length + 8)] 26) = W := ⟨_, rfl⟩
  have B3 : Hid (Below w2.heap.size w2 W3) := by rw [← hW3]; exact (Below.refl _ _).alloc (Nat.le_refl _) _
  have GX : Hid (∀ W, Below (w2.heap.size + 1) W3 W → W.cell? ⟨w2.heap.size, 0, none⟩ = some (.slice (some ⟨bc, 0, none⟩) f.n (f.n + 8)) ∧ W.cell? ⟨w2.heap.size, 1, none⟩ = some (.slice (some ⟨br, 0, none⟩) f.k (f.k + 8)) ∧ W.cell? ⟨w2.heap.size, 2, none⟩ = some (.int .i64 f.week) ∧ W.cell? ⟨w2.heap.size, 3, none⟩ = some (.slice (some ⟨bh, 0, none⟩) f.hol.length (f.hol.length + 8))) := fun W hW => by
    rw [← hW3] at hW
    exact ⟨by have := boxed hW 0; simpa using this, by have := boxed hW 1; simpa using this, by have := boxed hW 2; simpa using this, by have := boxed hW 3; simpa using this⟩
  have Z3 : Hid (W3.heap.size = w2.heap.size + 1) := by rw [← hW3]; show _ = _; simp
  have PR : Hid (Calls Tryd.prog 7 #[.agg #[.slice (some ⟨bc, 0, none⟩) f.n (f.n + 8), .slice (some ⟨br, 0, none⟩) f.k (f.k + 8), .int .i64 f.week, .slice (some ⟨bh, 0, none⟩) f.hol.length (f.hol.length + 8)]] W3 fun e w' => PrP f W3 e w') := by
    obtain ⟨q1, q2, _⟩ := ST.out W3 ((BX.out _ B2.out).2.2.2.2.trans (B3.out.mono (BX.out _ B2.out).2.2.2.2.size))
    exact print_any f (some ⟨bc, 0, none⟩) (f.n + 8) (some ⟨br, 0, none⟩) (f.k + 8) (some ⟨bh, 0, none⟩) (f.hol.length + 8) W3 q1 q2 hn hk hh ((cat_hand p5).below B3.out) ((rat_hand p6 (fun x hx => (p4 x hx).2.2) HSL.out).below B3.out) (SlAt.below (ints_hand p7 _) B3.out (Nat.le_refl _))
  have s2 : w.heap.size + 1 ≤ w2.heap.size := by have := B2.out.size; simpa using this
  obtain ⟨y0, y1, y2, y3⟩ := GX.out W3 (Below.refl _ _)
  have zW : w2.heap.size < W3.heap.size := by have := Z3.out; omega
  clear p4 p5 p6 p7 hb2 HD
  go_wp2_with fail
  refine PR.out.mono ?_
  rintro e w4 ⟨a, n, t, rfl, rel, tz, tn, b4⟩
  have D4 : Hid (Below w2.heap.size w2 w4) := B3.out.trans (b4.mono B3.out.size)
  have B4 : Hid (Below (w.heap.size + 1) (w.alloc (.cells #[.slice aC f.n cC, .slice aR f.k cR, .int .i64 f.week, .slice aH f.hol.length cH] 26)) w4) := B2.out.trans (D4.out.mono s2)
  have G4 : Hid (Below (w2.heap.size + 1) W3 w4) := b4.mono (by rw [Z3.out]; exact Nat.le_refl _)
  obtain ⟨f0, f1, f2, f3, bw4⟩ := BX.out _ B4.out
  obtain ⟨g0, g1, g2, g3⟩ := GX.out _ G4.out
  obtain ⟨_, _, s1', s2', s3'⟩ := ST.out w4 bw4
  have STILL := hid (still_any f.C f.R f.hol aC aR aH f.n cC f.k cR cH bc br bh bs' f.week w4 hn hk hh s1' s2' s3' (P5.out.of_block (D4.out.block _ P5.out.lt)) (P6.out.of_block (D4.out.block _ P6.out.lt)) (P7.out.of_block (D4.out.block _ P7.out.lt)) (fun x hx => (P4.out x hx).2.2.of_block (D4.out.block _ (P4.out x hx).2.2.lt)))
  have REL := hid rel
  have TZ : Hid ((a = 0 → t = f.doc.text) ∧ (a ≠ 0 → t = [])) := ⟨tz, tn⟩
  have BW4 := hid bw4
  have zz : w.heap.size < w4.heap.size := by have := B4.out.size; simp at this; omega
  have zz2 : w2.heap.size < w4.heap.size := by have := G4.out.size; have := Z3.out; omega
  clear rel tz tn b4 PR s1' s2' s3' bw4 P4 P5 P6 P7 y0 y1 y2 y3 hW3
  go_wp2_with fail
  refine STILL.out.mono ?_
  rintro e w5 ⟨rfl, b5⟩
  have B5 : Hid (Below (w.heap.size + 1) (w.alloc (.cells #[.slice aC f.n cC, .slice aR f.k cR, .int .i64 f.week, .slice aH f.hol.length cH] 26)) w5) := B4.out.trans (b5.mono (by have := B4.out.size; simpa using this))
  obtain ⟨h0, h1, h2, h3, bw5⟩ := BX.out _ B5.out
  obtain ⟨_, _, s1', s2', s3'⟩ := ST.out w5 bw5
  have RP := hid (rprint_any f aC cC aR cR aH cH w5 hn hk hh s1' s2' s3')
  have BW5 := hid bw5
  clear s1' s2' s3' bw5 b5 STILL f0 f1 f2 f3 g0 g1 g2 g3 G4 D4 B4 GX
  go_wp2_with fail
  refine RP.out.mono ?_
  rintro e w6 ⟨a', n', t', rfl, rel', tz', tn', b6⟩
  obtain ⟨ea, _⟩ := ChkRel.unique REL.out rel'
  subst ea
  have et : t = t' := by
    by_cases h : a = 0
    · rw [TZ.out.1 h, tz' h]
    · rw [TZ.out.2 h, tn' h]
  subst et
  have R : Hid (Below w.heap.size w w6) := BW5.out.trans (b6.mono BW5.out.size)
  have NM := hid (num_any a w6)
  have ee : (a == a) = true := by simp
  clear rel' tz' tn' b6 RP REL TZ h0 h1 h2 h3
  go_wp2_with fail
  refine NM.out.mono ?_
  rintro e w7 ⟨rfl, hw7⟩
  obtain rfl : w6 = w7 := hw7.symm
  clear hw7
  go_wp2
  go_ret
  exact ⟨rfl, R.out⟩

end Go.Proofs.YtcondcffllaaoaaDoor

/-
  THE LAW: parses, where a form comes out.
-/
set_option linter.unusedVariables false
set_option linter.unusedSimpArgs false
namespace Go.Proofs.YtcondcffllaaoaaDoor
open Go.RowKit
attribute [local go_sem ↓] Go.wp_at_zero Go.wp_at_succ

theorem Tab.stay {w w' : World} (h : Tab w) (hs : w.heap.size ≤ w'.heap.size) (hb : w'.heap[0]? = w.heap[0]?) : Tab w' := by
  refine ⟨by have := h.1; omega, fun i hi => ?_⟩
  have := h.2 i hi
  unfold World.cell? at this ⊢
  rw [hb]
  exact this

theorem mine_lt {B : Nat} {w : World} {f : Frm} {vC vR vH : Value} {sv : Nat → Value} (h : OF B w f vC vR vH sv) {b : Nat} (hb : Mine vC vR vH sv f.k b) : B ≤ b ∧ b < w.heap.size := by
  rcases hb with hb | hb | hb | ⟨i, hi, hb⟩
  · exact ⟨own_base h.cells hb, own_ltT h.cells hb⟩
  · exact ⟨own_base h.rules hb, own_ltT h.rules hb⟩
  · exact ⟨own_base h.hol hb, own_ltT h.hol hb⟩
  · exact ⟨own_base (h.steps i hi) hb, own_ltT (h.steps i hi) hb⟩

theorem box_row (w : World) (a b c d : Value) : (w.alloc (.cells #[a, b, c, d] 26)).rowIs w.heap.size 26 4 (f4 a b c d) := World.rowIs_alloc w #[a, b, c, d] 26 _ (fun i hi => by
  have : i = 0 ∨ i = 1 ∨ i = 2 ∨ i = 3 := by simp at hi; omega
  rcases this with rfl | rfl | rfl | rfl <;> rfl)

set_option maxRecDepth 100000 in
set_option maxHeartbeats 4000000 in
theorem parses_any (s : ByteArray) (w : World) (ht : Tab w) (hs : s.size ≤ 1000000000) :
    Calls Tryd.prog 5 #[.string s] w fun e w' => e = .returned (.bool true) ∧ Below w.heap.size w w' := by
  have HT := hid ht
  have w0 : 0 < w.heap.size := ht.1
  have PA := hid (parse_any (s := s) ht hs)
  clear ht
  go_enter Tryd.func5, Tryd.ntmps5
  go_wp2_with fail
  refine PA.out.mono ?_
  rintro e w1 (⟨f, aC, cC, aR, cR, aH, cH, sv, rfl, txt, eq, rel, own, b1⟩ | ⟨a, n, rfl, cs, b1⟩)
  · have ln : f.doc.text.length ≤ 1000000000 := by rw [← eq]; simpa using hs
    obtain ⟨n1, n2, n3, n4⟩ := f.few
    have fn : f.n ≤ 1000000000 := by omega
    have fk : f.k ≤ 1000000000 := by omega
    have fh : f.hol.length ≤ 1000000000 := by omega
    have FSO : Hid (∀ i, i < f.k → (f.R i).steps.length ≤ 1000000000) := fun i hi => by have := n4 i hi; omega
    have REF : Hid (∀ W, Calls Tryd.prog 12 #[.string s] W fun e w' => ∃ aC cC aR cR aH cH, e = .returned (.tuple #[.agg #[.slice aC f.n cC, .slice aR f.k cR, .int .i64 f.week, .slice aH f.hol.length cH], .int .i64 0, .int .i64 0]) ∧ FHeld W.heap.size w' f aC aR aH cH ∧ Below W.heap.size W w') := fun W => by
      refine (rparse_text hs txt eq).mono ?_
      rintro e w' ⟨a, n, rel', bel, h | ⟨ha, _⟩⟩
      · obtain ⟨_, aC, cC, aR, cR, aH, cH, e1, held⟩ := h
        exact ⟨aC, cC, aR, cR, aH, cH, e1, held, bel⟩
      · exact absurd (ChkRel.unique rel' rel).1 ha
    have SEC : Hid (∀ W, Tab W → Calls Tryd.prog 11 #[.string s] W fun e w' => ∃ aC cC aR cR aH cH, e = .returned (.tuple #[.agg #[.slice aC f.n cC, .slice aR f.k cR, .int .i64 f.week, .slice aH f.hol.length cH], .int .i64 0, .int .i64 0]) ∧ CAt w' aC f.n f.C ∧ RAt w' aR f.k f.R ∧ IntsAt w' (.slice aH f.hol.length cH) f.hol ∧ Below W.heap.size W w') := fun W hW => by
      refine (parse_text hW hs txt eq).mono ?_
      rintro e w' ⟨a, n, rel', bel, h | ⟨ha, _⟩⟩
      · obtain ⟨_, aC, cC, aR, cR, aH, cH, sv, e1, own⟩ := h
        obtain ⟨aC', cC', aR', cR', aH', cH', e2, e3, e4, h1, h2, h3⟩ := own.at FSO.out
        injection e2 with e2 _ _
        injection e3 with e3 _ _
        injection e4 with e4 _ e5
        subst e2 e3 e4 e5
        exact ⟨aC, cC, aR, cR, aH, cH, e1, h1, h2, h3, bel⟩
      · exact absurd (ChkRel.unique rel' rel).1 ha
    obtain ⟨W1, hW1⟩ : ∃ W, w1.alloc (.cells #[.slice aC f.n cC, .slice aR f.k cR, .int .i64 f.week, .slice aH f.hol.length cH] 26) = W := ⟨_, rfl⟩
    have R1 : Hid (W1.rowIs w1.heap.size 26 4 (f4 (.slice aC f.n cC) (.slice aR f.k cR) (.int .i64 f.week) (.slice aH f.hol.length cH))) := by rw [← hW1]; exact box_row _ _ _ _ _
    have B1 : Hid (Below w1.heap.size w1 W1) := by rw [← hW1]; exact (Below.refl _ _).alloc (Nat.le_refl _) _
    have OW := hid own
    have BW := hid b1
    clear txt eq rel own b1 n1 n2 n3 n4 ln PA
    go_wp2_with fail
    refine (REF.out _).mono ?_
    clear REF
    rintro e w2 ⟨aC', cC', aR', cR', aH', cH', rfl, held, b2⟩
    obtain ⟨W2, hW2⟩ : ∃ W, w2.alloc (.cells #[.slice aC' f.n cC', .slice aR' f.k cR', .int .i64 f.week, .slice aH' f.hol.length cH'] 26) = W := ⟨_, rfl⟩
    have R2 : Hid (W2.rowIs w2.heap.size 26 4 (f4 (.slice aC' f.n cC') (.slice aR' f.k cR') (.int .i64 f.week) (.slice aH' f.hol.length cH'))) := by rw [← hW2]; exact box_row _ _ _ _ _
    have B2 : Hid (Below w2.heap.size w2 W2) := by rw [← hW2]; exact (Below.refl _ _).alloc (Nat.le_refl _) _
    have B12 : Hid (Below w1.heap.size w1 W2) := B1.out.trans ((b2.trans (B2.out.mono b2.size)).mono B1.out.size)
    have HE := hid held
    have z1 : w1.heap.size < W1.heap.size := R1.out.lt
    have z2 : W1.heap.size ≤ w2.heap.size := b2.size
    have z3 : w2.heap.size < W2.heap.size := R2.out.lt
    have x0 : W2.cell? ⟨w2.heap.size, 0, none⟩ = some (.slice aC' f.n cC') := R2.out.cell (i := 0) (by omega)
    have x1 : W2.cell? ⟨w2.heap.size, 1, none⟩ = some (.slice aR' f.k cR') := R2.out.cell (i := 1) (by omega)
    have x2 : W2.cell? ⟨w2.heap.size, 2, none⟩ = some (.int .i64 f.week) := R2.out.cell (i := 2) (by omega)
    have x3 : W2.cell? ⟨w2.heap.size, 3, none⟩ = some (.slice aH' f.hol.length cH') := R2.out.cell (i := 3) (by omega)
    have R12 := hid (R1.out.of_block ((B2.out.block _ (by omega)).trans (b2.block _ z1)))
    have y0 : W2.cell? ⟨w1.heap.size, 0, none⟩ = some (.slice aC f.n cC) := R12.out.cell (i := 0) (by omega)
    have y1 : W2.cell? ⟨w1.heap.size, 1, none⟩ = some (.slice aR f.k cR) := R12.out.cell (i := 1) (by omega)
    have y2 : W2.cell? ⟨w1.heap.size, 2, none⟩ = some (.int .i64 f.week) := R12.out.cell (i := 2) (by omega)
    have y3 : W2.cell? ⟨w1.heap.size, 3, none⟩ = some (.slice aH f.hol.length cH) := R12.out.cell (i := 3) (by omega)
    have SF : Hid (Calls Tryd.prog 13 #[.agg #[.slice aC f.n cC, .slice aR f.k cR, .int .i64 f.week, .slice aH f.hol.length cH], .agg #[.slice aC' f.n cC', .slice aR' f.k cR', .int .i64 f.week, .slice aH' f.hol.length cH']] W2 fun e w' => e = .returned (.bool true) ∧ Below W2.heap.size W2 w') := by
      obtain ⟨aC2, cC2, aR2, cR2, aH2, cH2, e2, e3, e4, h1, h2, h3⟩ := (OW.out.below B12.out).at FSO.out
      injection e2 with e2 _ _
      injection e3 with e3 _ _
      injection e4 with e4 _ e5
      subst e2 e3 e4 e5
      obtain ⟨k1, k2, k3⟩ := HE.out W2 (by have := B2.out.size; omega) (fun b _ hb => B2.out.block b hb)
      exact sameForm_any f aC aR aH aC' aR' aH' cC cR cH cC' cR' cH' W2 fn fk fh h1 h2 h3 k1 k2 k3
    clear held b2 R1 B1
    go_wp2_with fail
    refine SF.out.mono ?_
    clear SF
    rintro e w3 ⟨rfl, b3⟩
    have z4 : W2.heap.size ≤ w3.heap.size := b3.size
    have OW3 := hid (OW.out.below (B12.out.trans (b3.mono B12.out.size)))
    have R13 := hid (R12.out.of_block (b3.block _ (by omega)))
    have R23 := hid (R2.out.of_block (b3.block _ z3))
    have NM := hid (num_any 0 w3)
    have SP := hid (spoil_any OW3.out fk)
    have B3 := hid b3
    have v0 : w3.cell? ⟨w1.heap.size, 0, none⟩ = some (.slice aC f.n cC) := R13.out.cell (i := 0) (by omega)
    have v1 : w3.cell? ⟨w1.heap.size, 1, none⟩ = some (.slice aR f.k cR) := R13.out.cell (i := 1) (by omega)
    have v2 : w3.cell? ⟨w1.heap.size, 2, none⟩ = some (.int .i64 f.week) := R13.out.cell (i := 2) (by omega)
    have v3 : w3.cell? ⟨w1.heap.size, 3, none⟩ = some (.slice aH f.hol.length cH) := R13.out.cell (i := 3) (by omega)
    clear b3 x0 x1 x2 x3 y0 y1 y2 y3 hW1 hW2 R12 R2
    go_wp2_with fail
    refine NM.out.mono ?_
    rintro e w3' ⟨rfl, hw3⟩
    obtain rfl : w3 = w3' := hw3.symm
    clear hw3 NM
    go_wp2_with fail
    refine SP.out.mono ?_
    rintro e w4 ⟨rfl, c4⟩
    have z5 : w3.heap.size ≤ w4.heap.size := c4.size
    have ML : Hid (∀ b, Mine (.slice aC f.n cC) (.slice aR f.k cR) (.slice aH f.hol.length cH) sv f.k b → w.heap.size ≤ b ∧ b < w1.heap.size) := fun b hb => mine_lt OW.out hb
    have BW3 : Hid (Below w.heap.size w w3) := BW.out.trans ((B12.out.trans (B3.out.mono B12.out.size)).mono BW.out.size)
    have BW4 : Hid (Below w.heap.size w w4) := ⟨c4.os.trans BW3.out.os, c4.tape.trans BW3.out.tape, c4.output.trans BW3.out.output, by have := BW3.out.size; omega, fun j hj => (c4.block j (by have := BW3.out.size; omega) (fun e => by have := (ML.out j e).1; omega)).trans (BW3.out.block j hj)⟩
    have HI : Hid (∀ b, w1.heap.size ≤ b → b < w3.heap.size → w4.heap[b]? = w3.heap[b]?) := fun b h1 h2 => c4.block b h2 (fun e => by have := (ML.out b e).2; omega)
    have S2 := hid (SEC.out w4 (HT.out.below BW4.out (Nat.le_refl _)))
    have R24 := hid (R23.out.of_block (HI.out _ (by omega) R23.out.lt))
    clear c4 SP v0 v1 v2 v3 SEC R13 R23 OW3
    go_wp2_with fail
    refine S2.out.mono ?_
    rintro e w5 ⟨aC5, cC5, aR5, cR5, aH5, cH5, rfl, h1, h2, h3, b5⟩
    obtain ⟨W5, hW5⟩ : ∃ W, w5.alloc (.cells #[.slice aC5 f.n cC5, .slice aR5 f.k cR5, .int .i64 f.week, .slice aH5 f.hol.length cH5] 26) = W := ⟨_, rfl⟩
    have R5 : Hid (W5.rowIs w5.heap.size 26 4 (f4 (.slice aC5 f.n cC5) (.slice aR5 f.k cR5) (.int .i64 f.week) (.slice aH5 f.hol.length cH5))) := by rw [← hW5]; exact box_row _ _ _ _ _
    have B5 : Hid (Below w5.heap.size w5 W5) := by rw [← hW5]; exact (Below.refl _ _).alloc (Nat.le_refl _) _
    have B45 : Hid (Below w4.heap.size w4 W5) := b5.trans (B5.out.mono b5.size)
    have z6 : w4.heap.size ≤ w5.heap.size := b5.size
    have R25 := hid (R24.out.of_block (B45.out.block _ R24.out.lt))
    have x0 : W5.cell? ⟨w5.heap.size, 0, none⟩ = some (.slice aC5 f.n cC5) := R5.out.cell (i := 0) (by omega)
    have x1 : W5.cell? ⟨w5.heap.size, 1, none⟩ = some (.slice aR5 f.k cR5) := R5.out.cell (i := 1) (by omega)
    have x2 : W5.cell? ⟨w5.heap.size, 2, none⟩ = some (.int .i64 f.week) := R5.out.cell (i := 2) (by omega)
    have x3 : W5.cell? ⟨w5.heap.size, 3, none⟩ = some (.slice aH5 f.hol.length cH5) := R5.out.cell (i := 3) (by omega)
    have y0 : W5.cell? ⟨w2.heap.size, 0, none⟩ = some (.slice aC' f.n cC') := R25.out.cell (i := 0) (by omega)
    have y1 : W5.cell? ⟨w2.heap.size, 1, none⟩ = some (.slice aR' f.k cR') := R25.out.cell (i := 1) (by omega)
    have y2 : W5.cell? ⟨w2.heap.size, 2, none⟩ = some (.int .i64 f.week) := R25.out.cell (i := 2) (by omega)
    have y3 : W5.cell? ⟨w2.heap.size, 3, none⟩ = some (.slice aH' f.hol.length cH') := R25.out.cell (i := 3) (by omega)
    have zx : w5.heap.size < W5.heap.size := R5.out.lt
    have SF2 : Hid (Calls Tryd.prog 13 #[.agg #[.slice aC5 f.n cC5, .slice aR5 f.k cR5, .int .i64 f.week, .slice aH5 f.hol.length cH5], .agg #[.slice aC' f.n cC', .slice aR' f.k cR', .int .i64 f.week, .slice aH' f.hol.length cH']] W5 fun e w' => e = .returned (.bool true) ∧ Below W5.heap.size W5 w') := by
      obtain ⟨k1, k2, k3⟩ := HE.out W5 (by omega) (fun b hb hlt => by
        rw [B45.out.block b (by omega), HI.out b (by omega) (by omega), B3.out.block b (by omega), B2.out.block b hlt])
      exact sameForm_any f aC5 aR5 aH5 aC' aR' aH' cC5 cR5 cH5 cC' cR' cH' W5 fn fk fh (h1.below B5.out) (h2.below B5.out) (SlAt.below h3 B5.out (Nat.le_refl _)) k1 k2 k3
    have BW5 : Hid (Below w.heap.size w W5) := BW4.out.trans (B45.out.mono BW4.out.size)
    clear h1 h2 h3 b5 S2 R5 R25 R24
    go_wp2_with fail
    refine SF2.out.mono ?_
    rintro e w6 ⟨rfl, b6⟩
    have R : Hid (Below w.heap.size w w6) := BW5.out.trans (b6.mono BW5.out.size)
    clear b6 SF2 x0 x1 x2 x3 y0 y1 y2 y3 hW5
    go_wp2
    go_ret
    exact ⟨rfl, R.out⟩
  · have REF : Hid (∀ W, Calls Tryd.prog 12 #[.string s] W fun e w' => e = .returned (.tuple #[.agg #[.slice none 0 0, .slice none 0 0, .int .i64 0, .slice none 0 0], .int .i64 a, .int .i64 n]) ∧ Below W.heap.size W w') := fun W => by
      rcases cs with ⟨p, hp, rfl, rfl⟩ | ⟨f, txt, eq, rel, ha⟩
      · exact rparse_no hs hp
      · refine (rparse_text hs txt eq).mono ?_
        rintro e w' ⟨a', n', rel', bel, h | ⟨_, h⟩⟩
        · exact absurd ((ChkRel.unique rel rel').1.trans h.1) ha
        · obtain ⟨q1, q2⟩ := ChkRel.unique rel rel'
          exact ⟨by rw [h, q1, q2], bel⟩
    have SEC : Hid (∀ W, Tab W → Calls Tryd.prog 11 #[.string s] W fun e w' => e = .returned (.tuple #[.agg #[.slice none 0 0, .slice none 0 0, .int .i64 0, .slice none 0 0], .int .i64 a, .int .i64 n]) ∧ Below W.heap.size W w') := fun W hW => by
      rcases cs with ⟨p, hp, rfl, rfl⟩ | ⟨f, txt, eq, rel, ha⟩
      · refine (parse_any hW hs).mono ?_
        rintro e w' (⟨f, aC, cC, aR, cR, aH, cH, sv, rfl, txt, eq, rel, own, b1⟩ | ⟨a, n, rfl, cs, b1⟩)
        · rw [eq, Doc.pl txt.ok] at hp
          cases hp
        · rcases cs with ⟨p', hp', rfl, rfl⟩ | ⟨f, txt, eq, rel, ha⟩
          · rw [hp] at hp'
            obtain rfl := Option.some.inj hp'
            exact ⟨rfl, b1⟩
          · rw [eq, Doc.pl txt.ok] at hp
            cases hp
      · refine (parse_text hW hs txt eq).mono ?_
        rintro e w' ⟨a', n', rel', bel, h | ⟨_, h⟩⟩
        · exact absurd ((ChkRel.unique rel rel').1.trans h.1) ha
        · obtain ⟨q1, q2⟩ := ChkRel.unique rel rel'
          exact ⟨by rw [h, q1, q2], bel⟩
    have SF : Hid (∀ W, Calls Tryd.prog 13 #[.agg #[.slice none 0 0, .slice none 0 0, .int .i64 0, .slice none 0 0], .agg #[.slice none 0 0, .slice none 0 0, .int .i64 0, .slice none 0 0]] W fun e w' => e = .returned (.bool true) ∧ Below W.heap.size W w') := fun W =>
      sameForm_any (frm0 0 []) none none none none none none 0 0 0 0 0 0 W (by show 0 ≤ _; omega) (by show 0 ≤ _; omega) (by show 0 ≤ _; omega) (Or.inl rfl) (Or.inl rfl) ⟨none, 0, rfl, fun j hj => by simp [frm0] at hj⟩ (Or.inl rfl) (Or.inl rfl) ⟨none, 0, rfl, fun j hj => by simp [frm0] at hj⟩
    have SP : Hid (∀ W, Calls Tryd.prog 14 #[.agg #[.slice none 0 0, .slice none 0 0, .int .i64 0, .slice none 0 0]] W fun e w' => e = .returned (.bool true) ∧ Below W.heap.size W w') := fun W => by
      have := spoil_any (B := W.heap.size) (w := W) (f := frm0 0 []) (aC := none) (aR := none) (aH := none) (cC := 0) (cR := 0) (cH := 0) (sv := fun _ => .slice none 0 0) (OF.start (own_nil _ _ _ _)) (by show 0 ≤ _; omega)
      refine this.mono ?_
      rintro e w' ⟨rfl, c⟩
      refine ⟨rfl, c.os, c.tape, c.output, c.size, fun j hj => c.block j hj (fun e => ?_)⟩
      rcases e with e | e | e | ⟨i, hi, e⟩
      · cases e
      · cases e
      · cases e
      · simp [frm0] at hi
    have NM := hid (num_any a)
    have ta : (a != a) = false := by simp
    have tn : (n != n) = false := by simp
    go_upto_region 2 with (fail)
    obtain ⟨W1, hW1⟩ : ∃ W, w1.alloc (.cells #[.slice none 0 0, .slice none 0 0, .int .i64 0, .slice none 0 0] 26) = W := ⟨_, rfl⟩
    rw [hW1]
    have R1 : Hid (W1.rowIs w1.heap.size 26 4 (f4 (.slice none 0 0) (.slice none 0 0) (.int .i64 0) (.slice none 0 0))) := by rw [← hW1]; exact box_row _ _ _ _ _
    have B1 : Hid (Below w1.heap.size w1 W1) := by rw [← hW1]; exact (Below.refl _ _).alloc (Nat.le_refl _) _
    have BW1 : Hid (Below w.heap.size w W1) := b1.trans (B1.out.mono b1.size)
    clear cs b1 PA B1 hW1
    go_wp2_with fail
    refine (REF.out _).mono ?_
    clear REF
    rintro e w2 ⟨rfl, b2⟩
    go_upto_region 3 with (fail)
    obtain ⟨W2, hW2⟩ : ∃ W, w2.alloc (.cells #[.slice none 0 0, .slice none 0 0, .int .i64 0, .slice none 0 0] 26) = W := ⟨_, rfl⟩
    rw [hW2]
    have R2 : Hid (W2.rowIs w2.heap.size 26 4 (f4 (.slice none 0 0) (.slice none 0 0) (.int .i64 0) (.slice none 0 0))) := by rw [← hW2]; exact box_row _ _ _ _ _
    have B2 : Hid (Below W1.heap.size W1 W2) := by
      rw [← hW2]
      exact b2.trans (((Below.refl _ _).alloc (Nat.le_refl _) _).mono b2.size)
    have R12 := hid (R1.out.of_block (B2.out.block _ R1.out.lt))
    have BW2 : Hid (Below w.heap.size w W2) := BW1.out.trans (B2.out.mono BW1.out.size)
    have x0 : W2.cell? ⟨w2.heap.size, 0, none⟩ = some (.slice none 0 0) := R2.out.cell (i := 0) (by omega)
    have x1 : W2.cell? ⟨w2.heap.size, 1, none⟩ = some (.slice none 0 0) := R2.out.cell (i := 1) (by omega)
    have x2 : W2.cell? ⟨w2.heap.size, 2, none⟩ = some (.int .i64 0) := R2.out.cell (i := 2) (by omega)
    have x3 : W2.cell? ⟨w2.heap.size, 3, none⟩ = some (.slice none 0 0) := R2.out.cell (i := 3) (by omega)
    have y0 : W2.cell? ⟨w1.heap.size, 0, none⟩ = some (.slice none 0 0) := R12.out.cell (i := 0) (by omega)
    have y1 : W2.cell? ⟨w1.heap.size, 1, none⟩ = some (.slice none 0 0) := R12.out.cell (i := 1) (by omega)
    have y2 : W2.cell? ⟨w1.heap.size, 2, none⟩ = some (.int .i64 0) := R12.out.cell (i := 2) (by omega)
    have y3 : W2.cell? ⟨w1.heap.size, 3, none⟩ = some (.slice none 0 0) := R12.out.cell (i := 3) (by omega)
    have zx := R2.out.lt
    have zy := R12.out.lt
    clear b2 R1 BW1 B2 hW2
    go_wp2_with fail
    refine (SF.out _).mono ?_
    rintro e w3 ⟨rfl, b3⟩
    have R13 := hid (R12.out.of_block (b3.block _ R12.out.lt))
    have R23 := hid (R2.out.of_block (b3.block _ R2.out.lt))
    have BW3 : Hid (Below w.heap.size w w3) := BW2.out.trans (b3.mono BW2.out.size)
    clear b3 x0 x1 x2 x3 y0 y1 y2 y3 R12 R2 BW2
    have v0 : w3.cell? ⟨w1.heap.size, 0, none⟩ = some (.slice none 0 0) := R13.out.cell (i := 0) (by omega)
    have v1 : w3.cell? ⟨w1.heap.size, 1, none⟩ = some (.slice none 0 0) := R13.out.cell (i := 1) (by omega)
    have v2 : w3.cell? ⟨w1.heap.size, 2, none⟩ = some (.int .i64 0) := R13.out.cell (i := 2) (by omega)
    have v3 : w3.cell? ⟨w1.heap.size, 3, none⟩ = some (.slice none 0 0) := R13.out.cell (i := 3) (by omega)
    have zy3 := R13.out.lt
    go_wp2_with fail
    refine (NM.out _).mono ?_
    rintro e w3' ⟨rfl, hw3⟩
    obtain rfl : w3 = w3' := hw3.symm
    clear hw3 NM
    go_wp2_with fail
    refine (SP.out _).mono ?_
    rintro e w4 ⟨rfl, b4⟩
    have R24 := hid (R23.out.of_block (b4.block _ R23.out.lt))
    have BW4 : Hid (Below w.heap.size w w4) := BW3.out.trans (b4.mono BW3.out.size)
    have S2 := hid (SEC.out w4 (HT.out.below BW4.out (Nat.le_refl _)))
    clear b4 SP v0 v1 v2 v3 SEC R13 R23 BW3
    go_wp2_with fail
    refine S2.out.mono ?_
    rintro e w5 ⟨rfl, b5⟩
    go_upto_region 8 with (fail)
    obtain ⟨W5, hW5⟩ : ∃ W, w5.alloc (.cells #[.slice none 0 0, .slice none 0 0, .int .i64 0, .slice none 0 0] 26) = W := ⟨_, rfl⟩
    rw [hW5]
    have R5 : Hid (W5.rowIs w5.heap.size 26 4 (f4 (.slice none 0 0) (.slice none 0 0) (.int .i64 0) (.slice none 0 0))) := by rw [← hW5]; exact box_row _ _ _ _ _
    have B5 : Hid (Below w4.heap.size w4 W5) := by
      rw [← hW5]
      exact b5.trans (((Below.refl _ _).alloc (Nat.le_refl _) _).mono b5.size)
    have R25 := hid (R24.out.of_block (B5.out.block _ R24.out.lt))
    have BW5 : Hid (Below w.heap.size w W5) := BW4.out.trans (B5.out.mono BW4.out.size)
    have x0 : W5.cell? ⟨w5.heap.size, 0, none⟩ = some (.slice none 0 0) := R5.out.cell (i := 0) (by omega)
    have x1 : W5.cell? ⟨w5.heap.size, 1, none⟩ = some (.slice none 0 0) := R5.out.cell (i := 1) (by omega)
    have x2 : W5.cell? ⟨w5.heap.size, 2, none⟩ = some (.int .i64 0) := R5.out.cell (i := 2) (by omega)
    have x3 : W5.cell? ⟨w5.heap.size, 3, none⟩ = some (.slice none 0 0) := R5.out.cell (i := 3) (by omega)
    have y0 : W5.cell? ⟨w2.heap.size, 0, none⟩ = some (.slice none 0 0) := R25.out.cell (i := 0) (by omega)
    have y1 : W5.cell? ⟨w2.heap.size, 1, none⟩ = some (.slice none 0 0) := R25.out.cell (i := 1) (by omega)
    have y2 : W5.cell? ⟨w2.heap.size, 2, none⟩ = some (.int .i64 0) := R25.out.cell (i := 2) (by omega)
    have y3 : W5.cell? ⟨w2.heap.size, 3, none⟩ = some (.slice none 0 0) := R25.out.cell (i := 3) (by omega)
    have zx5 := R5.out.lt
    have zy5 := R25.out.lt
    clear b5 S2 R5 R25 R24 B5 BW4 hW5
    go_wp2_with fail
    refine (SF.out _).mono ?_
    rintro e w6 ⟨rfl, b6⟩
    have R : Hid (Below w.heap.size w w6) := BW5.out.trans (b6.mono BW5.out.size)
    clear b6 SF x0 x1 x2 x3 y0 y1 y2 y3
    go_wp2
    go_ret
    exact ⟨rfl, R.out⟩

end Go.Proofs.YtcondcffllaaoaaDoor
