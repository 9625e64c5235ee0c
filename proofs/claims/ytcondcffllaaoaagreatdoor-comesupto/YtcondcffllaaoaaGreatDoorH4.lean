/-
  MEMORY: what was handed in is written over.
-/
import Derived.Test.YtcondcffllaaoaaGreatDoorH3
set_option linter.unusedVariables false
set_option linter.unusedSimpArgs false
namespace Go.Proofs.YtcondcffllaaoaaGreatDoor
open Go.RowKit

/-- Only blocks from lo on and below hi, and new ones, have turned. -/
structure Rng (lo hi : Nat) (w w' : World) : Prop where
  bel : Below lo w w'
  up : ∀ k, hi ≤ k → k < w.heap.size → w'.heap[k]? = w.heap[k]?

theorem Rng.refl (lo hi : Nat) (w : World) : Rng lo hi w w := ⟨Below.refl _ _, fun _ _ _ => rfl⟩
theorem Rng.trans {lo hi : Nat} {a b c : World} (h : Rng lo hi a b) (g : Rng lo hi b c) : Rng lo hi a c :=
  ⟨h.bel.trans g.bel, fun k h1 h2 => (g.up k h1 (by have := h.bel.size; omega)).trans (h.up k h1 h2)⟩
theorem Rng.setCell {lo hi b o : Nat} {a w : World} (h : Rng lo hi a w) (h1 : lo ≤ b) (h2 : b < hi) (v : Value) : Rng lo hi a (w.setCell ⟨b, o, none⟩ v) :=
  ⟨h.bel.setCell h1 v, fun k g1 g2 => (Below.heap_setCell _ _ _ _ (by show k ≠ b; omega)).trans (h.up k g1 g2)⟩
theorem Rng.alloc {lo hi : Nat} {a w : World} (h : Rng lo hi a w) (h1 : lo ≤ w.heap.size) (o : Obj) : Rng lo hi a (w.alloc o) :=
  ⟨h.bel.alloc h1 o, fun k g1 g2 => (Below.heap_alloc _ _ _ (by have := h.bel.size; omega)).trans (h.up k g1 g2)⟩

/-- A row of numbers, whichever. -/
def Row3 (w : World) (b n : Nat) : Prop := ∃ f : Nat → Int, w.rowIs b 3 n (fun j => .int .i64 (f j))

theorem Row3.set {w : World} {b n o b' : Nat} {v : Int} (h : Row3 w b n) : Row3 (w.setCell ⟨b', o, none⟩ (.int .i64 v)) b n := by
  obtain ⟨f, h⟩ := h
  by_cases e : b = b'
  · subst e
    exact ⟨upd f o v, (h.set o _).congr (fun j _ => by unfold upd; split <;> rfl)⟩
  · exact ⟨f, h.setOther e _⟩

theorem intSp_row {w : World} {b : Nat} {l : List Int} (h : w.rowIs b 3 (l.length + 8) (intSp l)) : Row3 w b (l.length + 8) := ⟨_, h⟩

/-- What blotInts does: one row of numbers is written over. -/
def BlotPost (b : Nat) (w : World) (e : Ending) (w' : World) : Prop :=
  e = .returned (.tuple #[]) ∧ w'.heap.size = w.heap.size ∧ Rng b (b + 1) w w' ∧ (∀ b' n, Row3 w b' n → Row3 w' b' n)

set_option maxHeartbeats 800000 in
theorem blotInts_any (n b : Nat) (w : World) (hn : n ≤ 1000000000) (hrow : Row3 w b (n + 8)) :
    Calls Tryz.prog 48 #[.slice (some ⟨b, 0, none⟩) n (n + 8)] w fun e w' => BlotPost b w e w' := by
  have HR := hid hrow
  clear hrow
  go_enter Tryz.func48, Tryz.ntmps48
  go_wp2
  go_loopw [3] (fun t wr => ∃ k : Nat, k ≤ n + 8 ∧ t = .int .i64 k ∧ wr.heap.size = w.heap.size ∧ Hid (Rng b (b + 1) w wr) ∧ Hid (∀ b' m, Row3 w b' m → Row3 wr b' m)) (fun t _ => n + 8 - (intOf t).toNat)
  case atStart => exact ⟨0, by omega, rfl, rfl, Rng.refl _ _ _, fun _ _ h => h⟩
  case round =>
    obtain ⟨k, k1, rfl, hsz, hr, hk⟩ := hrel
    have HSZ := hid hsz
    clear hsz
    by_cases hlt : k < n + 8
    · obtain ⟨f, hf⟩ := hk.out _ _ HR.out
      have c0 := hf.cell hlt
      have c1 := hf.frozen k
      clear hf
      have lt' : (k : Int) < (n : Int) + 8 := by omega
      have A1 : Hid (Rng b (b + 1) w (wr.setCell ⟨b, k, none⟩ (.int .i64 (-7)))) := hr.out.setCell (Nat.le_refl _) (by omega) _
      have A2 : Hid (∀ b' m, Row3 w b' m → Row3 (wr.setCell ⟨b, k, none⟩ (.int .i64 (-7))) b' m) := fun b' m h => (hk.out b' m h).set
      have A3 : Hid ((wr.setCell ⟨b, k, none⟩ (.int .i64 (-7))).heap.size = w.heap.size) := by show _ = _; rw [← HSZ.out]; simp
      go_wp2
      go_roundw
      case rel => exact ⟨k + 1, by omega, by go_num, A3.out, A1, A2⟩
      case measure => simp [intOf]; omega
    · go_wp2
      go_end0
      exact ⟨rfl, HSZ.out, hr.out, hk.out⟩

theorem row3_alloc {w : World} {b n : Nat} (h : Row3 w b n) (o : Obj) : Row3 (w.alloc o) b n := by
  obtain ⟨f, hf⟩ := h
  exact ⟨f, hf.alloc _⟩

theorem rng_of_blot {lo hi b : Nat} {a w w' : World} (h : Rng lo hi a w) (g : Rng b (b + 1) w w') (h1 : lo ≤ b) (h2 : b < hi) : Rng lo hi a w' :=
  ⟨h.bel.trans (g.bel.mono h1), fun k k1 k2 => (g.up k (by omega) (by have := h.bel.size; omega)).trans (h.up k k1 k2)⟩

def blotR (R : Nat → Rul) (bs : Nat → Nat) (k i j : Nat) : Value := if j < i * 2 then (if j % 2 = 0 then .int .i64 (-7) else .slice none 0 0) else ruleSt R bs k 8 j

theorem blotR_next {w : World} {R : Nat → Rul} {bs : Nat → Nat} {k i b N : Nat} (h : w.rowIs b 81 N (blotR R bs k i)) : ((w.setCell ⟨b, i * 2, none⟩ (.int .i64 (-7))).setCell ⟨b, i * 2 + 1, none⟩ (.slice none 0 0)).rowIs b 81 N (blotR R bs k (i + 1)) :=
  ((h.set _ _).set _ _).congr (fun j _ => by
    unfold blotR
    by_cases h1 : j = i * 2 + 1
    · rw [if_pos h1, if_pos (by omega), if_neg (by omega)]
    · rw [if_neg h1]
      by_cases h2 : j = i * 2
      · rw [if_pos h2, if_pos (by omega), if_pos (by omega)]
      · rw [if_neg h2]
        by_cases h3 : j < i * 2
        · simp only [h3, if_true, show j < (i + 1) * 2 by omega]
        · simp only [h3, if_false, show ¬ j < (i + 1) * 2 by omega])

set_option maxRecDepth 100000 in
set_option maxHeartbeats 1000000 in
theorem blot_any (R : Nat → Rul) (n k nh bc br bh lo hi : Nat) (bs : Nat → Nat) (week : Int) (fc : Nat → Value) (w : World) (hn : n ≤ 1000000000) (hk : k ≤ 1000000000) (hhl : nh ≤ 1000000000)
    (hrc : w.rowIs bc 77 ((n + 8) * 5) fc) (hrr : w.rowIs br 81 ((k + 8) * 2) (ruleSt R bs k 8)) (hrh : Row3 w bh (nh + 8)) (hst : ∀ x, x < k → Row3 w (bs x) ((R x).steps.length + 8)) (hsl : ∀ x, x < k → (R x).steps.length ≤ 1000000000)
    (l1 : lo ≤ bc) (l2 : bc < br) (l3 : br < bh) (l4 : bh < hi) (l5 : hi ≤ w.heap.size) (l6 : ∀ x, x < k → br < bs x ∧ bs x < bh) :
    Calls Tryz.prog 20 #[.agg #[.slice (some ⟨bc, 0, none⟩) n (n + 8), .slice (some ⟨br, 0, none⟩) k (k + 8), .int .i64 week, .slice (some ⟨bh, 0, none⟩) nh (nh + 8)]] w fun e w' => e = .returned (.tuple #[]) ∧ Rng lo hi w w' := by
  have HRC := hid hrc
  have HRR := hid hrr
  have HRH := hid hrh
  have HST := hid hst
  have HSL := hid hsl
  have L6 := hid l6
  clear hrc hrr hrh hst hsl l6
  go_enter Tryz.func20, Tryz.ntmps20
  go_wp2
  go_loopw [2] (fun t wr => ∃ i : Nat, i ≤ k ∧ t = .int .i64 i ∧ w.heap.size < wr.heap.size ∧ Hid (Rng lo hi w wr) ∧ Hid (∀ j, wr.cell? ⟨w.heap.size, j, none⟩ = (#[.slice (some ⟨bc, 0, none⟩) n (n + 8), .slice (some ⟨br, 0, none⟩) k (k + 8), .int .i64 week, .slice (some ⟨bh, 0, none⟩) nh (nh + 8)] : Array Value)[j]?) ∧ Hid (wr.rowIs bc 77 ((n + 8) * 5) fc) ∧ Hid (wr.rowIs br 81 ((k + 8) * 2) (blotR R bs k i)) ∧ Hid (Row3 wr bh (nh + 8)) ∧ Hid (∀ x, x < k → Row3 wr (bs x) ((R x).steps.length + 8))) (fun t _ => k - (intOf t).toNat)
  case atStart => exact ⟨0, by omega, rfl, by simp, (Rng.refl _ _ _).alloc (by omega) _, fun j => World.cell?_alloc_new _ _ _ _, HRC.out.alloc _, (HRR.out.alloc _).congr (fun j _ => by unfold blotR; rw [if_neg (by omega)]), row3_alloc HRH.out _, fun x hx => row3_alloc (HST.out x hx) _⟩
  case round =>
    obtain ⟨i, i1, rfl, hsz, hr, hbx, hc, hru, hh, hs⟩ := hrel
    have b1 := hbx.out 1
    have b0 := hbx.out 0
    have b3 := hbx.out 3
    simp at b0 b1 b3
    by_cases hit : i < k
    · have r1 : wr.cell? ⟨br, i * 2 + 1, none⟩ = some (.slice (some ⟨bs i, 0, none⟩) (R i).steps.length ((R i).steps.length + 8)) := by
        rw [hru.out.cell (by omega)]
        unfold blotR ruleSt ruleOf
        rw [if_neg (by omega), if_pos (by omega), if_neg (by omega), show (i * 2 + 1) / 2 = i by omega]
      obtain ⟨o1, o2⟩ := L6.out i hit
      go_wp2_with fail
      refine (blotInts_any (R i).steps.length (bs i) _ (HSL.out i hit) (hs.out i hit)).mono ?_
      rintro e w1 ⟨rfl, s1, s2, s3⟩
      have A1 := hid (rng_of_blot hr.out s2 (by omega) (by omega))
      have A2 : Hid (∀ j, w1.cell? ⟨w.heap.size, j, none⟩ = (#[.slice (some ⟨bc, 0, none⟩) n (n + 8), .slice (some ⟨br, 0, none⟩) k (k + 8), .int .i64 week, .slice (some ⟨bh, 0, none⟩) nh (nh + 8)] : Array Value)[j]?) := fun j => by rw [World.cell?_of_block (w := wr) (s2.up w.heap.size (by omega) (by omega))]; exact hbx.out j
      have A3 := hid (hc.out.of_block (s2.bel.block _ (by omega)))
      have A4 := hid (hru.out.of_block (s2.bel.block _ (by omega)))
      have A5 := hid (s3 _ _ hh.out)
      have A6 : Hid (∀ x, x < k → Row3 w1 (bs x) ((R x).steps.length + 8)) := fun x hx => s3 _ _ (hs.out x hx)
      have z1 : w.heap.size < w1.heap.size := by omega
      clear s1 s2 s3 r1 b0 b1 b3 hr hbx hc hru hh hs
      have b1 := A2.out 1
      simp at b1
      have c0 := A4.out.cell (i := i * 2) (by omega)
      have c1 : ∀ x, (w1.setCell ⟨br, i * 2, none⟩ x).cell? ⟨br, i * 2 + 1, none⟩ = some (blotR R bs k i (i * 2 + 1)) := fun x => cell_no (by omega) (A4.out.cell (by omega))
      have cz : ∀ j, w1.frozen? ⟨br, j, none⟩ = false := fun j => A4.out.frozen j
      have lt' : (i : Int) < (k : Int) := by omega
      have B1 : Hid (Rng lo hi w ((w1.setCell ⟨br, i * 2, none⟩ (.int .i64 (-7))).setCell ⟨br, i * 2 + 1, none⟩ (.slice none 0 0))) := (A1.out.setCell (by omega) (by omega) _).setCell (by omega) (by omega) _
      have B2 : Hid (∀ j, ((w1.setCell ⟨br, i * 2, none⟩ (.int .i64 (-7))).setCell ⟨br, i * 2 + 1, none⟩ (.slice none 0 0)).cell? ⟨w.heap.size, j, none⟩ = (#[.slice (some ⟨bc, 0, none⟩) n (n + 8), .slice (some ⟨br, 0, none⟩) k (k + 8), .int .i64 week, .slice (some ⟨bh, 0, none⟩) nh (nh + 8)] : Array Value)[j]?) := fun j => by
        rw [World.cell?_setCell_other (h := addr_nb (by omega)), World.cell?_setCell_other (h := addr_nb (by omega))]; exact A2.out j
      have B3 : Hid (((w1.setCell ⟨br, i * 2, none⟩ (.int .i64 (-7))).setCell ⟨br, i * 2 + 1, none⟩ (.slice none 0 0)).rowIs bc 77 ((n + 8) * 5) fc) := two_other (by omega) A3.out
      have B4 : Hid (((w1.setCell ⟨br, i * 2, none⟩ (.int .i64 (-7))).setCell ⟨br, i * 2 + 1, none⟩ (.slice none 0 0)).rowIs br 81 ((k + 8) * 2) (blotR R bs k (i + 1))) := blotR_next A4.out
      have O3 : ∀ b m, b ≠ br → Row3 w1 b m → Row3 ((w1.setCell ⟨br, i * 2, none⟩ (.int .i64 (-7))).setCell ⟨br, i * 2 + 1, none⟩ (.slice none 0 0)) b m := fun b m hb h => by
        obtain ⟨f, hf⟩ := h
        exact ⟨f, two_other hb hf⟩
      have B5 := hid (O3 _ _ (by omega) A5.out)
      have B6 : Hid (∀ x, x < k → Row3 ((w1.setCell ⟨br, i * 2, none⟩ (.int .i64 (-7))).setCell ⟨br, i * 2 + 1, none⟩ (.slice none 0 0)) (bs x) ((R x).steps.length + 8)) := fun x hx => O3 _ _ (by have := (L6.out x hx).1; omega) (A6.out x hx)
      have B7 : Hid (w.heap.size < ((w1.setCell ⟨br, i * 2, none⟩ (.int .i64 (-7))).setCell ⟨br, i * 2 + 1, none⟩ (.slice none 0 0)).heap.size) := by show _ < _; simp; omega
      clear O3
      go_wp2
      go_roundw
      case rel => exact ⟨i + 1, by omega, by go_num, B7.out, B1, B2, B3, B4, B5, B6⟩
      case measure => simp [intOf]; omega
    · obtain rfl : i = k := by omega
      go_wp2
      go_loopw [3] (fun t wr => ∃ x : Nat, x ≤ n ∧ t = .int .i64 x ∧ w.heap.size < wr.heap.size ∧ Hid (Rng lo hi w wr) ∧ Hid (∀ j, wr.cell? ⟨w.heap.size, j, none⟩ = (#[.slice (some ⟨bc, 0, none⟩) n (n + 8), .slice (some ⟨br, 0, none⟩) i (i + 8), .int .i64 week, .slice (some ⟨bh, 0, none⟩) nh (nh + 8)] : Array Value)[j]?) ∧ Hid (∃ f, wr.rowIs bc 77 ((n + 8) * 5) f) ∧ Hid (Row3 wr bh (nh + 8))) (fun t _ => n - (intOf t).toNat)
      case atStart => exact ⟨0, by omega, rfl, hsz, hr, hbx, ⟨_, hc.out⟩, hh⟩
      case round =>
        clear hsz hr hbx hc hru hh hs b0 b1 b3
        obtain ⟨x, x1, rfl, hsz, hr, hbx, hc, hh⟩ := hrel
        have b0 := hbx.out 0
        have b3 := hbx.out 3
        simp at b0 b3
        by_cases hxt : x < n
        · obtain ⟨f, hf⟩ := hc.out
          have c0 := hf.cell (i := x * 5) (by omega)
          have c1 := hf.cell (i := x * 5 + 1) (by omega)
          have c2 := hf.cell (i := x * 5 + 2) (by omega)
          have c3 := hf.cell (i := x * 5 + 3) (by omega)
          have c4 := hf.cell (i := x * 5 + 4) (by omega)
          have cz : ∀ j, wr.frozen? ⟨bc, j, none⟩ = false := fun j => hf.frozen j
          have lt' : (x : Int) < (n : Int) := by omega
          have A1 : Hid (Rng lo hi w (((((wr.setCell ⟨bc, x * 5, none⟩ (.int .i64 (-7))).setCell ⟨bc, x * 5 + 1, none⟩ (.int .i64 0)).setCell ⟨bc, x * 5 + 2, none⟩ (.int .i64 0)).setCell ⟨bc, x * 5 + 3, none⟩ (.int .i64 0)).setCell ⟨bc, x * 5 + 4, none⟩ (.int .i64 0))) := ((((hr.out.setCell (by omega) (by omega) _).setCell (by omega) (by omega) _).setCell (by omega) (by omega) _).setCell (by omega) (by omega) _).setCell (by omega) (by omega) _
          have A2 : Hid (∀ j, (((((wr.setCell ⟨bc, x * 5, none⟩ (.int .i64 (-7))).setCell ⟨bc, x * 5 + 1, none⟩ (.int .i64 0)).setCell ⟨bc, x * 5 + 2, none⟩ (.int .i64 0)).setCell ⟨bc, x * 5 + 3, none⟩ (.int .i64 0)).setCell ⟨bc, x * 5 + 4, none⟩ (.int .i64 0)).cell? ⟨w.heap.size, j, none⟩ = (#[.slice (some ⟨bc, 0, none⟩) n (n + 8), .slice (some ⟨br, 0, none⟩) i (i + 8), .int .i64 week, .slice (some ⟨bh, 0, none⟩) nh (nh + 8)] : Array Value)[j]?) := fun j => by
            rw [World.cell?_setCell_other (h := addr_nb (by omega)), World.cell?_setCell_other (h := addr_nb (by omega)), World.cell?_setCell_other (h := addr_nb (by omega)), World.cell?_setCell_other (h := addr_nb (by omega)), World.cell?_setCell_other (h := addr_nb (by omega))]; exact hbx.out j
          have A3 : Hid (∃ f, (((((wr.setCell ⟨bc, x * 5, none⟩ (.int .i64 (-7))).setCell ⟨bc, x * 5 + 1, none⟩ (.int .i64 0)).setCell ⟨bc, x * 5 + 2, none⟩ (.int .i64 0)).setCell ⟨bc, x * 5 + 3, none⟩ (.int .i64 0)).setCell ⟨bc, x * 5 + 4, none⟩ (.int .i64 0)).rowIs bc 77 ((n + 8) * 5) f) := ⟨_, ((((hf.set _ _).set _ _).set _ _).set _ _).set _ _⟩
          have A4 : Hid (Row3 (((((wr.setCell ⟨bc, x * 5, none⟩ (.int .i64 (-7))).setCell ⟨bc, x * 5 + 1, none⟩ (.int .i64 0)).setCell ⟨bc, x * 5 + 2, none⟩ (.int .i64 0)).setCell ⟨bc, x * 5 + 3, none⟩ (.int .i64 0)).setCell ⟨bc, x * 5 + 4, none⟩ (.int .i64 0)) bh (nh + 8)) := ((((hh.out.set).set).set).set).set
          have A5 : Hid (w.heap.size < (((((wr.setCell ⟨bc, x * 5, none⟩ (.int .i64 (-7))).setCell ⟨bc, x * 5 + 1, none⟩ (.int .i64 0)).setCell ⟨bc, x * 5 + 2, none⟩ (.int .i64 0)).setCell ⟨bc, x * 5 + 3, none⟩ (.int .i64 0)).setCell ⟨bc, x * 5 + 4, none⟩ (.int .i64 0)).heap.size) := by show _ < _; simp; omega
          clear hf
          go_wp2
          go_roundw
          case rel => exact ⟨x + 1, by omega, by go_num, A5.out, A1, A2, A3, A4⟩
          case measure => simp [intOf]; omega
        · go_wp2_with fail
          refine (blotInts_any nh bh _ hhl hh.out).mono ?_
          rintro e w1 ⟨rfl, s1, s2, s3⟩
          have A1 := hid (rng_of_blot hr.out s2 (by omega) (by omega))
          clear s1 s2 s3
          go_wp2
          go_end0
          exact ⟨rfl, A1.out⟩

end Go.Proofs.YtcondcffllaaoaaGreatDoor
