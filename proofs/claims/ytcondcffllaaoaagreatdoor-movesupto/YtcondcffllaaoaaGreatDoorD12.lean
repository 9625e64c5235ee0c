/-
  MEMORY: the document's world, exactly: Fork.
-/
import Derived.Test.YtcondcffllaaoaaGreatDoorD11
set_option linter.unusedVariables false
set_option linter.unusedSimpArgs false
namespace Go.Proofs.YtcondcffllaaoaaGreatDoor
open Go.RowKit
attribute [local go_sem ↓] Go.wp_at_zero Go.wp_at_succ

/-- A row that holds a list of events owns it. -/
theorem own_of_row {w : World} {b n : Nat} {E : List Ev} {t : TypeId} {g : Nat → Value} (hr : w.rowIs b t (n * 3) g) (hn : n = E.length) (hm : n ≤ maxLen) (hg : ∀ j, j < n * 3 → (evs E)[j]? = some (g j)) : w.ownsRow 0 t 3 (.slice (some ⟨b, 0, none⟩) n n) E.length (evs E) := by
  subst hn
  obtain ⟨c, h1, h2, h3⟩ := hr
  refine ⟨evs_length E, Or.inr ⟨b, E.length, c, rfl, Nat.zero_le _, h1, Nat.le_refl _, hm, h2, ?_⟩⟩
  apply List.ext_getElem?
  intro j
  by_cases hj : j < E.length * 3
  · rw [List.getElem?_take, if_pos hj, hg j hj]
    have := h3 j (by omega)
    simpa using this
  · rw [List.getElem?_eq_none (by simp; omega), List.getElem?_eq_none (by rw [evs_length]; omega)]

def evf (E : List Ev) (j : Nat) : Value := (evs E).getD j undef
theorem evf_one (E : List Ev) : ∀ j, j < E.length * 3 → (evf E j).oneCell' = true := by
  intro j hj
  have hi : j / 3 < E.length := by omega
  obtain ⟨e1, e2, e3⟩ := evs_at E (j / 3) (E[j / 3]) (List.getElem?_eq_getElem hi)
  unfold evf
  have hc : j = j / 3 * 3 ∨ j = j / 3 * 3 + 1 ∨ j = j / 3 * 3 + 2 := by omega
  rw [List.getD_eq_getElem?_getD]
  rcases hc with h | h | h
  · rw [h, e1]; rfl
  · rw [h, e2]; rfl
  · rw [h, e3]; rfl
theorem evf_at (E : List Ev) (j : Nat) (hj : j < E.length * 3) : (evs E)[j]? = some (evf E j) := by
  unfold evf
  rw [List.getD_eq_getElem?_getD, List.getElem?_eq_getElem (by rw [evs_length]; exact hj)]
  rfl

theorem sizeS : (Tryz.prog.info? 94).map (·.size) = some 4 := by kernel_rfl
theorem sizeE : (Tryz.prog.info? 103).map (·.size) = some 3 := by kernel_rfl
theorem stf_one (S : Nat → St) (j : Nat) : (stf S j).oneCell' = true := by
  unfold stf
  split
  · rfl
  split
  · rfl
  split <;> rfl

/-- Where a list of events lies. -/
theorem own_src {w : World} {base : Nat} {t : TypeId} {a : Option Addr} {cap : Nat} {E : List Ev} (h : w.ownsRow base t 3 (.slice a E.length cap) E.length (evs E)) : E.length * 3 = 0 ∨ ∃ b o, a = some ⟨b, o, none⟩ ∧ ∀ j, j < E.length * 3 → w.cell? ⟨b, o + j, none⟩ = some (evf E j) := by
  rcases h.2 with ⟨_, h0⟩ | ⟨g, cap', cur, hv, hb, hh, h5, h6, h7, h8⟩
  · exact Or.inl (by omega)
  · simp at hv
    refine Or.inr ⟨g, 0, hv.1, fun j hj => ?_⟩
    have e1 : cur[j]? = (evs E)[j]? := by rw [← h8, List.getElem?_take, if_pos hj]; simp
    rw [Nat.zero_add]
    simp [World.cell?, hh, e1, evf_at E j hj]

theorem ev_made {W : World} (n : Nat) : (W.alloc (.cells (madeCells #[.int .i64 0, .int .i64 0, .int .i64 0] (n * 3)) 103)).rowIs W.heap.size 103 (n * 3) (fun _ => .int .i64 0) := by
  have h := row_made (w := W) (z := .agg #[.int .i64 0, .int .i64 0, .int .i64 0]) (n := n) (sz := 3) (e := 103) rfl (fun _ => .int .i64 0) (fun j _ => by
    have hs : ((Value.agg #[.int .i64 0, .int .i64 0, .int .i64 0]).cells).size = 3 := rfl
    rw [hs]
    have hc : j % 3 = 0 ∨ j % 3 = 1 ∨ j % 3 = 2 := by omega
    rcases hc with e | e | e <;> simp only [e] <;> rfl)
  exact h

/-- A copy of what is filled in. -/
theorem copied_row {W : World} {bF N n cF : Nat} {g : Nat → Value} {F : Nat → Int} (f1 : W.rowIs bF 3 N g) (f2 : n ≤ N) (f3 : ∀ j, j < n → g j = .int .i64 (F j)) (hn : n ≤ 1000000000) :
    Calls Tryz.prog 79 #[.slice (some ⟨bF, 0, none⟩) n cF] W fun e w' => ∃ b, e = .returned (.slice (some ⟨b, 0, none⟩) n n) ∧ W.heap.size ≤ b ∧ w'.rowIs b 3 n (fun j => .int .i64 (F j)) ∧ Below W.heap.size W w' := by
  have hl : ((List.range n).map F).length = n := by simp
  have HI : IntsAt W (.slice (some ⟨bF, 0, none⟩) ((List.range n).map F).length cF) ((List.range n).map F) := by
    refine ⟨some ⟨bF, 0, none⟩, cF, rfl, fun j hj => ⟨bF, 0, rfl, f1.lt, ?_⟩⟩
    have hj' : j < n := by simpa using hj
    rw [Nat.zero_add, f1.cell (by omega), f3 j hj']
    simp [List.getD, hj']
  have CP := copied_any ((List.range n).map F) (some ⟨bF, 0, none⟩) cF W (by rw [hl]; exact hn) HI
  rw [hl] at CP
  refine CP.mono ?_
  rintro e w2 ⟨b, rfl, hb1, hb2, hb3⟩
  rw [hl] at hb2
  rw [hl]
  exact ⟨b, rfl, hb1, hb2.congr (fun j hj => by simp [List.getD, hj]), hb3⟩

/-- What Fork answers: a world of its own, just like this one. -/
def FkP (Q : Nat → Prop) (f : Frm) (m : Cs) (w : World) (e : Ending) (w' : World) : Prop := ∃ p vE, e = .returned (.pointer (some ⟨p.bw, 0, none⟩)) ∧ DAt Q f p m vE w' ∧ Below w.heap.size w w' ∧ ∀ j, Own p vE j → w.heap.size ≤ j

set_option maxRecDepth 100000 in
set_option maxHeartbeats 2000000 in
theorem dFork_any {Q : Nat → Prop} {f : Frm} {p : Pl} {m : Cs} {vE : Value} {w : World} (hS : DAt Q f p m vE w) (hf : f.Ok) (hE : m.E.length ≤ 1000000000000) :
    Calls Tryz.prog 66 #[.pointer (some ⟨p.bw, 0, none⟩)] w fun e w' => FkP Q f m w e w' := by
  have hD : DSt Q f p m.F m.T m.op m.S vE m.E w := hS
  obtain ⟨n1, hn, hk, wk1, wk2⟩ := hf.sizes
  have r0 := hD.row.cell (i := 0) (by omega)
  have r1 := hD.row.cell (i := 1) (by omega)
  have r2 := hD.row.cell (i := 2) (by omega)
  have r3 := hD.row.cell (i := 3) (by omega)
  have r5 := hD.row.cell (i := 5) (by omega)
  have r6 := hD.row.cell (i := 6) (by omega)
  simp [wf] at r0 r1 r2 r3 r5 r6
  have zb := hD.row.lt
  have HS := hid hD
  clear hS hD hf
  go_enter Tryz.func66, Tryz.ntmps66
  go_wp2
  go_region
  have A1 : (w.alloc (.cells #[.slice (some ⟨p.bc, 0, none⟩) f.n f.n, .slice p.aO f.k p.cO, .int .i64 f.week, .slice (some ⟨p.bh, 0, none⟩) f.hol.length f.hol.length, .slice none 0 0, .int .i64 m.T, .bool m.op, .slice none 0 0, .slice none 0 0] 65)).rowIs w.heap.size 65 9 (wf p.bc f.n p.aO f.k p.cO f.week p.bh f.hol.length (.slice none 0 0) m.T m.op (.slice none 0 0) (.slice none 0 0)) := World.rowIs_alloc w #[.slice (some ⟨p.bc, 0, none⟩) f.n f.n, .slice p.aO f.k p.cO, .int .i64 f.week, .slice (some ⟨p.bh, 0, none⟩) f.hol.length f.hol.length, .slice none 0 0, .int .i64 m.T, .bool m.op, .slice none 0 0, .slice none 0 0] 65 (wf p.bc f.n p.aO f.k p.cO f.week p.bh f.hol.length (.slice none 0 0) m.T m.op (.slice none 0 0) (.slice none 0 0)) (fun i hi => by
    have hi' : i = 0 ∨ i = 1 ∨ i = 2 ∨ i = 3 ∨ i = 4 ∨ i = 5 ∨ i = 6 ∨ i = 7 ∨ i = 8 := by simp at hi; omega
    rcases hi' with rfl | rfl | rfl | rfl | rfl | rfl | rfl | rfl | rfl <;> rfl)
  have A1 := hid A1.drew
  have B1 : Hid (Below w.heap.size w (w.alloc (.cells #[.slice (some ⟨p.bc, 0, none⟩) f.n f.n, .slice p.aO f.k p.cO, .int .i64 f.week, .slice (some ⟨p.bh, 0, none⟩) f.hol.length f.hol.length, .slice none 0 0, .int .i64 m.T, .bool m.op, .slice none 0 0, .slice none 0 0] 65)).drew) := ((Below.refl _ _).alloc (Nat.le_refl _) _).drew
  generalize (w.alloc (.cells #[.slice (some ⟨p.bc, 0, none⟩) f.n f.n, .slice p.aO f.k p.cO, .int .i64 f.week, .slice (some ⟨p.bh, 0, none⟩) f.hol.length f.hol.length, .slice none 0 0, .int .i64 m.T, .bool m.op, .slice none 0 0, .slice none 0 0] 65)).drew = W1 at *
  have D1 := hid (HS.out.drop B1.out)
  have z1 : w.heap.size < W1.heap.size := A1.out.lt
  clear r0 r1 r2 r3 r5 r6
  have r4 := D1.out.row.cell (i := 4) (by omega)
  simp [wf] at r4
  obtain ⟨g, N, f1, f2, f3⟩ := D1.out.fil
  have CP := hid (copied_row (cF := p.cF) f1 f2 f3 (by omega))
  clear f1 f2 f3
  go_wp2_with fail
  refine CP.out.mono ?_
  rintro e w2 ⟨b, rfl, hb1, hb2, hb3⟩
  have R2 := hid hb2
  have A2 := hid (A1.out.of_block (hb3.block _ z1))
  have B2 := hid (B1.out.trans (hb3.mono (by omega)))
  have D2 := hid (HS.out.drop B2.out)
  have z2 := hb3.size
  have z3 : w.heap.size < w2.heap.size := by omega
  have z4 : p.bw < w2.heap.size := by omega
  clear hb2 hb3 CP A1 D1 r4
  have q4 := A2.out.cell (i := 4) (by omega)
  have qz : ∀ j, w2.frozen? ⟨w.heap.size, j, none⟩ = false := fun j => A2.out.frozen j
  simp [wf] at q4
  have mk := run_make_is (P := Tryz.prog) 62 94 _ 4 32 underlyingE info92 f.k (by omega) (by omega)
  have r7 := D2.out.row.cell (i := 7) (by omega)
  have q7 := A2.out.cell (i := 7) (by omega)
  simp [wf] at r7 q7
  go_wp2
  have A3 : Hid ((((w2.setCell ⟨w.heap.size, 4, none⟩ (.slice (some ⟨b, 0, none⟩) f.n f.n)).setCell ⟨w.heap.size, 7, none⟩ (.slice (some ⟨w2.heap.size, 0, none⟩) f.k f.k)).alloc (.cells (madeCells #[.bool false, .int .i64 0, .int .i64 0, .bool false] (f.k * 4)) 94)).rowIs w.heap.size 65 9 (wf p.bc f.n p.aO f.k p.cO f.week p.bh f.hol.length (.slice (some ⟨b, 0, none⟩) f.n f.n) m.T m.op (.slice (some ⟨w2.heap.size, 0, none⟩) f.k f.k) (.slice none 0 0))) := ((((A2.out.set 4 _).congr (fun j _ => wf_set4 j)).set 7 _).congr (fun j _ => wf_set7 j)).alloc _
  have S3 : Hid ((((w2.setCell ⟨w.heap.size, 4, none⟩ (.slice (some ⟨b, 0, none⟩) f.n f.n)).setCell ⟨w.heap.size, 7, none⟩ (.slice (some ⟨w2.heap.size, 0, none⟩) f.k f.k)).alloc (.cells (madeCells #[.bool false, .int .i64 0, .int .i64 0, .bool false] (f.k * 4)) 94)).rowIs w2.heap.size 94 (f.k * 4) (stf (fun _ => ⟨false, 0, 0, false⟩))) := by
    have := sta_made (W := (w2.setCell ⟨w.heap.size, 4, none⟩ (.slice (some ⟨b, 0, none⟩) f.n f.n)).setCell ⟨w.heap.size, 7, none⟩ (.slice (some ⟨w2.heap.size, 0, none⟩) f.k f.k)) f.k
    simp only [World.size_setCell] at this
    exact this
  have R3 : Hid ((((w2.setCell ⟨w.heap.size, 4, none⟩ (.slice (some ⟨b, 0, none⟩) f.n f.n)).setCell ⟨w.heap.size, 7, none⟩ (.slice (some ⟨w2.heap.size, 0, none⟩) f.k f.k)).alloc (.cells (madeCells #[.bool false, .int .i64 0, .int .i64 0, .bool false] (f.k * 4)) 94)).rowIs b 3 f.n (fun j => .int .i64 (m.F j))) := ((R2.out.setOther (by show b ≠ w.heap.size; omega) _).setOther (by show b ≠ w.heap.size; omega) _).alloc _
  have B3 : Hid (Below w.heap.size w (((w2.setCell ⟨w.heap.size, 4, none⟩ (.slice (some ⟨b, 0, none⟩) f.n f.n)).setCell ⟨w.heap.size, 7, none⟩ (.slice (some ⟨w2.heap.size, 0, none⟩) f.k f.k)).alloc (.cells (madeCells #[.bool false, .int .i64 0, .int .i64 0, .bool false] (f.k * 4)) 94))) := ((B2.out.setCell (Nat.le_refl _) _).setCell (Nat.le_refl _) _).alloc (by simp; omega) _
  have L3 : (((w2.setCell ⟨w.heap.size, 4, none⟩ (.slice (some ⟨b, 0, none⟩) f.n f.n)).setCell ⟨w.heap.size, 7, none⟩ (.slice (some ⟨w2.heap.size, 0, none⟩) f.k f.k)).alloc (.cells (madeCells #[.bool false, .int .i64 0, .int .i64 0, .bool false] (f.k * 4)) 94)).heap.size = w2.heap.size + 1 := by simp
  have b2 : b < w2.heap.size := R2.out.lt
  generalize (((w2.setCell ⟨w.heap.size, 4, none⟩ (.slice (some ⟨b, 0, none⟩) f.n f.n)).setCell ⟨w.heap.size, 7, none⟩ (.slice (some ⟨w2.heap.size, 0, none⟩) f.k f.k)).alloc (.cells (madeCells #[.bool false, .int .i64 0, .int .i64 0, .bool false] (f.k * 4)) 94)) = W3 at *
  have D3 := hid (HS.out.drop B3.out)
  have HL3 := hid L3
  clear A2 D2 R2 q4 q7 r7 qz mk L3
  have r7 := D3.out.row.cell (i := 7) (by omega)
  have q7 := A3.out.cell (i := 7) (by omega)
  simp [wf] at r7 q7
  have z5 : w.heap.size < W3.heap.size := by have := HL3.out; omega
  have z6 : p.bw < W3.heap.size := by have := HL3.out; omega
  obtain ⟨W4, hrun, hrow, hsz, ho1, ho2, ho3, hoth⟩ := run_copy_is (P := Tryz.prog) W3.drew 62 62 3 94 4 w2.heap.size f.k f.k (f.k * 4) 94 (stf (fun _ => ⟨false, 0, 0, false⟩)) (some ⟨p.bS, 0, none⟩) f.k f.k (stf m.S)
    underlyingE sizeS S3.out.drew (Nat.le_refl _) (Nat.le_refl _) (Or.inr ⟨p.bS, 0, rfl, fun j hj => by rw [Nat.zero_add]; exact D3.out.drew.sta.cell hj⟩) (fun j _ => stf_one _ j)
  go_region
  have A4 := hid ((A3.out.drew).of_block (hoth w.heap.size (by omega)))
  have S4 := hid (hrow.congr (g := stf m.S) (fun j hj => if_pos hj))
  have R4 := hid ((R3.out.drew).of_block (hoth b (by omega)))
  have B4 : Hid (Below w.heap.size w W4) := B3.out.drew.trans ⟨ho1, ho2, ho3, by omega, fun j hj => hoth j (by omega)⟩
  have HL4 : Hid (W4.heap.size = w2.heap.size + 1) := by show _ = _; rw [hsz]; exact HL3.out
  clear hrun hrow hsz ho1 ho2 ho3 hoth A3 S3 R3 B3 HL3 D3 r7 q7 z5 z6
  have D4 := hid (HS.out.drop B4.out)
  have z5 : w.heap.size < W4.heap.size := by have := HL4.out; omega
  have z6 : p.bw < W4.heap.size := by have := HL4.out; omega
  obtain ⟨ae, ce, hvE⟩ := own_len D4.out.ev
  have r8 := D4.out.row.cell (i := 8) (by omega)
  have q8 := A4.out.cell (i := 8) (by omega)
  have qz : ∀ j, W4.frozen? ⟨w.heap.size, j, none⟩ = false := fun j => A4.out.frozen j
  simp [wf] at r8 q8
  have HVE := hid hvE
  rw [hvE] at r8
  clear hvE
  have mk := run_make_is (P := Tryz.prog) 63 103 _ 3 24 Tryz.underlying63 info101 m.E.length (by omega) (by omega)
  go_wp2
  have A5 : Hid (((W4.setCell ⟨w.heap.size, 8, none⟩ (.slice (some ⟨W4.heap.size, 0, none⟩) m.E.length m.E.length)).alloc (.cells (madeCells #[.int .i64 0, .int .i64 0, .int .i64 0] (m.E.length * 3)) 103)).rowIs w.heap.size 65 9 (wf p.bc f.n p.aO f.k p.cO f.week p.bh f.hol.length (.slice (some ⟨b, 0, none⟩) f.n f.n) m.T m.op (.slice (some ⟨w2.heap.size, 0, none⟩) f.k f.k) (.slice (some ⟨W4.heap.size, 0, none⟩) m.E.length m.E.length))) := ((A4.out.set 8 _).congr (fun j hj => wf_set8 j hj)).alloc _
  have E5 : Hid (((W4.setCell ⟨w.heap.size, 8, none⟩ (.slice (some ⟨W4.heap.size, 0, none⟩) m.E.length m.E.length)).alloc (.cells (madeCells #[.int .i64 0, .int .i64 0, .int .i64 0] (m.E.length * 3)) 103)).rowIs W4.heap.size 103 (m.E.length * 3) (fun _ => .int .i64 0)) := by
    have := ev_made (W := W4.setCell ⟨w.heap.size, 8, none⟩ (.slice (some ⟨W4.heap.size, 0, none⟩) m.E.length m.E.length)) m.E.length
    simp only [World.size_setCell] at this
    exact this
  have S5 : Hid (((W4.setCell ⟨w.heap.size, 8, none⟩ (.slice (some ⟨W4.heap.size, 0, none⟩) m.E.length m.E.length)).alloc (.cells (madeCells #[.int .i64 0, .int .i64 0, .int .i64 0] (m.E.length * 3)) 103)).rowIs w2.heap.size 94 (f.k * 4) (stf m.S)) := (S4.out.setOther (by show w2.heap.size ≠ w.heap.size; omega) _).alloc _
  have R5 : Hid (((W4.setCell ⟨w.heap.size, 8, none⟩ (.slice (some ⟨W4.heap.size, 0, none⟩) m.E.length m.E.length)).alloc (.cells (madeCells #[.int .i64 0, .int .i64 0, .int .i64 0] (m.E.length * 3)) 103)).rowIs b 3 f.n (fun j => .int .i64 (m.F j))) := (R4.out.setOther (by show b ≠ w.heap.size; omega) _).alloc _
  have B5 : Hid (Below w.heap.size w ((W4.setCell ⟨w.heap.size, 8, none⟩ (.slice (some ⟨W4.heap.size, 0, none⟩) m.E.length m.E.length)).alloc (.cells (madeCells #[.int .i64 0, .int .i64 0, .int .i64 0] (m.E.length * 3)) 103))) := (B4.out.setCell (Nat.le_refl _) _).alloc (by simp; omega) _
  have HL5 : Hid (((W4.setCell ⟨w.heap.size, 8, none⟩ (.slice (some ⟨W4.heap.size, 0, none⟩) m.E.length m.E.length)).alloc (.cells (madeCells #[.int .i64 0, .int .i64 0, .int .i64 0] (m.E.length * 3)) 103)).heap.size = W4.heap.size + 1) := by show _ = _; simp
  generalize ((W4.setCell ⟨w.heap.size, 8, none⟩ (.slice (some ⟨W4.heap.size, 0, none⟩) m.E.length m.E.length)).alloc (.cells (madeCells #[.int .i64 0, .int .i64 0, .int .i64 0] (m.E.length * 3)) 103)) = W5 at *
  have D5 := hid (HS.out.drop B5.out)
  clear A4 S4 R4 B4 D4 r8 q8 qz mk
  have r8 := D5.out.row.cell (i := 8) (by omega)
  have q8 := A5.out.cell (i := 8) (by omega)
  simp [wf] at r8 q8
  rw [HVE.out] at r8
  have z7 : w.heap.size < W5.heap.size := by have := HL5.out; omega
  have z8 : p.bw < W5.heap.size := by have := HL5.out; omega
  obtain ⟨W6, hrun, hrow, hsz, ho1, ho2, ho3, hoth⟩ := run_copy_is (P := Tryz.prog) W5.drew 63 63 3 103 3 W4.heap.size m.E.length m.E.length (m.E.length * 3) 103 (fun _ => .int .i64 0) ae m.E.length ce (evf m.E)
    Tryz.underlying63 sizeE E5.out.drew (Nat.le_refl _) (Nat.le_refl _) (own_src (by have := D5.out.drew.ev; rw [HVE.out] at this; exact this)) (evf_one m.E)
  go_region
  have B6 : Below w.heap.size w W6 := B5.out.drew.trans ⟨ho1, ho2, ho3, by omega, fun j hj => hoth j (by omega)⟩
  have h4 := HL4.out
  have R : Hid (FkP Q f m w (.returned (.pointer (some ⟨w.heap.size, 0, none⟩))) W6) := by
    refine ⟨⟨w.heap.size, p.bc, p.aO, p.cO, p.bh, b, f.n, w2.heap.size⟩, .slice (some ⟨W4.heap.size, 0, none⟩) m.E.length m.E.length, rfl, ⟨HS.out.base.move (Stand.of B6), fun j hj => by have := HS.out.qlt j hj; have := B6.size; omega, fun j hj => ?_, (A5.out.drew).of_block (hoth _ (by omega)), ⟨_, f.n, (R5.out.drew).of_block (hoth _ (by omega)), Nat.le_refl _, fun j _ => rfl⟩, (S5.out.drew).of_block (hoth _ (by omega)), own_of_row (hrow.congr (g := evf m.E) (fun j hj => if_pos hj)) rfl (by unfold maxLen; omega) (fun j hj => evf_at m.E j hj)⟩, B6, fun j hj => ?_⟩
    · have := HS.out.qlt j hj
      refine ⟨by show j ≠ w.heap.size; omega, by show j ≠ b; omega, by show j ≠ w2.heap.size; omega, ?_⟩
      show some W4.heap.size ≠ some j
      intro e
      have : W4.heap.size = j := by simpa using e
      omega
    · rcases hj with h | h | h | h
      · have h' : j = w.heap.size := h; omega
      · have h' : j = b := h; omega
      · have h' : j = w2.heap.size := h; omega
      · have h' : W4.heap.size = j := by simpa [Value.ownBlock] using h
        omega
  clear hrun hrow hsz ho1 ho2 ho3 hoth B6
  go_wp2
  go_ret
  exact R.out

end Go.Proofs.YtcondcffllaaoaaGreatDoor
