/-
  MEMORY: the document's world, exactly; an event.
-/
import Derived.Test.YtbkdmibggjjnmaaGreatDoorH8
set_option linter.unusedVariables false
set_option linter.unusedSimpArgs false
namespace Go.Proofs.YtbkdmibggjjnmaaGreatDoor
open Go.RowKit
attribute [local go_sem ↓] Go.wp_at_zero Go.wp_at_succ

/-- A world's places. -/
structure Pl where
  bw : Nat
  bc : Nat
  aO : Option Addr
  cO : Nat
  bh : Nat
  bF : Nat
  cF : Nat
  bS : Nat

def evs (E : List Ev) : List Value := E.flatMap (fun e => [.int .i64 e.t, .int .i64 e.r, .int .i64 e.l])
theorem evs_snoc (E : List Ev) (e : Ev) : evs (E ++ [e]) = evs E ++ [.int .i64 e.t, .int .i64 e.r, .int .i64 e.l] := by unfold evs; rw [List.flatMap_append]; simp
theorem evs_cons (E : List Ev) (e : Ev) : evs (e :: E) = [.int .i64 e.t, .int .i64 e.r, .int .i64 e.l] ++ evs E := by unfold evs; rw [List.flatMap_cons]
theorem evs_length (E : List Ev) : (evs E).length = E.length * 3 := by
  induction E with
  | nil => rfl
  | cons e E ih => rw [evs_cons, List.length_append, ih]; simp; omega

/-- The base of a world: the form in lists of its own. -/
def Base (f : Frm) (p : Pl) (W : World) : Prop := W.rowIs p.bc 77 (f.n * 5) (cellf f.C) ∧ RAt W p.aO f.k f.R ∧ IntsAt W (.slice (some ⟨p.bh, 0, none⟩) f.hol.length f.hol.length) f.hol

/-- The world's memory. -/
structure DSt (Q : Nat → Prop) (f : Frm) (p : Pl) (F : Nat → Int) (T : Int) (op : Bool) (S : Nat → St) (vE : Value) (E : List Ev) (w : World) : Prop where
  base : Held Q w (Base f p)
  qlt : ∀ j, Q j → j < w.heap.size
  dis : ∀ j, Q j → j ≠ p.bw ∧ j ≠ p.bF ∧ j ≠ p.bS ∧ vE.ownBlock ≠ some j
  row : w.rowIs p.bw 65 9 (wf p.bc f.n p.aO f.k p.cO f.week p.bh f.hol.length (.slice (some ⟨p.bF, 0, none⟩) f.n p.cF) T op (.slice (some ⟨p.bS, 0, none⟩) f.k f.k) vE)
  fil : ∃ g N, w.rowIs p.bF 3 N g ∧ f.n ≤ N ∧ ∀ j, j < f.n → g j = .int .i64 (F j)
  sta : w.rowIs p.bS 94 (f.k * 4) (stf S)
  ev : w.ownsRow 0 103 3 vE E.length (evs E)

/-- What may turn of a world. -/
def Own (p : Pl) (vE : Value) (j : Nat) : Prop := j = p.bw ∨ j = p.bF ∨ j = p.bS ∨ vE.ownBlock = some j
def Own.dec (p : Pl) (vE : Value) (j : Nat) : Decidable (Own p vE j) := inferInstanceAs (Decidable (j = p.bw ∨ j = p.bF ∨ j = p.bS ∨ vE.ownBlock = some j))

theorem own_lt {w : World} {base : Nat} {e : TypeId} {size : Nat} {v : Value} {n : Nat} {xs : List Value} (h : w.ownsRow base e size v n xs) {g : Nat} (hg : v.ownBlock = some g) : g < w.heap.size := by
  rcases h.2 with ⟨hv, _⟩ | ⟨g', cap, cur, hv, hb, hh, _⟩
  · rw [hv] at hg; cases hg
  · rw [hv] at hg
    have e : g' = g := by simpa [Value.ownBlock] using hg
    subst e
    rcases Nat.lt_or_ge g' w.heap.size with h | h
    · exact h
    · rw [Array.getElem?_eq_none h] at hh; cases hh

section
variable {Q : Nat → Prop} {f : Frm} {p : Pl} {F : Nat → Int} {T : Int} {op : Bool} {S : Nat → St} {vE : Value} {E : List Ev} {w : World}

theorem DSt.own_lt (h : DSt Q f p F T op S vE E w) : ∀ j, Own p vE j → j < w.heap.size := by
  intro j hj
  obtain ⟨g, N, f1, _⟩ := h.fil
  rcases hj with rfl | rfl | rfl | hj
  · exact h.row.lt
  · exact f1.lt
  · exact h.sta.lt
  · exact Go.Proofs.YtbkdmibggjjnmaaGreatDoor.own_lt h.ev hj

theorem DSt.move (h : DSt Q f p F T op S vE E w) {w' : World} (hs : w.heap.size ≤ w'.heap.size) (hb : ∀ j, Q j ∨ Own p vE j → w'.heap[j]? = w.heap[j]?) : DSt Q f p F T op S vE E w' := by
  obtain ⟨g, N, f1, f2, f3⟩ := h.fil
  exact ⟨h.base.move ⟨hs, fun j q _ => hb j (Or.inl q)⟩, fun j q => by have := h.qlt j q; omega, h.dis, h.row.of_block (hb _ (Or.inr (Or.inl rfl))), ⟨g, N, f1.of_block (hb _ (Or.inr (Or.inr (Or.inl rfl)))), f2, f3⟩, h.sta.of_block (hb _ (Or.inr (Or.inr (Or.inr (Or.inl rfl))))), own_of_block h.ev (fun b e _ => hb b (Or.inr (Or.inr (Or.inr (Or.inr e)))))⟩

theorem DSt.drop (h : DSt Q f p F T op S vE E w) {w' : World} (hb : Below w.heap.size w w') : DSt Q f p F T op S vE E w' := h.move hb.size (fun j hj => by
  rcases hj with hj | hj
  · exact hb.block j (h.qlt j hj)
  · exact hb.block j (h.own_lt j hj))

theorem DSt.nbw (h : DSt Q f p F T op S vE E w) : p.bF ≠ p.bw ∧ p.bS ≠ p.bw ∧ p.bF ≠ p.bS ∧ vE.ownBlock ≠ some p.bw ∧ vE.ownBlock ≠ some p.bF ∧ vE.ownBlock ≠ some p.bS := by
  obtain ⟨g, N, f1, f2, f3⟩ := h.fil
  exact ⟨row_ne f1 h.row (by decide), row_ne h.sta h.row (by decide), row_ne f1 h.sta (by decide), own_ne_row h.ev h.row (by decide), own_ne_row h.ev f1 (by decide), own_ne_row h.ev h.sta (by decide)⟩

theorem DSt.congrS (h : DSt Q f p F T op S vE E w) {S' : Nat → St} (hs : ∀ i, i < f.k → S i = S' i) : DSt Q f p F T op S' vE E w :=
  ⟨h.base, h.qlt, h.dis, h.row, h.fil, h.sta.congr (stf_congr hs), h.ev⟩

/-- A store into the states. -/
theorem DSt.setS (h : DSt Q f p F T op S vE E w) (i : Nat) (v : Value) {S' : Nat → St} (hs : ∀ j, (if j = i then v else stf S j) = stf S' j) : DSt Q f p F T op S' vE E (w.setCell ⟨p.bS, i, none⟩ v) := by
  obtain ⟨g, N, f1, f2, f3⟩ := h.fil
  obtain ⟨n1, n2, n3, n4, n5, n6⟩ := h.nbw
  exact ⟨h.base.move ⟨by simp, fun j q _ => Below.heap_setCell _ _ _ _ (h.dis j q).2.2.1⟩, fun j q => by simpa using h.qlt j q, h.dis, h.row.setOther (Ne.symm n2) _, ⟨g, N, f1.setOther n3 _, f2, f3⟩, (h.sta.set i v).congr (fun j _ => hs j), ownsRow_setCell_other h.ev n6 _⟩

theorem DSt.set4 (h : DSt Q f p F T op S vE E w) (i : Nat) (a : Bool) (b c : Int) (d : Bool) :
    DSt Q f p F T op (upd S i ⟨a, b, c, d⟩) vE E ((((w.setCell ⟨p.bS, i * 4, none⟩ (.bool a)).setCell ⟨p.bS, i * 4 + 1, none⟩ (.int .i64 b)).setCell ⟨p.bS, i * 4 + 2, none⟩ (.int .i64 c)).setCell ⟨p.bS, i * 4 + 3, none⟩ (.bool d)) := by
  obtain ⟨g, N, f1, f2, f3⟩ := h.fil
  obtain ⟨n1, n2, n3, n4, n5, n6⟩ := h.nbw
  have n2' := Ne.symm n2
  refine ⟨h.base.move ⟨by simp, fun j q _ => ?_⟩, fun j q => by simpa using h.qlt j q, h.dis, (((h.row.setOther n2' _).setOther n2' _).setOther n2' _).setOther n2' _, ⟨g, N, (((f1.setOther n3 _).setOther n3 _).setOther n3 _).setOther n3 _, f2, f3⟩, ((((h.sta.set _ _).set _ _).set _ _).set _ _).congr (fun j _ => stf_set j), ?_⟩
  · have n := (h.dis j q).2.2.1
    rw [Below.heap_setCell _ _ _ _ n, Below.heap_setCell _ _ _ _ n, Below.heap_setCell _ _ _ _ n, Below.heap_setCell _ _ _ _ n]
  · exact ownsRow_setCell_other (ownsRow_setCell_other (ownsRow_setCell_other (ownsRow_setCell_other h.ev n6 _) n6 _) n6 _) n6 _

theorem DSt.drew (h : DSt Q f p F T op S vE E w) : DSt Q f p F T op S vE E w.drew := h.move (Nat.le_refl _) (fun _ _ => rfl)
theorem DSt.drewN (h : DSt Q f p F T op S vE E w) (q : Nat) : DSt Q f p F T op S vE E (w.drewN q) := h.drop (below_drewN (Below.refl _ _) q)

end

/-- What event does: one event more, at the end; of what was there only the world's own block and the log's have turned. -/
def EvP (bw n : Nat) (vE : Value) (xs news : List Value) (w : World) (e : Ending) (w' : World) : Prop :=
  ∃ g cap, e = .returned (.tuple #[]) ∧ w'.ownsRow 0 103 3 (.slice (some ⟨g, 0, none⟩) (n + 1) cap) (n + 1) (xs ++ news) ∧ (vE.ownBlock = some g ∨ w.heap.size ≤ g) ∧ Chg (fun j => j = bw ∨ vE.ownBlock = some j) w w' ∧
    (∀ t N f, w.rowIs bw t N f → w'.rowIs bw t N (fun j => if j = 8 then .slice (some ⟨g, 0, none⟩) (n + 1) cap else f j))

theorem evp_close {bw n g cap : Nat} {vE : Value} {xs news : List Value} {w w1 : World} {o : Obj} (hb : bw < w.heap.size) (hne : vE.ownBlock ≠ some bw)
    (h1 : w1.ownsRow 0 103 3 (.slice (some ⟨g, 0, none⟩) (n + 1) cap) (n + 1) (xs ++ news)) (hg : ((w.alloc o).drew).grownBy w1 vE.ownBlock) (hat : vE.ownBlock = some g ∨ g = w.heap.size + 1) :
    EvP bw n vE xs news w (.returned (.tuple #[])) (w1.setCell ⟨bw, 8, none⟩ (.slice (some ⟨g, 0, none⟩) (n + 1) cap)) := by
  have hbk : w1.heap[bw]? = w.heap[bw]? := ev_far w o hg hb hne
  have hsz := hg.size
  simp at hsz
  have gne : (Value.slice (some ⟨g, 0, none⟩) (n + 1) cap).ownBlock ≠ some bw := by
    show some g ≠ some bw
    intro e
    have e' : g = bw := by simpa using e
    rcases hat with h | h
    · rw [e'] at h; exact hne h
    · omega
  refine ⟨g, cap, rfl, ownsRow_setCell_other h1 gne _, ?_, ⟨hg.os, hg.tape, hg.output, by simp; omega, fun j hj hx => ?_⟩, fun t N f hf => (hf.of_block hbk).set 8 _⟩
  · rcases hat with h | h
    · exact Or.inl h
    · exact Or.inr (by omega)
  · rw [Below.heap_setCell _ _ _ _ (fun e => hx (Or.inl e))]
    exact ev_far w o hg hj (fun e => hx (Or.inr e))

set_option maxRecDepth 100000 in
set_option maxHeartbeats 1000000 in
theorem event_exact (bw n : Nat) (T r l : Int) (vE : Value) (xs : List Value) (w : World) (hn : n ≤ 1000000000000) (hb : bw < w.heap.size) (hne : vE.ownBlock ≠ some bw)
    (c5 : w.cell? ⟨bw, 5, none⟩ = some (.int .i64 T)) (c8 : w.cell? ⟨bw, 8, none⟩ = some vE) (f8 : w.frozen? ⟨bw, 8, none⟩ = false) (hown : w.ownsRow 0 103 3 vE n xs) :
    Calls Tryz.prog 80 #[.pointer (some ⟨bw, 0, none⟩), .int .i64 r, .int .i64 l] w fun e w' => EvP bw n vE xs [.int .i64 T, .int .i64 r, .int .i64 l] w e w' := by
  obtain ⟨i, hi, hz⟩ := Option.map_eq_some_iff.1 info101
  simp only [Prod.mk.injEq] at hz
  obtain ⟨hz0, hz1, hz2⟩ := hz
  have HI := hid hi
  have HZ0 := hid hz0
  have HZ1 := hid hz1
  have HZ2 := hid hz2
  have HOWN := hid hown
  have c8a : ∀ o, (w.alloc o).cell? ⟨bw, 8, none⟩ = some vE := fun o => by rw [World.cell?_alloc_lt (h := hb)]; exact c8
  have hown_ne : Hid (vE.ownBlock ≠ some bw) := hne
  clear hi hz0 hz1 hz2 hown hne
  go_enter Tryz.func80, Tryz.ntmps80
  go_wp2
  go_region_law ((refine step_append_lies _ (by rfl) (.tmp 10) (.tmp 18) 63 (by rfl) 0 103 i _ 3 24 Tryz.underlying63 HI.out HZ0.out HZ1.out HZ2.out (by rfl) (by omega) vE n xs (by simp [Act.eval, Act.put]) (by exact own_alloc_drew HOWN.out _) ⟨w.heap.size, 0, none⟩ 1 1 [.int .i64 T, .int .i64 r, .int .i64 l] (by simp [Act.eval, Act.put]) (by rfl) (by exact news3 _ _ _ _ _) (by simp [Value.oneCell']) (by omega) (by unfold maxLen; omega) (by omega) (by omega) (w.heap.size + 1) (by simp) ?_; intro g cap w1 hown1 hgrow hat hlt; have hbk : w1.heap[bw]? = w.heap[bw]? := ev_far w _ hgrow (by omega) hown_ne.out; have e8 : w1.cell? ⟨bw, 8, none⟩ = some vE := (by rw [World.cell?_of_block (w := w) hbk]; exact c8); have e9 : w1.frozen? ⟨bw, 8, none⟩ = false := (by rw [World.frozen?_of_block (w := w) hbk]; exact f8)))
  all_goals (try go_wp2)
  all_goals go_end0
  all_goals exact evp_close (by omega) hown_ne.out hown1 hgrow hat

section
variable {Q : Nat → Prop} {f : Frm} {p : Pl} {F : Nat → Int} {T : Int} {op : Bool} {S : Nat → St} {vE : Value} {E : List Ev} {w : World}

theorem DSt.evcall (h : DSt Q f p F T op S vE E w) (r : Nat) (l : Int) (hE : E.length ≤ 1000000000000) :
    Calls Tryz.prog 80 #[.pointer (some ⟨p.bw, 0, none⟩), .int .i64 r, .int .i64 l] w fun e w' => EvP p.bw E.length vE (evs E) [.int .i64 T, .int .i64 r, .int .i64 l] w e w' := by
  have r5 := h.row.cell (i := 5) (by omega)
  have r8 := h.row.cell (i := 8) (by omega)
  simp [wf] at r5 r8
  exact event_exact p.bw E.length T r l vE (evs E) w hE h.row.lt h.nbw.2.2.2.1 r5 r8 (h.row.frozen 8) h.ev

/-- The log's room is where it was, or new. -/
def Grew (w : World) (v v' : Value) : Prop := ∀ j, v'.ownBlock = some j → v.ownBlock = some j ∨ w.heap.size ≤ j
theorem Grew.refl (w : World) (v : Value) : Grew w v v := fun _ h => Or.inl h
theorem Grew.trans {w w1 : World} {a b c : Value} (h : Grew w a b) (g : Grew w1 b c) (hs : w.heap.size ≤ w1.heap.size) : Grew w a c := fun j hj => by
  rcases g j hj with e | e
  · exact h j e
  · exact Or.inr (by omega)
theorem Own.grew {w : World} {p : Pl} {v v' : Value} (g : Grew w v v') : ∀ j, j < w.heap.size → Own p v' j → Own p v j := fun j hj hx => by
  rcases hx with h | h | h | h
  · exact Or.inl h
  · exact Or.inr (Or.inl h)
  · exact Or.inr (Or.inr (Or.inl h))
  · rcases g j h with e | e
    · exact Or.inr (Or.inr (Or.inr e))
    · omega

/-- An event more. -/
theorem DSt.event (h : DSt Q f p F T op S vE E w) {r : Nat} {l : Int} {e : Ending} {w' : World} (g : EvP p.bw E.length vE (evs E) [.int .i64 T, .int .i64 r, .int .i64 l] w e w') :
    e = .returned (.tuple #[]) ∧ ∃ vE', DSt Q f p F T op S vE' (E ++ [⟨T, r, l⟩]) w' ∧ Chg (Own p vE) w w' ∧ Grew w vE vE' := by
  obtain ⟨b, cap, e1, e2, e3, e4, e5⟩ := g
  obtain ⟨q, N, f1, f2, f3⟩ := h.fil
  obtain ⟨n1, n2, n3, n4, n5, n6⟩ := h.nbw
  have hgr : Grew w vE (.slice (some ⟨b, 0, none⟩) (E.length + 1) cap) := fun j hj => by
    have : b = j := by simpa [Value.ownBlock] using hj
    subst this
    exact e3
  refine ⟨e1, _, ⟨h.base.move (e4.stand (fun j hj hx => ?_)), fun j hj => by have := h.qlt j hj; have := e4.size; omega, fun j hj => ?_, (e5 _ _ _ h.row).congr (fun j hj => wf_set8 j hj), ⟨q, N, f1.of_block (e4.block _ f1.lt (fun hx => ?_)), f2, f3⟩, h.sta.of_block (e4.block _ h.sta.lt (fun hx => ?_)), ?_⟩, e4.mono (fun j _ hx => ?_), hgr⟩
  · rcases hx with hx | hx
    · exact (h.dis j hj).1 hx
    · exact (h.dis j hj).2.2.2 hx
  · obtain ⟨a1, a2, a3, a4⟩ := h.dis j hj
    refine ⟨a1, a2, a3, fun hx => ?_⟩
    rcases hgr j hx with hx | hx
    · exact a4 hx
    · have := h.qlt j hj; omega
  · rcases hx with hx | hx
    · exact n1 hx
    · exact n5 hx
  · rcases hx with hx | hx
    · exact n2 hx
    · exact n6 hx
  · rw [evs_snoc, List.length_append]
    exact e2
  · rcases hx with hx | hx
    · exact Or.inl hx
    · exact Or.inr (Or.inr (Or.inr hx))

end

end Go.Proofs.YtbkdmibggjjnmaaGreatDoor

/-
  MEMORY: the document's world, exactly: values, Value.
-/
set_option linter.unusedVariables false
set_option linter.unusedSimpArgs false
namespace Go.Proofs.YtbkdmibggjjnmaaGreatDoor
open Go.RowKit
attribute [local go_sem ↓] Go.wp_at_zero Go.wp_at_succ

/-- The values, in a list of their own. -/
def VlPost (f : Frm) (F : Nat → Int) (T : Int) (w : World) (e : Ending) (w' : World) : Prop :=
  ∃ b, e = .returned (.slice (some ⟨b, 0, none⟩) f.n f.n) ∧ w.heap.size ≤ b ∧ w'.rowIs b 3 f.n (fun i => .int .i64 (f.vals F T i)) ∧ Below w.heap.size w w'

theorem vl_of {f : Frm} (hf : f.Ok) {F : Nat → Int} (hF : FV f F) {T : Int} {w w' : World} {e : Ending} (h : ValPost (effC f.C F) f.n f.week f.hol T w e w') : VlPost f F T w e w' := by
  obtain ⟨b, V, h1, h2, h3, h4, _, h6⟩ := h
  exact ⟨b, h1, h2, h3.congr (fun i hi => by show Value.int .i64 (V i) = _; rw [vals_eq hf hF h4 i hi]), h6⟩

section
variable {Q : Nat → Prop} {f : Frm} {p : Pl} {F : Nat → Int} {T : Int} {op : Bool} {S : Nat → St} {vE : Value} {E : List Ev} {w : World}

set_option maxRecDepth 100000 in
set_option maxHeartbeats 1000000 in
theorem dvalues_any (hS : DSt Q f p F T op S vE E w) (hf : f.Ok) (hF : FV f F) (t0 : 0 ≤ T) (t1 : T ≤ 1000000000) :
    Calls Tryz.prog 68 #[.pointer (some ⟨p.bw, 0, none⟩)] w fun e w' => VlPost f F T w e w' := by
  obtain ⟨n1, hn, hk, wk1, wk2⟩ := hf.sizes
  have r0 := hS.row.cell (i := 0) (by omega)
  have r1 := hS.row.cell (i := 1) (by omega)
  have r2 := hS.row.cell (i := 2) (by omega)
  have r3 := hS.row.cell (i := 3) (by omega)
  have r4 := hS.row.cell (i := 4) (by omega)
  have r5 := hS.row.cell (i := 5) (by omega)
  simp [wf] at r0 r1 r2 r3 r4 r5
  have zb := hS.row.lt
  obtain ⟨b1, b2, b3⟩ := hS.base.now
  obtain ⟨g, N, f1, f2, f3⟩ := hS.fil
  have CALL : ∀ W, Below w.heap.size w W → Calls Tryz.prog 91 #[.agg #[.slice (some ⟨p.bc, 0, none⟩) f.n f.n, .slice p.aO f.k p.cO, .int .i64 f.week, .slice (some ⟨p.bh, 0, none⟩) f.hol.length f.hol.length], .slice (some ⟨p.bF, 0, none⟩) f.n p.cF, .int .i64 T] W fun e w' => VlPost f F T W e w' := fun W hW =>
    (rvalues_any p.aO (some ⟨p.bh, 0, none⟩) p.bc 0 f.n f.n f.k p.cO f.hol.length f.hol.length p.bF 0 p.cF f.C (effC f.C F) F f.week T f.hol W hn n1 wk1 wk2 hf.hol rfl (SlAt.below b3 hW (Nat.le_refl _)) (by have := b1.lt; have := hW.size; omega)
      (fun m hm => (cellf_cel b1 hm).below hW b1.lt) (by have := f1.lt; have := hW.size; omega) (fun m hm => by rw [Nat.zero_add, hW.cell (p := ⟨p.bF, m, none⟩) f1.lt, f1.cell (by omega), f3 m hm]) (effC_eff f.C F f.n) (effC_ok hf.cells hF) (effC_ring hf.ring) t0 t1).mono (fun e w' h => vl_of hf hF h)
  have HC := hid CALL
  clear CALL hS hf hF f1 f2 f3 b1 b2 b3
  go_enter Tryz.func68, Tryz.ntmps68
  go_wp2
  go_region_held3 (fun w' => w'.cell? ⟨p.bw, 0, none⟩ = some (.slice (some ⟨p.bc, 0, none⟩) f.n f.n) ∧ w'.cell? ⟨p.bw, 1, none⟩ = some (.slice p.aO f.k p.cO) ∧ w'.cell? ⟨p.bw, 2, none⟩ = some (.int .i64 f.week) ∧ w'.cell? ⟨p.bw, 3, none⟩ = some (.slice (some ⟨p.bh, 0, none⟩) f.hol.length f.hol.length) ∧ w'.cell? ⟨p.bw, 4, none⟩ = some (.slice (some ⟨p.bF, 0, none⟩) f.n p.cF) ∧ w'.cell? ⟨p.bw, 5, none⟩ = some (.int .i64 T))
    ((refine ⟨?_, ?_, ?_, ?_, ?_, ?_⟩ <;> first | assumption | (rw [hb2.cell (show p.bw < w.heap.size from zb)]; assumption)))
    ((go_at_call 91; refine (HC.out _ (by exact (Below.refl _ _).drew)).mono ?_; rintro e w2 ⟨b, rfl, q1, q2, hb2⟩))
  go_wp2
  go_ret
  exact ⟨b, rfl, q1, q2, ⟨hb2.os, hb2.tape, hb2.output, hb2.size, hb2.block⟩⟩

end

/-- What Value answers: P4. -/
def valV (f : Frm) (F : Nat → Int) (T : Int) (c : Int) : Int := if 0 ≤ c ∧ c < f.n then f.vals F T c.toNat else 0
def valE (f : Frm) (c : Int) : Int := if 0 ≤ c ∧ c < f.n then 0 else 6
def VAns (f : Frm) (F : Nat → Int) (T : Int) (c : Int) (w : World) (e : Ending) (w' : World) : Prop := e = .returned (.tuple #[.int .i64 (valV f F T c), .int .i64 (valE f c)]) ∧ Below w.heap.size w w'

theorem vans_no {f : Frm} {F : Nat → Int} {T c : Int} {w w' : World} (h : ¬ (0 ≤ c ∧ c < f.n)) (hb : Below w.heap.size w w') : VAns f F T c w (.returned (.tuple #[.int .i64 0, .int .i64 6])) w' := ⟨by unfold valV valE; rw [if_neg h, if_neg h], hb⟩
theorem vans_yes {f : Frm} {F : Nat → Int} {T : Int} {i : Nat} {w w' : World} (h : i < f.n) (hb : Below w.heap.size w w') : VAns f F T i w (.returned (.tuple #[.int .i64 (f.vals F T i), .int .i64 0])) w' := ⟨by unfold valV valE; rw [if_pos (by omega), if_pos (by omega)]; rfl, hb⟩

section
variable {Q : Nat → Prop} {f : Frm} {p : Pl} {F : Nat → Int} {T : Int} {op : Bool} {S : Nat → St} {vE : Value} {E : List Ev} {w : World}

set_option maxRecDepth 100000 in
set_option maxHeartbeats 1000000 in
theorem dValue_any (c : Int) (hS : DSt Q f p F T op S vE E w) (hf : f.Ok) (hF : FV f F) (t0 : 0 ≤ T) (t1 : T ≤ 1000000000) :
    Calls Tryz.prog 53 #[.pointer (some ⟨p.bw, 0, none⟩), .int .i64 c] w fun e w' => VAns f F T c w e w' := by
  obtain ⟨n1, hn, hk, wk1, wk2⟩ := hf.sizes
  have r0 := hS.row.cell (i := 0) (by omega)
  simp [wf] at r0
  have CALL := hid (dvalues_any hS hf hF t0 t1)
  clear hS hf hF
  by_cases c0 : c < 0
  · have R : Hid (VAns f F T c w (.returned (.tuple #[.int .i64 0, .int .i64 6])) w) := vans_no (by omega) (Below.refl _ _)
    go_enter Tryz.func53, Tryz.ntmps53
    go_wp2
    go_ret2
    exact R.out
  by_cases c1 : (f.n : Int) ≤ c
  · have R : Hid (VAns f F T c w (.returned (.tuple #[.int .i64 0, .int .i64 6])) w) := vans_no (by omega) (Below.refl _ _)
    go_enter Tryz.func53, Tryz.ntmps53
    go_wp2
    go_ret2
    exact R.out
  obtain ⟨i, rfl⟩ := Int.eq_ofNat_of_zero_le (show 0 ≤ c by omega)
  go_enter Tryz.func53, Tryz.ntmps53
  go_wp2_with fail
  refine CALL.out.mono ?_
  rintro e w1 ⟨b, rfl, q1, q2, hb2⟩
  have x := q2.cell (i := i) (by omega)
  have R : Hid (VAns f F T i w (.returned (.tuple #[.int .i64 (f.vals F T i), .int .i64 0])) w1) := vans_yes (by omega) hb2
  clear q2 hb2
  go_wp2
  go_ret2
  exact R.out

end

end Go.Proofs.YtbkdmibggjjnmaaGreatDoor
