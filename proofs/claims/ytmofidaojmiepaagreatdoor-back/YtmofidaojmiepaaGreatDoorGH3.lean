/-
  MEMORY: does what was handed in read as it did?
-/
import Derived.Test.YtmofidaojmiepaaGreatDoorGH1
import Derived.Laws.StructEq
import Derived.Deep.AppendLies
import Derived.Deep.RegionLaw
import Derived.Test.YtmofidaojmiepaaGreatDoorGW14
import Derived.Deep.Cut
import Derived.BigRegion
set_option linter.unusedVariables false
set_option linter.unusedSimpArgs false
namespace Go.Proofs.YtmofidaojmiepaaGreatDoor

open Go.RowKit

attribute [local go_sem ↓] Go.wp_at_zero Go.wp_at_succ

theorem h76 : Tryz.prog.stoodInHeld 47 = false := by kernel_rfl

theorem u76 : Tryz.prog.underlying 47 = some (.struct (Tryz.prog.fieldsOf 47)) := by
  simp only [Program.fieldsOf, Tryz.underlying47]

theorem m76 : Tryz.prog.eqGuardType Tryz.prog.depth 47 = false := by kernel_rfl

theorem eq76 (a b c d e : Int) (W : World) : (Op.equalIn 10000 47 (.agg #[.int .i64 a, .int .i64 b, .int .i64 c, .int .i64 d, .int .i64 e]) (.agg #[.int .i64 a, .int .i64 b, .int .i64 c, .int .i64 d, .int .i64 e])).run Tryz.prog W = .ok true W := by
  rw [run_equalIn_agg W _ 47 _ _ u76 h76]
  simp [Program.fieldsOf, Tryz.underlying47, Op.eqFields, go_sem, Tryz.underlying3]

attribute [local go_sem] eq76

theorem cellSt_cel {C : Nat → Cel} {n i N : Nat} {w : World} {b : Nat} (h : w.rowIs b 47 N (cellSt C n 8)) (hi : i < n) (hN : n * 5 ≤ N) : CelIs w b (i * 5) (C i) := by
  have e : ∀ j, j < n * 5 → cellSt C n 8 j = cellf C j := fun j hj => by unfold cellSt; rw [if_pos hj]
  refine ⟨?_, ?_, ?_, ?_, ?_⟩
  · rw [h.cell (by omega), e _ (by omega), cellf0]
  · rw [h.cell (by omega), e _ (by omega), cellf1]
  · rw [h.cell (by omega), e _ (by omega), cellf2]
  · rw [h.cell (by omega), e _ (by omega), cellf3]
  · rw [h.cell (by omega), e _ (by omega), cellf4]

theorem two_boxes {w wr : World} {c1 c2 : Array Value} {t1 t2 : TypeId} (h : Below (w.heap.size + 1 + 1) ((w.alloc (.cells c1 t1)).alloc (.cells c2 t2)) wr) (i : Nat) : wr.cell? ⟨w.heap.size, i, none⟩ = c1[i]? ∧ wr.cell? ⟨w.heap.size + 1, i, none⟩ = c2[i]? := by
  constructor
  · rw [h.cell (p := ⟨w.heap.size, i, none⟩) (by show w.heap.size < _; omega), World.cell?_alloc_lt (h := by simp), World.cell?_alloc_new]
  · rw [h.cell (p := ⟨w.heap.size + 1, i, none⟩) (by show w.heap.size + 1 < _; omega)]
    have := World.cell?_alloc_new (w.alloc (.cells c1 t1)) c2 t2 i
    rw [World.size_alloc] at this; exact this

theorem two_boxes_below {w wr : World} {o1 o2 : Obj} (h : Below (w.heap.size + 1 + 1) ((w.alloc o1).alloc o2) wr) : Below w.heap.size w wr :=
  (((Below.refl _ _).alloc (Nat.le_refl _) _).alloc (by simp) _).trans (h.mono (by omega))

end Go.Proofs.YtmofidaojmiepaaGreatDoor

/-
  MEMORY: what was handed in is written over.
-/
set_option linter.unusedVariables false
set_option linter.unusedSimpArgs false
namespace Go.Proofs.YtmofidaojmiepaaGreatDoor

open Go.RowKit

/-- Only blocks from lo on and below hi, and new ones, have turned. -/
structure Rng (lo hi : Nat) (w w' : World) : Prop where
  bel : Below lo w w'
  up : ∀ k, hi ≤ k → k < w.heap.size → w'.heap[k]? = w.heap[k]?

theorem Rng.refl (lo hi : Nat) (w : World) : Rng lo hi w w := ⟨Below.refl _ _, fun _ _ _ => rfl⟩

theorem Rng.trans {lo hi : Nat} {a b c : World} (h : Rng lo hi a b) (g : Rng lo hi b c) : Rng lo hi a c :=
  ⟨h.bel.trans g.bel, fun k h1 h2 => (g.up k h1 (by have := h.bel.size; omega)).trans (h.up k h1 h2)⟩

theorem Rng.setCell {lo hi b o : Nat} {a w : World} (h : Rng lo hi a w) (h1 : lo ≤ b) (h2 : b < hi) (v : Value) : Rng lo hi a (w.setCell ⟨b, o, none⟩ v) :=
  ⟨h.bel.setCell h1 v, fun k g1 g2 => (Below.heap_setCell _ _ _ _ (by show k ≠ b; omega)).trans (h.up k g1 g2)⟩

theorem Rng.alloc {lo hi : Nat} {a w : World} (h : Rng lo hi a w) (h1 : lo ≤ w.heap.size) (o : Obj) : Rng lo hi a (w.alloc o) :=
  ⟨h.bel.alloc h1 o, fun k g1 g2 => (Below.heap_alloc _ _ _ (by have := h.bel.size; omega)).trans (h.up k g1 g2)⟩

/-- A row of numbers, whichever. -/
def Row3 (w : World) (b n : Nat) : Prop := ∃ f : Nat → Int, w.rowIs b 3 n (fun j => .int .i64 (f j))

theorem Row3.set {w : World} {b n o b' : Nat} {v : Int} (h : Row3 w b n) : Row3 (w.setCell ⟨b', o, none⟩ (.int .i64 v)) b n := by
  obtain ⟨f, h⟩ := h
  by_cases e : b = b'
  · subst e
    exact ⟨upd f o v, (h.set o _).congr (fun j _ => by unfold upd; split <;> rfl)⟩
  · exact ⟨f, h.setOther e _⟩

theorem intSp_row {w : World} {b : Nat} {l : List Int} (h : w.rowIs b 3 (l.length + 8) (intSp l)) : Row3 w b (l.length + 8) := ⟨_, h⟩

/-- What blotInts does: one row of numbers is written over. -/
def BlotPost (b : Nat) (w : World) (e : Ending) (w' : World) : Prop :=
  e = .returned (.tuple #[]) ∧ w'.heap.size = w.heap.size ∧ Rng b (b + 1) w w' ∧ (∀ b' n, Row3 w b' n → Row3 w' b' n)

theorem row3_alloc {w : World} {b n : Nat} (h : Row3 w b n) (o : Obj) : Row3 (w.alloc o) b n := by
  obtain ⟨f, hf⟩ := h
  exact ⟨f, hf.alloc _⟩

theorem rng_of_blot {lo hi b : Nat} {a w w' : World} (h : Rng lo hi a w) (g : Rng b (b + 1) w w') (h1 : lo ≤ b) (h2 : b < hi) : Rng lo hi a w' :=
  ⟨h.bel.trans (g.bel.mono h1), fun k k1 k2 => (g.up k (by omega) (by have := h.bel.size; omega)).trans (h.up k k1 k2)⟩

def blotR (R : Nat → Rul) (bs : Nat → Nat) (k i j : Nat) : Value := if j < i * 2 then (if j % 2 = 0 then .int .i64 (-7) else .slice none 0 0) else ruleSt R bs k 8 j

theorem blotR_next {w : World} {R : Nat → Rul} {bs : Nat → Nat} {k i b N : Nat} (h : w.rowIs b 51 N (blotR R bs k i)) : ((w.setCell ⟨b, i * 2, none⟩ (.int .i64 (-7))).setCell ⟨b, i * 2 + 1, none⟩ (.slice none 0 0)).rowIs b 51 N (blotR R bs k (i + 1)) :=
  ((h.set _ _).set _ _).congr (fun j _ => by
    unfold blotR
    by_cases h1 : j = i * 2 + 1
    · rw [if_pos h1, if_pos (by omega), if_neg (by omega)]
    · rw [if_neg h1]
      by_cases h2 : j = i * 2
      · rw [if_pos h2, if_pos (by omega), if_pos (by omega)]
      · rw [if_neg h2]
        by_cases h3 : j < i * 2
        · simp only [h3, if_true, show j < (i + 1) * 2 by omega]
        · simp only [h3, if_false, show ¬ j < (i + 1) * 2 by omega])

end Go.Proofs.YtmofidaojmiepaaGreatDoor

/-
  MEMORY: the document's world: an event.
-/
set_option linter.unusedVariables false
set_option linter.unusedSimpArgs false
namespace Go.Proofs.YtmofidaojmiepaaGreatDoor

open Go.RowKit

attribute [local go_sem ↓] Go.wp_at_zero Go.wp_at_succ

theorem info101 : (Tryz.prog.info? 99).map (fun i => (i.zero, i.size, i.bytes)) = some (some (.agg #[.int .i64 0, .int .i64 0, .int .i64 0]), 3, 24) := by kernel_rfl

theorem own_of_block {w w' : World} {base : Nat} {e : TypeId} {size : Nat} {v : Value} {n : Nat} {xs : List Value} (h : w.ownsRow base e size v n xs) (hb : ∀ g, v.ownBlock = some g → g < w.heap.size → w'.heap[g]? = w.heap[g]?) : w'.ownsRow base e size v n xs := by
  obtain ⟨h1, h2⟩ := h
  refine ⟨h1, ?_⟩
  rcases h2 with h2 | ⟨g, cap, cur, hv, hg, hh, r⟩
  · exact Or.inl h2
  · have hlt : g < w.heap.size := by
      rcases Nat.lt_or_ge g w.heap.size with h | h
      · exact h
      · rw [Array.getElem?_eq_none h] at hh; cases hh
    exact Or.inr ⟨g, cap, cur, hv, hg, by rw [hb g (by rw [hv]; rfl) hlt]; exact hh, r⟩

theorem own_alloc_drew {w : World} {base : Nat} {e : TypeId} {size : Nat} {v : Value} {n : Nat} {xs : List Value} (h : w.ownsRow base e size v n xs) (o : Obj) : (w.alloc o).drew.ownsRow base e size v n xs :=
  own_of_block h (fun g _ hlt => Below.heap_alloc w o g hlt)

theorem news3 (w : World) (a b c : Value) (t : TypeId) : ∀ j u, [a, b, c][j]? = some u → (w.alloc (.cells #[a, b, c] t)).drew.cell? ((⟨w.heap.size, 0, none⟩ : Addr).add j) = some u :=
  World.news_of_block (cs := #[a, b, c]) (t := t) (fr := (0, 0)) (by show (w.heap.push _)[w.heap.size]? = _; simp)

theorem own_base {w : World} {base : Nat} {e : TypeId} {size : Nat} {v : Value} {n : Nat} {xs : List Value} (h : w.ownsRow base e size v n xs) {g : Nat} (hg : v.ownBlock = some g) : base ≤ g := by
  rcases h.2 with ⟨hv, _⟩ | ⟨g', cap, cur, hv, hb, _⟩
  · rw [hv] at hg; cases hg
  · rw [hv] at hg
    have : g' = g := by simpa [Value.ownBlock] using hg
    omega

theorem ev_far (w : World) {w1 : World} {row : Option Nat} (o : Obj) (h : ((w.alloc o).drew).grownBy w1 row) {k : Nat} (hk : k < w.heap.size) (hr : row ≠ some k) : w1.heap[k]? = w.heap[k]? :=
  (h.block k (by show k < (w.heap.push o).size; simp; omega) (fun e => hr e.symm)).trans (Below.heap_alloc w o k hk)

/-- What event does: one event more; of what was there only the world's own place for the log, and the log's own room, have turned. -/
def EvPost (bw base n : Nat) (vE : Value) (w : World) (e : Ending) (w' : World) : Prop :=
  ∃ v' xs', e = .returned (.tuple #[]) ∧ w'.ownsRow base 99 3 v' (n + 1) xs' ∧ w.heap.size ≤ w'.heap.size ∧ w'.os = w.os ∧ w'.tape = w.tape ∧ w'.output = w.output ∧
    (∀ k, k < w.heap.size → k ≠ bw → vE.ownBlock ≠ some k → w'.heap[k]? = w.heap[k]?) ∧ (∀ t N f, w.rowIs bw t N f → w'.rowIs bw t N (fun j => if j = 8 then v' else f j))

theorem ev_close {bw base n g cap : Nat} {vE : Value} {xs xs' : List Value} {w w1 : World} {o : Obj} (hb : bw < base) (hB : base ≤ w.heap.size) (hown : w.ownsRow base 99 3 vE n xs)
    (h1 : w1.ownsRow base 99 3 (.slice (some ⟨g, 0, none⟩) (n + 1) cap) (n + 1) xs') (hg : ((w.alloc o).drew).grownBy w1 vE.ownBlock) (_hlt : g < w1.heap.size) :
    EvPost bw base n vE w (.returned (.tuple #[])) (w1.setCell ⟨bw, 8, none⟩ (.slice (some ⟨g, 0, none⟩) (n + 1) cap)) := by
  have hne : vE.ownBlock ≠ some bw := fun e => by have := own_base hown e; omega
  have hgb : base ≤ g := own_base h1 rfl
  have hbk : w1.heap[bw]? = w.heap[bw]? := ev_far w o hg (by omega) hne
  have hsz := hg.size
  simp at hsz
  refine ⟨_, xs', rfl, ownsRow_setCell_below h1 (show bw < base from hb) _, by simp; omega, hg.os, hg.tape, hg.output, fun k k1 k2 k3 => ?_, fun t N f hf => (hf.of_block hbk).set 8 _⟩
  rw [Below.heap_setCell _ _ _ _ (show k ≠ bw from k2)]
  exact ev_far w o hg k1 k3

end Go.Proofs.YtmofidaojmiepaaGreatDoor

/-
  MEMORY: the document's own copy of a form.
-/
set_option linter.unusedVariables false
set_option linter.unusedSimpArgs false
namespace Go.Proofs.YtmofidaojmiepaaGreatDoor

open Go.RowKit

attribute [local go_sem ↓] Go.wp_at_zero Go.wp_at_succ

/-- What copied answers. -/
def CopPost (l : List Int) (w : World) (e : Ending) (w' : World) : Prop :=
  ∃ b, e = .returned (.slice (some ⟨b, 0, none⟩) l.length l.length) ∧ w.heap.size ≤ b ∧ w'.rowIs b 3 l.length (fun j => .int .i64 (l.getD j 0)) ∧ Below w.heap.size w w'

theorem row_ints {w : World} {b : Nat} {l : List Int} {cap : Nat} (h : w.rowIs b 3 l.length (fun j => .int .i64 (l.getD j 0))) : IntsAt w (.slice (some ⟨b, 0, none⟩) l.length cap) l :=
  ⟨some ⟨b, 0, none⟩, cap, rfl, fun j hj => ⟨b, 0, rfl, h.lt, by rw [Nat.zero_add]; exact h.cell (by omega)⟩⟩

/-- A rule of the own copy. -/
def ruleOwn (R : Nat → Rul) (bs : Nat → Nat) (j : Nat) : Value := if j % 2 = 0 then .int .i64 (R (j / 2)).guard else .slice (some ⟨bs (j / 2), 0, none⟩) (R (j / 2)).steps.length (R (j / 2)).steps.length

/-- The list of rules, as far as it is laid. -/
def RulL (w : World) (base : Nat) (R : Nat → Rul) (bs : Nat → Nat) (m : Nat) (v : Value) : Prop :=
  ∃ xs, w.ownsRow base 51 2 v m xs ∧ ∀ j, j < m * 2 → xs[j]? = some (ruleOwn R bs j)

theorem own_ne_row {w : World} {base : Nat} {e t : TypeId} {size : Nat} {v : Value} {n N : Nat} {xs : List Value} {f : Nat → Value} {b : Nat} (h : w.ownsRow base e size v n xs) (g : w.rowIs b t N f) (hne : t ≠ e) : v.ownBlock ≠ some b := by
  intro hv
  rcases h.2 with ⟨h1, _⟩ | ⟨g', cap, cur, h1, _, hh, _⟩
  · rw [h1] at hv; cases hv
  · rw [h1] at hv
    have e1 : g' = b := by simpa [Value.ownBlock] using hv
    subst e1
    obtain ⟨c, hc, _⟩ := g
    rw [hh] at hc
    simp at hc
    exact hne hc.2.symm

theorem RulL.at {w : World} {base : Nat} {R : Nat → Rul} {bs : Nat → Nat} {m : Nat} {v : Value} (h : RulL w base R bs m v) (hs : ∀ i, i < m → w.rowIs (bs i) 3 (R i).steps.length (fun j => .int .i64 ((R i).steps.getD j 0))) (hl : ∀ i, i < m → (R i).steps.length ≤ 1000000000) :
    ∃ a cap, v = .slice a m cap ∧ RAt w a m R := by
  obtain ⟨xs, ⟨h1, h2⟩, hx⟩ := h
  rcases h2 with ⟨h2, rfl⟩ | ⟨g, cap, cur, h2, h3, h4, h5, h6, h7, h8⟩
  · exact ⟨none, 0, h2, Or.inl rfl⟩
  · refine ⟨some ⟨g, 0, none⟩, cap, h2, ?_⟩
    by_cases m0 : m = 0
    · exact Or.inl m0
    have hlt : g < w.heap.size := by
      rcases Nat.lt_or_ge g w.heap.size with h | h
      · exact h
      · rw [Array.getElem?_eq_none h] at h4; cases h4
    have hcell : ∀ j, j < m * 2 → w.cell? ⟨g, j, none⟩ = some (ruleOwn R bs j) := fun j hj => by
      have e : cur[j]? = xs[j]? := by
        rw [← h8, List.getElem?_take, if_pos hj]; simp
      simp [World.cell?, h4, e, hx j hj]
    refine Or.inr ⟨g, 0, rfl, hlt, fun i hi => ⟨?_, some ⟨bs i, 0, none⟩, (R i).steps.length, ?_, row_ints (hs i hi), hl i hi⟩⟩
    · rw [Nat.zero_add, hcell _ (by omega)]; unfold ruleOwn; rw [if_pos (by omega), show i * 2 / 2 = i by omega]
    · rw [Nat.zero_add, hcell _ (by omega)]; unfold ruleOwn; rw [if_neg (by omega), show (i * 2 + 1) / 2 = i by omega]

end Go.Proofs.YtmofidaojmiepaaGreatDoor

/-
  MEMORY: the document's own copy of a form, whole.
-/
set_option linter.unusedVariables false
set_option linter.unusedSimpArgs false
namespace Go.Proofs.YtmofidaojmiepaaGreatDoor

open Go.RowKit

attribute [local go_sem ↓] Go.wp_at_zero Go.wp_at_succ

def gOwn (N n : Nat) (week : Int) (v : Value) (j : Nat) : Value := if j = 0 then .slice (some ⟨N + 1 + 1 + 1, 0, none⟩) n n else if j = 1 then v else if j = 2 then .int .i64 week else .slice none 0 0

theorem news2 (w : World) (a b : Value) (t : TypeId) : ∀ j u, [a, b][j]? = some u → (w.alloc (.cells #[a, b] t)).drew.cell? ((⟨w.heap.size, 0, none⟩ : Addr).add j) = some u :=
  World.news_of_block (cs := #[a, b]) (t := t) (fr := (0, 0)) (by show (w.heap.push _)[w.heap.size]? = _; simp)

theorem grow_below {B : Nat} {w1 w2 : World} {o : Obj} {row : Option Nat} (hg : ((w1.alloc o).drew).grownBy w2 row) (hB : B ≤ w1.heap.size) (hr : ∀ g, row = some g → B ≤ g) : Below B w1 w2 :=
  Below.grown (((Below.refl B w1).alloc hB o).drew) hg (by show B ≤ (w1.heap.push o).size; simp; omega) hr

theorem rulL_next {w2 : World} {base m b1 g cap bg : Nat} {R : Nat → Rul} {bs : Nat → Nat} {xs : List Value} (hx : ∀ j, j < m * 2 → xs[j]? = some (ruleOwn R bs j)) (hl : xs.length = m * 2) (hbg : bg < base)
    (h : w2.ownsRow base 51 2 (.slice (some ⟨g, 0, none⟩) (m + 1) cap) (m + 1) (xs ++ [.int .i64 (R m).guard, .slice (some ⟨b1, 0, none⟩) (R m).steps.length (R m).steps.length])) (u : Value) :
    RulL (w2.setCell ⟨bg, 1, none⟩ u) base R (upd bs m b1) (m + 1) (.slice (some ⟨g, 0, none⟩) (m + 1) cap) := by
  refine ⟨_, ownsRow_setCell_below h (show bg < base from hbg) _, fun j hj => ?_⟩
  by_cases h1 : j < m * 2
  · rw [List.getElem?_append_left (by omega), hx j h1]
    unfold ruleOwn
    rw [upd_other _ _ (by omega)]
  · rw [List.getElem?_append_right (by omega), hl]
    have hc : j = m * 2 ∨ j = m * 2 + 1 := by omega
    rcases hc with rfl | rfl
    · rw [Nat.sub_self]
      unfold ruleOwn
      rw [if_pos (by omega), show m * 2 / 2 = m by omega]; rfl
    · rw [show m * 2 + 1 - m * 2 = 1 by omega]
      unfold ruleOwn
      rw [if_neg (by omega), show (m * 2 + 1) / 2 = m by omega, upd_same]; rfl

theorem gOwn_set {N n : Nat} {week : Int} {v v' : Value} (j : Nat) : (if j = 1 then v' else gOwn N n week v j) = gOwn N n week v' j := by
  unfold gOwn
  by_cases h : j = 1
  · subst h; rfl
  · rw [if_neg h]
    by_cases h0 : j = 0
    · rw [if_pos h0, if_pos h0]
    · rw [if_neg h0, if_neg h0, if_neg h, if_neg h]

/-- The blocks from L on stand. -/
def Up (L : Nat) (w W : World) : Prop := w.heap.size ≤ W.heap.size ∧ ∀ j, L ≤ j → j < w.heap.size → W.heap[j]? = w.heap[j]?

theorem Up.refl (L : Nat) (w : World) : Up L w w := ⟨Nat.le_refl _, fun _ _ _ => rfl⟩

theorem Up.trans {L : Nat} {a b c : World} (h : Up L a b) (g : Up L b c) : Up L a c := ⟨Nat.le_trans h.1 g.1, fun j h1 h2 => (g.2 j h1 (by have := h.1; omega)).trans (h.2 j h1 h2)⟩

theorem Up.alloc (L : Nat) (w : World) (o : Obj) : Up L w (w.alloc o) := ⟨by simp, fun j _ h2 => Below.heap_alloc w o j h2⟩

theorem Up.setLow {L : Nat} (w : World) (p : Addr) (hp : p.block < L) (v : Value) : Up L w (w.setCell p v) := ⟨by simp, fun j h1 _ => Below.heap_setCell w p v j (by omega)⟩

/-- A form's rules and holidays lie from L on. -/
def Floor (L : Nat) (w : World) (aR : Option Addr) (k : Nat) (R : Nat → Rul) (bh : Nat) (hol : List Int) : Prop := ∀ W, Up L w W → RAt W aR k R ∧ IntsAt W (.slice (some ⟨bh, 0, none⟩) hol.length hol.length) hol

/-- What own answers: a copy in lists of its own. -/
def OwnPost (C : Nat → Cel) (n : Nat) (R : Nat → Rul) (k : Nat) (hol : List Int) (week : Int) (w : World) (e : Ending) (w' : World) : Prop :=
  ∃ bc aR cR bh, e = .returned (.agg #[.slice (some ⟨bc, 0, none⟩) n n, .slice aR k cR, .int .i64 week, .slice (some ⟨bh, 0, none⟩) hol.length hol.length]) ∧ w.heap.size ≤ bc ∧ w'.rowIs bc 47 (n * 5) (cellf C) ∧ Floor w.heap.size w' aR k R bh hol ∧ Below w.heap.size w w'

theorem gOwn_row {w wr : World} {o1 o2 : Obj} {n : Nat} {week : Int} (h : Below (w.heap.size + 1 + 1 + 1) (((w.alloc o1).alloc o2).alloc (.cells #[.slice (some ⟨w.heap.size + 1 + 1 + 1, 0, none⟩) n n, .slice none 0 0, .int .i64 week, .slice none 0 0] 26)) wr) : wr.rowIs (w.heap.size + 1 + 1) 26 4 (gOwn w.heap.size n week (.slice none 0 0)) := by
  have h1 := World.rowIs_alloc ((w.alloc o1).alloc o2) #[.slice (some ⟨w.heap.size + 1 + 1 + 1, 0, none⟩) n n, .slice none 0 0, .int .i64 week, .slice none 0 0] 26 (gOwn w.heap.size n week (.slice none 0 0)) (fun i hi => by
    have hi' : i = 0 ∨ i = 1 ∨ i = 2 ∨ i = 3 := by simp at hi; omega
    rcases hi' with rfl | rfl | rfl | rfl <;> rfl)
  simp only [World.size_alloc] at h1
  exact h1.of_block (h.block _ (by omega))

end Go.Proofs.YtmofidaojmiepaaGreatDoor

/-
  MEMORY: the document's Begin.
-/
set_option linter.unusedVariables false
set_option linter.unusedSimpArgs false
namespace Go.Proofs.YtmofidaojmiepaaGreatDoor

open Go.RowKit

attribute [local go_sem ↓] Go.wp_at_zero Go.wp_at_succ

/-- The document's world: its nine places. -/
def wf (bc n : Nat) (aO : Option Addr) (k cO : Nat) (week : Int) (bh nh : Nat) (vF : Value) (T : Int) (op : Bool) (vS vE : Value) (j : Nat) : Value :=
  if j = 0 then .slice (some ⟨bc, 0, none⟩) n n else if j = 1 then .slice aO k cO else if j = 2 then .int .i64 week else if j = 3 then .slice (some ⟨bh, 0, none⟩) nh nh else if j = 4 then vF else if j = 5 then .int .i64 T else if j = 6 then .bool op else if j = 7 then vS else vE

theorem wf_set4 {bc n : Nat} {aO : Option Addr} {k cO : Nat} {week : Int} {bh nh : Nat} {vF v' : Value} {T : Int} {op : Bool} {vS vE : Value} (j : Nat) : (if j = 4 then v' else wf bc n aO k cO week bh nh vF T op vS vE j) = wf bc n aO k cO week bh nh v' T op vS vE j := by
  unfold wf
  by_cases h : j = 4
  · subst h; rfl
  · simp only [h, if_false]

theorem wf_set7 {bc n : Nat} {aO : Option Addr} {k cO : Nat} {week : Int} {bh nh : Nat} {vF v' : Value} {T : Int} {op : Bool} {vS vE : Value} (j : Nat) : (if j = 7 then v' else wf bc n aO k cO week bh nh vF T op vS vE j) = wf bc n aO k cO week bh nh vF T op v' vE j := by
  unfold wf
  by_cases h : j = 7
  · subst h; rfl
  · simp only [h, if_false]

theorem wf_set8 {bc n : Nat} {aO : Option Addr} {k cO : Nat} {week : Int} {bh nh : Nat} {vF v' : Value} {T : Int} {op : Bool} {vS vE : Value} (j : Nat) (hj : j < 9) : (if j = 8 then v' else wf bc n aO k cO week bh nh vF T op vS vE j) = wf bc n aO k cO week bh nh vF T op vS v' j := by
  unfold wf
  by_cases h : j = 8
  · subst h; rfl
  · have hc : j = 0 ∨ j = 1 ∨ j = 2 ∨ j = 3 ∨ j = 4 ∨ j = 5 ∨ j = 6 ∨ j = 7 := by omega
    rcases hc with rfl | rfl | rfl | rfl | rfl | rfl | rfl | rfl <;> rfl

/-- The list of what is filled in, as far as it is laid. -/
def FilL (w : World) (base : Nat) (F : Nat → Int) (m : Nat) (v : Value) : Prop := ∃ xs, w.ownsRow base 3 1 v m xs ∧ ∀ j, j < m → xs[j]? = some (.int .i64 (F j))

theorem filL_next {w2 : World} {base m g cap bg o : Nat} {F : Nat → Int} {xs : List Value} (hx : ∀ j, j < m → xs[j]? = some (.int .i64 (F j))) (hl : xs.length = m * 1) (hbg : bg < base)
    (h : w2.ownsRow base 3 1 (.slice (some ⟨g, 0, none⟩) (m + 1) cap) (m + 1) (xs ++ [.int .i64 (F m)])) (u : Value) : FilL (w2.setCell ⟨bg, o, none⟩ u) base F (m + 1) (.slice (some ⟨g, 0, none⟩) (m + 1) cap) := by
  refine ⟨_, ownsRow_setCell_below h (show bg < base from hbg) _, fun j hj => ?_⟩
  by_cases h1 : j < m
  · rw [List.getElem?_append_left (by omega), hx j h1]
  · obtain rfl : j = m := by omega
    rw [List.getElem?_append_right (by omega), hl, show j - j * 1 = 0 by omega]; rfl

theorem news1 (w : World) (a : Value) (t : TypeId) : ∀ j u, [a][j]? = some u → (w.alloc (.cells #[a] t)).drew.cell? ((⟨w.heap.size, 0, none⟩ : Addr).add j) = some u :=
  World.news_of_block (cs := #[a]) (t := t) (fr := (0, 0)) (by show (w.heap.push _)[w.heap.size]? = _; simp)

theorem underlyingE : Tryz.prog.underlying 38 = some (.slice 71) := by kernel_rfl

theorem info92 : (Tryz.prog.info? 71).map (fun i => (i.zero, i.size, i.bytes)) = some (some (.agg #[.bool false, .int .i64 0, .int .i64 0, .bool false]), 4, 32) := by kernel_rfl

end Go.Proofs.YtmofidaojmiepaaGreatDoor

/-
  MEMORY: what turns and what stands; a rule's state; a form; what is filled in.
-/
set_option linter.unusedVariables false
set_option linter.unusedSimpArgs false
namespace Go.Proofs.YtmofidaojmiepaaGreatDoor

open Go.RowKit

attribute [local go_sem ↓] Go.wp_at_zero Go.wp_at_succ

/-- Of what was there only the blocks of X have turned. -/
structure Chg (X : Nat → Prop) (w w' : World) : Prop where
  os : w'.os = w.os
  tape : w'.tape = w.tape
  output : w'.output = w.output
  size : w.heap.size ≤ w'.heap.size
  block : ∀ j, j < w.heap.size → ¬ X j → w'.heap[j]? = w.heap[j]?

theorem Chg.of {X : Nat → Prop} {w w' : World} (h : Below w.heap.size w w') : Chg X w w' := ⟨h.os, h.tape, h.output, h.size, fun j hj _ => h.block j hj⟩

theorem Chg.refl (X : Nat → Prop) (w : World) : Chg X w w := ⟨rfl, rfl, rfl, Nat.le_refl _, fun _ _ _ => rfl⟩

theorem Chg.trans {X Y : Nat → Prop} {a b c : World} (h : Chg X a b) (g : Chg Y b c) (hs : ∀ j, j < a.heap.size → Y j → X j) : Chg X a c :=
  ⟨g.os.trans h.os, g.tape.trans h.tape, g.output.trans h.output, Nat.le_trans h.size g.size, fun j hj hx => (g.block j (by have := h.size; omega) (fun y => hx (hs j hj y))).trans (h.block j hj hx)⟩

theorem Chg.mono {X Y : Nat → Prop} {a b : World} (h : Chg X a b) (hs : ∀ j, j < a.heap.size → X j → Y j) : Chg Y a b :=
  ⟨h.os, h.tape, h.output, h.size, fun j hj hy => h.block j hj (fun x => hy (hs j hj x))⟩

theorem Chg.low {X : Nat → Prop} {a b c : World} (h : Chg X a b) (g : Below b.heap.size b c) : Chg X a c := h.trans (Chg.of (X := X) g) (fun _ _ x => x)

theorem Chg.setCell {X : Nat → Prop} {a b : World} (h : Chg X a b) (p : Addr) (v : Value) (hp : X p.block) : Chg X a (b.setCell p v) :=
  ⟨h.os, h.tape, h.output, by simpa using h.size, fun j hj hx => by
    have hne : j ≠ p.block := fun e => hx (by rw [e]; exact hp)
    rw [Below.heap_setCell _ _ _ _ hne]
    exact h.block j hj hx⟩

theorem Chg.drew {X : Nat → Prop} {a b : World} (h : Chg X a b) : Chg X a b.drew := ⟨h.os, h.tape, h.output, h.size, h.block⟩

theorem Chg.drewN {X : Nat → Prop} {a b : World} (h : Chg X a b) (q : Nat) : Chg X a (b.drewN q) := h.low (below_drewN (Below.refl _ _) q)

theorem Chg.below {B : Nat} {X : Nat → Prop} {a b : World} (h : Chg X a b) (hB : ∀ j, X j → B ≤ j) (hs : B ≤ a.heap.size) : Below B a b := ⟨h.os, h.tape, h.output, h.size, fun j hj => h.block j (by omega) (fun x => by have := hB j x; omega)⟩

/-- The blocks of Q stand. -/
def Stand (Q : Nat → Prop) (w W : World) : Prop := w.heap.size ≤ W.heap.size ∧ ∀ j, Q j → j < w.heap.size → W.heap[j]? = w.heap[j]?

theorem Stand.refl (Q : Nat → Prop) (w : World) : Stand Q w w := ⟨Nat.le_refl _, fun _ _ _ => rfl⟩

theorem Stand.trans {Q : Nat → Prop} {a b c : World} (h : Stand Q a b) (g : Stand Q b c) : Stand Q a c := ⟨Nat.le_trans h.1 g.1, fun j q hj => (g.2 j q (by have := h.1; omega)).trans (h.2 j q hj)⟩

theorem Stand.of {Q : Nat → Prop} {w W : World} (h : Below w.heap.size w W) : Stand Q w W := ⟨h.size, fun j _ hj => h.block j hj⟩

theorem Chg.stand {X Q : Nat → Prop} {w W : World} (h : Chg X w W) (hq : ∀ j, Q j → ¬ X j) : Stand Q w W := ⟨h.size, fun j q hj => h.block j hj (hq j q)⟩

/-- It is so wherever the blocks of Q stand. -/
def Held (Q : Nat → Prop) (w : World) (P : World → Prop) : Prop := ∀ W, Stand Q w W → P W

theorem Held.now {Q : Nat → Prop} {w : World} {P : World → Prop} (h : Held Q w P) : P w := h w (Stand.refl _ _)

theorem Held.move {Q : Nat → Prop} {w w' : World} {P : World → Prop} (h : Held Q w P) (g : Stand Q w w') : Held Q w' P := fun W hW => h W (g.trans hW)

/-- A rule's state. -/
structure St where
  lit : Bool
  since : Int
  level : Int
  acked : Bool

def stf (S : Nat → St) (j : Nat) : Value := if j % 4 = 0 then .bool (S (j / 4)).lit else if j % 4 = 1 then .int .i64 (S (j / 4)).since else if j % 4 = 2 then .int .i64 (S (j / 4)).level else .bool (S (j / 4)).acked

def StOk (s : St) : Prop := 0 ≤ s.since ∧ s.since ≤ 1000000000 ∧ 0 ≤ s.level ∧ s.level ≤ 1000

theorem stf0 (S : Nat → St) (i : Nat) : stf S (i * 4) = .bool (S i).lit := by unfold stf; rw [if_pos (by omega), show i * 4 / 4 = i by omega]

theorem stf1 (S : Nat → St) (i : Nat) : stf S (i * 4 + 1) = .int .i64 (S i).since := by unfold stf; rw [if_neg (by omega), if_pos (by omega), show (i * 4 + 1) / 4 = i by omega]

theorem stf2 (S : Nat → St) (i : Nat) : stf S (i * 4 + 2) = .int .i64 (S i).level := by unfold stf; rw [if_neg (by omega), if_neg (by omega), if_pos (by omega), show (i * 4 + 2) / 4 = i by omega]

theorem stf3 (S : Nat → St) (i : Nat) : stf S (i * 4 + 3) = .bool (S i).acked := by unfold stf; rw [if_neg (by omega), if_neg (by omega), if_neg (by omega), show (i * 4 + 3) / 4 = i by omega]

theorem stf_set {S : Nat → St} {i : Nat} {a : Bool} {b c : Int} {d : Bool} (j : Nat) : (if j = i * 4 + 3 then Value.bool d else if j = i * 4 + 2 then .int .i64 c else if j = i * 4 + 1 then .int .i64 b else if j = i * 4 then .bool a else stf S j) = stf (upd S i ⟨a, b, c, d⟩) j := by
  by_cases h3 : j = i * 4 + 3
  · subst h3; rw [if_pos rfl, stf3, upd_same]
  rw [if_neg h3]
  by_cases h2 : j = i * 4 + 2
  · subst h2; rw [if_pos rfl, stf2, upd_same]
  rw [if_neg h2]
  by_cases h1 : j = i * 4 + 1
  · subst h1; rw [if_pos rfl, stf1, upd_same]
  rw [if_neg h1]
  by_cases h0 : j = i * 4
  · subst h0; rw [if_pos rfl, stf0, upd_same]
  rw [if_neg h0]
  unfold stf
  rw [upd_other _ _ (by omega)]

theorem stf_lev {S : Nat → St} {i : Nat} {c : Int} (j : Nat) : (if j = i * 4 + 2 then .int .i64 c else stf S j) = stf (upd S i ⟨(S i).lit, (S i).since, c, (S i).acked⟩) j := by
  by_cases h2 : j = i * 4 + 2
  · subst h2; rw [if_pos rfl, stf2, upd_same]
  rw [if_neg h2]
  by_cases h : j / 4 = i
  · have hc : j = i * 4 ∨ j = i * 4 + 1 ∨ j = i * 4 + 3 := by omega
    rcases hc with rfl | rfl | rfl
    · rw [stf0, stf0, upd_same]
    · rw [stf1, stf1, upd_same]
    · rw [stf3, stf3, upd_same]
  · unfold stf
    rw [upd_other _ _ h]

theorem stf_ack {S : Nat → St} {i : Nat} {d : Bool} (j : Nat) : (if j = i * 4 + 3 then .bool d else stf S j) = stf (upd S i ⟨(S i).lit, (S i).since, (S i).level, d⟩) j := by
  by_cases h2 : j = i * 4 + 3
  · subst h2; rw [if_pos rfl, stf3, upd_same]
  rw [if_neg h2]
  by_cases h : j / 4 = i
  · have hc : j = i * 4 ∨ j = i * 4 + 1 ∨ j = i * 4 + 2 := by omega
    rcases hc with rfl | rfl | rfl
    · rw [stf0, stf0, upd_same]
    · rw [stf1, stf1, upd_same]
    · rw [stf2, stf2, upd_same]
  · unfold stf
    rw [upd_other _ _ h]

theorem stf_congr {S S' : Nat → St} {k : Nat} (h : ∀ i, i < k → S i = S' i) : ∀ j, j < k * 4 → stf S j = stf S' j := fun j hj => by unfold stf; rw [h _ (by omega)]

theorem row_ne {w : World} {b b' t t' l l' : Nat} {f f' : Nat → Value} (h : w.rowIs b t l f) (g : w.rowIs b' t' l' f') (ht : t ≠ t') : b ≠ b' := fun e => by
  subst e
  obtain ⟨c1, e1, _⟩ := h
  obtain ⟨c2, e2, _⟩ := g
  rw [e1] at e2
  simp at e2
  exact ht e2.2

theorem cellf_cel {C : Nat → Cel} {n i : Nat} {w : World} {b : Nat} (h : w.rowIs b 47 (n * 5) (cellf C)) (hi : i < n) : CelIs w b (0 + i * 5) (C i) := by
  rw [Nat.zero_add]
  refine ⟨?_, ?_, ?_, ?_, ?_⟩
  · rw [h.cell (by omega), cellf0]
  · rw [h.cell (by omega), cellf1]
  · rw [h.cell (by omega), cellf2]
  · rw [h.cell (by omega), cellf3]
  · rw [h.cell (by omega), cellf4]

theorem FilL.row {w : World} {base : Nat} {F : Nat → Int} {n : Nat} {v : Value} (h : FilL w base F n v) (hn : 1 ≤ n) : ∃ bF cF, v = .slice (some ⟨bF, 0, none⟩) n cF ∧ base ≤ bF ∧ ∃ f N, w.rowIs bF 3 N f ∧ n ≤ N ∧ ∀ j, j < n → f j = .int .i64 (F j) := by
  obtain ⟨xs, ⟨h1, h2⟩, hx⟩ := h
  rcases h2 with ⟨_, h0⟩ | ⟨g, cap, cur, e, hb, hh, h5, h6, h7, h8⟩
  · omega
  · refine ⟨g, cap, e, hb, fun j => cur.getD j undef, cur.size, ⟨cur, hh, rfl, fun i hi => by simp [Array.getD, hi]⟩, by omega, fun j hj => ?_⟩
    have e1 : cur[j]? = xs[j]? := by rw [← h8, List.getElem?_take, if_pos (by omega)]; simp
    rw [hx j hj] at e1
    have hj' : j < cur.size := by omega
    simp [Array.getD, hj']
    simpa [Array.getElem?_eq_getElem hj'] using e1

theorem sta_made {W : World} (k : Nat) : (W.alloc (.cells (madeCells #[.bool false, .int .i64 0, .int .i64 0, .bool false] (k * 4)) 71)).rowIs W.heap.size 71 (k * 4) (stf (fun _ => ⟨false, 0, 0, false⟩)) := by
  have h := row_made (w := W) (z := .agg #[.bool false, .int .i64 0, .int .i64 0, .bool false]) (n := k) (sz := 4) (e := 71) rfl (stf (fun _ => ⟨false, 0, 0, false⟩)) (fun j _ => by
    have hs : ((Value.agg #[.bool false, .int .i64 0, .int .i64 0, .bool false]).cells).size = 4 := rfl
    rw [hs]
    have hc : j % 4 = 0 ∨ j % 4 = 1 ∨ j % 4 = 2 ∨ j % 4 = 3 := by omega
    unfold stf
    rcases hc with e | e | e | e <;> simp only [e] <;> rfl)
  exact h

/-- The form's cells as they are filled. -/
def effC (C : Nat → Cel) (F : Nat → Int) : Nat → Cel := fun i => ⟨(C i).kind, (C i).a, (C i).b, (C i).c, if (C i).kind = 0 then F i else (C i).k⟩

theorem effC_eff (C : Nat → Cel) (F : Nat → Int) (n : Nat) : Eff C (effC C F) F n := fun _ _ => rfl

theorem effC_ok {C : Nat → Cel} {F : Nat → Int} {n : Nat} (h : CellsOk C n) (hF : ∀ i, i < n → (C i).kind = 0 → IsV (F i)) : CellsOk (effC C F) n := by
  intro i hi
  obtain ⟨a1, a2, ⟨a3, a4, a5⟩, a6, a7, a8⟩ := h i hi
  refine ⟨a1, a2, ⟨fun hk => ?_, fun hk => ?_, fun hk => ?_⟩, a6, a7, a8⟩
  · show IsV (if (C i).kind = 0 then F i else (C i).k)
    split
    · rename_i h0
      exact hF i hi h0
    · exact a3 hk
  · have hk' : (C i).kind = 11 := hk
    have := a4 hk'
    show 1000000 ≤ (if (C i).kind = 0 then F i else (C i).k) ∧ (if (C i).kind = 0 then F i else (C i).k) ≤ 1000000000
    rw [if_neg (by omega)]
    exact this
  · have hk' : (C i).kind = 12 := hk
    have := a5 hk'
    show 0 ≤ (if (C i).kind = 0 then F i else (C i).k) ∧ (if (C i).kind = 0 then F i else (C i).k) ≤ 250
    rw [if_neg (by omega)]
    exact this

theorem effC_ring {C : Nat → Cel} {F : Nat → Int} {n : Nat} (h : NoRing C n) : NoRing (effC C F) n := h

/-- P5's answers, in their order. -/
def setAns (C : Nat → Cel) (n : Nat) (c v : Int) : Int := if c < 0 ∨ (n : Int) ≤ c then 6 else if (C c.toNat).kind ≠ 0 then 7 else if M.isv v = false then 8 else 0

def setF (C : Nat → Cel) (n : Nat) (F : Nat → Int) (c v : Int) : Nat → Int := if setAns C n c v = 0 then upd F c.toNat v else F

theorem setF_v {C : Nat → Cel} {F : Nat → Int} {n : Nat} (hF : ∀ i, i < n → (C i).kind = 0 → IsV (F i)) (c v : Int) : ∀ i, i < n → (C i).kind = 0 → IsV (setF C n F c v i) := by
  intro i hi hk0
  unfold setF
  split
  · rename_i h
    unfold upd
    split
    · unfold setAns at h
      split at h
      · cases h
      split at h
      · cases h
      split at h
      · cases h
      rename_i hv
      simp [M.isv] at hv
      exact ⟨by omega, by omega⟩
    · exact hF i hi hk0
  · exact hF i hi hk0

end Go.Proofs.YtmofidaojmiepaaGreatDoor
