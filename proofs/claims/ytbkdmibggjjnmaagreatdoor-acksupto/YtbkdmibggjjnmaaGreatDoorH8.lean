/-
  MEMORY: the document's Begin.
-/
import Derived.Test.YtbkdmibggjjnmaaGreatDoorH7
import Derived.Test.YtbkdmibggjjnmaaGreatDoorW14
import Derived.Deep.Cut
import Derived.BigRegion
set_option linter.unusedVariables false
set_option linter.unusedSimpArgs false
namespace Go.Proofs.YtbkdmibggjjnmaaGreatDoor
open Go.RowKit
attribute [local go_sem ↓] Go.wp_at_zero Go.wp_at_succ

/-- The document's world: its nine places. -/
def wf (bc n : Nat) (aO : Option Addr) (k cO : Nat) (week : Int) (bh nh : Nat) (vF : Value) (T : Int) (op : Bool) (vS vE : Value) (j : Nat) : Value :=
  if j = 0 then .slice (some ⟨bc, 0, none⟩) n n else if j = 1 then .slice aO k cO else if j = 2 then .int .i64 week else if j = 3 then .slice (some ⟨bh, 0, none⟩) nh nh else if j = 4 then vF else if j = 5 then .int .i64 T else if j = 6 then .bool op else if j = 7 then vS else vE

theorem wf_set4 {bc n : Nat} {aO : Option Addr} {k cO : Nat} {week : Int} {bh nh : Nat} {vF v' : Value} {T : Int} {op : Bool} {vS vE : Value} (j : Nat) : (if j = 4 then v' else wf bc n aO k cO week bh nh vF T op vS vE j) = wf bc n aO k cO week bh nh v' T op vS vE j := by
  unfold wf
  by_cases h : j = 4
  · subst h; rfl
  · simp only [h, if_false]
theorem wf_set7 {bc n : Nat} {aO : Option Addr} {k cO : Nat} {week : Int} {bh nh : Nat} {vF v' : Value} {T : Int} {op : Bool} {vS vE : Value} (j : Nat) : (if j = 7 then v' else wf bc n aO k cO week bh nh vF T op vS vE j) = wf bc n aO k cO week bh nh vF T op v' vE j := by
  unfold wf
  by_cases h : j = 7
  · subst h; rfl
  · simp only [h, if_false]
theorem wf_set8 {bc n : Nat} {aO : Option Addr} {k cO : Nat} {week : Int} {bh nh : Nat} {vF v' : Value} {T : Int} {op : Bool} {vS vE : Value} (j : Nat) (hj : j < 9) : (if j = 8 then v' else wf bc n aO k cO week bh nh vF T op vS vE j) = wf bc n aO k cO week bh nh vF T op vS v' j := by
  unfold wf
  by_cases h : j = 8
  · subst h; rfl
  · have hc : j = 0 ∨ j = 1 ∨ j = 2 ∨ j = 3 ∨ j = 4 ∨ j = 5 ∨ j = 6 ∨ j = 7 := by omega
    rcases hc with rfl | rfl | rfl | rfl | rfl | rfl | rfl | rfl <;> rfl

theorem wf_row {w1 w3 : World} {o : Obj} {bc n : Nat} {aO : Option Addr} {k cO : Nat} {week : Int} {bh nh : Nat} (h : w3 = ((w1.alloc o).alloc (.cells #[.slice (some ⟨bc, 0, none⟩) n n, .slice aO k cO, .int .i64 week, .slice (some ⟨bh, 0, none⟩) nh nh, .slice none 0 0, .int .i64 0, .bool true, .slice none 0 0, .slice none 0 0] 65))) :
    w3.rowIs (w1.heap.size + 1) 65 9 (wf bc n aO k cO week bh nh (.slice none 0 0) 0 true (.slice none 0 0) (.slice none 0 0)) := by
  subst h
  have h1 := World.rowIs_alloc (w1.alloc o) #[.slice (some ⟨bc, 0, none⟩) n n, .slice aO k cO, .int .i64 week, .slice (some ⟨bh, 0, none⟩) nh nh, .slice none 0 0, .int .i64 0, .bool true, .slice none 0 0, .slice none 0 0] 65 (wf bc n aO k cO week bh nh (.slice none 0 0) 0 true (.slice none 0 0) (.slice none 0 0)) (fun i hi => by
    have hi' : i = 0 ∨ i = 1 ∨ i = 2 ∨ i = 3 ∨ i = 4 ∨ i = 5 ∨ i = 6 ∨ i = 7 ∨ i = 8 := by simp at hi; omega
    rcases hi' with rfl | rfl | rfl | rfl | rfl | rfl | rfl | rfl | rfl <;> rfl)
  rw [World.size_alloc] at h1
  exact h1

/-- The list of what is filled in, as far as it is laid. -/
def FilL (w : World) (base : Nat) (F : Nat → Int) (m : Nat) (v : Value) : Prop := ∃ xs, w.ownsRow base 3 1 v m xs ∧ ∀ j, j < m → xs[j]? = some (.int .i64 (F j))

theorem filL_next {w2 : World} {base m g cap bg o : Nat} {F : Nat → Int} {xs : List Value} (hx : ∀ j, j < m → xs[j]? = some (.int .i64 (F j))) (hl : xs.length = m * 1) (hbg : bg < base)
    (h : w2.ownsRow base 3 1 (.slice (some ⟨g, 0, none⟩) (m + 1) cap) (m + 1) (xs ++ [.int .i64 (F m)])) (u : Value) : FilL (w2.setCell ⟨bg, o, none⟩ u) base F (m + 1) (.slice (some ⟨g, 0, none⟩) (m + 1) cap) := by
  refine ⟨_, ownsRow_setCell_below h (show bg < base from hbg) _, fun j hj => ?_⟩
  by_cases h1 : j < m
  · rw [List.getElem?_append_left (by omega), hx j h1]
  · obtain rfl : j = m := by omega
    rw [List.getElem?_append_right (by omega), hl, show j - j * 1 = 0 by omega]; rfl

theorem news1 (w : World) (a : Value) (t : TypeId) : ∀ j u, [a][j]? = some u → (w.alloc (.cells #[a] t)).drew.cell? ((⟨w.heap.size, 0, none⟩ : Addr).add j) = some u :=
  World.news_of_block (cs := #[a]) (t := t) (fr := (0, 0)) (by show (w.heap.push _)[w.heap.size]? = _; simp)

theorem underlyingE : Tryz.prog.underlying 62 = some (.slice 94) := by kernel_rfl
theorem info92 : (Tryz.prog.info? 94).map (fun i => (i.zero, i.size, i.bytes)) = some (some (.agg #[.bool false, .int .i64 0, .int .i64 0, .bool false]), 4, 32) := by kernel_rfl

end Go.Proofs.YtbkdmibggjjnmaaGreatDoor

/-
  MEMORY: what turns and what stands; a rule's state; a form; what is filled in.
-/
set_option linter.unusedVariables false
set_option linter.unusedSimpArgs false
namespace Go.Proofs.YtbkdmibggjjnmaaGreatDoor
open Go.RowKit
attribute [local go_sem ↓] Go.wp_at_zero Go.wp_at_succ

/-- Of what was there only the blocks of X have turned. -/
structure Chg (X : Nat → Prop) (w w' : World) : Prop where
  os : w'.os = w.os
  tape : w'.tape = w.tape
  output : w'.output = w.output
  size : w.heap.size ≤ w'.heap.size
  block : ∀ j, j < w.heap.size → ¬ X j → w'.heap[j]? = w.heap[j]?

theorem Chg.of {X : Nat → Prop} {w w' : World} (h : Below w.heap.size w w') : Chg X w w' := ⟨h.os, h.tape, h.output, h.size, fun j hj _ => h.block j hj⟩
theorem Chg.refl (X : Nat → Prop) (w : World) : Chg X w w := ⟨rfl, rfl, rfl, Nat.le_refl _, fun _ _ _ => rfl⟩
theorem Chg.trans {X Y : Nat → Prop} {a b c : World} (h : Chg X a b) (g : Chg Y b c) (hs : ∀ j, j < a.heap.size → Y j → X j) : Chg X a c :=
  ⟨g.os.trans h.os, g.tape.trans h.tape, g.output.trans h.output, Nat.le_trans h.size g.size, fun j hj hx => (g.block j (by have := h.size; omega) (fun y => hx (hs j hj y))).trans (h.block j hj hx)⟩
theorem Chg.mono {X Y : Nat → Prop} {a b : World} (h : Chg X a b) (hs : ∀ j, j < a.heap.size → X j → Y j) : Chg Y a b :=
  ⟨h.os, h.tape, h.output, h.size, fun j hj hy => h.block j hj (fun x => hy (hs j hj x))⟩
theorem Chg.low {X : Nat → Prop} {a b c : World} (h : Chg X a b) (g : Below b.heap.size b c) : Chg X a c := h.trans (Chg.of (X := X) g) (fun _ _ x => x)
theorem Chg.setCell {X : Nat → Prop} {a b : World} (h : Chg X a b) (p : Addr) (v : Value) (hp : X p.block) : Chg X a (b.setCell p v) :=
  ⟨h.os, h.tape, h.output, by simpa using h.size, fun j hj hx => by
    have hne : j ≠ p.block := fun e => hx (by rw [e]; exact hp)
    rw [Below.heap_setCell _ _ _ _ hne]
    exact h.block j hj hx⟩
theorem Chg.drew {X : Nat → Prop} {a b : World} (h : Chg X a b) : Chg X a b.drew := ⟨h.os, h.tape, h.output, h.size, h.block⟩
theorem Chg.drewN {X : Nat → Prop} {a b : World} (h : Chg X a b) (q : Nat) : Chg X a (b.drewN q) := h.low (below_drewN (Below.refl _ _) q)
theorem Chg.below {B : Nat} {X : Nat → Prop} {a b : World} (h : Chg X a b) (hB : ∀ j, X j → B ≤ j) (hs : B ≤ a.heap.size) : Below B a b := ⟨h.os, h.tape, h.output, h.size, fun j hj => h.block j (by omega) (fun x => by have := hB j x; omega)⟩

/-- The blocks of Q stand. -/
def Stand (Q : Nat → Prop) (w W : World) : Prop := w.heap.size ≤ W.heap.size ∧ ∀ j, Q j → j < w.heap.size → W.heap[j]? = w.heap[j]?
theorem Stand.refl (Q : Nat → Prop) (w : World) : Stand Q w w := ⟨Nat.le_refl _, fun _ _ _ => rfl⟩
theorem Stand.trans {Q : Nat → Prop} {a b c : World} (h : Stand Q a b) (g : Stand Q b c) : Stand Q a c := ⟨Nat.le_trans h.1 g.1, fun j q hj => (g.2 j q (by have := h.1; omega)).trans (h.2 j q hj)⟩
theorem Stand.of {Q : Nat → Prop} {w W : World} (h : Below w.heap.size w W) : Stand Q w W := ⟨h.size, fun j _ hj => h.block j hj⟩
theorem Chg.stand {X Q : Nat → Prop} {w W : World} (h : Chg X w W) (hq : ∀ j, Q j → ¬ X j) : Stand Q w W := ⟨h.size, fun j q hj => h.block j hj (hq j q)⟩

/-- It is so wherever the blocks of Q stand. -/
def Held (Q : Nat → Prop) (w : World) (P : World → Prop) : Prop := ∀ W, Stand Q w W → P W
theorem Held.now {Q : Nat → Prop} {w : World} {P : World → Prop} (h : Held Q w P) : P w := h w (Stand.refl _ _)
theorem Held.move {Q : Nat → Prop} {w w' : World} {P : World → Prop} (h : Held Q w P) (g : Stand Q w w') : Held Q w' P := fun W hW => h W (g.trans hW)

/-- A rule's state. -/
structure St where
  lit : Bool
  since : Int
  level : Int
  acked : Bool

def stf (S : Nat → St) (j : Nat) : Value := if j % 4 = 0 then .bool (S (j / 4)).lit else if j % 4 = 1 then .int .i64 (S (j / 4)).since else if j % 4 = 2 then .int .i64 (S (j / 4)).level else .bool (S (j / 4)).acked

def StOk (s : St) : Prop := 0 ≤ s.since ∧ s.since ≤ 1000000000 ∧ 0 ≤ s.level ∧ s.level ≤ 1000

theorem stf0 (S : Nat → St) (i : Nat) : stf S (i * 4) = .bool (S i).lit := by unfold stf; rw [if_pos (by omega), show i * 4 / 4 = i by omega]
theorem stf1 (S : Nat → St) (i : Nat) : stf S (i * 4 + 1) = .int .i64 (S i).since := by unfold stf; rw [if_neg (by omega), if_pos (by omega), show (i * 4 + 1) / 4 = i by omega]
theorem stf2 (S : Nat → St) (i : Nat) : stf S (i * 4 + 2) = .int .i64 (S i).level := by unfold stf; rw [if_neg (by omega), if_neg (by omega), if_pos (by omega), show (i * 4 + 2) / 4 = i by omega]
theorem stf3 (S : Nat → St) (i : Nat) : stf S (i * 4 + 3) = .bool (S i).acked := by unfold stf; rw [if_neg (by omega), if_neg (by omega), if_neg (by omega), show (i * 4 + 3) / 4 = i by omega]

theorem stf_set {S : Nat → St} {i : Nat} {a : Bool} {b c : Int} {d : Bool} (j : Nat) : (if j = i * 4 + 3 then Value.bool d else if j = i * 4 + 2 then .int .i64 c else if j = i * 4 + 1 then .int .i64 b else if j = i * 4 then .bool a else stf S j) = stf (upd S i ⟨a, b, c, d⟩) j := by
  by_cases h3 : j = i * 4 + 3
  · subst h3; rw [if_pos rfl, stf3, upd_same]
  rw [if_neg h3]
  by_cases h2 : j = i * 4 + 2
  · subst h2; rw [if_pos rfl, stf2, upd_same]
  rw [if_neg h2]
  by_cases h1 : j = i * 4 + 1
  · subst h1; rw [if_pos rfl, stf1, upd_same]
  rw [if_neg h1]
  by_cases h0 : j = i * 4
  · subst h0; rw [if_pos rfl, stf0, upd_same]
  rw [if_neg h0]
  unfold stf
  rw [upd_other _ _ (by omega)]
theorem stf_lev {S : Nat → St} {i : Nat} {c : Int} (j : Nat) : (if j = i * 4 + 2 then .int .i64 c else stf S j) = stf (upd S i ⟨(S i).lit, (S i).since, c, (S i).acked⟩) j := by
  by_cases h2 : j = i * 4 + 2
  · subst h2; rw [if_pos rfl, stf2, upd_same]
  rw [if_neg h2]
  by_cases h : j / 4 = i
  · have hc : j = i * 4 ∨ j = i * 4 + 1 ∨ j = i * 4 + 3 := by omega
    rcases hc with rfl | rfl | rfl
    · rw [stf0, stf0, upd_same]
    · rw [stf1, stf1, upd_same]
    · rw [stf3, stf3, upd_same]
  · unfold stf
    rw [upd_other _ _ h]
theorem stf_ack {S : Nat → St} {i : Nat} {d : Bool} (j : Nat) : (if j = i * 4 + 3 then .bool d else stf S j) = stf (upd S i ⟨(S i).lit, (S i).since, (S i).level, d⟩) j := by
  by_cases h2 : j = i * 4 + 3
  · subst h2; rw [if_pos rfl, stf3, upd_same]
  rw [if_neg h2]
  by_cases h : j / 4 = i
  · have hc : j = i * 4 ∨ j = i * 4 + 1 ∨ j = i * 4 + 2 := by omega
    rcases hc with rfl | rfl | rfl
    · rw [stf0, stf0, upd_same]
    · rw [stf1, stf1, upd_same]
    · rw [stf2, stf2, upd_same]
  · unfold stf
    rw [upd_other _ _ h]
theorem stf_congr {S S' : Nat → St} {k : Nat} (h : ∀ i, i < k → S i = S' i) : ∀ j, j < k * 4 → stf S j = stf S' j := fun j hj => by unfold stf; rw [h _ (by omega)]

theorem row_ne {w : World} {b b' t t' l l' : Nat} {f f' : Nat → Value} (h : w.rowIs b t l f) (g : w.rowIs b' t' l' f') (ht : t ≠ t') : b ≠ b' := fun e => by
  subst e
  obtain ⟨c1, e1, _⟩ := h
  obtain ⟨c2, e2, _⟩ := g
  rw [e1] at e2
  simp at e2
  exact ht e2.2

theorem cellf_cel {C : Nat → Cel} {n i : Nat} {w : World} {b : Nat} (h : w.rowIs b 77 (n * 5) (cellf C)) (hi : i < n) : CelIs w b (0 + i * 5) (C i) := by
  rw [Nat.zero_add]
  refine ⟨?_, ?_, ?_, ?_, ?_⟩
  · rw [h.cell (by omega), cellf0]
  · rw [h.cell (by omega), cellf1]
  · rw [h.cell (by omega), cellf2]
  · rw [h.cell (by omega), cellf3]
  · rw [h.cell (by omega), cellf4]

theorem FilL.row {w : World} {base : Nat} {F : Nat → Int} {n : Nat} {v : Value} (h : FilL w base F n v) (hn : 1 ≤ n) : ∃ bF cF, v = .slice (some ⟨bF, 0, none⟩) n cF ∧ base ≤ bF ∧ ∃ f N, w.rowIs bF 3 N f ∧ n ≤ N ∧ ∀ j, j < n → f j = .int .i64 (F j) := by
  obtain ⟨xs, ⟨h1, h2⟩, hx⟩ := h
  rcases h2 with ⟨_, h0⟩ | ⟨g, cap, cur, e, hb, hh, h5, h6, h7, h8⟩
  · omega
  · refine ⟨g, cap, e, hb, fun j => cur.getD j undef, cur.size, ⟨cur, hh, rfl, fun i hi => by simp [Array.getD, hi]⟩, by omega, fun j hj => ?_⟩
    have e1 : cur[j]? = xs[j]? := by rw [← h8, List.getElem?_take, if_pos (by omega)]; simp
    rw [hx j hj] at e1
    have hj' : j < cur.size := by omega
    simp [Array.getD, hj']
    simpa [Array.getElem?_eq_getElem hj'] using e1

theorem sta_made {W : World} (k : Nat) : (W.alloc (.cells (madeCells #[.bool false, .int .i64 0, .int .i64 0, .bool false] (k * 4)) 94)).rowIs W.heap.size 94 (k * 4) (stf (fun _ => ⟨false, 0, 0, false⟩)) := by
  have h := row_made (w := W) (z := .agg #[.bool false, .int .i64 0, .int .i64 0, .bool false]) (n := k) (sz := 4) (e := 94) rfl (stf (fun _ => ⟨false, 0, 0, false⟩)) (fun j _ => by
    have hs : ((Value.agg #[.bool false, .int .i64 0, .int .i64 0, .bool false]).cells).size = 4 := rfl
    rw [hs]
    have hc : j % 4 = 0 ∨ j % 4 = 1 ∨ j % 4 = 2 ∨ j % 4 = 3 := by omega
    unfold stf
    rcases hc with e | e | e | e <;> simp only [e] <;> rfl)
  exact h

/-- The form's cells as they are filled. -/
def effC (C : Nat → Cel) (F : Nat → Int) : Nat → Cel := fun i => ⟨(C i).kind, (C i).a, (C i).b, (C i).c, if (C i).kind = 0 then F i else (C i).k⟩

theorem effC_eff (C : Nat → Cel) (F : Nat → Int) (n : Nat) : Eff C (effC C F) F n := fun _ _ => rfl

theorem effC_ok {C : Nat → Cel} {F : Nat → Int} {n : Nat} (h : CellsOk C n) (hF : ∀ i, i < n → (C i).kind = 0 → IsV (F i)) : CellsOk (effC C F) n := by
  intro i hi
  obtain ⟨a1, a2, ⟨a3, a4, a5⟩, a6, a7, a8⟩ := h i hi
  refine ⟨a1, a2, ⟨fun hk => ?_, fun hk => ?_, fun hk => ?_⟩, a6, a7, a8⟩
  · show IsV (if (C i).kind = 0 then F i else (C i).k)
    split
    · rename_i h0
      exact hF i hi h0
    · exact a3 hk
  · have hk' : (C i).kind = 11 := hk
    have := a4 hk'
    show 1000000 ≤ (if (C i).kind = 0 then F i else (C i).k) ∧ (if (C i).kind = 0 then F i else (C i).k) ≤ 1000000000
    rw [if_neg (by omega)]
    exact this
  · have hk' : (C i).kind = 12 := hk
    have := a5 hk'
    show 0 ≤ (if (C i).kind = 0 then F i else (C i).k) ∧ (if (C i).kind = 0 then F i else (C i).k) ≤ 250
    rw [if_neg (by omega)]
    exact this

theorem effC_ring {C : Nat → Cel} {F : Nat → Int} {n : Nat} (h : NoRing C n) : NoRing (effC C F) n := h

/-- P5's answers, in their order. -/
def setAns (C : Nat → Cel) (n : Nat) (c v : Int) : Int := if c < 0 ∨ (n : Int) ≤ c then 6 else if (C c.toNat).kind ≠ 0 then 7 else if M.isv v = false then 8 else 0
def setF (C : Nat → Cel) (n : Nat) (F : Nat → Int) (c v : Int) : Nat → Int := if setAns C n c v = 0 then upd F c.toNat v else F

theorem setF_v {C : Nat → Cel} {F : Nat → Int} {n : Nat} (hF : ∀ i, i < n → (C i).kind = 0 → IsV (F i)) (c v : Int) : ∀ i, i < n → (C i).kind = 0 → IsV (setF C n F c v i) := by
  intro i hi hk0
  unfold setF
  split
  · rename_i h
    unfold upd
    split
    · unfold setAns at h
      split at h
      · cases h
      split at h
      · cases h
      split at h
      · cases h
      rename_i hv
      simp [M.isv] at hv
      exact ⟨by omega, by omega⟩
    · exact hF i hi hk0
  · exact hF i hi hk0

end Go.Proofs.YtbkdmibggjjnmaaGreatDoor

/-
  PLAIN MATHEMATICS: the values at every instant; to settle; the clock, instant by instant, and what may be left out.
-/
set_option linter.unusedVariables false
set_option linter.unusedSimpArgs false
namespace Go.Proofs.YtbkdmibggjjnmaaGreatDoor
open Go.RowKit

theorem crel_exists {week : Int} {hol : List Int} (h1 : 1 ≤ week) (h2 : week ≤ 127) (hh : HolOk hol) (now : Int) (c : Cel) (x y z : Int) (k0 : 0 ≤ c.kind) (k1 : c.kind ≤ 12) : ∃ v, CRel week hol now c x y z v := by
  have cs : (c.kind = 0 ∨ c.kind = 1) ∨ (2 ≤ c.kind ∧ c.kind ≤ 8) ∨ c.kind = 9 ∨ c.kind = 10 ∨ c.kind = 11 ∨ c.kind = 12 := by omega
  rcases cs with e | e | e | e | e | e
  · exact ⟨c.k, fun _ => rfl, fun g => by omega, fun g => by omega, fun g => by omega, fun g => by omega, fun g => by omega⟩
  · exact ⟨_, fun g => by omega, fun _ => rfl, fun g => by omega, fun g => by omega, fun g => by omega, fun g => by omega⟩
  · exact ⟨_, fun g => by omega, fun g => by omega, fun _ => rfl, fun g => by omega, fun g => by omega, fun g => by omega⟩
  · exact ⟨_, fun g => by omega, fun g => by omega, fun g => by omega, fun _ => rfl, fun g => by omega, fun g => by omega⟩
  · exact ⟨_, fun g => by omega, fun g => by omega, fun g => by omega, fun g => by omega, fun _ => rfl, fun g => by omega⟩
  · obtain ⟨T, hT, _⟩ := M.due_exists h1 h2 (fun h hm => (hh.2.1 h hm).2) (x / 86400) c.k.toNat
    exact ⟨_, fun g => by omega, fun g => by omega, fun g => by omega, fun g => by omega, fun g => by omega, fun _ => ⟨T, hT, rfl⟩⟩

/-- There are values, at every instant. -/
theorem values_exist {C : Nat → Cel} {n : Nat} {week : Int} {hol : List Int} (h1 : 1 ≤ week) (h2 : week ≤ 127) (hh : HolOk hol) (hok : CellsOk C n) (hno : NoRing C n) (now : Int) (t0 : 0 ≤ now) (t1 : now ≤ 1000000000) : ∃ V, LocalEq C n week hol now V ∧ ∀ i, i < n → IsV (V i) := by
  suffices key : ∀ m V D, Done C n week hol now V D → ((List.range n).filter (fun i => !D i)).length ≤ m → ∃ V, LocalEq C n week hol now V ∧ ∀ i, i < n → IsV (V i) from key _ _ _ (done_start C n week hol now) (Nat.le_refl _)
  intro m
  induction m with
  | zero =>
    intro V D hd hl
    have hall : ∀ i, i < n → D i = true := fun i hi => by
      have he : (List.range n).filter (fun i => !D i) = [] := List.eq_nil_of_length_eq_zero (by omega)
      rw [List.filter_eq_nil_iff] at he
      have := he i (List.mem_range.2 hi)
      simpa using this
    exact ⟨V, fun i hi => hd.eq i hi (hall i hi), hd.val⟩
  | succ m ih =>
    intro V D hd hl
    by_cases hall : ∀ i, i < n → D i = true
    · exact ⟨V, fun i hi => hd.eq i hi (hall i hi), hd.val⟩
    · have ⟨i0, hi0⟩ : ∃ i, i < n ∧ D i = false := by
        apply Classical.byContradiction
        intro hc
        apply hall
        intro i hi
        cases hD : D i
        · exact (hc ⟨i, hi, hD⟩).elim
        · rfl
      obtain ⟨i, ⟨hi, hDi⟩, hs⟩ := M.progress hno (fun i => i < n ∧ D i = false) (fun i h => h.1) hi0
      obtain ⟨k0, k1, _⟩ := hok i hi
      obtain ⟨v, hv⟩ := crel_exists h1 h2 hh now (C i) (pk V n (C i).a) (pk V n (C i).b) (pk V n (C i).c) k0 k1
      have hd' := hd.step hok hi hDi (fun j hj => by
        have hjn := ed_within hok _ _ hj
        cases hD : D j
        · exact (hs j hj ⟨hjn, hD⟩).elim
        · rfl) hv t0 t1
      refine ih _ _ hd' ?_
      have sub : ((List.range n).filter (fun j => !upd D i true j)).length < ((List.range n).filter (fun j => !D j)).length := by
        have e : (List.range n).filter (fun j => !upd D i true j) = ((List.range n).filter (fun j => !D j)).filter (fun j => j != i) := by
          rw [List.filter_filter]
          congr 1
          funext j
          unfold upd
          by_cases e : j = i
          · subst e; simp
          · simp [e]
        rw [e]
        apply List.length_filter_lt_length_iff_exists.2
        exact ⟨i, List.mem_filter.2 ⟨List.mem_range.2 hi, by simp [hDi]⟩, by simp⟩
      omega

/-- How many whole units have gone by. -/
def ageAt (x k t : Int) : Int := if t < x then 0 else (t - x) / k

/-- Nothing that hangs on the clock turns from T to t, if the values stay. -/
def Still (C : Nat → Cel) (n : Nat) (V : Nat → Int) (T t : Int) : Prop :=
  ∀ i, i < n → ((C i).kind = 10 → (pk V n (C i).a ≤ t ↔ pk V n (C i).a ≤ T)) ∧ ((C i).kind = 11 → ageAt (pk V n (C i).a) (C i).k t = ageAt (pk V n (C i).a) (C i).k T)

/-- Then the values stay. -/
theorem stay {C : Nat → Cel} {n : Nat} {week : Int} {hol : List Int} {T t : Int} {V : Nat → Int} (h : LocalEq C n week hol T V) (hs : Still C n V T t) : LocalEq C n week hol t V := by
  intro i hi
  obtain ⟨h0, h2, h9, h10, h11, h12⟩ := h i hi
  obtain ⟨s10, s11⟩ := hs i hi
  refine ⟨h0, h2, h9, fun e => ?_, fun e => ?_, h12⟩
  · rw [h10 e]
    congr 1
    exact decide_eq_decide.2 (s10 e).symm
  · have := s11 e
    unfold ageAt at this
    rw [h11 e, this]

/-- An event. -/
structure Ev where
  t : Int
  r : Nat
  l : Int

/-- One rule settles. -/
def stepSt (r : Rul) (s : St) (g t : Int) : St :=
  if g = 0 then ⟨false, 0, 0, false⟩ else if s.lit = false then ⟨true, t, 0, false⟩ else if s.level < r.steps.length ∧ s.acked = false ∧ t = s.since + r.steps.getD s.level.toNat 0 then ⟨s.lit, s.since, s.level + 1, s.acked⟩ else s

def stepEv (r : Rul) (s : St) (g t : Int) (i : Nat) : List Ev :=
  if g = 0 then [] else if s.lit = false then [⟨t, i, 0⟩] else if s.level < r.steps.length ∧ s.acked = false ∧ t = s.since + r.steps.getD s.level.toNat 0 then [⟨t, i, s.level + 1⟩] else []

/-- A guard's value. -/
def grd (R : Nat → Rul) (V : Nat → Int) (i : Nat) : Int := V (R i).guard.toNat

/-- A rule's state is one that settling leaves: it is lit just where its guard is true. -/
def Cons (R : Nat → Rul) (k : Nat) (V : Nat → Int) (S : Nat → St) : Prop := ∀ i, i < k → (grd R V i = 0 → S i = ⟨false, 0, 0, false⟩) ∧ (grd R V i ≠ 0 → (S i).lit = true)

/-- No level comes at t. -/
def NoLevel (R : Nat → Rul) (k : Nat) (S : Nat → St) (t : Int) : Prop := ∀ i, i < k → (S i).lit = true → ¬ ((S i).level < (R i).steps.length ∧ (S i).acked = false ∧ t = (S i).since + (R i).steps.getD (S i).level.toNat 0)

theorem grd_eq {R : Nat → Rul} {n k : Nat} {V V' : Nat → Int} (hg : ∀ i, i < k → 0 ≤ (R i).guard ∧ (R i).guard < n) (h : ∀ j, j < n → V j = V' j) : ∀ i, i < k → grd R V i = grd R V' i := fun i hi => by
  obtain ⟨g0, g1⟩ := hg i hi
  exact h _ (by omega)

/-- A form. -/
structure Frm where
  C : Nat → Cel
  n : Nat
  R : Nat → Rul
  k : Nat
  hol : List Int
  week : Int

def Frm.Ok (f : Frm) : Prop := FormOk f.C f.n f.R f.k f.week f.hol

/-- What is filled in are values. -/
def FV (f : Frm) (F : Nat → Int) : Prop := ∀ i, i < f.n → (f.C i).kind = 0 → IsV (F i)

/-- The first of m days by which k such days have gone by. -/
def dueF (p : Int → Bool) (d : Int) (k : Nat) : Nat → Nat
  | 0 => 0
  | m + 1 => if k ≤ M.cnt p d m then dueF p d k m else m + 1

theorem dueF_is (p : Int → Bool) (d : Int) (k : Nat) : ∀ m : Nat, k ≤ M.cnt p d m → M.cnt p d (dueF p d k m) = k ∧ (dueF p d k m = 0 ∨ p (d + dueF p d k m) = true)
  | 0, h => ⟨by simp only [M.cnt] at h; simp only [dueF, M.cnt]; omega, Or.inl rfl⟩
  | m + 1, h => by
    unfold dueF
    by_cases hk : k ≤ M.cnt p d m
    · rw [if_pos hk]
      exact dueF_is p d k m hk
    · rw [if_neg hk]
      simp only [M.cnt] at h
      by_cases hp : p (d + ((m + 1 : Nat) : Int)) = true
      · exact ⟨by simp only [hp, if_true] at h; simp only [M.cnt, hp, if_true]; omega, Or.inr hp⟩
      · simp only [hp] at h; simp at h; omega

/-- A cell's value, as its row says, out of those that it needs. -/
def rowV (week : Int) (hol : List Int) (now : Int) (c : Cel) (x y z : Int) : Int :=
  if c.kind = 0 ∨ c.kind = 1 then c.k else if 2 ≤ c.kind ∧ c.kind ≤ 8 then M.two c.kind x y else if c.kind = 9 then (if x = 0 then z else y) else if c.kind = 10 then M.num (decide (x ≤ now)) else if c.kind = 11 then (if now < x then 0 else (now - x) / c.k)
  else M.cutv ((x / 86400 + (dueF (M.wkd week hol) (x / 86400) c.k.toNat ((11574 - x / 86400).toNat + c.k.toNat * 7) : Nat)) * 86400)

theorem rowV_rel {week : Int} {hol : List Int} (h1 : 1 ≤ week) (h2 : week ≤ 127) (hh : HolOk hol) (now : Int) (c : Cel) (x y z : Int) (k0 : 0 ≤ c.kind) (k1 : c.kind ≤ 12) : CRel week hol now c x y z (rowV week hol now c x y z) := by
  have cs : (c.kind = 0 ∨ c.kind = 1) ∨ (2 ≤ c.kind ∧ c.kind ≤ 8) ∨ c.kind = 9 ∨ c.kind = 10 ∨ c.kind = 11 ∨ c.kind = 12 := by omega
  unfold rowV
  rcases cs with e | e | e | e | e | e
  · rw [if_pos e]
    exact ⟨fun _ => rfl, fun g => by omega, fun g => by omega, fun g => by omega, fun g => by omega, fun g => by omega⟩
  · rw [if_neg (by omega), if_pos e]
    exact ⟨fun g => by omega, fun _ => rfl, fun g => by omega, fun g => by omega, fun g => by omega, fun g => by omega⟩
  · rw [if_neg (by omega), if_neg (by omega), if_pos e]
    exact ⟨fun g => by omega, fun g => by omega, fun _ => rfl, fun g => by omega, fun g => by omega, fun g => by omega⟩
  · rw [if_neg (by omega), if_neg (by omega), if_neg (by omega), if_pos e]
    exact ⟨fun g => by omega, fun g => by omega, fun g => by omega, fun _ => rfl, fun g => by omega, fun g => by omega⟩
  · rw [if_neg (by omega), if_neg (by omega), if_neg (by omega), if_neg (by omega), if_pos e]
    exact ⟨fun g => by omega, fun g => by omega, fun g => by omega, fun g => by omega, fun _ => rfl, fun g => by omega⟩
  · rw [if_neg (by omega), if_neg (by omega), if_neg (by omega), if_neg (by omega), if_neg (by omega)]
    have hc : c.k.toNat ≤ M.cnt (M.wkd week hol) (x / 86400) ((11574 - x / 86400).toNat + c.k.toNat * 7) := by
      have hx : ∀ h, h ∈ hol → h ≤ x / 86400 + ((11574 - x / 86400).toNat : Int) := fun h hm => by
        have := (hh.2.1 h hm).2
        omega
      rw [M.cnt_add, M.wkd_late hx, M.cnt_weeks]
      have := Nat.mul_le_mul_left c.k.toNat (M.week_some h1 h2)
      omega
    obtain ⟨n2, n3⟩ := dueF_is _ _ _ _ hc
    exact ⟨fun g => by omega, fun g => by omega, fun g => by omega, fun g => by omega, fun g => by omega, fun _ => ⟨_, ⟨_, rfl, n2, n3⟩, rfl⟩⟩

/-- The values that r rounds have worked out. -/
def valR (C : Nat → Cel) (n : Nat) (week : Int) (hol : List Int) (now : Int) : Nat → Nat → Int
  | 0 => fun _ => 0
  | r + 1 => fun i => rowV week hol now (C i) (pk (valR C n week hol now r) n (C i).a) (pk (valR C n week hol now r) n (C i).b) (pk (valR C n week hol now r) n (C i).c)

theorem valR_eq {C : Nat → Cel} {n : Nat} {week : Int} {hol : List Int} (h1 : 1 ≤ week) (h2 : week ≤ 127) (hh : HolOk hol) (hok : CellsOk C n) {now : Int} {V : Nat → Int} (h : LocalEq C n week hol now V) : ∀ r i, i < n → Lv C n r i → V i = valR C n week hol now r i := by
  intro r
  induction r with
  | zero => exact fun i _ hl => hl.elim
  | succ r ih =>
    intro i hi hl
    obtain ⟨k0, k1, _⟩ := hok i hi
    exact CRel.unique (h i hi) (rowV_rel h1 h2 hh now (C i) _ _ _ k0 k1) k0 k1 (fun p => pk_eq fun j e hj => ih j hj (hl j ⟨hi, Or.inl ⟨p, e⟩⟩)) (fun p => pk_eq fun j e hj => ih j hj (hl j ⟨hi, Or.inr (Or.inl ⟨p, e⟩)⟩)) (fun p => pk_eq fun j e hj => ih j hj (hl j ⟨hi, Or.inr (Or.inr ⟨p, e⟩)⟩))

/-- The values of a form's cells, as it is filled, at an instant. -/
def Frm.vals (f : Frm) (F : Nat → Int) (T : Int) : Nat → Int := valR (effC f.C F) f.n f.week f.hol T f.n

theorem vals_eq {f : Frm} (hf : f.Ok) {F : Nat → Int} (hF : FV f F) {T : Int} {V : Nat → Int} (h : LocalEq (effC f.C F) f.n f.week f.hol T V) : ∀ i, i < f.n → V i = f.vals F T i := fun i hi => by
  obtain ⟨_, _, _, w1, w2⟩ := hf.sizes
  exact valR_eq w1 w2 hf.hol (effC_ok hf.cells hF) h f.n i hi (lv_all (effC_ok hf.cells hF) (effC_ring hf.ring) hi)

theorem vals_local {f : Frm} (hf : f.Ok) {F : Nat → Int} (hF : FV f F) {T : Int} (t0 : 0 ≤ T) (t1 : T ≤ 1000000000) : LocalEq (effC f.C F) f.n f.week f.hol T (f.vals F T) ∧ ∀ i, i < f.n → IsV (f.vals F T i) := by
  obtain ⟨_, _, _, w1, w2⟩ := hf.sizes
  obtain ⟨V, h1, h2⟩ := values_exist w1 w2 hf.hol (effC_ok hf.cells hF) (effC_ring hf.ring) T t0 t1
  have e := vals_eq hf hF h1
  have q : ∀ a, pk V f.n a = pk (f.vals F T) f.n a := fun a => pk_eq fun j _ hj => e j hj
  refine ⟨fun i hi => ?_, fun i hi => ?_⟩
  · have := h1 i hi
    unfold LocalAt at this ⊢
    rw [← q, ← q, ← q, ← e i hi]
    exact this
  · rw [← e i hi]
    exact h2 i hi

/-- A case: what is filled in, the present instant, whether it is open, the rules' states, the log. -/
structure Cs where
  F : Nat → Int
  T : Int
  op : Bool
  S : Nat → St
  E : List Ev

def setS (f : Frm) (V : Nat → Int) (t : Int) (S : Nat → St) : Nat → St := fun i => if i < f.k then stepSt (f.R i) (S i) (grd f.R V i) t else S i
def setE (f : Frm) (V : Nat → Int) (t : Int) (S : Nat → St) : List Ev := (List.range f.k).flatMap (fun i => stepEv (f.R i) (S i) (grd f.R V i) t i)

/-- A case settles. -/
def Cs.settle (f : Frm) (m : Cs) : Cs := if m.op = true then ⟨m.F, m.T, m.op, setS f (f.vals m.F m.T) m.T m.S, m.E ++ setE f (f.vals m.F m.T) m.T m.S⟩ else m

/-- The clock stands at t. -/
def Cs.at (m : Cs) (t : Int) : Cs := ⟨m.F, t, m.op, m.S, m.E⟩

/-- The clock goes on, instant by instant. -/
def Cs.go (f : Frm) (m : Cs) : Nat → Cs
  | 0 => m
  | j + 1 => Cs.settle f ((Cs.go f m j).at (m.T + (j + 1 : Nat)))

theorem settle_F (f : Frm) (m : Cs) : (m.settle f).F = m.F := by unfold Cs.settle; split <;> rfl
theorem settle_T (f : Frm) (m : Cs) : (m.settle f).T = m.T := by unfold Cs.settle; split <;> rfl
theorem settle_op (f : Frm) (m : Cs) : (m.settle f).op = m.op := by unfold Cs.settle; split <;> rfl
theorem go_F (f : Frm) (m : Cs) (j : Nat) : (m.go f j).F = m.F := by
  induction j with
  | zero => rfl
  | succ j ih => show (Cs.settle f _).F = _; rw [settle_F]; exact ih
theorem go_op (f : Frm) (m : Cs) (j : Nat) : (m.go f j).op = m.op := by
  induction j with
  | zero => rfl
  | succ j ih => show (Cs.settle f _).op = _; rw [settle_op]; exact ih
theorem go_T (f : Frm) (m : Cs) (j : Nat) : (m.go f j).T = m.T + j := by
  cases j with
  | zero => show m.T = m.T + (0 : Nat); omega
  | succ j => show (Cs.settle f _).T = _; rw [settle_T]; rfl

theorem go_add (f : Frm) (m : Cs) (a : Nat) : ∀ b, m.go f (a + b) = (m.go f a).go f b := by
  intro b
  induction b with
  | zero => rfl
  | succ b ih =>
    show Cs.settle f ((m.go f (a + b)).at (m.T + ((a + b) + 1 : Nat))) = Cs.settle f (((m.go f a).go f b).at ((m.go f a).T + (b + 1 : Nat)))
    rw [ih, go_T, show m.T + ((a + b + 1 : Nat) : Int) = m.T + a + (b + 1 : Nat) by omega]

def noSt : St := ⟨false, 0, 0, false⟩

/-- What stands between the calls. -/
structure Cs.Ok (f : Frm) (m : Cs) : Prop where
  t0 : 0 ≤ m.T
  t1 : m.T ≤ 1000000000
  fv : FV f m.F
  st : ∀ i, i < f.k → StOk (m.S i)
  lit : m.op = true → Cons f.R f.k (f.vals m.F m.T) m.S
  shut : m.op = false → ∀ i, i < f.k → m.S i = noSt

/-- The log is no longer than it can be. -/
def Few (b : Nat) (m : Cs) : Prop := (m.E.length : Int) ≤ 6 * (m.T + b)

theorem stepEv_len (r : Rul) (s : St) (g t : Int) (i : Nat) : (stepEv r s g t i).length ≤ 1 := by
  unfold stepEv
  split
  · simp
  split
  · simp
  split <;> simp

theorem flat_len {g : Nat → List Ev} (h : ∀ i, (g i).length ≤ 1) : ∀ k, ((List.range k).flatMap g).length ≤ k := by
  intro k
  induction k with
  | zero => simp
  | succ k ih =>
    rw [List.range_succ, List.flatMap_append, List.length_append]
    have := h k
    have e : (List.flatMap g [k]) = g k := by simp
    rw [e]
    omega

theorem setE_len (f : Frm) (V : Nat → Int) (t : Int) (S : Nat → St) : (setE f V t S).length ≤ f.k := flat_len (fun i => stepEv_len _ _ _ _ _) f.k

theorem settle_len (f : Frm) (m : Cs) : (m.settle f).E.length ≤ m.E.length + f.k := by
  unfold Cs.settle
  split
  · have := setE_len f (f.vals m.F m.T) m.T m.S
    simp
    omega
  · omega

theorem go_few {f : Frm} (hf : f.Ok) {b : Nat} {m : Cs} (h : Few b m) (j : Nat) : Few b (m.go f j) := by
  obtain ⟨_, _, k6, _, _⟩ := hf.sizes
  induction j with
  | zero => exact h
  | succ j ih =>
    unfold Few at ih ⊢
    have h1 := settle_len f ((Cs.go f m j).at (m.T + (j + 1 : Nat)))
    have h2 : ((Cs.go f m j).at (m.T + (j + 1 : Nat))).E = (Cs.go f m j).E := rfl
    rw [h2] at h1
    rw [go_T] at ih ⊢
    have h3 : m.go f (j + 1) = Cs.settle f ((Cs.go f m j).at (m.T + (j + 1 : Nat))) := rfl
    rw [h3]
    omega

theorem stepSt_ok {r : Rul} {n : Nat} (hr : RuleOk r n) {s : St} (h : StOk s) {g t : Int} (t0 : 0 ≤ t) (t1 : t ≤ 1000000000) : StOk (stepSt r s g t) := by
  obtain ⟨h1, h2, h3, h4⟩ := h
  obtain ⟨_, _, r3, _⟩ := hr
  unfold stepSt
  split
  · exact ⟨Int.le_refl _, by show (0 : Int) ≤ _; omega, Int.le_refl _, by show (0 : Int) ≤ _; omega⟩
  split
  · exact ⟨t0, t1, Int.le_refl _, by show (0 : Int) ≤ _; omega⟩
  split
  · rename_i hc
    have := hc.1
    exact ⟨h1, h2, by show 0 ≤ s.level + 1; omega, by show s.level + 1 ≤ 1000; omega⟩
  · exact ⟨h1, h2, h3, h4⟩

theorem set_cons (f : Frm) (V : Nat → Int) (t : Int) (S : Nat → St) : Cons f.R f.k V (setS f V t S) := by
  intro i hi
  unfold setS
  rw [if_pos hi]
  unfold stepSt
  refine ⟨fun h => by rw [if_pos h], fun h => ?_⟩
  rw [if_neg h]
  by_cases hl : (S i).lit = false
  · rw [if_pos hl]
  · rw [if_neg hl]
    have hl' : (S i).lit = true := by simpa using hl
    split
    · exact hl'
    · exact hl'

/-- A case that has just settled is as it should be. -/
theorem settle_ok {f : Frm} (hf : f.Ok) {m : Cs} (t0 : 0 ≤ m.T) (t1 : m.T ≤ 1000000000) (fv : FV f m.F) (st : ∀ i, i < f.k → StOk (m.S i)) (shut : m.op = false → ∀ i, i < f.k → m.S i = noSt) : (m.settle f).Ok f := by
  refine ⟨by rw [settle_T]; exact t0, by rw [settle_T]; exact t1, by rw [settle_F]; exact fv, ?_, ?_, ?_⟩
  · unfold Cs.settle
    split
    · intro i hi
      show StOk (if i < f.k then _ else _)
      rw [if_pos hi]
      exact stepSt_ok (hf.rules i hi) (st i hi) t0 t1
    · exact st
  · intro ho
    rw [settle_op] at ho
    rw [settle_F, settle_T]
    unfold Cs.settle
    rw [if_pos ho]
    exact set_cons f _ _ _
  · intro ho
    rw [settle_op] at ho
    unfold Cs.settle
    rw [if_neg (by simp [ho])]
    exact shut ho

theorem go_ok {f : Frm} (hf : f.Ok) {m : Cs} (h : m.Ok f) : ∀ j : Nat, m.T + j ≤ 1000000000 → (m.go f j).Ok f := by
  intro j
  induction j with
  | zero => exact fun _ => h
  | succ j ih =>
    intro hj
    have i := ih (by omega)
    have t0 := h.t0
    exact settle_ok hf (by show 0 ≤ m.T + _; omega) hj i.fv i.st i.shut

/-- Nothing comes about at t, if it is the first instant at which anything does. -/
def Quiet (f : Frm) (m : Cs) (t : Int) : Prop := Still (effC f.C m.F) f.n (f.vals m.F m.T) m.T t ∧ NoLevel f.R f.k m.S t

theorem quiet_vals {f : Frm} (hf : f.Ok) {m : Cs} (h : m.Ok f) {t : Int} (hq : Quiet f m t) : ∀ i, i < f.n → f.vals m.F m.T i = f.vals m.F t i :=
  vals_eq hf h.fv (stay (vals_local hf h.fv h.t0 h.t1).1 hq.1)

theorem quiet_settle {f : Frm} (hf : f.Ok) {m : Cs} (h : m.Ok f) {t : Int} (hq : Quiet f m t) : Cs.settle f (m.at t) = m.at t := by
  unfold Cs.settle
  by_cases ho : (m.at t).op = true
  · rw [if_pos ho]
    have hg := grd_eq (fun i hi => ⟨(hf.rules i hi).1, (hf.rules i hi).2.1⟩) (quiet_vals hf h hq)
    have hc := h.lit ho
    have key : ∀ i, i < f.k → stepSt (f.R i) (m.S i) (grd f.R (f.vals m.F t) i) t = m.S i ∧ stepEv (f.R i) (m.S i) (grd f.R (f.vals m.F t) i) t i = [] := by
      intro i hi
      obtain ⟨c0, c1⟩ := hc i hi
      rw [← hg i hi]
      unfold stepSt stepEv
      by_cases g0 : grd f.R (f.vals m.F m.T) i = 0
      · rw [if_pos g0, if_pos g0]
        exact ⟨(c0 g0).symm, rfl⟩
      · have hl := c1 g0
        have hlf : ¬ (m.S i).lit = false := by simp [hl]
        have hnl := hq.2 i hi hl
        simp only [if_neg g0, if_neg hlf, if_neg hnl]
        exact ⟨trivial, trivial⟩
    have e1 : setS f (f.vals m.F t) t m.S = m.S := by
      funext i
      unfold setS
      by_cases hi : i < f.k
      · rw [if_pos hi]; exact (key i hi).1
      · rw [if_neg hi]
    have e2 : setE f (f.vals m.F t) t m.S = [] := by
      unfold setE
      rw [List.flatMap_eq_nil_iff]
      intro i hi
      exact (key i (List.mem_range.1 hi)).2
    show Cs.mk m.F t m.op (setS f (f.vals m.F t) t m.S) (m.E ++ setE f (f.vals m.F t) t m.S) = _
    rw [e1, e2, List.append_nil]
    rfl
  · rw [if_neg ho]

/-- The clock may leave out the instants at which nothing comes about. -/
theorem go_quiet {f : Frm} (hf : f.Ok) {m : Cs} (h : m.Ok f) : ∀ j : Nat, (∀ i : Nat, 1 ≤ i → i ≤ j → Quiet f m (m.T + i)) → m.go f j = m.at (m.T + j) := by
  intro j
  induction j with
  | zero =>
    intro _
    show m = m.at (m.T + (0 : Nat))
    rw [show m.T + ((0 : Nat) : Int) = m.T by omega]
    rfl
  | succ j ih =>
    intro hq
    show Cs.settle f ((Cs.go f m j).at (m.T + (j + 1 : Nat))) = _
    rw [ih (fun i a b => hq i a (by omega))]
    exact quiet_settle hf h (hq (j + 1) (by omega) (Nat.le_refl _))

/-- It goes on to the first instant at which something could. -/
theorem go_next {f : Frm} (hf : f.Ok) {m : Cs} (h : m.Ok f) {t : Int} (ht : m.T < t) (hq : ∀ u, m.T < u → u < t → Quiet f m u) : m.go f (t - m.T).toNat = Cs.settle f (m.at t) := by
  obtain ⟨j, hj⟩ : ∃ j : Nat, (t - m.T).toNat = j + 1 := ⟨(t - m.T).toNat - 1, by omega⟩
  rw [hj]
  show Cs.settle f ((Cs.go f m j).at (m.T + (j + 1 : Nat))) = _
  rw [go_quiet hf h j (fun i a b => hq _ (by omega) (by omega)), show m.T + ((j + 1 : Nat) : Int) = t by omega]
  rfl

end Go.Proofs.YtbkdmibggjjnmaaGreatDoor
