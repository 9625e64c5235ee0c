/-
  MEMORY: the document's own copy of a form, whole.
-/
import Derived.Test.YtmofidaojmiepaaDoorGH5
set_option linter.unusedVariables false
set_option linter.unusedSimpArgs false
namespace Go.Proofs.YtmofidaojmiepaaDoor

open Go.RowKit

attribute [local go_sem ↓] Go.wp_at_zero Go.wp_at_succ

def gOwn (N n : Nat) (week : Int) (v : Value) (j : Nat) : Value := if j = 0 then .slice (some ⟨N + 1 + 1 + 1, 0, none⟩) n n else if j = 1 then v else if j = 2 then .int .i64 week else .slice none 0 0

theorem news2 (w : World) (a b : Value) (t : TypeId) : ∀ j u, [a, b][j]? = some u → (w.alloc (.cells #[a, b] t)).drew.cell? ((⟨w.heap.size, 0, none⟩ : Addr).add j) = some u :=
  World.news_of_block (cs := #[a, b]) (t := t) (fr := (0, 0)) (by show (w.heap.push _)[w.heap.size]? = _; simp)

theorem grow_below {B : Nat} {w1 w2 : World} {o : Obj} {row : Option Nat} (hg : ((w1.alloc o).drew).grownBy w2 row) (hB : B ≤ w1.heap.size) (hr : ∀ g, row = some g → B ≤ g) : Below B w1 w2 :=
  Below.grown (((Below.refl B w1).alloc hB o).drew) hg (by show B ≤ (w1.heap.push o).size; simp; omega) hr

theorem rulL_next {w2 : World} {base m b1 g cap bg : Nat} {R : Nat → Rul} {bs : Nat → Nat} {xs : List Value} (hx : ∀ j, j < m * 2 → xs[j]? = some (ruleOwn R bs j)) (hl : xs.length = m * 2) (hbg : bg < base)
    (h : w2.ownsRow base 86 2 (.slice (some ⟨g, 0, none⟩) (m + 1) cap) (m + 1) (xs ++ [.int .i64 (R m).guard, .slice (some ⟨b1, 0, none⟩) (R m).steps.length (R m).steps.length])) (u : Value) :
    RulL (w2.setCell ⟨bg, 1, none⟩ u) base R (upd bs m b1) (m + 1) (.slice (some ⟨g, 0, none⟩) (m + 1) cap) := by
  refine ⟨_, ownsRow_setCell_below h (show bg < base from hbg) _, fun j hj => ?_⟩
  by_cases h1 : j < m * 2
  · rw [List.getElem?_append_left (by omega), hx j h1]
    unfold ruleOwn
    rw [upd_other _ _ (by omega)]
  · rw [List.getElem?_append_right (by omega), hl]
    have hc : j = m * 2 ∨ j = m * 2 + 1 := by omega
    rcases hc with rfl | rfl
    · rw [Nat.sub_self]
      unfold ruleOwn
      rw [if_pos (by omega), show m * 2 / 2 = m by omega]; rfl
    · rw [show m * 2 + 1 - m * 2 = 1 by omega]
      unfold ruleOwn
      rw [if_neg (by omega), show (m * 2 + 1) / 2 = m by omega, upd_same]; rfl

theorem gOwn_set {N n : Nat} {week : Int} {v v' : Value} (j : Nat) : (if j = 1 then v' else gOwn N n week v j) = gOwn N n week v' j := by
  unfold gOwn
  by_cases h : j = 1
  · subst h; rfl
  · rw [if_neg h]
    by_cases h0 : j = 0
    · rw [if_pos h0, if_pos h0]
    · rw [if_neg h0, if_neg h0, if_neg h, if_neg h]

/-- The blocks from L on stand. -/
def Up (L : Nat) (w W : World) : Prop := w.heap.size ≤ W.heap.size ∧ ∀ j, L ≤ j → j < w.heap.size → W.heap[j]? = w.heap[j]?

theorem Up.refl (L : Nat) (w : World) : Up L w w := ⟨Nat.le_refl _, fun _ _ _ => rfl⟩

theorem Up.trans {L : Nat} {a b c : World} (h : Up L a b) (g : Up L b c) : Up L a c := ⟨Nat.le_trans h.1 g.1, fun j h1 h2 => (g.2 j h1 (by have := h.1; omega)).trans (h.2 j h1 h2)⟩

theorem Up.alloc (L : Nat) (w : World) (o : Obj) : Up L w (w.alloc o) := ⟨by simp, fun j _ h2 => Below.heap_alloc w o j h2⟩

theorem Up.setLow {L : Nat} (w : World) (p : Addr) (hp : p.block < L) (v : Value) : Up L w (w.setCell p v) := ⟨by simp, fun j h1 _ => Below.heap_setCell w p v j (by omega)⟩

/-- A form's rules and holidays lie from L on. -/
def Floor (L : Nat) (w : World) (aR : Option Addr) (k : Nat) (R : Nat → Rul) (bh : Nat) (hol : List Int) : Prop := ∀ W, Up L w W → RAt W aR k R ∧ IntsAt W (.slice (some ⟨bh, 0, none⟩) hol.length hol.length) hol

/-- What own answers: a copy in lists of its own. -/
def OwnPost (C : Nat → Cel) (n : Nat) (R : Nat → Rul) (k : Nat) (hol : List Int) (week : Int) (w : World) (e : Ending) (w' : World) : Prop :=
  ∃ bc aR cR bh, e = .returned (.agg #[.slice (some ⟨bc, 0, none⟩) n n, .slice aR k cR, .int .i64 week, .slice (some ⟨bh, 0, none⟩) hol.length hol.length]) ∧ w.heap.size ≤ bc ∧ w'.rowIs bc 82 (n * 5) (cellf C) ∧ Floor w.heap.size w' aR k R bh hol ∧ Below w.heap.size w w'

theorem gOwn_row {w wr : World} {o1 o2 : Obj} {n : Nat} {week : Int} (h : Below (w.heap.size + 1 + 1 + 1) (((w.alloc o1).alloc o2).alloc (.cells #[.slice (some ⟨w.heap.size + 1 + 1 + 1, 0, none⟩) n n, .slice none 0 0, .int .i64 week, .slice none 0 0] 26)) wr) : wr.rowIs (w.heap.size + 1 + 1) 26 4 (gOwn w.heap.size n week (.slice none 0 0)) := by
  have h1 := World.rowIs_alloc ((w.alloc o1).alloc o2) #[.slice (some ⟨w.heap.size + 1 + 1 + 1, 0, none⟩) n n, .slice none 0 0, .int .i64 week, .slice none 0 0] 26 (gOwn w.heap.size n week (.slice none 0 0)) (fun i hi => by
    have hi' : i = 0 ∨ i = 1 ∨ i = 2 ∨ i = 3 := by simp at hi; omega
    rcases hi' with rfl | rfl | rfl | rfl <;> rfl)
  simp only [World.size_alloc] at h1
  exact h1.of_block (h.block _ (by omega))

end Go.Proofs.YtmofidaojmiepaaDoor
