/-
  MEMORY: the document's Begin.
-/
import Derived.Test.YtkhpkpaglkinbaaGreatDoorH7
set_option linter.unusedVariables false
set_option linter.unusedSimpArgs false
namespace Go.Proofs.YtkhpkpaglkinbaaGreatDoor
open Go.RowKit
attribute [local go_sem ↓] Go.wp_at_zero Go.wp_at_succ

/-- The document's world: its nine places. -/
def wf (bc n : Nat) (aO : Option Addr) (k cO : Nat) (week : Int) (bh nh : Nat) (vF : Value) (T : Int) (op : Bool) (vS vE : Value) (j : Nat) : Value :=
  if j = 0 then .slice (some ⟨bc, 0, none⟩) n n else if j = 1 then .slice aO k cO else if j = 2 then .int .i64 week else if j = 3 then .slice (some ⟨bh, 0, none⟩) nh nh else if j = 4 then vF else if j = 5 then .int .i64 T else if j = 6 then .bool op else if j = 7 then vS else vE

theorem wf_set4 {bc n : Nat} {aO : Option Addr} {k cO : Nat} {week : Int} {bh nh : Nat} {vF v' : Value} {T : Int} {op : Bool} {vS vE : Value} (j : Nat) : (if j = 4 then v' else wf bc n aO k cO week bh nh vF T op vS vE j) = wf bc n aO k cO week bh nh v' T op vS vE j := by
  unfold wf
  by_cases h : j = 4
  · subst h; rfl
  · simp only [h, if_false]
theorem wf_set7 {bc n : Nat} {aO : Option Addr} {k cO : Nat} {week : Int} {bh nh : Nat} {vF v' : Value} {T : Int} {op : Bool} {vS vE : Value} (j : Nat) : (if j = 7 then v' else wf bc n aO k cO week bh nh vF T op vS vE j) = wf bc n aO k cO week bh nh vF T op v' vE j := by
  unfold wf
  by_cases h : j = 7
  · subst h; rfl
  · simp only [h, if_false]
theorem wf_set8 {bc n : Nat} {aO : Option Addr} {k cO : Nat} {week : Int} {bh nh : Nat} {vF v' : Value} {T : Int} {op : Bool} {vS vE : Value} (j : Nat) (hj : j < 9) : (if j = 8 then v' else wf bc n aO k cO week bh nh vF T op vS vE j) = wf bc n aO k cO week bh nh vF T op vS v' j := by
  unfold wf
  by_cases h : j = 8
  · subst h; rfl
  · have hc : j = 0 ∨ j = 1 ∨ j = 2 ∨ j = 3 ∨ j = 4 ∨ j = 5 ∨ j = 6 ∨ j = 7 := by omega
    rcases hc with rfl | rfl | rfl | rfl | rfl | rfl | rfl | rfl <;> rfl

theorem wf_row {w1 w3 : World} {o : Obj} {bc n : Nat} {aO : Option Addr} {k cO : Nat} {week : Int} {bh nh : Nat} (h : w3 = ((w1.alloc o).alloc (.cells #[.slice (some ⟨bc, 0, none⟩) n n, .slice aO k cO, .int .i64 week, .slice (some ⟨bh, 0, none⟩) nh nh, .slice none 0 0, .int .i64 0, .bool true, .slice none 0 0, .slice none 0 0] 64))) :
    w3.rowIs (w1.heap.size + 1) 64 9 (wf bc n aO k cO week bh nh (.slice none 0 0) 0 true (.slice none 0 0) (.slice none 0 0)) := by
  subst h
  have h1 := World.rowIs_alloc (w1.alloc o) #[.slice (some ⟨bc, 0, none⟩) n n, .slice aO k cO, .int .i64 week, .slice (some ⟨bh, 0, none⟩) nh nh, .slice none 0 0, .int .i64 0, .bool true, .slice none 0 0, .slice none 0 0] 64 (wf bc n aO k cO week bh nh (.slice none 0 0) 0 true (.slice none 0 0) (.slice none 0 0)) (fun i hi => by
    have hi' : i = 0 ∨ i = 1 ∨ i = 2 ∨ i = 3 ∨ i = 4 ∨ i = 5 ∨ i = 6 ∨ i = 7 ∨ i = 8 := by simp at hi; omega
    rcases hi' with rfl | rfl | rfl | rfl | rfl | rfl | rfl | rfl | rfl <;> rfl)
  rw [World.size_alloc] at h1
  exact h1

/-- The list of what is filled in, as far as it is laid. -/
def FilL (w : World) (base : Nat) (F : Nat → Int) (m : Nat) (v : Value) : Prop := ∃ xs, w.ownsRow base 3 1 v m xs ∧ ∀ j, j < m → xs[j]? = some (.int .i64 (F j))

theorem filL_next {w2 : World} {base m g cap bg o : Nat} {F : Nat → Int} {xs : List Value} (hx : ∀ j, j < m → xs[j]? = some (.int .i64 (F j))) (hl : xs.length = m * 1) (hbg : bg < base)
    (h : w2.ownsRow base 3 1 (.slice (some ⟨g, 0, none⟩) (m + 1) cap) (m + 1) (xs ++ [.int .i64 (F m)])) (u : Value) : FilL (w2.setCell ⟨bg, o, none⟩ u) base F (m + 1) (.slice (some ⟨g, 0, none⟩) (m + 1) cap) := by
  refine ⟨_, ownsRow_setCell_below h (show bg < base from hbg) _, fun j hj => ?_⟩
  by_cases h1 : j < m
  · rw [List.getElem?_append_left (by omega), hx j h1]
  · obtain rfl : j = m := by omega
    rw [List.getElem?_append_right (by omega), hl, show j - j * 1 = 0 by omega]; rfl

theorem news1 (w : World) (a : Value) (t : TypeId) : ∀ j u, [a][j]? = some u → (w.alloc (.cells #[a] t)).drew.cell? ((⟨w.heap.size, 0, none⟩ : Addr).add j) = some u :=
  World.news_of_block (cs := #[a]) (t := t) (fr := (0, 0)) (by show (w.heap.push _)[w.heap.size]? = _; simp)

theorem underlyingE : Tryz.prog.underlying 61 = some (.slice 92) := by kernel_rfl
theorem info92 : (Tryz.prog.info? 92).map (fun i => (i.zero, i.size, i.bytes)) = some (some (.agg #[.bool false, .int .i64 0, .int .i64 0, .bool false]), 4, 32) := by kernel_rfl

end Go.Proofs.YtkhpkpaglkinbaaGreatDoor
