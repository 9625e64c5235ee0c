/-
  MEMORY: does what was handed in read as it did?
-/
import Derived.Test.YtmofidaojmiepaaDoorGH2
import Derived.Laws.StructEq
set_option linter.unusedVariables false
set_option linter.unusedSimpArgs false
namespace Go.Proofs.YtmofidaojmiepaaDoor

open Go.RowKit

attribute [local go_sem ↓] Go.wp_at_zero Go.wp_at_succ

theorem h76 : Tryd.prog.stoodInHeld 82 = false := by kernel_rfl

theorem u76 : Tryd.prog.underlying 82 = some (.struct (Tryd.prog.fieldsOf 82)) := by
  simp only [Program.fieldsOf, Tryd.underlying82]

theorem m76 : Tryd.prog.eqGuardType Tryd.prog.depth 82 = false := by kernel_rfl

theorem eq76 (a b c d e : Int) (W : World) : (Op.equalIn 10000 82 (.agg #[.int .i64 a, .int .i64 b, .int .i64 c, .int .i64 d, .int .i64 e]) (.agg #[.int .i64 a, .int .i64 b, .int .i64 c, .int .i64 d, .int .i64 e])).run Tryd.prog W = .ok true W := by
  rw [run_equalIn_agg W _ 82 _ _ u76 h76]
  simp [Program.fieldsOf, Tryd.underlying82, Op.eqFields, go_sem, Tryd.underlying3]

attribute [local go_sem] eq76

theorem cellSt_cel {C : Nat → Cel} {n i N : Nat} {w : World} {b : Nat} (h : w.rowIs b 82 N (cellSt C n 8)) (hi : i < n) (hN : n * 5 ≤ N) : CelIs w b (i * 5) (C i) := by
  have e : ∀ j, j < n * 5 → cellSt C n 8 j = cellf C j := fun j hj => by unfold cellSt; rw [if_pos hj]
  refine ⟨?_, ?_, ?_, ?_, ?_⟩
  · rw [h.cell (by omega), e _ (by omega), cellf0]
  · rw [h.cell (by omega), e _ (by omega), cellf1]
  · rw [h.cell (by omega), e _ (by omega), cellf2]
  · rw [h.cell (by omega), e _ (by omega), cellf3]
  · rw [h.cell (by omega), e _ (by omega), cellf4]

theorem two_boxes {w wr : World} {c1 c2 : Array Value} {t1 t2 : TypeId} (h : Below (w.heap.size + 1 + 1) ((w.alloc (.cells c1 t1)).alloc (.cells c2 t2)) wr) (i : Nat) : wr.cell? ⟨w.heap.size, i, none⟩ = c1[i]? ∧ wr.cell? ⟨w.heap.size + 1, i, none⟩ = c2[i]? := by
  constructor
  · rw [h.cell (p := ⟨w.heap.size, i, none⟩) (by show w.heap.size < _; omega), World.cell?_alloc_lt (h := by simp), World.cell?_alloc_new]
  · rw [h.cell (p := ⟨w.heap.size + 1, i, none⟩) (by show w.heap.size + 1 < _; omega)]
    have := World.cell?_alloc_new (w.alloc (.cells c1 t1)) c2 t2 i
    rw [World.size_alloc] at this; exact this

theorem two_boxes_below {w wr : World} {o1 o2 : Obj} (h : Below (w.heap.size + 1 + 1) ((w.alloc o1).alloc o2) wr) : Below w.heap.size w wr :=
  (((Below.refl _ _).alloc (Nat.le_refl _) _).alloc (by simp) _).trans (h.mono (by omega))

end Go.Proofs.YtmofidaojmiepaaDoor
