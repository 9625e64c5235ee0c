/-
  MEMORY: a case of the program: hasCell, Now, Value, Set.
-/
import Derived.Test.YtkhpkpaglkinbaaGreatDoorH14
import Derived.Test.YtkhpkpaglkinbaaGreatDoorW19
set_option linter.unusedVariables false
set_option linter.unusedSimpArgs false
namespace Go.Proofs.YtkhpkpaglkinbaaGreatDoor
open Go.RowKit
attribute [local go_sem ↓] Go.wp_at_zero Go.wp_at_succ

/-- A case's places. -/
def kf (bc n cC : Nat) (aR : Option Addr) (k cR : Nat) (week : Int) (aH : Option Addr) (nh cH : Nat) (now : Int) (cl : Bool) (j : Nat) : Value :=
  if j = 0 then .slice (some ⟨bc, 0, none⟩) n cC else if j = 1 then .slice aR k cR else if j = 2 then .int .i64 week else if j = 3 then .slice aH nh cH else if j = 4 then .int .i64 now else .bool cl

/-- A case's memory: it lies from L on and below B. -/
structure KSt (L B : Nat) (w : World) (bp bc : Nat) (C : Nat → Cel) (n cC : Nat) (aR : Option Addr) (k cR : Nat) (week : Int) (aH : Option Addr) (hol : List Int) (cH : Nat) (now : Int) (cl : Bool) : Prop where
  row : w.rowIs bp 85 6 (kf bc n cC aR k cR week aH hol.length cH now cl)
  p1 : L ≤ bp
  p2 : bp < B
  cells : ∃ f N, w.rowIs bc 76 N f ∧ n * 5 ≤ N ∧ ∀ j, j < n * 5 → f j = cellf C j
  c1 : L ≤ bc
  c2 : bc < B
  hols : hol = [] ∨ ∃ bh f N, aH = some ⟨bh, 0, none⟩ ∧ w.rowIs bh 3 N f ∧ hol.length ≤ N ∧ (∀ j, j < hol.length → f j = .int .i64 (hol.getD j 0)) ∧ L ≤ bh ∧ bh < B

theorem KSt.below {L B : Nat} {w w' : World} {bp bc : Nat} {C : Nat → Cel} {n cC : Nat} {aR : Option Addr} {k cR : Nat} {week : Int} {aH : Option Addr} {hol : List Int} {cH : Nat} {now : Int} {cl : Bool}
    (h : KSt L B w bp bc C n cC aR k cR week aH hol cH now cl) (hb : Below B w w') : KSt L B w' bp bc C n cC aR k cR week aH hol cH now cl := by
  obtain ⟨f, N, f1, f2, f3⟩ := h.cells
  refine ⟨h.row.of_block (hb.block _ h.p2), h.p1, h.p2, ⟨f, N, f1.of_block (hb.block _ h.c2), f2, f3⟩, h.c1, h.c2, ?_⟩
  rcases h.hols with e | ⟨bh, g, M, g1, g2, g3, g4, g5, g6⟩
  · exact Or.inl e
  · exact Or.inr ⟨bh, g, M, g1, g2.of_block (hb.block _ g6), g3, g4, g5, g6⟩

theorem KSt.ints {L B : Nat} {w : World} {bp bc : Nat} {C : Nat → Cel} {n cC : Nat} {aR : Option Addr} {k cR : Nat} {week : Int} {aH : Option Addr} {hol : List Int} {cH : Nat} {now : Int} {cl : Bool}
    (h : KSt L B w bp bc C n cC aR k cR week aH hol cH now cl) : IntsAt w (.slice aH hol.length cH) hol := by
  refine ⟨aH, cH, rfl, fun j hj => ?_⟩
  rcases h.hols with e | ⟨bh, g, M, g1, g2, g3, g4, g5, g6⟩
  · subst e; simp at hj
  · exact ⟨bh, 0, g1, g2.lt, by rw [Nat.zero_add, g2.cell (by omega), g4 j (by omega)]⟩

theorem KSt.cel {L B : Nat} {w : World} {bp bc : Nat} {C : Nat → Cel} {n cC : Nat} {aR : Option Addr} {k cR : Nat} {week : Int} {aH : Option Addr} {hol : List Int} {cH : Nat} {now : Int} {cl : Bool}
    (h : KSt L B w bp bc C n cC aR k cR week aH hol cH now cl) {i : Nat} (hi : i < n) : CelIs w bc (0 + i * 5) (C i) := by
  obtain ⟨f, N, f1, f2, f3⟩ := h.cells
  rw [Nat.zero_add]
  refine ⟨?_, ?_, ?_, ?_, ?_⟩
  · rw [f1.cell (by omega), f3 _ (by omega), cellf0]
  · rw [f1.cell (by omega), f3 _ (by omega), cellf1]
  · rw [f1.cell (by omega), f3 _ (by omega), cellf2]
  · rw [f1.cell (by omega), f3 _ (by omega), cellf3]
  · rw [f1.cell (by omega), f3 _ (by omega), cellf4]

theorem cellf_k {C : Nat → Cel} {i : Nat} {v : Int} (j : Nat) : (if j = i * 5 + 4 then .int .i64 v else cellf C j) = cellf (upd C i ⟨(C i).kind, (C i).a, (C i).b, (C i).c, v⟩) j := by
  unfold cellf upd
  by_cases h : j = i * 5 + 4
  · rw [if_pos h, if_neg (by omega), if_neg (by omega), if_neg (by omega), if_neg (by omega), if_pos (by omega)]
  · rw [if_neg h]
    by_cases e : j / 5 = i
    · have h4 : j % 5 ≠ 4 := by omega
      rw [if_pos e]
      by_cases e0 : j % 5 = 0
      · simp only [e0, if_true, e]
      by_cases e1 : j % 5 = 1
      · simp [e1, e]
      by_cases e2 : j % 5 = 2
      · simp [e2, e]
      by_cases e3 : j % 5 = 3
      · simp [e3, e]
      omega
    · rw [if_neg e]

theorem KSt.setK {L B : Nat} {w : World} {bp bc : Nat} {C : Nat → Cel} {n cC : Nat} {aR : Option Addr} {k cR : Nat} {week : Int} {aH : Option Addr} {hol : List Int} {cH : Nat} {now : Int} {cl : Bool}
    (h : KSt L B w bp bc C n cC aR k cR week aH hol cH now cl) (i : Nat) (v : Int) : KSt L B (w.setCell ⟨bc, i * 5 + 4, none⟩ (.int .i64 v)) bp bc (upd C i ⟨(C i).kind, (C i).a, (C i).b, (C i).c, v⟩) n cC aR k cR week aH hol cH now cl := by
  obtain ⟨f, N, f1, f2, f3⟩ := h.cells
  refine ⟨h.row.setOther (row_ne h.row f1 (by decide)) _, h.p1, h.p2, ⟨_, N, f1.set _ _, f2, fun j hj => ?_⟩, h.c1, h.c2, ?_⟩
  · rw [← cellf_k]
    show (if j = i * 5 + 4 then _ else f j) = _
    rw [f3 j hj]
  · rcases h.hols with e | ⟨bh, g, M, g1, g2, g3, g4, g5, g6⟩
    · exact Or.inl e
    · exact Or.inr ⟨bh, g, M, g1, g2.setOther (row_ne g2 f1 (by decide)) _, g3, g4, g5, g6⟩

theorem now_any {L B : Nat} {w : World} {bp bc : Nat} {C : Nat → Cel} {n cC : Nat} {aR : Option Addr} {k cR : Nat} {week : Int} {aH : Option Addr} {hol : List Int} {cH : Nat} {now : Int} {cl : Bool}
    (h : KSt L B w bp bc C n cC aR k cR week aH hol cH now cl) : Calls Tryz.prog 42 #[.pointer (some ⟨bp, 0, none⟩)] w fun e w' => e = .returned (.int .i64 now) ∧ w' = w := by
  have r4 := h.row.cell (i := 4) (by omega)
  simp [kf] at r4
  clear h
  go_enter Tryz.func42, Tryz.ntmps42
  go_wp2
  go_ret
  simp

theorem has_any {L B : Nat} {w : World} {bp bc : Nat} {C : Nat → Cel} {n cC : Nat} {aR : Option Addr} {k cR : Nat} {week : Int} {aH : Option Addr} {hol : List Int} {cH : Nat} {now : Int} {cl : Bool} (c : Int)
    (h : KSt L B w bp bc C n cC aR k cR week aH hol cH now cl) : Calls Tryz.prog 50 #[.pointer (some ⟨bp, 0, none⟩), .int .i64 c] w fun e w' => e = .returned (.bool (decide (0 ≤ c ∧ c < n))) ∧ w' = w := by
  have r0 := h.row.cell (i := 0) (by omega)
  simp [kf] at r0
  clear h
  by_cases c0 : 0 ≤ c
  · by_cases c1 : c < n
    · rw [show decide (0 ≤ c ∧ c < n) = true from decide_eq_true ⟨c0, c1⟩]
      go_enter Tryz.func50, Tryz.ntmps50
      go_wp2
      go_ret
      simp
    · rw [show decide (0 ≤ c ∧ c < n) = false from decide_eq_false (by omega)]
      go_enter Tryz.func50, Tryz.ntmps50
      go_wp2
      go_ret
      simp
  · rw [show decide (0 ≤ c ∧ c < n) = false from decide_eq_false (by omega)]
    go_enter Tryz.func50, Tryz.ntmps50
    go_wp2
    go_ret
    simp

end Go.Proofs.YtkhpkpaglkinbaaGreatDoor
