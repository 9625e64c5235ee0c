/-
  MEMORY: the document's world.
-/
import Derived.Test.YtkhpkpaglkinbaaGreatDoorH8
set_option linter.unusedVariables false
set_option linter.unusedSimpArgs false
namespace Go.Proofs.YtkhpkpaglkinbaaGreatDoor
open Go.RowKit
attribute [local go_sem ↓] Go.wp_at_zero Go.wp_at_succ

/-- A rule's state. -/
structure St where
  lit : Bool
  since : Int
  level : Int
  acked : Bool

def stf (S : Nat → St) (j : Nat) : Value := if j % 4 = 0 then .bool (S (j / 4)).lit else if j % 4 = 1 then .int .i64 (S (j / 4)).since else if j % 4 = 2 then .int .i64 (S (j / 4)).level else .bool (S (j / 4)).acked

/-- What a world stands on: the form in lists of its own; nothing of it turns. -/
structure WBase (w0 : World) (C : Nat → Cel) (n : Nat) (R : Nat → Rul) (k : Nat) (hol : List Int) (bw bc : Nat) (aO : Option Addr) (bh : Nat) : Prop where
  size : w0.heap.size = bw
  hbc : bc < bw
  cells : w0.rowIs bc 76 (n * 5) (cellf C)
  rules : RAt w0 aO k R
  hols : IntsAt w0 (.slice (some ⟨bh, 0, none⟩) hol.length hol.length) hol

/-- The world's memory. -/
structure WSt (w0 w : World) (n k nh : Nat) (week : Int) (bw bc : Nat) (aO : Option Addr) (cO bh : Nat) (F : Nat → Int) (T : Int) (op : Bool) (bF cF bS : Nat) (S : Nat → St) (vE : Value) (nE : Nat) : Prop where
  bel : Below bw w0 w
  row : w.rowIs bw 64 9 (wf bc n aO k cO week bh nh (.slice (some ⟨bF, 0, none⟩) n cF) T op (.slice (some ⟨bS, 0, none⟩) k k) vE)
  hbF : bw < bF
  fil : ∃ f N, w.rowIs bF 3 N f ∧ n ≤ N ∧ ∀ j, j < n → f j = .int .i64 (F j)
  hbS : bw < bS
  sta : w.rowIs bS 92 (k * 4) (stf S)
  ev : ∃ xs, w.ownsRow (bw + 1) 101 3 vE nE xs

theorem cellf_cel {C : Nat → Cel} {n i : Nat} {w : World} {b : Nat} (h : w.rowIs b 76 (n * 5) (cellf C)) (hi : i < n) : CelIs w b (0 + i * 5) (C i) := by
  rw [Nat.zero_add]
  refine ⟨?_, ?_, ?_, ?_, ?_⟩
  · rw [h.cell (by omega), cellf0]
  · rw [h.cell (by omega), cellf1]
  · rw [h.cell (by omega), cellf2]
  · rw [h.cell (by omega), cellf3]
  · rw [h.cell (by omega), cellf4]

theorem WSt.drop {w0 w w1 : World} {n k nh : Nat} {week : Int} {bw bc : Nat} {aO : Option Addr} {cO bh : Nat} {F : Nat → Int} {T : Int} {op : Bool} {bF cF bS : Nat} {S : Nat → St} {vE : Value} {nE : Nat}
    (h : WSt w0 w n k nh week bw bc aO cO bh F T op bF cF bS S vE nE) (hb : Below w.heap.size w w1) : WSt w0 w1 n k nh week bw bc aO cO bh F T op bF cF bS S vE nE := by
  obtain ⟨f, N, f1, f2, f3⟩ := h.fil
  obtain ⟨xs, hx⟩ := h.ev
  exact ⟨h.bel.trans (hb.mono (by have := h.row.lt; omega)), h.row.of_block (hb.block _ h.row.lt), h.hbF, ⟨f, N, f1.of_block (hb.block _ f1.lt), f2, f3⟩, h.hbS, h.sta.of_block (hb.block _ h.sta.lt), xs, own_of_block hx (fun g _ hlt => hb.block g hlt)⟩

set_option maxRecDepth 100000 in
set_option maxHeartbeats 1000000 in
theorem wvalues_any {w0 w : World} {C Ce : Nat → Cel} {n : Nat} {R : Nat → Rul} {k : Nat} {hol : List Int} {week : Int} {bw bc : Nat} {aO : Option Addr} {cO bh : Nat} {F : Nat → Int} {T : Int} {op : Bool} {bF cF bS : Nat} {S : Nat → St} {vE : Value} {nE : Nat}
    (hB : WBase w0 C n R k hol bw bc aO bh) (hS : WSt w0 w n k hol.length week bw bc aO cO bh F T op bF cF bS S vE nE) (hn : n ≤ 20) (n1 : 1 ≤ n) (h1 : 1 ≤ week) (h2 : week ≤ 127) (hh : HolOk hol) (heff : Eff C Ce F n) (hok : CellsOk Ce n) (hno : NoRing Ce n) (t0 : 0 ≤ T) (t1 : T ≤ 1000000000) :
    Calls Tryz.prog 56 #[.pointer (some ⟨bw, 0, none⟩)] w fun e w' => ValPost Ce n week hol T w e w' := by
  have r0 := hS.row.cell (i := 0) (by omega)
  have r1 := hS.row.cell (i := 1) (by omega)
  have r2 := hS.row.cell (i := 2) (by omega)
  have r3 := hS.row.cell (i := 3) (by omega)
  have r4 := hS.row.cell (i := 4) (by omega)
  have r5 := hS.row.cell (i := 5) (by omega)
  simp [wf] at r0 r1 r2 r3 r4 r5
  have zb := hS.row.lt
  have hsz := hB.size
  have hbel : Below w0.heap.size w0 w := by rw [hsz]; exact hS.bel
  obtain ⟨f, N, f1, f2, f3⟩ := hS.fil
  have CALL : ∀ W, Below w.heap.size w W → Calls Tryz.prog 74 #[.agg #[.slice (some ⟨bc, 0, none⟩) n n, .slice aO k cO, .int .i64 week, .slice (some ⟨bh, 0, none⟩) hol.length hol.length], .slice (some ⟨bF, 0, none⟩) n cF, .int .i64 T] W fun e w' => ValPost Ce n week hol T W e w' := fun W hW =>
    rvalues_any aO (some ⟨bh, 0, none⟩) bc 0 n n k cO hol.length hol.length bF 0 cF C Ce F week T hol W hn n1 h1 h2 hh rfl (SlAt.below (SlAt.below hB.hols hbel (Nat.le_refl _)) hW (Nat.le_refl _)) (by have := hB.hbc; have := hW.size; omega)
      (fun m hm => ((cellf_cel hB.cells hm).below hbel (by have := hB.hbc; omega)).below hW (by have := hB.hbc; omega)) (by have := f1.lt; have := hW.size; omega) (fun m hm => by rw [Nat.zero_add, hW.cell (p := ⟨bF, m, none⟩) f1.lt, f1.cell (by omega), f3 m hm]) heff hok hno t0 t1
  have HC := hid CALL
  clear CALL hS hB hh heff hok hno f1 f2 f3 hbel hsz
  go_enter Tryz.func56, Tryz.ntmps56
  go_wp2
  go_region_held3 (fun w' => w'.cell? ⟨bw, 0, none⟩ = some (.slice (some ⟨bc, 0, none⟩) n n) ∧ w'.cell? ⟨bw, 1, none⟩ = some (.slice aO k cO) ∧ w'.cell? ⟨bw, 2, none⟩ = some (.int .i64 week) ∧ w'.cell? ⟨bw, 3, none⟩ = some (.slice (some ⟨bh, 0, none⟩) hol.length hol.length) ∧ w'.cell? ⟨bw, 4, none⟩ = some (.slice (some ⟨bF, 0, none⟩) n cF) ∧ w'.cell? ⟨bw, 5, none⟩ = some (.int .i64 T))
    ((refine ⟨?_, ?_, ?_, ?_, ?_, ?_⟩ <;> first | assumption | (rw [hb2.cell (show bw < w.heap.size from zb)]; assumption)))
    ((go_at_call 74; refine (HC.out _ (by exact (Below.refl _ _).drew)).mono ?_; rintro e w2 ⟨b, V, rfl, q1, q2, q3, q4, hb2⟩))
  go_wp2
  go_ret
  exact ⟨b, V, rfl, q1, q2, q3, q4, ⟨hb2.os, hb2.tape, hb2.output, hb2.size, hb2.block⟩⟩

end Go.Proofs.YtkhpkpaglkinbaaGreatDoor
