/-
  THE WALKS: the document's Values.
-/
import Derived.Test.YtmofidaojmiepaaDoorGW10
import Derived.Deep.LoopGhost
import Derived.Deep.RegionHeld3
import Derived.Deep.DrawnRows
set_option linter.unusedVariables false
set_option linter.unusedSimpArgs false
namespace Go.Proofs.YtmofidaojmiepaaDoor

open Go.RowKit

attribute [local go_sem ↓] Go.wp_at_zero Go.wp_at_succ

theorem addr_nb {b b' o o' : Nat} (h : b ≠ b') : (⟨b, o, none⟩ : Addr) ≠ ⟨b', o', none⟩ := fun e => h (by cases e; rfl)

theorem addr_no {b b' o o' : Nat} (h : o ≠ o') : (⟨b, o, none⟩ : Addr) ≠ ⟨b', o', none⟩ := fun e => h (by cases e; rfl)

theorem cell_nb {w : World} {b b' o o' : Nat} {x v : Value} (h : b ≠ b') (hc : w.cell? ⟨b', o', none⟩ = some v) : (w.setCell ⟨b, o, none⟩ x).cell? ⟨b', o', none⟩ = some v := by rw [World.cell?_setCell_other (h := addr_nb h)]; exact hc

theorem cell_no {w : World} {b o o' : Nat} {x v : Value} (h : o ≠ o') (hc : w.cell? ⟨b, o', none⟩ = some v) : (w.setCell ⟨b, o, none⟩ x).cell? ⟨b, o', none⟩ = some v := by rw [World.cell?_setCell_other (h := addr_no h)]; exact hc

theorem Mem.setDone {w W0 wr : World} {n : Nat} {V : Nat → Int} {D : Nat → Bool} (h : Mem w W0 wr n V D) (m : Nat) : Mem w W0 (wr.setCell ⟨w.heap.size + 1 + 1, m, none⟩ (.bool true)) n V (upd D m true) :=
  ⟨h.bel.setCell (by simp) _, h.vals.setOther (by simp) _, (h.done.set m _).congr (fun i _ => by unfold upd; split <;> rfl)⟩

theorem Mem.setVal {w W0 wr : World} {n : Nat} {V : Nat → Int} {D : Nat → Bool} (h : Mem w W0 wr n V D) (m : Nat) (v : Int) : Mem w W0 (wr.setCell ⟨w.heap.size + 1, m, none⟩ (.int .i64 v)) n (upd V m v) D :=
  ⟨h.bel.setCell (by simp) _, (h.vals.set m _).congr (fun i _ => by unfold upd; split <;> rfl), h.done.setOther (by simp) _⟩

theorem Mem.drew {w W0 wr : World} {n : Nat} {V : Nat → Int} {D : Nat → Bool} (h : Mem w W0 wr n V D) : Mem w W0 wr.drew n V D := ⟨h.bel.drew, h.vals.drew, h.done.drew⟩

theorem pk_nat {V : Nat → Int} {n x : Nat} (h : x < n) : pk V n (x : Int) = V x := by unfold pk; rw [if_pos ⟨by omega, by omega⟩]; rfl

theorem upd_upd {α : Type} (f : Nat → α) (i : Nat) (x y : α) : upd (upd f i x) i y = upd f i y := by
  funext j; unfold upd; split <;> rfl

/-- The cells with what is filled in. -/
def Eff (C Ce : Nat → Cel) (F : Nat → Int) (n : Nat) : Prop := ∀ i, i < n → Ce i = ⟨(C i).kind, (C i).a, (C i).b, (C i).c, if (C i).kind = 0 then F i else (C i).k⟩

end Go.Proofs.YtmofidaojmiepaaDoor
