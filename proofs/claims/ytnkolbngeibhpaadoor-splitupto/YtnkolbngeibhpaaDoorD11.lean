/-
  MEMORY: the document's world, exactly: Begin.
-/
import Derived.Test.YtnkolbngeibhpaaDoorD10
set_option linter.unusedVariables false
set_option linter.unusedSimpArgs false
namespace Go.Proofs.YtnkolbngeibhpaaDoor

open Go.RowKit

attribute [local go_sem ↓] Go.wp_at_zero Go.wp_at_succ

/-- P3: the case of a form. -/
def beginM (f : Frm) : Cs := Cs.settle f ⟨fun j => (f.C j).k, 0, true, fun _ => noSt, []⟩

theorem begin_fv {f : Frm} (hf : f.Ok) : FV f (fun j => (f.C j).k) := fun i hi hk => (hf.cells i hi).2.2.1.1 (Or.inl hk)

theorem beginM_ok {f : Frm} (hf : f.Ok) : (beginM f).Ok f := settle_ok hf (Int.le_refl _) (by show (0 : Int) ≤ _; omega) (begin_fv hf) (fun _ _ => ⟨Int.le_refl _, by show (0 : Int) ≤ _; omega, Int.le_refl _, by show (0 : Int) ≤ _; omega⟩) (fun e => by cases e)

theorem beginM_few {f : Frm} (hf : f.Ok) : Few 1 (beginM f) := by
  obtain ⟨_, _, k6, _, _⟩ := hf.sizes
  have h := settle_len f ⟨fun j => (f.C j).k, 0, true, fun _ => noSt, []⟩
  unfold Few beginM
  rw [settle_T]
  have e : (Cs.mk (fun j => (f.C j).k) 0 true (fun _ => noSt) []).E.length = 0 := rfl
  have e2 : (Cs.mk (fun j => (f.C j).k) 0 true (fun _ => noSt) []).T = 0 := rfl
  omega

end Go.Proofs.YtnkolbngeibhpaaDoor
