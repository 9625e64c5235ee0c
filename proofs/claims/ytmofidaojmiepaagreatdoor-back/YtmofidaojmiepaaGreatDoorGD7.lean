/-
  MEMORY: the document's world, exactly: sooner, candidate.
-/
import Derived.Test.YtmofidaojmiepaaGreatDoorGD2
import Derived.Test.YtmofidaojmiepaaGreatDoorGD6
set_option linter.unusedVariables false
set_option linter.unusedSimpArgs false
namespace Go.Proofs.YtmofidaojmiepaaGreatDoor

open Go.RowKit

attribute [local go_sem ↓] Go.wp_at_zero Go.wp_at_succ

theorem i64_in (n : Int) (h : -9223372036854775808 ≤ n ∧ n ≤ 9223372036854775807) : IntKind.i64.wrap n = n := by rw [IntKind.wrap_i64]; omega

/-- What candidate answers. -/
def CnP (f : Frm) (F : Nat → Int) (T : Int) (S : Nat → St) (w : World) (e : Ending) (w' : World) : Prop := ∃ t, e = .returned (.int .i64 t) ∧ RQ f F T S f.k t ∧ Below w.heap.size w w'

end Go.Proofs.YtmofidaojmiepaaGreatDoor
