/-
  THE WALKS: the document's Check, whole.
-/
import Derived.Test.YtmofidaojmiepaaDoorGW14
set_option linter.unusedVariables false
set_option linter.unusedSimpArgs false
namespace Go.Proofs.YtmofidaojmiepaaDoor

open Go.RowKit

abbrev formV (aC aR aH : Option Addr) (nC cC nR cR nH cH : Nat) (week : Int) : Value := .agg #[.slice aC nC cC, .slice aR nR cR, .int .i64 week, .slice aH nH cH]

end Go.Proofs.YtmofidaojmiepaaDoor
