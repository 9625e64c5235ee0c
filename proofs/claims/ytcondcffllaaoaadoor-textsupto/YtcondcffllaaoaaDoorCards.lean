/-
  DERIVED. GIVEN WITH THE SEED: THE CARDS: each row of YtcondcffllaaoaaDoorRows.lean that lists a variable, with what it lists TIED to the program's text (the seventh form; the later family's looks); each row that meets fmt, with fmt's text TOLD by the authors' own Lean function (tested against real Go, not proved from fmt's source: count such statements apart). THE CARD IS WHAT COUNTS. Prove the row's statement (the work); the ties are given (YtcondcffllaaoaaDoorTie.lean); close each card by the builder's one call (the guide's Derived/Test/ToyasCard.lean, 'card_holds'). Laid BY PROGRAM, IN A SANDBOX (cutbox-door.mjs). By AI agents, Wed Nov 11 2026. No macro, syntax, notation, axiom, sorry.
-/
import Derived.Test.YtcondcffllaaoaaDoorRows
import GoSem.ClaimSeven
namespace Go.Proofs.YtcondcffllaaoaaDoor
namespace Rows

/-- THE TIED CARD OF 'docketlaw.Texts'. -/
def textsCard : Claim7 := { stood := { row := textsRow, standIns := [], harness := (true, "0f958c4d17de5cb8543f9b81efdab5e74db12e2ab399c9f3467d22883d5e123e"), looks := false }, kinds := [], alts := [], laidByText := true, laidKinds := [.data, .data, .data, .data], laidTests := true, laidLooks := .later }
def TextsCardSaid : Prop := Claim7.holds Tryd.pinned (.plain (OpenSpec.ofChange textsSpec)) textsCard

/-- THE SECOND FORM's CARD OF 'docketlaw.Texts'. -/
def textsUptoCard : Claim7 := { stood := { row := textsUptoRow, standIns := [], harness := (true, "0f958c4d17de5cb8543f9b81efdab5e74db12e2ab399c9f3467d22883d5e123e"), looks := false }, kinds := [], alts := [], laidByText := true, laidKinds := [.data, .data, .data, .data], laidTests := true, laidLooks := .later }
def TextsUptoCardSaid : Prop := Claim7.holds Tryd.pinned (.plain (OpenSpec.upto textsSpec)) textsUptoCard
end Rows
end Go.Proofs.YtcondcffllaaoaaDoor
