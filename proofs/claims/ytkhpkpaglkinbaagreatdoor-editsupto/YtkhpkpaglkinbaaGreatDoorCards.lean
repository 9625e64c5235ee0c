/-
  DERIVED. GIVEN WITH THE SEED: THE CARDS: each row of YtkhpkpaglkinbaaGreatDoorRows.lean that lists a variable, with what it lists TIED to the program's text (the seventh form; the later family's looks); each row that meets fmt, with fmt's text TOLD by the authors' own Lean function (tested against real Go, not proved from fmt's source: count such statements apart). THE CARD IS WHAT COUNTS. Prove the row's statement (the work); the ties are given (YtkhpkpaglkinbaaGreatDoorTie.lean); close each card by the builder's one call (the guide's Derived/Test/ToyasCard.lean, 'card_holds'). Laid BY PROGRAM, IN A SANDBOX (cutbox-door.mjs). By AI agents, Wed Nov 11 2026. No macro, syntax, notation, axiom, sorry.
-/
import Derived.Test.YtkhpkpaglkinbaaGreatDoorRows
import GoSem.ClaimSeven
namespace Go.Proofs.YtkhpkpaglkinbaaGreatDoor
namespace Rows

/-- THE TIED CARD OF 'docketlaw.Edits'. -/
def editsCard : Claim7 := { stood := { row := editsRow, standIns := [], harness := (true, "d7c77ba685e2c81d7e3b4ef008dbb9e5179b7ae8cfc61c2431c4adcf0cdde7e6"), looks := false }, kinds := [], alts := [], laidByText := true, laidKinds := [.data], laidTests := true, laidLooks := .later }
def EditsCardSaid : Prop := Claim7.holds Tryz.pinned (.plain (OpenSpec.ofChange editsSpec)) editsCard

/-- THE SECOND FORM's CARD OF 'docketlaw.Edits'. -/
def editsUptoCard : Claim7 := { stood := { row := editsUptoRow, standIns := [], harness := (true, "d7c77ba685e2c81d7e3b4ef008dbb9e5179b7ae8cfc61c2431c4adcf0cdde7e6"), looks := false }, kinds := [], alts := [], laidByText := true, laidKinds := [.data], laidTests := true, laidLooks := .later }
def EditsUptoCardSaid : Prop := Claim7.holds Tryz.pinned (.plain (OpenSpec.upto editsSpec)) editsUptoCard
end Rows
end Go.Proofs.YtkhpkpaglkinbaaGreatDoor
