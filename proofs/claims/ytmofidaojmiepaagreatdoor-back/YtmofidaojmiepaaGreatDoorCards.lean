/-
  DERIVED. GIVEN WITH THE SEED: THE CARDS: each row of YtmofidaojmiepaaGreatDoorRows.lean that lists a variable, with what it lists TIED to the program's text (the seventh form; the later family's looks); each row that meets fmt, with fmt's text TOLD by the authors' own Lean function (tested against real Go, not proved from fmt's source: count such statements apart). THE CARD IS WHAT COUNTS. Prove the row's statement (the work); the ties are given (YtmofidaojmiepaaGreatDoorTie.lean); close each card by the builder's one call (the guide's Derived/Test/ToyasCard.lean, 'card_holds'). Laid BY PROGRAM, IN A SANDBOX (cutbox-door.mjs). By AI agents, Wed Nov 11 2026. No macro, syntax, notation, axiom, sorry.
-/
import Derived.Test.YtmofidaojmiepaaGreatDoorRows
import GoSem.ClaimSeven
namespace Go.Proofs.YtmofidaojmiepaaGreatDoor
namespace Rows

/-- THE TIED CARD OF 'docketkeep.Back'. -/
def backCard : Claim7 := { stood := { row := backRow, standIns := [], harness := (true, "1f78ba3bb8b5e4697a9677ef81e4bab27cb7733c7c46af682deadaab2c6acfc3"), looks := false }, kinds := [], alts := [], laidByText := true, laidKinds := [.data, .data, .data, .data], laidTests := true, laidLooks := .later }
def BackCardSaid : Prop := Claim7.holds Tryz.pinned (.plain (OpenSpec.ofChange backSpec)) backCard

/-- THE SECOND FORM's CARD OF 'docketkeep.Back'. -/
def backUptoCard : Claim7 := { stood := { row := backUptoRow, standIns := [], harness := (true, "1f78ba3bb8b5e4697a9677ef81e4bab27cb7733c7c46af682deadaab2c6acfc3"), looks := false }, kinds := [], alts := [], laidByText := true, laidKinds := [.data, .data, .data, .data], laidTests := true, laidLooks := .later }
def BackUptoCardSaid : Prop := Claim7.holds Tryz.pinned (.plain (OpenSpec.upto backSpec)) backUptoCard
end Rows
end Go.Proofs.YtmofidaojmiepaaGreatDoor
