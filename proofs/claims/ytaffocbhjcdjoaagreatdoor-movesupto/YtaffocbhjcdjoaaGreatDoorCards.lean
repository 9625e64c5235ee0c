/-
  DERIVED. GIVEN WITH THE SEED: THE CARDS: each row of YtaffocbhjcdjoaaGreatDoorRows.lean that lists a variable, with what it lists TIED to the program's text (the seventh form; the later family's looks); each row that meets fmt, with fmt's text TOLD by the authors' own Lean function (tested against real Go, not proved from fmt's source: count such statements apart). THE CARD IS WHAT COUNTS. Prove the row's statement (the work); the ties are given (YtaffocbhjcdjoaaGreatDoorTie.lean); close each card by the builder's one call (the guide's Derived/Test/ToyasCard.lean, 'card_holds'). Laid BY PROGRAM, IN A SANDBOX (cutbox-door.mjs). By AI agents, Wed Nov 11 2026. No macro, syntax, notation, axiom, sorry.
-/
import Derived.Test.YtaffocbhjcdjoaaGreatDoorRows
import GoSem.ClaimSeven
namespace Go.Proofs.YtaffocbhjcdjoaaGreatDoor
namespace Rows

/-- THE TIED CARD OF 'docketlaw.News'. -/
def newsCard : Claim7 := { stood := { row := newsRow, standIns := [], harness := (true, "99d63fbb12601f00c85f1c751773e99a0b7871d083bba27844a471db0bd781f1"), looks := false }, kinds := [], alts := [], laidByText := true, laidKinds := [.data], laidTests := true, laidLooks := .later }
def NewsCardSaid : Prop := Claim7.holds Tryz.pinned (.plain (OpenSpec.ofChange newsSpec)) newsCard

/-- THE TIED CARD OF 'docketlaw.Edits'. -/
def editsCard : Claim7 := { stood := { row := editsRow, standIns := [], harness := (true, "99d63fbb12601f00c85f1c751773e99a0b7871d083bba27844a471db0bd781f1"), looks := false }, kinds := [], alts := [], laidByText := true, laidKinds := [.data], laidTests := true, laidLooks := .later }
def EditsCardSaid : Prop := Claim7.holds Tryz.pinned (.plain (OpenSpec.ofChange editsSpec)) editsCard

/-- THE TIED CARD OF 'docketlaw.Moves'. -/
def movesCard : Claim7 := { stood := { row := movesRow, standIns := [], harness := (true, "99d63fbb12601f00c85f1c751773e99a0b7871d083bba27844a471db0bd781f1"), looks := false }, kinds := [], alts := [], laidByText := true, laidKinds := [.data], laidTests := true, laidLooks := .later }
def MovesCardSaid : Prop := Claim7.holds Tryz.pinned (.plain (OpenSpec.ofChange movesSpec)) movesCard

/-- THE TIED CARD OF 'docketlaw.Fires'. -/
def firesCard : Claim7 := { stood := { row := firesRow, standIns := [], harness := (true, "99d63fbb12601f00c85f1c751773e99a0b7871d083bba27844a471db0bd781f1"), looks := false }, kinds := [], alts := [], laidByText := true, laidKinds := [.data], laidTests := true, laidLooks := .later }
def FiresCardSaid : Prop := Claim7.holds Tryz.pinned (.plain (OpenSpec.ofChange firesSpec)) firesCard

/-- THE TIED CARD OF 'docketlaw.Acks'. -/
def acksCard : Claim7 := { stood := { row := acksRow, standIns := [], harness := (true, "99d63fbb12601f00c85f1c751773e99a0b7871d083bba27844a471db0bd781f1"), looks := false }, kinds := [], alts := [], laidByText := true, laidKinds := [.data], laidTests := true, laidLooks := .later }
def AcksCardSaid : Prop := Claim7.holds Tryz.pinned (.plain (OpenSpec.ofChange acksSpec)) acksCard

/-- THE SECOND FORM's CARD OF 'docketlaw.News'. -/
def newsUptoCard : Claim7 := { stood := { row := newsUptoRow, standIns := [], harness := (true, "99d63fbb12601f00c85f1c751773e99a0b7871d083bba27844a471db0bd781f1"), looks := false }, kinds := [], alts := [], laidByText := true, laidKinds := [.data], laidTests := true, laidLooks := .later }
def NewsUptoCardSaid : Prop := Claim7.holds Tryz.pinned (.plain (OpenSpec.upto newsSpec)) newsUptoCard

/-- THE SECOND FORM's CARD OF 'docketlaw.Edits'. -/
def editsUptoCard : Claim7 := { stood := { row := editsUptoRow, standIns := [], harness := (true, "99d63fbb12601f00c85f1c751773e99a0b7871d083bba27844a471db0bd781f1"), looks := false }, kinds := [], alts := [], laidByText := true, laidKinds := [.data], laidTests := true, laidLooks := .later }
def EditsUptoCardSaid : Prop := Claim7.holds Tryz.pinned (.plain (OpenSpec.upto editsSpec)) editsUptoCard

/-- THE SECOND FORM's CARD OF 'docketlaw.Moves'. -/
def movesUptoCard : Claim7 := { stood := { row := movesUptoRow, standIns := [], harness := (true, "99d63fbb12601f00c85f1c751773e99a0b7871d083bba27844a471db0bd781f1"), looks := false }, kinds := [], alts := [], laidByText := true, laidKinds := [.data], laidTests := true, laidLooks := .later }
def MovesUptoCardSaid : Prop := Claim7.holds Tryz.pinned (.plain (OpenSpec.upto movesSpec)) movesUptoCard

/-- THE SECOND FORM's CARD OF 'docketlaw.Fires'. -/
def firesUptoCard : Claim7 := { stood := { row := firesUptoRow, standIns := [], harness := (true, "99d63fbb12601f00c85f1c751773e99a0b7871d083bba27844a471db0bd781f1"), looks := false }, kinds := [], alts := [], laidByText := true, laidKinds := [.data], laidTests := true, laidLooks := .later }
def FiresUptoCardSaid : Prop := Claim7.holds Tryz.pinned (.plain (OpenSpec.upto firesSpec)) firesUptoCard

/-- THE SECOND FORM's CARD OF 'docketlaw.Acks'. -/
def acksUptoCard : Claim7 := { stood := { row := acksUptoRow, standIns := [], harness := (true, "99d63fbb12601f00c85f1c751773e99a0b7871d083bba27844a471db0bd781f1"), looks := false }, kinds := [], alts := [], laidByText := true, laidKinds := [.data], laidTests := true, laidLooks := .later }
def AcksUptoCardSaid : Prop := Claim7.holds Tryz.pinned (.plain (OpenSpec.upto acksSpec)) acksUptoCard
end Rows
end Go.Proofs.YtaffocbhjcdjoaaGreatDoor
