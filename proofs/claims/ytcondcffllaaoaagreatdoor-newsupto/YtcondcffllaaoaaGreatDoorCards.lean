/-
  DERIVED. GIVEN WITH THE SEED: THE CARDS: each row of YtcondcffllaaoaaGreatDoorRows.lean that lists a variable, with what it lists TIED to the program's text (the seventh form; the later family's looks); each row that meets fmt, with fmt's text TOLD by the authors' own Lean function (tested against real Go, not proved from fmt's source: count such statements apart). THE CARD IS WHAT COUNTS. Prove the row's statement (the work); the ties are given (YtcondcffllaaoaaGreatDoorTie.lean); close each card by the builder's one call (the guide's Derived/Test/ToyasCard.lean, 'card_holds'). Laid BY PROGRAM, IN A SANDBOX (cutbox-door.mjs). By AI agents, Wed Nov 11 2026. No macro, syntax, notation, axiom, sorry.
-/
import Derived.Test.YtcondcffllaaoaaGreatDoorRows
import GoSem.ClaimSeven
namespace Go.Proofs.YtcondcffllaaoaaGreatDoor
namespace Rows

/-- THE TIED CARD OF 'docketlaw.News'. -/
def newsCard : Claim7 := { stood := { row := newsRow, standIns := [], harness := (true, "e3fb3e8a0bdfc26a97f63dbd509c986f64a4e9e91b1c437164e79f05683638c2"), looks := false }, kinds := [], alts := [], laidByText := true, laidKinds := [.data], laidTests := true, laidLooks := .later }
def NewsCardSaid : Prop := Claim7.holds Tryz.pinned (.plain (OpenSpec.ofChange newsSpec)) newsCard

/-- THE TIED CARD OF 'docketlaw.Edits'. -/
def editsCard : Claim7 := { stood := { row := editsRow, standIns := [], harness := (true, "e3fb3e8a0bdfc26a97f63dbd509c986f64a4e9e91b1c437164e79f05683638c2"), looks := false }, kinds := [], alts := [], laidByText := true, laidKinds := [.data], laidTests := true, laidLooks := .later }
def EditsCardSaid : Prop := Claim7.holds Tryz.pinned (.plain (OpenSpec.ofChange editsSpec)) editsCard

/-- THE TIED CARD OF 'docketlaw.Moves'. -/
def movesCard : Claim7 := { stood := { row := movesRow, standIns := [], harness := (true, "e3fb3e8a0bdfc26a97f63dbd509c986f64a4e9e91b1c437164e79f05683638c2"), looks := false }, kinds := [], alts := [], laidByText := true, laidKinds := [.data], laidTests := true, laidLooks := .later }
def MovesCardSaid : Prop := Claim7.holds Tryz.pinned (.plain (OpenSpec.ofChange movesSpec)) movesCard

/-- THE TIED CARD OF 'docketlaw.Fires'. -/
def firesCard : Claim7 := { stood := { row := firesRow, standIns := [], harness := (true, "e3fb3e8a0bdfc26a97f63dbd509c986f64a4e9e91b1c437164e79f05683638c2"), looks := false }, kinds := [], alts := [], laidByText := true, laidKinds := [.data], laidTests := true, laidLooks := .later }
def FiresCardSaid : Prop := Claim7.holds Tryz.pinned (.plain (OpenSpec.ofChange firesSpec)) firesCard

/-- THE TIED CARD OF 'docketlaw.Acks'. -/
def acksCard : Claim7 := { stood := { row := acksRow, standIns := [], harness := (true, "e3fb3e8a0bdfc26a97f63dbd509c986f64a4e9e91b1c437164e79f05683638c2"), looks := false }, kinds := [], alts := [], laidByText := true, laidKinds := [.data], laidTests := true, laidLooks := .later }
def AcksCardSaid : Prop := Claim7.holds Tryz.pinned (.plain (OpenSpec.ofChange acksSpec)) acksCard

/-- THE TIED CARD OF 'docketlaw.Comes'. -/
def comesCard : Claim7 := { stood := { row := comesRow, standIns := [], harness := (true, "e3fb3e8a0bdfc26a97f63dbd509c986f64a4e9e91b1c437164e79f05683638c2"), looks := false }, kinds := [], alts := [], laidByText := true, laidKinds := [.data], laidTests := true, laidLooks := .later }
def ComesCardSaid : Prop := Claim7.holds Tryz.pinned (.plain (OpenSpec.ofChange comesSpec)) comesCard

/-- THE TIED CARD OF 'docketlaw.Forks'. -/
def forksCard : Claim7 := { stood := { row := forksRow, standIns := [], harness := (true, "e3fb3e8a0bdfc26a97f63dbd509c986f64a4e9e91b1c437164e79f05683638c2"), looks := false }, kinds := [], alts := [], laidByText := true, laidKinds := [.data], laidTests := true, laidLooks := .later }
def ForksCardSaid : Prop := Claim7.holds Tryz.pinned (.plain (OpenSpec.ofChange forksSpec)) forksCard

/-- THE TIED CARD OF 'docketlaw.All'. -/
def allCard : Claim7 := { stood := { row := allRow, standIns := [], harness := (true, "e3fb3e8a0bdfc26a97f63dbd509c986f64a4e9e91b1c437164e79f05683638c2"), looks := false }, kinds := [], alts := [], laidByText := true, laidKinds := [.data], laidTests := true, laidLooks := .later }
def AllCardSaid : Prop := Claim7.holds Tryz.pinned (.plain (OpenSpec.ofChange allSpec)) allCard

/-- THE SECOND FORM's CARD OF 'docketlaw.News'. -/
def newsUptoCard : Claim7 := { stood := { row := newsUptoRow, standIns := [], harness := (true, "e3fb3e8a0bdfc26a97f63dbd509c986f64a4e9e91b1c437164e79f05683638c2"), looks := false }, kinds := [], alts := [], laidByText := true, laidKinds := [.data], laidTests := true, laidLooks := .later }
def NewsUptoCardSaid : Prop := Claim7.holds Tryz.pinned (.plain (OpenSpec.upto newsSpec)) newsUptoCard

/-- THE SECOND FORM's CARD OF 'docketlaw.Edits'. -/
def editsUptoCard : Claim7 := { stood := { row := editsUptoRow, standIns := [], harness := (true, "e3fb3e8a0bdfc26a97f63dbd509c986f64a4e9e91b1c437164e79f05683638c2"), looks := false }, kinds := [], alts := [], laidByText := true, laidKinds := [.data], laidTests := true, laidLooks := .later }
def EditsUptoCardSaid : Prop := Claim7.holds Tryz.pinned (.plain (OpenSpec.upto editsSpec)) editsUptoCard

/-- THE SECOND FORM's CARD OF 'docketlaw.Moves'. -/
def movesUptoCard : Claim7 := { stood := { row := movesUptoRow, standIns := [], harness := (true, "e3fb3e8a0bdfc26a97f63dbd509c986f64a4e9e91b1c437164e79f05683638c2"), looks := false }, kinds := [], alts := [], laidByText := true, laidKinds := [.data], laidTests := true, laidLooks := .later }
def MovesUptoCardSaid : Prop := Claim7.holds Tryz.pinned (.plain (OpenSpec.upto movesSpec)) movesUptoCard

/-- THE SECOND FORM's CARD OF 'docketlaw.Fires'. -/
def firesUptoCard : Claim7 := { stood := { row := firesUptoRow, standIns := [], harness := (true, "e3fb3e8a0bdfc26a97f63dbd509c986f64a4e9e91b1c437164e79f05683638c2"), looks := false }, kinds := [], alts := [], laidByText := true, laidKinds := [.data], laidTests := true, laidLooks := .later }
def FiresUptoCardSaid : Prop := Claim7.holds Tryz.pinned (.plain (OpenSpec.upto firesSpec)) firesUptoCard

/-- THE SECOND FORM's CARD OF 'docketlaw.Acks'. -/
def acksUptoCard : Claim7 := { stood := { row := acksUptoRow, standIns := [], harness := (true, "e3fb3e8a0bdfc26a97f63dbd509c986f64a4e9e91b1c437164e79f05683638c2"), looks := false }, kinds := [], alts := [], laidByText := true, laidKinds := [.data], laidTests := true, laidLooks := .later }
def AcksUptoCardSaid : Prop := Claim7.holds Tryz.pinned (.plain (OpenSpec.upto acksSpec)) acksUptoCard

/-- THE SECOND FORM's CARD OF 'docketlaw.Comes'. -/
def comesUptoCard : Claim7 := { stood := { row := comesUptoRow, standIns := [], harness := (true, "e3fb3e8a0bdfc26a97f63dbd509c986f64a4e9e91b1c437164e79f05683638c2"), looks := false }, kinds := [], alts := [], laidByText := true, laidKinds := [.data], laidTests := true, laidLooks := .later }
def ComesUptoCardSaid : Prop := Claim7.holds Tryz.pinned (.plain (OpenSpec.upto comesSpec)) comesUptoCard

/-- THE SECOND FORM's CARD OF 'docketlaw.Forks'. -/
def forksUptoCard : Claim7 := { stood := { row := forksUptoRow, standIns := [], harness := (true, "e3fb3e8a0bdfc26a97f63dbd509c986f64a4e9e91b1c437164e79f05683638c2"), looks := false }, kinds := [], alts := [], laidByText := true, laidKinds := [.data], laidTests := true, laidLooks := .later }
def ForksUptoCardSaid : Prop := Claim7.holds Tryz.pinned (.plain (OpenSpec.upto forksSpec)) forksUptoCard

/-- THE SECOND FORM's CARD OF 'docketlaw.All'. -/
def allUptoCard : Claim7 := { stood := { row := allUptoRow, standIns := [], harness := (true, "e3fb3e8a0bdfc26a97f63dbd509c986f64a4e9e91b1c437164e79f05683638c2"), looks := false }, kinds := [], alts := [], laidByText := true, laidKinds := [.data], laidTests := true, laidLooks := .later }
def AllUptoCardSaid : Prop := Claim7.holds Tryz.pinned (.plain (OpenSpec.upto allSpec)) allUptoCard
end Rows
end Go.Proofs.YtcondcffllaaoaaGreatDoor
