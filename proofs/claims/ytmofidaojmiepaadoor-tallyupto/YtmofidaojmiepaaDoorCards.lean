/-
  DERIVED. GIVEN WITH THE SEED: THE CARDS: each row of YtmofidaojmiepaaDoorRows.lean that lists a variable, with what it lists TIED to the program's text (the seventh form; the later family's looks); each row that meets fmt, with fmt's text TOLD by the authors' own Lean function (tested against real Go, not proved from fmt's source: count such statements apart). THE CARD IS WHAT COUNTS. Prove the row's statement (the work); the ties are given (YtmofidaojmiepaaDoorTie.lean); close each card by the builder's one call (the guide's Derived/Test/ToyasCard.lean, 'card_holds'). Laid BY PROGRAM, IN A SANDBOX (cutbox-door.mjs). By AI agents, Wed Nov 11 2026. No macro, syntax, notation, axiom, sorry.
-/
import Derived.Test.YtmofidaojmiepaaDoorRows
import GoSem.ClaimSeven
namespace Go.Proofs.YtmofidaojmiepaaDoor
namespace Rows

/-- THE TIED CARD OF 'docketkeep.Local'. -/
def localCard : Claim7 := { stood := { row := localRow, standIns := [], harness := (true, "63e29c2a0e09ca2ab72f7e6056307e0fef1cd57a86d6e2e97e61d5e5460377ff"), looks := false }, kinds := [], alts := [], laidByText := true, laidKinds := [.data], laidTests := true, laidLooks := .later }
def LocalCardSaid : Prop := Claim7.holds Tryd.pinned (.plain (OpenSpec.ofChange localSpec)) localCard

/-- THE TIED CARD OF 'docketkeep.Mirrored'. -/
def mirroredCard : Claim7 := { stood := { row := mirroredRow, standIns := [], harness := (true, "63e29c2a0e09ca2ab72f7e6056307e0fef1cd57a86d6e2e97e61d5e5460377ff"), looks := false }, kinds := [], alts := [], laidByText := true, laidKinds := [.data], laidTests := true, laidLooks := .later }
def MirroredCardSaid : Prop := Claim7.holds Tryd.pinned (.plain (OpenSpec.ofChange mirroredSpec)) mirroredCard

/-- THE TIED CARD OF 'docketkeep.Tally'. -/
def tallyCard : Claim7 := { stood := { row := tallyRow, standIns := [], harness := (true, "63e29c2a0e09ca2ab72f7e6056307e0fef1cd57a86d6e2e97e61d5e5460377ff"), looks := false }, kinds := [], alts := [], laidByText := true, laidKinds := [.data], laidTests := true, laidLooks := .later }
def TallyCardSaid : Prop := Claim7.holds Tryd.pinned (.plain (OpenSpec.ofChange tallySpec)) tallyCard

/-- THE TIED CARD OF 'docketkeep.Walk'. -/
def walkCard : Claim7 := { stood := { row := walkRow, standIns := [], harness := (true, "63e29c2a0e09ca2ab72f7e6056307e0fef1cd57a86d6e2e97e61d5e5460377ff"), looks := false }, kinds := [], alts := [], laidByText := true, laidKinds := [.data], laidTests := true, laidLooks := .later }
def WalkCardSaid : Prop := Claim7.holds Tryd.pinned (.plain (OpenSpec.ofChange walkSpec)) walkCard

/-- THE TIED CARD OF 'docketkeep.Split'. -/
def splitCard : Claim7 := { stood := { row := splitRow, standIns := [], harness := (true, "63e29c2a0e09ca2ab72f7e6056307e0fef1cd57a86d6e2e97e61d5e5460377ff"), looks := false }, kinds := [], alts := [], laidByText := true, laidKinds := [.data], laidTests := true, laidLooks := .later }
def SplitCardSaid : Prop := Claim7.holds Tryd.pinned (.plain (OpenSpec.ofChange splitSpec)) splitCard

/-- THE TIED CARD OF 'docketkeep.Whens'. -/
def whensCard : Claim7 := { stood := { row := whensRow, standIns := [], harness := (true, "63e29c2a0e09ca2ab72f7e6056307e0fef1cd57a86d6e2e97e61d5e5460377ff"), looks := false }, kinds := [], alts := [], laidByText := true, laidKinds := [.data], laidTests := true, laidLooks := .later }
def WhensCardSaid : Prop := Claim7.holds Tryd.pinned (.plain (OpenSpec.ofChange whensSpec)) whensCard

/-- THE TIED CARD OF 'docketkeep.Twins'. -/
def twinsCard : Claim7 := { stood := { row := twinsRow, standIns := [], harness := (true, "63e29c2a0e09ca2ab72f7e6056307e0fef1cd57a86d6e2e97e61d5e5460377ff"), looks := false }, kinds := [], alts := [], laidByText := true, laidKinds := [.data], laidTests := true, laidLooks := .later }
def TwinsCardSaid : Prop := Claim7.holds Tryd.pinned (.plain (OpenSpec.ofChange twinsSpec)) twinsCard

/-- THE TIED CARD OF 'docketkeep.Shut'. -/
def shutCard : Claim7 := { stood := { row := shutRow, standIns := [], harness := (true, "63e29c2a0e09ca2ab72f7e6056307e0fef1cd57a86d6e2e97e61d5e5460377ff"), looks := false }, kinds := [], alts := [], laidByText := true, laidKinds := [.data], laidTests := true, laidLooks := .later }
def ShutCardSaid : Prop := Claim7.holds Tryd.pinned (.plain (OpenSpec.ofChange shutSpec)) shutCard

/-- THE TIED CARD OF 'docketkeep.Refused'. -/
def refusedCard : Claim7 := { stood := { row := refusedRow, standIns := [], harness := (true, "63e29c2a0e09ca2ab72f7e6056307e0fef1cd57a86d6e2e97e61d5e5460377ff"), looks := false }, kinds := [], alts := [], laidByText := true, laidKinds := [.data], laidTests := true, laidLooks := .later }
def RefusedCardSaid : Prop := Claim7.holds Tryd.pinned (.plain (OpenSpec.ofChange refusedSpec)) refusedCard

/-- THE SECOND FORM's CARD OF 'docketkeep.Local'. -/
def localUptoCard : Claim7 := { stood := { row := localUptoRow, standIns := [], harness := (true, "63e29c2a0e09ca2ab72f7e6056307e0fef1cd57a86d6e2e97e61d5e5460377ff"), looks := false }, kinds := [], alts := [], laidByText := true, laidKinds := [.data], laidTests := true, laidLooks := .later }
def LocalUptoCardSaid : Prop := Claim7.holds Tryd.pinned (.plain (OpenSpec.upto localSpec)) localUptoCard

/-- THE SECOND FORM's CARD OF 'docketkeep.Mirrored'. -/
def mirroredUptoCard : Claim7 := { stood := { row := mirroredUptoRow, standIns := [], harness := (true, "63e29c2a0e09ca2ab72f7e6056307e0fef1cd57a86d6e2e97e61d5e5460377ff"), looks := false }, kinds := [], alts := [], laidByText := true, laidKinds := [.data], laidTests := true, laidLooks := .later }
def MirroredUptoCardSaid : Prop := Claim7.holds Tryd.pinned (.plain (OpenSpec.upto mirroredSpec)) mirroredUptoCard

/-- THE SECOND FORM's CARD OF 'docketkeep.Tally'. -/
def tallyUptoCard : Claim7 := { stood := { row := tallyUptoRow, standIns := [], harness := (true, "63e29c2a0e09ca2ab72f7e6056307e0fef1cd57a86d6e2e97e61d5e5460377ff"), looks := false }, kinds := [], alts := [], laidByText := true, laidKinds := [.data], laidTests := true, laidLooks := .later }
def TallyUptoCardSaid : Prop := Claim7.holds Tryd.pinned (.plain (OpenSpec.upto tallySpec)) tallyUptoCard

/-- THE SECOND FORM's CARD OF 'docketkeep.Walk'. -/
def walkUptoCard : Claim7 := { stood := { row := walkUptoRow, standIns := [], harness := (true, "63e29c2a0e09ca2ab72f7e6056307e0fef1cd57a86d6e2e97e61d5e5460377ff"), looks := false }, kinds := [], alts := [], laidByText := true, laidKinds := [.data], laidTests := true, laidLooks := .later }
def WalkUptoCardSaid : Prop := Claim7.holds Tryd.pinned (.plain (OpenSpec.upto walkSpec)) walkUptoCard

/-- THE SECOND FORM's CARD OF 'docketkeep.Split'. -/
def splitUptoCard : Claim7 := { stood := { row := splitUptoRow, standIns := [], harness := (true, "63e29c2a0e09ca2ab72f7e6056307e0fef1cd57a86d6e2e97e61d5e5460377ff"), looks := false }, kinds := [], alts := [], laidByText := true, laidKinds := [.data], laidTests := true, laidLooks := .later }
def SplitUptoCardSaid : Prop := Claim7.holds Tryd.pinned (.plain (OpenSpec.upto splitSpec)) splitUptoCard

/-- THE SECOND FORM's CARD OF 'docketkeep.Whens'. -/
def whensUptoCard : Claim7 := { stood := { row := whensUptoRow, standIns := [], harness := (true, "63e29c2a0e09ca2ab72f7e6056307e0fef1cd57a86d6e2e97e61d5e5460377ff"), looks := false }, kinds := [], alts := [], laidByText := true, laidKinds := [.data], laidTests := true, laidLooks := .later }
def WhensUptoCardSaid : Prop := Claim7.holds Tryd.pinned (.plain (OpenSpec.upto whensSpec)) whensUptoCard

/-- THE SECOND FORM's CARD OF 'docketkeep.Twins'. -/
def twinsUptoCard : Claim7 := { stood := { row := twinsUptoRow, standIns := [], harness := (true, "63e29c2a0e09ca2ab72f7e6056307e0fef1cd57a86d6e2e97e61d5e5460377ff"), looks := false }, kinds := [], alts := [], laidByText := true, laidKinds := [.data], laidTests := true, laidLooks := .later }
def TwinsUptoCardSaid : Prop := Claim7.holds Tryd.pinned (.plain (OpenSpec.upto twinsSpec)) twinsUptoCard

/-- THE SECOND FORM's CARD OF 'docketkeep.Shut'. -/
def shutUptoCard : Claim7 := { stood := { row := shutUptoRow, standIns := [], harness := (true, "63e29c2a0e09ca2ab72f7e6056307e0fef1cd57a86d6e2e97e61d5e5460377ff"), looks := false }, kinds := [], alts := [], laidByText := true, laidKinds := [.data], laidTests := true, laidLooks := .later }
def ShutUptoCardSaid : Prop := Claim7.holds Tryd.pinned (.plain (OpenSpec.upto shutSpec)) shutUptoCard

/-- THE SECOND FORM's CARD OF 'docketkeep.Refused'. -/
def refusedUptoCard : Claim7 := { stood := { row := refusedUptoRow, standIns := [], harness := (true, "63e29c2a0e09ca2ab72f7e6056307e0fef1cd57a86d6e2e97e61d5e5460377ff"), looks := false }, kinds := [], alts := [], laidByText := true, laidKinds := [.data], laidTests := true, laidLooks := .later }
def RefusedUptoCardSaid : Prop := Claim7.holds Tryd.pinned (.plain (OpenSpec.upto refusedSpec)) refusedUptoCard
end Rows
end Go.Proofs.YtmofidaojmiepaaDoor
