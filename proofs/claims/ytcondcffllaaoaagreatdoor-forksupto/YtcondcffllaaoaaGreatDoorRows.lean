/-
  NARROWER THAN 'FOR EVERY INPUT', by the rows' own cells (each row's printed sentence says how): News: laid · Edits: laid · Moves: laid · Fires: laid · Acks: laid · Comes: laid · Forks: laid · All: laid.
  DERIVED. THE GIVEN ROWS OF THIS SEAT. 8 by the template 'for every input the law returns true; each argument reads behind the call as it read before'; 0 by the template 'total and deterministic' (their statements: YtcondcffllaaoaaGreatDoorTotals.lean).
  GIVEN WITH THE SEED: the statements are not yours to turn. If you find one false, say at which input.
  Laid BY PROGRAM, IN A SANDBOX (cutbox-rows.mjs): the forced cells as the released guide's own fill.sh prints them over the translation c319ccfe4a12a5f0… (all of the seat's roots in one cut). By AI agents, Wed Nov 11 2026. No macro, syntax, notation, axiom, sorry.
-/
import Derived.Test.YtcondcffllaaoaaGreatDoorChecked
import GoSem.Claim
import GoSem.ClaimJoined
import GoSem.ClaimMapViews
import Derived.JoinedTies
import Derived.KernelRfl
namespace Go.Proofs.YtcondcffllaaoaaGreatDoor
/- THE CELL 'sum', in the pinned program and in every row, IS THE sha256 OF THE DUMP (.gsa) THAT YtcondcffllaaoaaGreatDoorProg.lean LOADS. Nothing in Lean hashes anything: it is a label: what it is worth is what the hold of that sum in a sandbox is worth. -/
noncomputable def Tryz.pinned : Pinned := { name := "ytcondcffllaaoaagreatdoor", sum := "c319ccfe4a12a5f0a8f8b12771653014fa24cd557fdc412dc26a2e8c95fe1f6d", checked := Tryz.checked }
namespace Rows
def none {H : Type} : Left H := { results := [], args := [] }

/- WHAT THE LISTED PACKAGE-LEVEL VARIABLES READ AS WHEN THE CALL BEGINS. Each datum BY PROGRAM (the guide's laid-datum.mjs) off the statement by which the dump's own 'gosem.cut.vars' lays the variable. In a bare row this is a premise. The card (YtcondcffllaaoaaGreatDoorCards.lean) ties it to the program's text. -/
def laid_docket_kind_needs {H : Type} : DataW H := .agg [.lit (.int .i64 0), .lit (.int .i64 0), .lit (.int .i64 2), .lit (.int .i64 2), .lit (.int .i64 2), .lit (.int .i64 2), .lit (.int .i64 2), .lit (.int .i64 2), .lit (.int .i64 2), .lit (.int .i64 3), .lit (.int .i64 1), .lit (.int .i64 1), .lit (.int .i64 1)]

/-- 'docketlaw.News': WHATEVER THE INPUT: true; the input reads as it did. -/
def newsSpec : ChangeSpec := { name := "news", fn := fun _ => fun
  | [d] => { results := [.lit (.bool true)], args := [d] }
  | _ => none }
def newsRow : OpenClaim := { program := "ytcondcffllaaoaagreatdoor", sum := "c319ccfe4a12a5f0a8f8b12771653014fa24cd557fdc412dc26a2e8c95fe1f6d", func := "docket/docketlaw.News", spec := "news", named := ["docket/kind.needs"], apart := false, laid := [("docket/kind.needs", laid_docket_kind_needs)] }
def NewsSaid : Prop := newsRow.holds Tryz.pinned (OpenSpec.ofChange newsSpec)

/-- ITS FALSE NEIGHBOUR: 'it returns false'. Refute it at one input. -/
def newsWrong : ChangeSpec := { name := "news", fn := fun _ => fun
  | [d] => { results := [.lit (.bool false)], args := [d] }
  | _ => none }
def NewsWrongFalsely : Prop := newsRow.holds Tryz.pinned (OpenSpec.ofChange newsWrong)

/-- 'docketlaw.Edits': WHATEVER THE INPUT: true; the input reads as it did. -/
def editsSpec : ChangeSpec := { name := "edits", fn := fun _ => fun
  | [d1, d2] => { results := [.lit (.bool true)], args := [d1, d2] }
  | _ => none }
def editsRow : OpenClaim := { program := "ytcondcffllaaoaagreatdoor", sum := "c319ccfe4a12a5f0a8f8b12771653014fa24cd557fdc412dc26a2e8c95fe1f6d", func := "docket/docketlaw.Edits", spec := "edits", named := ["docket/kind.needs"], apart := false, laid := [("docket/kind.needs", laid_docket_kind_needs)] }
def EditsSaid : Prop := editsRow.holds Tryz.pinned (OpenSpec.ofChange editsSpec)

/-- ITS FALSE NEIGHBOUR: 'it returns false'. Refute it at one input. -/
def editsWrong : ChangeSpec := { name := "edits", fn := fun _ => fun
  | [d1, d2] => { results := [.lit (.bool false)], args := [d1, d2] }
  | _ => none }
def EditsWrongFalsely : Prop := editsRow.holds Tryz.pinned (OpenSpec.ofChange editsWrong)

/-- 'docketlaw.Moves': WHATEVER THE INPUT: true; the input reads as it did. -/
def movesSpec : ChangeSpec := { name := "moves", fn := fun _ => fun
  | [d1, d2] => { results := [.lit (.bool true)], args := [d1, d2] }
  | _ => none }
def movesRow : OpenClaim := { program := "ytcondcffllaaoaagreatdoor", sum := "c319ccfe4a12a5f0a8f8b12771653014fa24cd557fdc412dc26a2e8c95fe1f6d", func := "docket/docketlaw.Moves", spec := "moves", named := ["docket/kind.needs"], apart := false, laid := [("docket/kind.needs", laid_docket_kind_needs)] }
def MovesSaid : Prop := movesRow.holds Tryz.pinned (OpenSpec.ofChange movesSpec)

/-- ITS FALSE NEIGHBOUR: 'it returns false'. Refute it at one input. -/
def movesWrong : ChangeSpec := { name := "moves", fn := fun _ => fun
  | [d1, d2] => { results := [.lit (.bool false)], args := [d1, d2] }
  | _ => none }
def MovesWrongFalsely : Prop := movesRow.holds Tryz.pinned (OpenSpec.ofChange movesWrong)

/-- 'docketlaw.Fires': WHATEVER THE INPUT: true; the input reads as it did. -/
def firesSpec : ChangeSpec := { name := "fires", fn := fun _ => fun
  | [d1, d2] => { results := [.lit (.bool true)], args := [d1, d2] }
  | _ => none }
def firesRow : OpenClaim := { program := "ytcondcffllaaoaagreatdoor", sum := "c319ccfe4a12a5f0a8f8b12771653014fa24cd557fdc412dc26a2e8c95fe1f6d", func := "docket/docketlaw.Fires", spec := "fires", named := ["docket/kind.needs"], apart := false, laid := [("docket/kind.needs", laid_docket_kind_needs)] }
def FiresSaid : Prop := firesRow.holds Tryz.pinned (OpenSpec.ofChange firesSpec)

/-- ITS FALSE NEIGHBOUR: 'it returns false'. Refute it at one input. -/
def firesWrong : ChangeSpec := { name := "fires", fn := fun _ => fun
  | [d1, d2] => { results := [.lit (.bool false)], args := [d1, d2] }
  | _ => none }
def FiresWrongFalsely : Prop := firesRow.holds Tryz.pinned (OpenSpec.ofChange firesWrong)

/-- 'docketlaw.Acks': WHATEVER THE INPUT: true; the input reads as it did. -/
def acksSpec : ChangeSpec := { name := "acks", fn := fun _ => fun
  | [d1, d2] => { results := [.lit (.bool true)], args := [d1, d2] }
  | _ => none }
def acksRow : OpenClaim := { program := "ytcondcffllaaoaagreatdoor", sum := "c319ccfe4a12a5f0a8f8b12771653014fa24cd557fdc412dc26a2e8c95fe1f6d", func := "docket/docketlaw.Acks", spec := "acks", named := ["docket/kind.needs"], apart := false, laid := [("docket/kind.needs", laid_docket_kind_needs)] }
def AcksSaid : Prop := acksRow.holds Tryz.pinned (OpenSpec.ofChange acksSpec)

/-- ITS FALSE NEIGHBOUR: 'it returns false'. Refute it at one input. -/
def acksWrong : ChangeSpec := { name := "acks", fn := fun _ => fun
  | [d1, d2] => { results := [.lit (.bool false)], args := [d1, d2] }
  | _ => none }
def AcksWrongFalsely : Prop := acksRow.holds Tryz.pinned (OpenSpec.ofChange acksWrong)

/-- 'docketlaw.Comes': WHATEVER THE INPUT: true; the input reads as it did. -/
def comesSpec : ChangeSpec := { name := "comes", fn := fun _ => fun
  | [d1, d2] => { results := [.lit (.bool true)], args := [d1, d2] }
  | _ => none }
def comesRow : OpenClaim := { program := "ytcondcffllaaoaagreatdoor", sum := "c319ccfe4a12a5f0a8f8b12771653014fa24cd557fdc412dc26a2e8c95fe1f6d", func := "docket/docketlaw.Comes", spec := "comes", named := ["docket/kind.needs"], apart := false, laid := [("docket/kind.needs", laid_docket_kind_needs)] }
def ComesSaid : Prop := comesRow.holds Tryz.pinned (OpenSpec.ofChange comesSpec)

/-- ITS FALSE NEIGHBOUR: 'it returns false'. Refute it at one input. -/
def comesWrong : ChangeSpec := { name := "comes", fn := fun _ => fun
  | [d1, d2] => { results := [.lit (.bool false)], args := [d1, d2] }
  | _ => none }
def ComesWrongFalsely : Prop := comesRow.holds Tryz.pinned (OpenSpec.ofChange comesWrong)

/-- 'docketlaw.Forks': WHATEVER THE INPUT: true; the input reads as it did. -/
def forksSpec : ChangeSpec := { name := "forks", fn := fun _ => fun
  | [d1, d2] => { results := [.lit (.bool true)], args := [d1, d2] }
  | _ => none }
def forksRow : OpenClaim := { program := "ytcondcffllaaoaagreatdoor", sum := "c319ccfe4a12a5f0a8f8b12771653014fa24cd557fdc412dc26a2e8c95fe1f6d", func := "docket/docketlaw.Forks", spec := "forks", named := ["docket/kind.needs"], apart := false, laid := [("docket/kind.needs", laid_docket_kind_needs)] }
def ForksSaid : Prop := forksRow.holds Tryz.pinned (OpenSpec.ofChange forksSpec)

/-- ITS FALSE NEIGHBOUR: 'it returns false'. Refute it at one input. -/
def forksWrong : ChangeSpec := { name := "forks", fn := fun _ => fun
  | [d1, d2] => { results := [.lit (.bool false)], args := [d1, d2] }
  | _ => none }
def ForksWrongFalsely : Prop := forksRow.holds Tryz.pinned (OpenSpec.ofChange forksWrong)

/-- 'docketlaw.All': WHATEVER THE INPUT: true; the input reads as it did. -/
def allSpec : ChangeSpec := { name := "all", fn := fun _ => fun
  | [d1, d2] => { results := [.lit (.bool true)], args := [d1, d2] }
  | _ => none }
def allRow : OpenClaim := { program := "ytcondcffllaaoaagreatdoor", sum := "c319ccfe4a12a5f0a8f8b12771653014fa24cd557fdc412dc26a2e8c95fe1f6d", func := "docket/docketlaw.All", spec := "all", named := ["docket/kind.needs"], apart := false, laid := [("docket/kind.needs", laid_docket_kind_needs)] }
def AllSaid : Prop := allRow.holds Tryz.pinned (OpenSpec.ofChange allSpec)

/-- ITS FALSE NEIGHBOUR: 'it returns false'. Refute it at one input. -/
def allWrong : ChangeSpec := { name := "all", fn := fun _ => fun
  | [d1, d2] => { results := [.lit (.bool false)], args := [d1, d2] }
  | _ => none }
def AllWrongFalsely : Prop := allRow.holds Tryz.pinned (OpenSpec.ofChange allWrong)

/- THE SECOND FORM. 'bulk': how many values and letters a reading holds, each counted each time it is reached (what is shared counts as often as it is met; a slice's spare places count too). A statement '..UptoSaid' is the law's where the arguments, and the package variables that the reading takes, are together of bulk at most 1048576: NARROWER than '..Said'. Prove '..Said' where nothing that the law and all that it calls make is longer than what came in: it says more and counts as full. Else prove '..UptoSaid'. A law counts once. -/
mutual
def uptoBulk {H : Type} : DataW H → Nat
  | .lit (.string bytes) => bytes.length + 1
  | .lit _ => 1
  | .nil => 1
  | .ptr d => uptoBulk d + 1
  | .slice elems spare => uptoBulkAll elems + uptoBulkAll spare + 1
  | .agg parts => uptoBulkAll parts + 1
  | .iface _ d => uptoBulk d + 1
  | .map entries => uptoBulkEntries entries + 1
  | .held _ => 1
def uptoBulkAll {H : Type} : List (DataW H) → Nat
  | [] => 0
  | d :: r => uptoBulk d + uptoBulkAll r
def uptoBulkEntries {H : Type} : List (Lit × DataW H) → Nat
  | [] => 0
  | x :: r => uptoBulkEntry x + uptoBulkEntries r
def uptoBulkEntry {H : Type} : Lit × DataW H → Nat
  | (.string bytes, d) => bytes.length + uptoBulk d + 1
  | (_, d) => uptoBulk d + 1
 end
def uptoSmall : (H : Type) → List (DataW H) → Bool := fun _ ds => decide (uptoBulkAll ds ≤ 1048576)
def OpenSpec.upto (s : _root_.Go.ChangeSpec) : _root_.Go.OpenSpec := { _root_.Go.OpenSpec.ofChange s with cond := some uptoSmall }

/-- 'docketlaw.News', WHERE WHAT IT READS IS OF BULK AT MOST 1048576: true; the input reads as it did. -/
def newsUptoRow : OpenClaim := { program := "ytcondcffllaaoaagreatdoor", sum := "c319ccfe4a12a5f0a8f8b12771653014fa24cd557fdc412dc26a2e8c95fe1f6d", func := "docket/docketlaw.News", spec := "news", named := ["docket/kind.needs"], apart := false, laid := [("docket/kind.needs", laid_docket_kind_needs)], narrowed := true }
def NewsUptoSaid : Prop := newsUptoRow.holds Tryz.pinned (OpenSpec.upto newsSpec)

/-- 'docketlaw.Edits', WHERE WHAT IT READS IS OF BULK AT MOST 1048576: true; the input reads as it did. -/
def editsUptoRow : OpenClaim := { program := "ytcondcffllaaoaagreatdoor", sum := "c319ccfe4a12a5f0a8f8b12771653014fa24cd557fdc412dc26a2e8c95fe1f6d", func := "docket/docketlaw.Edits", spec := "edits", named := ["docket/kind.needs"], apart := false, laid := [("docket/kind.needs", laid_docket_kind_needs)], narrowed := true }
def EditsUptoSaid : Prop := editsUptoRow.holds Tryz.pinned (OpenSpec.upto editsSpec)

/-- 'docketlaw.Moves', WHERE WHAT IT READS IS OF BULK AT MOST 1048576: true; the input reads as it did. -/
def movesUptoRow : OpenClaim := { program := "ytcondcffllaaoaagreatdoor", sum := "c319ccfe4a12a5f0a8f8b12771653014fa24cd557fdc412dc26a2e8c95fe1f6d", func := "docket/docketlaw.Moves", spec := "moves", named := ["docket/kind.needs"], apart := false, laid := [("docket/kind.needs", laid_docket_kind_needs)], narrowed := true }
def MovesUptoSaid : Prop := movesUptoRow.holds Tryz.pinned (OpenSpec.upto movesSpec)

/-- 'docketlaw.Fires', WHERE WHAT IT READS IS OF BULK AT MOST 1048576: true; the input reads as it did. -/
def firesUptoRow : OpenClaim := { program := "ytcondcffllaaoaagreatdoor", sum := "c319ccfe4a12a5f0a8f8b12771653014fa24cd557fdc412dc26a2e8c95fe1f6d", func := "docket/docketlaw.Fires", spec := "fires", named := ["docket/kind.needs"], apart := false, laid := [("docket/kind.needs", laid_docket_kind_needs)], narrowed := true }
def FiresUptoSaid : Prop := firesUptoRow.holds Tryz.pinned (OpenSpec.upto firesSpec)

/-- 'docketlaw.Acks', WHERE WHAT IT READS IS OF BULK AT MOST 1048576: true; the input reads as it did. -/
def acksUptoRow : OpenClaim := { program := "ytcondcffllaaoaagreatdoor", sum := "c319ccfe4a12a5f0a8f8b12771653014fa24cd557fdc412dc26a2e8c95fe1f6d", func := "docket/docketlaw.Acks", spec := "acks", named := ["docket/kind.needs"], apart := false, laid := [("docket/kind.needs", laid_docket_kind_needs)], narrowed := true }
def AcksUptoSaid : Prop := acksUptoRow.holds Tryz.pinned (OpenSpec.upto acksSpec)

/-- 'docketlaw.Comes', WHERE WHAT IT READS IS OF BULK AT MOST 1048576: true; the input reads as it did. -/
def comesUptoRow : OpenClaim := { program := "ytcondcffllaaoaagreatdoor", sum := "c319ccfe4a12a5f0a8f8b12771653014fa24cd557fdc412dc26a2e8c95fe1f6d", func := "docket/docketlaw.Comes", spec := "comes", named := ["docket/kind.needs"], apart := false, laid := [("docket/kind.needs", laid_docket_kind_needs)], narrowed := true }
def ComesUptoSaid : Prop := comesUptoRow.holds Tryz.pinned (OpenSpec.upto comesSpec)

/-- 'docketlaw.Forks', WHERE WHAT IT READS IS OF BULK AT MOST 1048576: true; the input reads as it did. -/
def forksUptoRow : OpenClaim := { program := "ytcondcffllaaoaagreatdoor", sum := "c319ccfe4a12a5f0a8f8b12771653014fa24cd557fdc412dc26a2e8c95fe1f6d", func := "docket/docketlaw.Forks", spec := "forks", named := ["docket/kind.needs"], apart := false, laid := [("docket/kind.needs", laid_docket_kind_needs)], narrowed := true }
def ForksUptoSaid : Prop := forksUptoRow.holds Tryz.pinned (OpenSpec.upto forksSpec)

/-- 'docketlaw.All', WHERE WHAT IT READS IS OF BULK AT MOST 1048576: true; the input reads as it did. -/
def allUptoRow : OpenClaim := { program := "ytcondcffllaaoaagreatdoor", sum := "c319ccfe4a12a5f0a8f8b12771653014fa24cd557fdc412dc26a2e8c95fe1f6d", func := "docket/docketlaw.All", spec := "all", named := ["docket/kind.needs"], apart := false, laid := [("docket/kind.needs", laid_docket_kind_needs)], narrowed := true }
def AllUptoSaid : Prop := allUptoRow.holds Tryz.pinned (OpenSpec.upto allSpec)

end Rows
end Go.Proofs.YtcondcffllaaoaaGreatDoor
