/-
  NARROWER THAN 'FOR EVERY INPUT', by the rows' own cells (each row's printed sentence says how): Local: laid · Mirrored: laid · Tally: laid · Walk: laid · Split: laid · Whens: laid · Twins: laid · Shut: laid · Refused: laid.
  DERIVED. THE GIVEN ROWS OF THIS SEAT. 9 by the template 'for every input the law returns true; each argument reads behind the call as it read before'; 0 by the template 'total and deterministic' (their statements: YtmofidaojmiepaaDoorTotals.lean).
  GIVEN WITH THE SEED: the statements are not yours to turn. If you find one false, say at which input.
  Laid BY PROGRAM, IN A SANDBOX (cutbox-rows.mjs): the forced cells as the released guide's own fill.sh prints them over the translation b9cf00492fe3a886… (all of the seat's roots in one cut). By AI agents, Wed Nov 11 2026. No macro, syntax, notation, axiom, sorry.
-/
import Derived.Test.YtmofidaojmiepaaDoorChecked
import GoSem.Claim
import GoSem.ClaimJoined
import GoSem.ClaimMapViews
import Derived.JoinedTies
import Derived.KernelRfl
namespace Go.Proofs.YtmofidaojmiepaaDoor
/- THE CELL 'sum', in the pinned program and in every row, IS THE sha256 OF THE DUMP (.gsa) THAT YtmofidaojmiepaaDoorProg.lean LOADS. Nothing in Lean hashes anything: it is a label: what it is worth is what the hold of that sum in a sandbox is worth. -/
noncomputable def Tryd.pinned : Pinned := { name := "ytmofidaojmiepaadoor", sum := "b9cf00492fe3a88699e149f4fc00a669d963045cca98dc61b0f2f831d8fc193c", checked := Tryd.checked }
namespace Rows
def none {H : Type} : Left H := { results := [], args := [] }

/- WHAT THE LISTED PACKAGE-LEVEL VARIABLES READ AS WHEN THE CALL BEGINS. Each datum BY PROGRAM (the guide's laid-datum.mjs) off the statement by which the dump's own 'gosem.cut.vars' lays the variable. In a bare row this is a premise. The card (YtmofidaojmiepaaDoorCards.lean) ties it to the program's text. -/
def laid_docket_kind_needs {H : Type} : DataW H := .agg [.lit (.int .i64 0), .lit (.int .i64 0), .lit (.int .i64 2), .lit (.int .i64 2), .lit (.int .i64 2), .lit (.int .i64 2), .lit (.int .i64 2), .lit (.int .i64 2), .lit (.int .i64 2), .lit (.int .i64 3), .lit (.int .i64 1), .lit (.int .i64 1), .lit (.int .i64 1)]

/-- 'docketkeep.Local': WHATEVER THE INPUT: true; the input reads as it did. -/
def localSpec : ChangeSpec := { name := "local", fn := fun _ => fun
  | [d1, d2] => { results := [.lit (.bool true)], args := [d1, d2] }
  | _ => none }
def localRow : OpenClaim := { program := "ytmofidaojmiepaadoor", sum := "b9cf00492fe3a88699e149f4fc00a669d963045cca98dc61b0f2f831d8fc193c", func := "docket/docketkeep.Local", spec := "local", named := ["docket/kind.needs"], apart := false, laid := [("docket/kind.needs", laid_docket_kind_needs)] }
def LocalSaid : Prop := localRow.holds Tryd.pinned (OpenSpec.ofChange localSpec)

/-- ITS FALSE NEIGHBOUR: 'it returns false'. Refute it at one input. -/
def localWrong : ChangeSpec := { name := "local", fn := fun _ => fun
  | [d1, d2] => { results := [.lit (.bool false)], args := [d1, d2] }
  | _ => none }
def LocalWrongFalsely : Prop := localRow.holds Tryd.pinned (OpenSpec.ofChange localWrong)

/-- 'docketkeep.Mirrored': WHATEVER THE INPUT: true; the input reads as it did. -/
def mirroredSpec : ChangeSpec := { name := "mirrored", fn := fun _ => fun
  | [d1, d2] => { results := [.lit (.bool true)], args := [d1, d2] }
  | _ => none }
def mirroredRow : OpenClaim := { program := "ytmofidaojmiepaadoor", sum := "b9cf00492fe3a88699e149f4fc00a669d963045cca98dc61b0f2f831d8fc193c", func := "docket/docketkeep.Mirrored", spec := "mirrored", named := ["docket/kind.needs"], apart := false, laid := [("docket/kind.needs", laid_docket_kind_needs)] }
def MirroredSaid : Prop := mirroredRow.holds Tryd.pinned (OpenSpec.ofChange mirroredSpec)

/-- ITS FALSE NEIGHBOUR: 'it returns false'. Refute it at one input. -/
def mirroredWrong : ChangeSpec := { name := "mirrored", fn := fun _ => fun
  | [d1, d2] => { results := [.lit (.bool false)], args := [d1, d2] }
  | _ => none }
def MirroredWrongFalsely : Prop := mirroredRow.holds Tryd.pinned (OpenSpec.ofChange mirroredWrong)

/-- 'docketkeep.Tally': WHATEVER THE INPUT: true; the input reads as it did. -/
def tallySpec : ChangeSpec := { name := "tally", fn := fun _ => fun
  | [d1, d2] => { results := [.lit (.bool true)], args := [d1, d2] }
  | _ => none }
def tallyRow : OpenClaim := { program := "ytmofidaojmiepaadoor", sum := "b9cf00492fe3a88699e149f4fc00a669d963045cca98dc61b0f2f831d8fc193c", func := "docket/docketkeep.Tally", spec := "tally", named := ["docket/kind.needs"], apart := false, laid := [("docket/kind.needs", laid_docket_kind_needs)] }
def TallySaid : Prop := tallyRow.holds Tryd.pinned (OpenSpec.ofChange tallySpec)

/-- ITS FALSE NEIGHBOUR: 'it returns false'. Refute it at one input. -/
def tallyWrong : ChangeSpec := { name := "tally", fn := fun _ => fun
  | [d1, d2] => { results := [.lit (.bool false)], args := [d1, d2] }
  | _ => none }
def TallyWrongFalsely : Prop := tallyRow.holds Tryd.pinned (OpenSpec.ofChange tallyWrong)

/-- 'docketkeep.Walk': WHATEVER THE INPUT: true; the input reads as it did. -/
def walkSpec : ChangeSpec := { name := "walk", fn := fun _ => fun
  | [d1, d2, d3, d4] => { results := [.lit (.bool true)], args := [d1, d2, d3, d4] }
  | _ => none }
def walkRow : OpenClaim := { program := "ytmofidaojmiepaadoor", sum := "b9cf00492fe3a88699e149f4fc00a669d963045cca98dc61b0f2f831d8fc193c", func := "docket/docketkeep.Walk", spec := "walk", named := ["docket/kind.needs"], apart := false, laid := [("docket/kind.needs", laid_docket_kind_needs)] }
def WalkSaid : Prop := walkRow.holds Tryd.pinned (OpenSpec.ofChange walkSpec)

/-- ITS FALSE NEIGHBOUR: 'it returns false'. Refute it at one input. -/
def walkWrong : ChangeSpec := { name := "walk", fn := fun _ => fun
  | [d1, d2, d3, d4] => { results := [.lit (.bool false)], args := [d1, d2, d3, d4] }
  | _ => none }
def WalkWrongFalsely : Prop := walkRow.holds Tryd.pinned (OpenSpec.ofChange walkWrong)

/-- 'docketkeep.Split': WHATEVER THE INPUT: true; the input reads as it did. -/
def splitSpec : ChangeSpec := { name := "split", fn := fun _ => fun
  | [d1, d2, d3, d4] => { results := [.lit (.bool true)], args := [d1, d2, d3, d4] }
  | _ => none }
def splitRow : OpenClaim := { program := "ytmofidaojmiepaadoor", sum := "b9cf00492fe3a88699e149f4fc00a669d963045cca98dc61b0f2f831d8fc193c", func := "docket/docketkeep.Split", spec := "split", named := ["docket/kind.needs"], apart := false, laid := [("docket/kind.needs", laid_docket_kind_needs)] }
def SplitSaid : Prop := splitRow.holds Tryd.pinned (OpenSpec.ofChange splitSpec)

/-- ITS FALSE NEIGHBOUR: 'it returns false'. Refute it at one input. -/
def splitWrong : ChangeSpec := { name := "split", fn := fun _ => fun
  | [d1, d2, d3, d4] => { results := [.lit (.bool false)], args := [d1, d2, d3, d4] }
  | _ => none }
def SplitWrongFalsely : Prop := splitRow.holds Tryd.pinned (OpenSpec.ofChange splitWrong)

/-- 'docketkeep.Whens': WHATEVER THE INPUT: true; the input reads as it did. -/
def whensSpec : ChangeSpec := { name := "whens", fn := fun _ => fun
  | [d1, d2, d3, d4, d5] => { results := [.lit (.bool true)], args := [d1, d2, d3, d4, d5] }
  | _ => none }
def whensRow : OpenClaim := { program := "ytmofidaojmiepaadoor", sum := "b9cf00492fe3a88699e149f4fc00a669d963045cca98dc61b0f2f831d8fc193c", func := "docket/docketkeep.Whens", spec := "whens", named := ["docket/kind.needs"], apart := false, laid := [("docket/kind.needs", laid_docket_kind_needs)] }
def WhensSaid : Prop := whensRow.holds Tryd.pinned (OpenSpec.ofChange whensSpec)

/-- ITS FALSE NEIGHBOUR: 'it returns false'. Refute it at one input. -/
def whensWrong : ChangeSpec := { name := "whens", fn := fun _ => fun
  | [d1, d2, d3, d4, d5] => { results := [.lit (.bool false)], args := [d1, d2, d3, d4, d5] }
  | _ => none }
def WhensWrongFalsely : Prop := whensRow.holds Tryd.pinned (OpenSpec.ofChange whensWrong)

/-- 'docketkeep.Twins': WHATEVER THE INPUT: true; the input reads as it did. -/
def twinsSpec : ChangeSpec := { name := "twins", fn := fun _ => fun
  | [d1, d2, d3, d4] => { results := [.lit (.bool true)], args := [d1, d2, d3, d4] }
  | _ => none }
def twinsRow : OpenClaim := { program := "ytmofidaojmiepaadoor", sum := "b9cf00492fe3a88699e149f4fc00a669d963045cca98dc61b0f2f831d8fc193c", func := "docket/docketkeep.Twins", spec := "twins", named := ["docket/kind.needs"], apart := false, laid := [("docket/kind.needs", laid_docket_kind_needs)] }
def TwinsSaid : Prop := twinsRow.holds Tryd.pinned (OpenSpec.ofChange twinsSpec)

/-- ITS FALSE NEIGHBOUR: 'it returns false'. Refute it at one input. -/
def twinsWrong : ChangeSpec := { name := "twins", fn := fun _ => fun
  | [d1, d2, d3, d4] => { results := [.lit (.bool false)], args := [d1, d2, d3, d4] }
  | _ => none }
def TwinsWrongFalsely : Prop := twinsRow.holds Tryd.pinned (OpenSpec.ofChange twinsWrong)

/-- 'docketkeep.Shut': WHATEVER THE INPUT: true; the input reads as it did. -/
def shutSpec : ChangeSpec := { name := "shut", fn := fun _ => fun
  | [d1, d2, d3, d4, d5] => { results := [.lit (.bool true)], args := [d1, d2, d3, d4, d5] }
  | _ => none }
def shutRow : OpenClaim := { program := "ytmofidaojmiepaadoor", sum := "b9cf00492fe3a88699e149f4fc00a669d963045cca98dc61b0f2f831d8fc193c", func := "docket/docketkeep.Shut", spec := "shut", named := ["docket/kind.needs"], apart := false, laid := [("docket/kind.needs", laid_docket_kind_needs)] }
def ShutSaid : Prop := shutRow.holds Tryd.pinned (OpenSpec.ofChange shutSpec)

/-- ITS FALSE NEIGHBOUR: 'it returns false'. Refute it at one input. -/
def shutWrong : ChangeSpec := { name := "shut", fn := fun _ => fun
  | [d1, d2, d3, d4, d5] => { results := [.lit (.bool false)], args := [d1, d2, d3, d4, d5] }
  | _ => none }
def ShutWrongFalsely : Prop := shutRow.holds Tryd.pinned (OpenSpec.ofChange shutWrong)

/-- 'docketkeep.Refused': WHATEVER THE INPUT: true; the input reads as it did. -/
def refusedSpec : ChangeSpec := { name := "refused", fn := fun _ => fun
  | [d1, d2, d3, d4] => { results := [.lit (.bool true)], args := [d1, d2, d3, d4] }
  | _ => none }
def refusedRow : OpenClaim := { program := "ytmofidaojmiepaadoor", sum := "b9cf00492fe3a88699e149f4fc00a669d963045cca98dc61b0f2f831d8fc193c", func := "docket/docketkeep.Refused", spec := "refused", named := ["docket/kind.needs"], apart := false, laid := [("docket/kind.needs", laid_docket_kind_needs)] }
def RefusedSaid : Prop := refusedRow.holds Tryd.pinned (OpenSpec.ofChange refusedSpec)

/-- ITS FALSE NEIGHBOUR: 'it returns false'. Refute it at one input. -/
def refusedWrong : ChangeSpec := { name := "refused", fn := fun _ => fun
  | [d1, d2, d3, d4] => { results := [.lit (.bool false)], args := [d1, d2, d3, d4] }
  | _ => none }
def RefusedWrongFalsely : Prop := refusedRow.holds Tryd.pinned (OpenSpec.ofChange refusedWrong)

/- THE SECOND FORM. 'bulk': how many values and letters a reading holds, each counted each time it is reached (what is shared counts as often as it is met; a slice's spare places count too). A statement '..UptoSaid' is the law's where the arguments, and the package variables that the reading takes, are together of bulk at most 1048576: NARROWER than '..Said'. Prove '..Said' where nothing that the law and all that it calls make is longer than what came in: it says more and counts as full. Else prove '..UptoSaid'. A law counts once. -/
mutual
def uptoBulk {H : Type} : DataW H → Nat
  | .lit (.string bytes) => bytes.length + 1
  | .lit _ => 1
  | .nil => 1
  | .ptr d => uptoBulk d + 1
  | .slice elems spare => uptoBulkAll elems + uptoBulkAll spare + 1
  | .agg parts => uptoBulkAll parts + 1
  | .iface _ d => uptoBulk d + 1
  | .map entries => uptoBulkEntries entries + 1
  | .held _ => 1
def uptoBulkAll {H : Type} : List (DataW H) → Nat
  | [] => 0
  | d :: r => uptoBulk d + uptoBulkAll r
def uptoBulkEntries {H : Type} : List (Lit × DataW H) → Nat
  | [] => 0
  | x :: r => uptoBulkEntry x + uptoBulkEntries r
def uptoBulkEntry {H : Type} : Lit × DataW H → Nat
  | (.string bytes, d) => bytes.length + uptoBulk d + 1
  | (_, d) => uptoBulk d + 1
 end
def uptoSmall : (H : Type) → List (DataW H) → Bool := fun _ ds => decide (uptoBulkAll ds ≤ 1048576)
def OpenSpec.upto (s : _root_.Go.ChangeSpec) : _root_.Go.OpenSpec := { _root_.Go.OpenSpec.ofChange s with cond := some uptoSmall }

/-- 'docketkeep.Local', WHERE WHAT IT READS IS OF BULK AT MOST 1048576: true; the input reads as it did. -/
def localUptoRow : OpenClaim := { program := "ytmofidaojmiepaadoor", sum := "b9cf00492fe3a88699e149f4fc00a669d963045cca98dc61b0f2f831d8fc193c", func := "docket/docketkeep.Local", spec := "local", named := ["docket/kind.needs"], apart := false, laid := [("docket/kind.needs", laid_docket_kind_needs)], narrowed := true }
def LocalUptoSaid : Prop := localUptoRow.holds Tryd.pinned (OpenSpec.upto localSpec)

/-- 'docketkeep.Mirrored', WHERE WHAT IT READS IS OF BULK AT MOST 1048576: true; the input reads as it did. -/
def mirroredUptoRow : OpenClaim := { program := "ytmofidaojmiepaadoor", sum := "b9cf00492fe3a88699e149f4fc00a669d963045cca98dc61b0f2f831d8fc193c", func := "docket/docketkeep.Mirrored", spec := "mirrored", named := ["docket/kind.needs"], apart := false, laid := [("docket/kind.needs", laid_docket_kind_needs)], narrowed := true }
def MirroredUptoSaid : Prop := mirroredUptoRow.holds Tryd.pinned (OpenSpec.upto mirroredSpec)

/-- 'docketkeep.Tally', WHERE WHAT IT READS IS OF BULK AT MOST 1048576: true; the input reads as it did. -/
def tallyUptoRow : OpenClaim := { program := "ytmofidaojmiepaadoor", sum := "b9cf00492fe3a88699e149f4fc00a669d963045cca98dc61b0f2f831d8fc193c", func := "docket/docketkeep.Tally", spec := "tally", named := ["docket/kind.needs"], apart := false, laid := [("docket/kind.needs", laid_docket_kind_needs)], narrowed := true }
def TallyUptoSaid : Prop := tallyUptoRow.holds Tryd.pinned (OpenSpec.upto tallySpec)

/-- 'docketkeep.Walk', WHERE WHAT IT READS IS OF BULK AT MOST 1048576: true; the input reads as it did. -/
def walkUptoRow : OpenClaim := { program := "ytmofidaojmiepaadoor", sum := "b9cf00492fe3a88699e149f4fc00a669d963045cca98dc61b0f2f831d8fc193c", func := "docket/docketkeep.Walk", spec := "walk", named := ["docket/kind.needs"], apart := false, laid := [("docket/kind.needs", laid_docket_kind_needs)], narrowed := true }
def WalkUptoSaid : Prop := walkUptoRow.holds Tryd.pinned (OpenSpec.upto walkSpec)

/-- 'docketkeep.Split', WHERE WHAT IT READS IS OF BULK AT MOST 1048576: true; the input reads as it did. -/
def splitUptoRow : OpenClaim := { program := "ytmofidaojmiepaadoor", sum := "b9cf00492fe3a88699e149f4fc00a669d963045cca98dc61b0f2f831d8fc193c", func := "docket/docketkeep.Split", spec := "split", named := ["docket/kind.needs"], apart := false, laid := [("docket/kind.needs", laid_docket_kind_needs)], narrowed := true }
def SplitUptoSaid : Prop := splitUptoRow.holds Tryd.pinned (OpenSpec.upto splitSpec)

/-- 'docketkeep.Whens', WHERE WHAT IT READS IS OF BULK AT MOST 1048576: true; the input reads as it did. -/
def whensUptoRow : OpenClaim := { program := "ytmofidaojmiepaadoor", sum := "b9cf00492fe3a88699e149f4fc00a669d963045cca98dc61b0f2f831d8fc193c", func := "docket/docketkeep.Whens", spec := "whens", named := ["docket/kind.needs"], apart := false, laid := [("docket/kind.needs", laid_docket_kind_needs)], narrowed := true }
def WhensUptoSaid : Prop := whensUptoRow.holds Tryd.pinned (OpenSpec.upto whensSpec)

/-- 'docketkeep.Twins', WHERE WHAT IT READS IS OF BULK AT MOST 1048576: true; the input reads as it did. -/
def twinsUptoRow : OpenClaim := { program := "ytmofidaojmiepaadoor", sum := "b9cf00492fe3a88699e149f4fc00a669d963045cca98dc61b0f2f831d8fc193c", func := "docket/docketkeep.Twins", spec := "twins", named := ["docket/kind.needs"], apart := false, laid := [("docket/kind.needs", laid_docket_kind_needs)], narrowed := true }
def TwinsUptoSaid : Prop := twinsUptoRow.holds Tryd.pinned (OpenSpec.upto twinsSpec)

/-- 'docketkeep.Shut', WHERE WHAT IT READS IS OF BULK AT MOST 1048576: true; the input reads as it did. -/
def shutUptoRow : OpenClaim := { program := "ytmofidaojmiepaadoor", sum := "b9cf00492fe3a88699e149f4fc00a669d963045cca98dc61b0f2f831d8fc193c", func := "docket/docketkeep.Shut", spec := "shut", named := ["docket/kind.needs"], apart := false, laid := [("docket/kind.needs", laid_docket_kind_needs)], narrowed := true }
def ShutUptoSaid : Prop := shutUptoRow.holds Tryd.pinned (OpenSpec.upto shutSpec)

/-- 'docketkeep.Refused', WHERE WHAT IT READS IS OF BULK AT MOST 1048576: true; the input reads as it did. -/
def refusedUptoRow : OpenClaim := { program := "ytmofidaojmiepaadoor", sum := "b9cf00492fe3a88699e149f4fc00a669d963045cca98dc61b0f2f831d8fc193c", func := "docket/docketkeep.Refused", spec := "refused", named := ["docket/kind.needs"], apart := false, laid := [("docket/kind.needs", laid_docket_kind_needs)], narrowed := true }
def RefusedUptoSaid : Prop := refusedUptoRow.holds Tryd.pinned (OpenSpec.upto refusedSpec)

end Rows
end Go.Proofs.YtmofidaojmiepaaDoor
