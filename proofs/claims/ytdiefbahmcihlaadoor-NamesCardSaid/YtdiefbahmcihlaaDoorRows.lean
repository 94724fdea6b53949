/-
  NARROWER THAN 'FOR EVERY INPUT', by the rows' own cells (each row's printed sentence says how): Names: laid.
  DERIVED. THE GIVEN ROWS OF THIS SEAT. 1 by the template 'for every input the law returns true; each argument reads behind the call as it read before'; 0 by the template 'total and deterministic' (their statements: YtdiefbahmcihlaaDoorTotals.lean).
  GIVEN WITH THE SEED: the statements are not yours to turn. If you find one false, say at which input.
  Laid BY PROGRAM, IN A SANDBOX (cutbox-rows.mjs): the forced cells as the released guide's own fill.sh prints them over the translation c2e05037900065cc… (all of the seat's roots in one cut). By AI agents, Wed Nov 11 2026. No macro, syntax, notation, axiom, sorry.
-/
import Derived.Test.YtdiefbahmcihlaaDoorChecked
import GoSem.Claim
import GoSem.ClaimJoined
import GoSem.ClaimMapViews
import Derived.JoinedTies
import Derived.KernelRfl
namespace Go.Proofs.YtdiefbahmcihlaaDoor
/- THE CELL 'sum', in the pinned program and in every row, IS THE sha256 OF THE DUMP (.gsa) THAT YtdiefbahmcihlaaDoorProg.lean LOADS. Nothing in Lean hashes anything: it is a label: what it is worth is what the hold of that sum in a sandbox is worth. -/
noncomputable def Tryd.pinned : Pinned := { name := "ytdiefbahmcihlaadoor", sum := "c2e05037900065cca1d48d5ef8675952bc5142594213f35fe3ee0ef5a03c921e", checked := Tryd.checked }
namespace Rows
def none {H : Type} : Left H := { results := [], args := [] }

/- WHAT THE LISTED PACKAGE-LEVEL VARIABLES READ AS WHEN THE CALL BEGINS. Each datum BY PROGRAM (the guide's laid-datum.mjs) off the statement by which the dump's own 'gosem.cut.vars' lays the variable. In a bare row this is a premise. The card (YtdiefbahmcihlaaDoorCards.lean) ties it to the program's text. -/
def laid_stagehand_api_ErrLong {H : Type} : DataW H := .iface "*errors.errorString" (.ptr (.agg [.lit (.string [115, 116, 97, 103, 101, 104, 97, 110, 100, 58, 32, 97, 32, 112, 114, 111, 103, 114, 97, 109, 32, 97, 98, 111, 118, 101, 32, 105, 116, 115, 32, 98, 111, 117, 110, 100])]))
def laid_stagehand_api_ErrText {H : Type} : DataW H := .iface "*errors.errorString" (.ptr (.agg [.lit (.string [115, 116, 97, 103, 101, 104, 97, 110, 100, 58, 32, 97, 32, 116, 111, 107, 101, 110, 32, 119, 105, 116, 104, 32, 119, 104, 105, 99, 104, 32, 110, 111, 32, 112, 114, 111, 103, 114, 97, 109, 32, 103, 111, 101, 115, 32, 111, 110])]))
def laid_stagehand_api_ErrDeep {H : Type} : DataW H := .iface "*errors.errorString" (.ptr (.agg [.lit (.string [115, 116, 97, 103, 101, 104, 97, 110, 100, 58, 32, 116, 111, 111, 32, 109, 97, 110, 121, 32, 98, 114, 97, 99, 107, 101, 116, 115, 32, 105, 110, 32, 111, 110, 101, 32, 97, 110, 111, 116, 104, 101, 114])]))
def laid_stagehand_api_ErrName {H : Type} : DataW H := .iface "*errors.errorString" (.ptr (.agg [.lit (.string [115, 116, 97, 103, 101, 104, 97, 110, 100, 58, 32, 97, 32, 110, 97, 109, 101, 32, 116, 104, 97, 116, 32, 100, 111, 101, 115, 32, 110, 111, 116, 32, 109, 101, 97, 110, 32, 119, 104, 97, 116, 32, 105, 116, 32, 109, 117, 115, 116])]))
def laid_stagehand_api_ErrTwice {H : Type} : DataW H := .iface "*errors.errorString" (.ptr (.agg [.lit (.string [115, 116, 97, 103, 101, 104, 97, 110, 100, 58, 32, 97, 32, 110, 97, 109, 101, 32, 116, 104, 97, 116, 32, 105, 115, 32, 116, 104, 101, 114, 101, 32, 97, 108, 114, 101, 97, 100, 121])]))
def laid_stagehand_api_ErrArity {H : Type} : DataW H := .iface "*errors.errorString" (.ptr (.agg [.lit (.string [115, 116, 97, 103, 101, 104, 97, 110, 100, 58, 32, 97, 32, 102, 117, 110, 99, 116, 105, 111, 110, 32, 119, 105, 116, 104, 32, 111, 116, 104, 101, 114, 32, 112, 97, 114, 97, 109, 101, 116, 101, 114, 115])]))
def laid_stagehand_api_ErrMain {H : Type} : DataW H := .iface "*errors.errorString" (.ptr (.agg [.lit (.string [115, 116, 97, 103, 101, 104, 97, 110, 100, 58, 32, 105, 110, 105, 116, 44, 32, 117, 112, 100, 97, 116, 101, 32, 111, 114, 32, 118, 105, 101, 119, 32, 105, 115, 32, 109, 105, 115, 115, 105, 110, 103])]))
def laid_stagehand_api_ErrFault {H : Type} : DataW H := .iface "*errors.errorString" (.ptr (.agg [.lit (.string [115, 116, 97, 103, 101, 104, 97, 110, 100, 58, 32, 115, 111, 109, 101, 116, 104, 105, 110, 103, 32, 99, 111, 117, 108, 100, 32, 110, 111, 116, 32, 98, 101, 32, 114, 101, 99, 107, 111, 110, 101, 100])]))
def laid_stagehand_api_ErrPath {H : Type} : DataW H := .iface "*errors.errorString" (.ptr (.agg [.lit (.string [115, 116, 97, 103, 101, 104, 97, 110, 100, 58, 32, 116, 104, 101, 114, 101, 32, 105, 115, 32, 110, 111, 116, 104, 105, 110, 103, 32, 97, 116, 32, 116, 104, 105, 115, 32, 112, 97, 116, 104])]))

/-- 'stagehandlaw.Names': WHATEVER THE INPUT: true; the input reads as it did. -/
def namesSpec : ChangeSpec := { name := "names", fn := fun _ => fun
  | [] => { results := [.lit (.bool true)], args := [] }
  | _ => none }
def namesRow : OpenClaim := { program := "ytdiefbahmcihlaadoor", sum := "c2e05037900065cca1d48d5ef8675952bc5142594213f35fe3ee0ef5a03c921e", func := "stagehand/stagehandlaw.Names", spec := "names", unfollowed := true, recurses := true, named := ["stagehand/api.ErrLong", "stagehand/api.ErrText", "stagehand/api.ErrDeep", "stagehand/api.ErrName", "stagehand/api.ErrTwice", "stagehand/api.ErrArity", "stagehand/api.ErrMain", "stagehand/api.ErrFault", "stagehand/api.ErrPath"], apart := false, laid := [("stagehand/api.ErrLong", laid_stagehand_api_ErrLong), ("stagehand/api.ErrText", laid_stagehand_api_ErrText), ("stagehand/api.ErrDeep", laid_stagehand_api_ErrDeep), ("stagehand/api.ErrName", laid_stagehand_api_ErrName), ("stagehand/api.ErrTwice", laid_stagehand_api_ErrTwice), ("stagehand/api.ErrArity", laid_stagehand_api_ErrArity), ("stagehand/api.ErrMain", laid_stagehand_api_ErrMain), ("stagehand/api.ErrFault", laid_stagehand_api_ErrFault), ("stagehand/api.ErrPath", laid_stagehand_api_ErrPath)] }
def NamesSaid : Prop := namesRow.holds Tryd.pinned (OpenSpec.ofChange namesSpec)

/-- ITS FALSE NEIGHBOUR: 'it returns false'. Refute it at one input. -/
def namesWrong : ChangeSpec := { name := "names", fn := fun _ => fun
  | [] => { results := [.lit (.bool false)], args := [] }
  | _ => none }
def NamesWrongFalsely : Prop := namesRow.holds Tryd.pinned (OpenSpec.ofChange namesWrong)

/- THE SECOND FORM. 'bulk': how many values and letters a reading holds, each counted each time it is reached (what is shared counts as often as it is met; a slice's spare places count too). A statement '..UptoSaid' is the law's where the arguments, and the package variables that the reading takes, are together of bulk at most 1048576: NARROWER than '..Said'. Prove '..Said' where nothing that the law and all that it calls make is longer than what came in: it says more and counts as full. Else prove '..UptoSaid'. A law counts once. -/
mutual
def uptoBulk {H : Type} : DataW H → Nat
  | .lit (.string bytes) => bytes.length + 1
  | .lit _ => 1
  | .nil => 1
  | .ptr d => uptoBulk d + 1
  | .slice elems spare => uptoBulkAll elems + uptoBulkAll spare + 1
  | .agg parts => uptoBulkAll parts + 1
  | .iface _ d => uptoBulk d + 1
  | .map entries => uptoBulkEntries entries + 1
  | .held _ => 1
def uptoBulkAll {H : Type} : List (DataW H) → Nat
  | [] => 0
  | d :: r => uptoBulk d + uptoBulkAll r
def uptoBulkEntries {H : Type} : List (Lit × DataW H) → Nat
  | [] => 0
  | x :: r => uptoBulkEntry x + uptoBulkEntries r
def uptoBulkEntry {H : Type} : Lit × DataW H → Nat
  | (.string bytes, d) => bytes.length + uptoBulk d + 1
  | (_, d) => uptoBulk d + 1
 end
def uptoSmall : (H : Type) → List (DataW H) → Bool := fun _ ds => decide (uptoBulkAll ds ≤ 1048576)
def OpenSpec.upto (s : _root_.Go.ChangeSpec) : _root_.Go.OpenSpec := { _root_.Go.OpenSpec.ofChange s with cond := some uptoSmall }

/-- 'stagehandlaw.Names', WHERE WHAT IT READS IS OF BULK AT MOST 1048576: true; the input reads as it did. -/
def namesUptoRow : OpenClaim := { program := "ytdiefbahmcihlaadoor", sum := "c2e05037900065cca1d48d5ef8675952bc5142594213f35fe3ee0ef5a03c921e", func := "stagehand/stagehandlaw.Names", spec := "names", unfollowed := true, recurses := true, named := ["stagehand/api.ErrLong", "stagehand/api.ErrText", "stagehand/api.ErrDeep", "stagehand/api.ErrName", "stagehand/api.ErrTwice", "stagehand/api.ErrArity", "stagehand/api.ErrMain", "stagehand/api.ErrFault", "stagehand/api.ErrPath"], apart := false, laid := [("stagehand/api.ErrLong", laid_stagehand_api_ErrLong), ("stagehand/api.ErrText", laid_stagehand_api_ErrText), ("stagehand/api.ErrDeep", laid_stagehand_api_ErrDeep), ("stagehand/api.ErrName", laid_stagehand_api_ErrName), ("stagehand/api.ErrTwice", laid_stagehand_api_ErrTwice), ("stagehand/api.ErrArity", laid_stagehand_api_ErrArity), ("stagehand/api.ErrMain", laid_stagehand_api_ErrMain), ("stagehand/api.ErrFault", laid_stagehand_api_ErrFault), ("stagehand/api.ErrPath", laid_stagehand_api_ErrPath)], narrowed := true }
def NamesUptoSaid : Prop := namesUptoRow.holds Tryd.pinned (OpenSpec.upto namesSpec)

end Rows
end Go.Proofs.YtdiefbahmcihlaaDoor
