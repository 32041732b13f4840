/-
  NARROWER THAN 'FOR EVERY INPUT', by the rows' own cells (each row's printed sentence says how): Messages: laid · Scans: laid · Turned: laid.
  DERIVED. THE GIVEN ROWS OF THIS SEAT. 3 by the template 'for every input the law returns true; each argument reads behind the call as it read before'; 0 by the template 'total and deterministic' (their statements: YtfpojgljgbgkkaaDoorTotals.lean).
  GIVEN WITH THE SEED: the statements are not yours to turn. If you find one false, say at which input.
  Laid BY PROGRAM, IN A SANDBOX (cutbox-rows.mjs): the forced cells as the released guide's own fill.sh prints them over the translation 78fe2f7fc167c832… (all of the seat's roots in one cut). By AI agents, Wed Nov 11 2026. No macro, syntax, notation, axiom, sorry.
-/
import Derived.Test.YtfpojgljgbgkkaaDoorChecked
import GoSem.Claim
import GoSem.ClaimJoined
import GoSem.ClaimMapViews
import Derived.JoinedTies
import Derived.KernelRfl
namespace Go.Proofs.YtfpojgljgbgkkaaDoor
/- THE CELL 'sum', in the pinned program and in every row, IS THE sha256 OF THE DUMP (.gsa) THAT YtfpojgljgbgkkaaDoorProg.lean LOADS. Nothing in Lean hashes anything: it is a label: what it is worth is what the hold of that sum in a sandbox is worth. -/
noncomputable def Tryd.pinned : Pinned := { name := "ytfpojgljgbgkkaadoor", sum := "78fe2f7fc167c83272062a95e74ff158f6a942f82658184f3856b8f65b97cff1", checked := Tryd.checked }
namespace Rows
def none {H : Type} : Left H := { results := [], args := [] }

/- WHAT THE LISTED PACKAGE-LEVEL VARIABLES READ AS WHEN THE CALL BEGINS. Each datum BY PROGRAM (the guide's laid-datum.mjs) off the statement by which the dump's own 'gosem.cut.vars' lays the variable. In a bare row this is a premise. The card (YtfpojgljgbgkkaaDoorCards.lean) ties it to the program's text. -/
def laid_accord_wire_ErrValue {H : Type} : DataW H := .iface "*errors.errorString" (.ptr (.agg [.lit (.string [105, 116, 32, 99, 97, 110, 39, 116, 32, 98, 101, 32, 119, 114, 105, 116, 116, 101, 110])]))
def laid_accord_wire_ErrShort {H : Type} : DataW H := .iface "*errors.errorString" (.ptr (.agg [.lit (.string [116, 104, 101, 32, 98, 121, 116, 101, 115, 32, 101, 110, 100, 32, 116, 111, 111, 32, 101, 97, 114, 108, 121])]))
def laid_accord_wire_ErrMagic {H : Type} : DataW H := .iface "*errors.errorString" (.ptr (.agg [.lit (.string [116, 104, 101, 32, 98, 121, 116, 101, 115, 32, 98, 101, 103, 105, 110, 32, 119, 114, 111, 110, 103, 108, 121])]))
def laid_accord_wire_ErrMore {H : Type} : DataW H := .iface "*errors.errorString" (.ptr (.agg [.lit (.string [116, 104, 101, 114, 101, 32, 97, 114, 101, 32, 98, 121, 116, 101, 115, 32, 98, 101, 104, 105, 110, 100, 32, 116, 104, 101, 32, 101, 110, 100])]))
def laid_accord_wire_ErrSum {H : Type} : DataW H := .iface "*errors.errorString" (.ptr (.agg [.lit (.string [116, 104, 101, 32, 115, 117, 109, 32, 105, 115, 32, 119, 114, 111, 110, 103])]))
def laid_accord_wire_ErrForm {H : Type} : DataW H := .iface "*errors.errorString" (.ptr (.agg [.lit (.string [116, 104, 101, 32, 99, 111, 110, 116, 101, 110, 116, 32, 105, 115, 32, 110, 111, 110, 101])]))
def laid_errors_errorType {H : Type} : DataW H := .iface "internal/reflectlite.rtype" (.agg [.ptr (.lit (.string [101, 114, 114, 111, 114]))])

/-- 'accordlaw.Messages': WHATEVER THE INPUT: true; the input reads as it did. -/
def messagesSpec : ChangeSpec := { name := "messages", fn := fun _ => fun
  | [d1, d2] => { results := [.lit (.bool true)], args := [d1, d2] }
  | _ => none }
def messagesRow : OpenClaim := { program := "ytfpojgljgbgkkaadoor", sum := "78fe2f7fc167c83272062a95e74ff158f6a942f82658184f3856b8f65b97cff1", func := "accord/accordlaw.Messages", spec := "messages", inPlace := ["internal/reflectlite.TypeOf"], unfollowed := true, recurses := true, named := ["accord/wire.ErrValue", "accord/wire.ErrShort", "accord/wire.ErrMagic", "accord/wire.ErrMore", "accord/wire.ErrSum", "accord/wire.ErrForm"], apart := false, laid := [("accord/wire.ErrValue", laid_accord_wire_ErrValue), ("accord/wire.ErrShort", laid_accord_wire_ErrShort), ("accord/wire.ErrMagic", laid_accord_wire_ErrMagic), ("accord/wire.ErrMore", laid_accord_wire_ErrMore), ("accord/wire.ErrSum", laid_accord_wire_ErrSum), ("accord/wire.ErrForm", laid_accord_wire_ErrForm)] }
def MessagesSaid : Prop := messagesRow.holds Tryd.pinned (OpenSpec.ofChange messagesSpec)

/-- ITS FALSE NEIGHBOUR: 'it returns false'. Refute it at one input. -/
def messagesWrong : ChangeSpec := { name := "messages", fn := fun _ => fun
  | [d1, d2] => { results := [.lit (.bool false)], args := [d1, d2] }
  | _ => none }
def MessagesWrongFalsely : Prop := messagesRow.holds Tryd.pinned (OpenSpec.ofChange messagesWrong)

/-- 'accordlaw.Scans': WHATEVER THE INPUT: true; the input reads as it did. -/
def scansSpec : ChangeSpec := { name := "scans", fn := fun _ => fun
  | [d1, d2] => { results := [.lit (.bool true)], args := [d1, d2] }
  | _ => none }
def scansRow : OpenClaim := { program := "ytfpojgljgbgkkaadoor", sum := "78fe2f7fc167c83272062a95e74ff158f6a942f82658184f3856b8f65b97cff1", func := "accord/accordlaw.Scans", spec := "scans", inPlace := ["internal/reflectlite.ValueOf", "(internal/reflectlite.Value).Type", "(internal/reflectlite.Value).IsNil", "internal/reflectlite.TypeOf", "(internal/reflectlite.Value).Elem", "(internal/reflectlite.Value).Set"], unfollowed := true, recurses := true, named := ["accord/wire.ErrShort", "accord/wire.ErrMagic", "accord/wire.ErrSum", "accord/wire.ErrForm", "errors.errorType"], apart := false, laid := [("errors.errorType", laid_errors_errorType), ("accord/wire.ErrShort", laid_accord_wire_ErrShort), ("accord/wire.ErrMagic", laid_accord_wire_ErrMagic), ("accord/wire.ErrSum", laid_accord_wire_ErrSum), ("accord/wire.ErrForm", laid_accord_wire_ErrForm)] }
def ScansSaid : Prop := scansRow.holds Tryd.pinned (OpenSpec.ofChange scansSpec)

/-- ITS FALSE NEIGHBOUR: 'it returns false'. Refute it at one input. -/
def scansWrong : ChangeSpec := { name := "scans", fn := fun _ => fun
  | [d1, d2] => { results := [.lit (.bool false)], args := [d1, d2] }
  | _ => none }
def ScansWrongFalsely : Prop := scansRow.holds Tryd.pinned (OpenSpec.ofChange scansWrong)

/-- 'accordkeep.Turned': WHATEVER THE INPUT: true; the input reads as it did. -/
def turnedSpec : ChangeSpec := { name := "turned", fn := fun _ => fun
  | [d1, d2, d3, d4, d5, d6, d7] => { results := [.lit (.bool true)], args := [d1, d2, d3, d4, d5, d6, d7] }
  | _ => none }
def turnedRow : OpenClaim := { program := "ytfpojgljgbgkkaadoor", sum := "78fe2f7fc167c83272062a95e74ff158f6a942f82658184f3856b8f65b97cff1", func := "accord/accordkeep.Turned", spec := "turned", inPlace := ["internal/reflectlite.TypeOf"], unfollowed := true, recurses := true, named := ["accord/wire.ErrValue", "accord/wire.ErrShort", "accord/wire.ErrMagic", "accord/wire.ErrMore", "accord/wire.ErrSum", "accord/wire.ErrForm"], apart := false, laid := [("accord/wire.ErrValue", laid_accord_wire_ErrValue), ("accord/wire.ErrShort", laid_accord_wire_ErrShort), ("accord/wire.ErrMagic", laid_accord_wire_ErrMagic), ("accord/wire.ErrMore", laid_accord_wire_ErrMore), ("accord/wire.ErrSum", laid_accord_wire_ErrSum), ("accord/wire.ErrForm", laid_accord_wire_ErrForm)] }
def TurnedSaid : Prop := turnedRow.holds Tryd.pinned (OpenSpec.ofChange turnedSpec)

/-- ITS FALSE NEIGHBOUR: 'it returns false'. Refute it at one input. -/
def turnedWrong : ChangeSpec := { name := "turned", fn := fun _ => fun
  | [d1, d2, d3, d4, d5, d6, d7] => { results := [.lit (.bool false)], args := [d1, d2, d3, d4, d5, d6, d7] }
  | _ => none }
def TurnedWrongFalsely : Prop := turnedRow.holds Tryd.pinned (OpenSpec.ofChange turnedWrong)

/- THE SECOND FORM. 'bulk': how many values and letters a reading holds, each counted each time it is reached (what is shared counts as often as it is met; a slice's spare places count too). A statement '..UptoSaid' is the law's where the arguments, and the package variables that the reading takes, are together of bulk at most 1048576: NARROWER than '..Said'. Prove '..Said' where nothing that the law and all that it calls make is longer than what came in: it says more and counts as full. Else prove '..UptoSaid'. A law counts once. -/
mutual
def uptoBulk {H : Type} : DataW H → Nat
  | .lit (.string bytes) => bytes.length + 1
  | .lit _ => 1
  | .nil => 1
  | .ptr d => uptoBulk d + 1
  | .slice elems spare => uptoBulkAll elems + uptoBulkAll spare + 1
  | .agg parts => uptoBulkAll parts + 1
  | .iface _ d => uptoBulk d + 1
  | .map entries => uptoBulkEntries entries + 1
  | .held _ => 1
def uptoBulkAll {H : Type} : List (DataW H) → Nat
  | [] => 0
  | d :: r => uptoBulk d + uptoBulkAll r
def uptoBulkEntries {H : Type} : List (Lit × DataW H) → Nat
  | [] => 0
  | x :: r => uptoBulkEntry x + uptoBulkEntries r
def uptoBulkEntry {H : Type} : Lit × DataW H → Nat
  | (.string bytes, d) => bytes.length + uptoBulk d + 1
  | (_, d) => uptoBulk d + 1
 end
def uptoSmall : (H : Type) → List (DataW H) → Bool := fun _ ds => decide (uptoBulkAll ds ≤ 1048576)
def OpenSpec.upto (s : _root_.Go.ChangeSpec) : _root_.Go.OpenSpec := { _root_.Go.OpenSpec.ofChange s with cond := some uptoSmall }

/-- 'accordlaw.Messages', WHERE WHAT IT READS IS OF BULK AT MOST 1048576: true; the input reads as it did. -/
def messagesUptoRow : OpenClaim := { program := "ytfpojgljgbgkkaadoor", sum := "78fe2f7fc167c83272062a95e74ff158f6a942f82658184f3856b8f65b97cff1", func := "accord/accordlaw.Messages", spec := "messages", inPlace := ["internal/reflectlite.TypeOf"], unfollowed := true, recurses := true, named := ["accord/wire.ErrValue", "accord/wire.ErrShort", "accord/wire.ErrMagic", "accord/wire.ErrMore", "accord/wire.ErrSum", "accord/wire.ErrForm"], apart := false, laid := [("accord/wire.ErrValue", laid_accord_wire_ErrValue), ("accord/wire.ErrShort", laid_accord_wire_ErrShort), ("accord/wire.ErrMagic", laid_accord_wire_ErrMagic), ("accord/wire.ErrMore", laid_accord_wire_ErrMore), ("accord/wire.ErrSum", laid_accord_wire_ErrSum), ("accord/wire.ErrForm", laid_accord_wire_ErrForm)], narrowed := true }
def MessagesUptoSaid : Prop := messagesUptoRow.holds Tryd.pinned (OpenSpec.upto messagesSpec)

/-- 'accordlaw.Scans', WHERE WHAT IT READS IS OF BULK AT MOST 1048576: true; the input reads as it did. -/
def scansUptoRow : OpenClaim := { program := "ytfpojgljgbgkkaadoor", sum := "78fe2f7fc167c83272062a95e74ff158f6a942f82658184f3856b8f65b97cff1", func := "accord/accordlaw.Scans", spec := "scans", inPlace := ["internal/reflectlite.ValueOf", "(internal/reflectlite.Value).Type", "(internal/reflectlite.Value).IsNil", "internal/reflectlite.TypeOf", "(internal/reflectlite.Value).Elem", "(internal/reflectlite.Value).Set"], unfollowed := true, recurses := true, named := ["accord/wire.ErrShort", "accord/wire.ErrMagic", "accord/wire.ErrSum", "accord/wire.ErrForm", "errors.errorType"], apart := false, laid := [("errors.errorType", laid_errors_errorType), ("accord/wire.ErrShort", laid_accord_wire_ErrShort), ("accord/wire.ErrMagic", laid_accord_wire_ErrMagic), ("accord/wire.ErrSum", laid_accord_wire_ErrSum), ("accord/wire.ErrForm", laid_accord_wire_ErrForm)], narrowed := true }
def ScansUptoSaid : Prop := scansUptoRow.holds Tryd.pinned (OpenSpec.upto scansSpec)

/-- 'accordkeep.Turned', WHERE WHAT IT READS IS OF BULK AT MOST 1048576: true; the input reads as it did. -/
def turnedUptoRow : OpenClaim := { program := "ytfpojgljgbgkkaadoor", sum := "78fe2f7fc167c83272062a95e74ff158f6a942f82658184f3856b8f65b97cff1", func := "accord/accordkeep.Turned", spec := "turned", inPlace := ["internal/reflectlite.TypeOf"], unfollowed := true, recurses := true, named := ["accord/wire.ErrValue", "accord/wire.ErrShort", "accord/wire.ErrMagic", "accord/wire.ErrMore", "accord/wire.ErrSum", "accord/wire.ErrForm"], apart := false, laid := [("accord/wire.ErrValue", laid_accord_wire_ErrValue), ("accord/wire.ErrShort", laid_accord_wire_ErrShort), ("accord/wire.ErrMagic", laid_accord_wire_ErrMagic), ("accord/wire.ErrMore", laid_accord_wire_ErrMore), ("accord/wire.ErrSum", laid_accord_wire_ErrSum), ("accord/wire.ErrForm", laid_accord_wire_ErrForm)], narrowed := true }
def TurnedUptoSaid : Prop := turnedUptoRow.holds Tryd.pinned (OpenSpec.upto turnedSpec)

end Rows
end Go.Proofs.YtfpojgljgbgkkaaDoor
